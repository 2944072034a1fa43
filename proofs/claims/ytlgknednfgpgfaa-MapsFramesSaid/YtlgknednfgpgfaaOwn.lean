/- Rows of the call's own, of elements of any number of cells. Nothing is claimed here. -/
import Derived.Test.YtlgknednfgpgfaaStr
import Derived.Deep.OwnRows
namespace Go.Proofs.Ytlgknednfgpgfaa
open Go.RowKit

section
variable {w w' : World} {B : Nat} {A : Option Addr} {n : Nat} {base : Nat} {v : Value} {e : TypeId}
theorem orow_below {size : Nat} {xs : List Value} (h : w.ownsRow base e size v n xs) (hb : Below w.heap.size w w') : w'.ownsRow base e size v n xs := by
  obtain ⟨hl, h | ⟨g, cap, cur, rfl, h1, hg, h2⟩⟩ := h
  · exact ⟨hl, .inl h⟩
  · refine ⟨hl, .inr ⟨g, cap, cur, rfl, h1, ?_, h2⟩⟩
    rw [hb.block g (Array.getElem?_eq_some_iff.1 hg).1]; exact hg
theorem orow_far {size : Nat} {xs : List Value} (h : w.ownsRow base e size v n xs) {g : Nat} (hg : g < base) : some g ≠ v.ownBlock := by
  obtain ⟨_, ⟨rfl, _⟩ | ⟨g', cap, cur, rfl, h1, _⟩⟩ := h
  · simp [Value.ownBlock]
  · simp only [Value.ownBlock, ne_eq, Option.some.injEq]; omega
theorem orow_new {size : Nat} {xs : List Value} (h : w.ownsRow base e size v n xs) {g : Nat} (hg : w.heap.size ≤ g) : some g ≠ v.ownBlock := by
  obtain ⟨_, ⟨rfl, _⟩ | ⟨g', cap, cur, rfl, _, h1, _⟩⟩ := h
  · simp [Value.ownBlock]
  · have := (Array.getElem?_eq_some_iff.1 h1).1
    simp only [Value.ownBlock, ne_eq, Option.some.injEq]; omega
/-- An own row lies in no block of another type. -/
theorem orow_type {size : Nat} {xs : List Value} (h : w.ownsRow base e size v n xs) {g : Nat} {t : TypeId} {cs : List Value} (hA : At w g t cs) (hne : t ≠ e) : some g ≠ v.ownBlock := by
  obtain ⟨_, ⟨rfl, _⟩ | ⟨g', cap, cur, rfl, h1, hg, _⟩⟩ := h
  · simp [Value.ownBlock]
  · simp only [Value.ownBlock, ne_eq, Option.some.injEq]
    rintro rfl
    unfold At at hA
    rw [hg] at hA
    simp only [Option.some.injEq, Obj.cells.injEq] at hA
    exact hne hA.2.1.symm
theorem below_orow {size : Nat} {xs : List Value} {a w2 : World} (hb : Below B a w) (h : w.ownsRow base e size v n xs) (hg : w.grownBy w2 v.ownBlock) (h1 : B ≤ w.heap.size) (h2 : B ≤ base) : Below B a w2 :=
  hb.grown hg h1 fun k hk => by
    obtain ⟨_, ⟨rfl, _⟩ | ⟨g', cap, cur, rfl, h3, _⟩⟩ := h
    · cases hk
    · simp only [Value.ownBlock, Option.some.injEq] at hk; omega
/-- 'append(v, x)' of one value of some cells onto an own row: the cells were laid in a block just ahead. -/
theorem wpList_append_many {P : Program} (w : World) {ops : Array Oper} {rest : List Oper} {o : Oper} {a : Act} {Q : Exit → Act → World → Prop} (hgd : Region.wanted o (yielded ops a.tmps) = true) (s x : Operand) (t : TypeId)
    (ho : o.op = .call { callee := .builtin .append, args := #[s, x], argTypes := #[t, t] })
    (base : Nat) (e : TypeId) (i : TypeInfo) (z : Value) (bytes sz : Nat) (hsz : 0 < sz) (ht : P.underlying t = some (.slice e)) (hi : P.info? e = some i) (hz : i.zero = some z)
    (hsize : i.size = sz) (hby : i.bytes = bytes) (hzs : z.cells.size = sz) (v : Value) (n : Nat) (xs : List Value) (hs : a.eval s = v) (hown : w.ownsRow base e sz v n xs)
    (news : List Value) (hm : news.length = sz) (g : Nat) (hg : g = w.heap.size) (hx : a.eval x = .slice (some ⟨g, 0, none⟩) 1 1) (h1 : news.all Value.oneCell' = true)
    (h63 : n + 1 ≤ maxLen) (hbytes : (n + 1) * bytes ≤ 140737488355328) (hbase : base ≤ w.heap.size)
    (h : ∀ v' w', w'.ownsRow base e sz v' (n + 1) (xs ++ news) → w.grownBy w' v.ownBlock → wpList P ops Q rest (a.put o.dst v') w') : wpList P ops Q (o :: rest) a (w.alloc (.cells news.toArray e)) := by
  subst hg
  refine wpList_wanted hgd fun K hK => ?_
  have hown' : (w.alloc (.cells news.toArray e)).ownsRow base e sz v n xs := orow_below hown ((Below.refl _ w).alloc (Nat.le_refl _) _)
  obtain ⟨v', w', hrun, h2, h3, _⟩ := run_append_own (P := P) (w.alloc (.cells news.toArray e)) base t o.type e i z sz bytes ht hi hz hsize hby hzs hsz v n xs hown' ⟨w.heap.size, 0, none⟩ 1 1 news (by omega)
    (fun j u hu => by rw [add_none, (At.new w e news).cell, Nat.zero_add]; exact hu) (one_cells _ h1) h63 hbytes (by simp; omega)
  unfold Oper.wp execOp
  simp only [ho, resolve, invoke, builtin, Sem.run_bind, Sem.run_pure, Result.andThen_ok, List.map_toArray, List.map_cons, List.map_nil, hs, hx, hrun]
  exact hK _ _ (h v' w' h2 (grown_trans (grown_below ((Below.refl _ w).alloc (Nat.le_refl _) _) _) h3))
end

/-- Another block has turned. -/
theorem orow_kept {w w' : World} {base : Nat} {e : TypeId} {v : Value} {n size g : Nat} {xs : List Value} (h : w.ownsRow base e size v n xs) (hg : w.grownBy w' (some g)) (hlt : g < base) : w'.ownsRow base e size v n xs :=
  h.kept hg (.inr (orow_far h hlt).symm)
theorem orow_mono {w : World} {base base' : Nat} {e : TypeId} {v : Value} {n size : Nat} {xs : List Value} (h : w.ownsRow base e size v n xs) (hb : base' ≤ base) : w.ownsRow base' e size v n xs := by
  obtain ⟨hl, h | ⟨g, cap, cur, rfl, h1, h2⟩⟩ := h
  · exact ⟨hl, .inl h⟩
  · exact ⟨hl, .inr ⟨g, cap, cur, rfl, by omega, h2⟩⟩
/-- An own row has turned: what lies ahead of it is as it was. -/
theorem grown_orow {a b c : World} {base : Nat} {e : TypeId} {v : Value} {n size : Nat} {xs : List Value} {row : Option Nat} (h : a.grownBy b row) (ho : b.ownsRow base e size v n xs) (hg : b.grownBy c v.ownBlock) (hb : a.heap.size ≤ base) : a.grownBy c row :=
  ⟨hg.os.trans h.os, hg.tape.trans h.tape, hg.output.trans h.output, Nat.le_trans h.size hg.size, fun i hi hne => (hg.block i (by have := h.size; omega) (orow_far ho (by omega))).trans (h.block i hi hne)⟩
end Go.Proofs.Ytlgknednfgpgfaa
