/- All instructions of a code, as package instr reads them. Nothing is claimed here. -/
import Derived.Test.YtllbbmofinminaaInstrAtP
namespace Go.Proofs.Ytllbbmofinminaa
open Go.RowKit

section
variable {w w' : World} {B : Nat} {A : Option Addr} {n : Nat} {base : Nat} {v : Value} {e : TypeId}
theorem own_below {size : Nat} {xs : List Value} (h : w.ownsRow base e size v n xs) (hb : Below w.heap.size w w') : w'.ownsRow base e size v n xs := by
  obtain ⟨hl, h | ⟨g, cap, cur, rfl, h1, hg, h2⟩⟩ := h
  · exact ⟨hl, .inl h⟩
  · refine ⟨hl, .inr ⟨g, cap, cur, rfl, h1, ?_, h2⟩⟩
    rw [hb.block g (Array.getElem?_eq_some_iff.1 hg).1]; exact hg
theorem own_far {size : Nat} {xs : List Value} (h : w.ownsRow base e size v n xs) {g : Nat} (hg : g < base) : some g ≠ v.ownBlock := by
  obtain ⟨_, ⟨rfl, _⟩ | ⟨g', cap, cur, rfl, h1, _⟩⟩ := h
  · simp [Value.ownBlock]
  · simp only [Value.ownBlock, ne_eq, Option.some.injEq]; omega
theorem own_new {size : Nat} {xs : List Value} (h : w.ownsRow base e size v n xs) {g : Nat} (hg : w.heap.size ≤ g) : some g ≠ v.ownBlock := by
  obtain ⟨_, ⟨rfl, _⟩ | ⟨g', cap, cur, rfl, _, h1, _⟩⟩ := h
  · simp [Value.ownBlock]
  · have := (Array.getElem?_eq_some_iff.1 h1).1
    simp only [Value.ownBlock, ne_eq, Option.some.injEq]; omega
/-- An own row lies in no block of another type. -/
theorem own_type {size : Nat} {xs : List Value} (h : w.ownsRow base e size v n xs) {g : Nat} {t : TypeId} {cs : List Value} (hA : At w g t cs) (hne : t ≠ e) : some g ≠ v.ownBlock := by
  obtain ⟨_, ⟨rfl, _⟩ | ⟨g', cap, cur, rfl, h1, hg, _⟩⟩ := h
  · simp [Value.ownBlock]
  · simp only [Value.ownBlock, ne_eq, Option.some.injEq]
    rintro rfl
    unfold At at hA
    rw [hg] at hA
    simp only [Option.some.injEq, Obj.cells.injEq] at hA
    exact hne hA.2.1.symm
theorem below_own {size : Nat} {xs : List Value} {a w2 : World} (hb : Below B a w) (h : w.ownsRow base e size v n xs) (hg : w.grownBy w2 v.ownBlock) (h1 : B ≤ w.heap.size) (h2 : B ≤ base) : Below B a w2 :=
  hb.grown hg h1 fun k hk => by
    obtain ⟨_, ⟨rfl, _⟩ | ⟨g', cap, cur, rfl, h3, _⟩⟩ := h
    · cases hk
    · simp only [Value.ownBlock, Option.some.injEq] at hk; omega
/-- 'append(v, x)' of one value of some cells onto an own row: the cells were laid in a block just ahead. -/
theorem wpList_append_many {P : Program} (w : World) {ops : Array Oper} {rest : List Oper} {o : Oper} {a : Act} {Q : Exit → Act → World → Prop} (hgd : Region.wanted o (yielded ops a.tmps) = true) (s x : Operand) (t : TypeId)
    (ho : o.op = .call { callee := .builtin .append, args := #[s, x], argTypes := #[t, t] })
    (base : Nat) (e : TypeId) (i : TypeInfo) (z : Value) (bytes sz : Nat) (hsz : 0 < sz) (ht : P.underlying t = some (.slice e)) (hi : P.info? e = some i) (hz : i.zero = some z)
    (hsize : i.size = sz) (hby : i.bytes = bytes) (hzs : z.cells.size = sz) (v : Value) (n : Nat) (xs : List Value) (hs : a.eval s = v) (hown : w.ownsRow base e sz v n xs)
    (news : List Value) (hm : news.length = sz) (g : Nat) (hg : g = w.heap.size) (hx : a.eval x = .slice (some ⟨g, 0, none⟩) 1 1) (h1 : news.all Value.oneCell' = true)
    (h63 : n + 1 ≤ maxLen) (hbytes : (n + 1) * bytes ≤ 140737488355328) (hbase : base ≤ w.heap.size)
    (h : ∀ v' w', w'.ownsRow base e sz v' (n + 1) (xs ++ news) → w.grownBy w' v.ownBlock → wpList P ops Q rest (a.put o.dst v') w') : wpList P ops Q (o :: rest) a (w.alloc (.cells news.toArray e)) := by
  subst hg
  refine wpList_wanted hgd fun K hK => ?_
  have hown' : (w.alloc (.cells news.toArray e)).ownsRow base e sz v n xs := own_below hown ((Below.refl _ w).alloc (Nat.le_refl _) _)
  obtain ⟨v', w', hrun, h2, h3, _⟩ := run_append_own (P := P) (w.alloc (.cells news.toArray e)) base t o.type e i z sz bytes ht hi hz hsize hby hzs hsz v n xs hown' ⟨w.heap.size, 0, none⟩ 1 1 news (by omega)
    (fun j u hu => by rw [add_none, (At.new w e news).cell, Nat.zero_add]; exact hu) (one_cells _ h1) h63 hbytes (by simp; omega)
  unfold Oper.wp execOp
  simp only [ho, resolve, invoke, builtin, Sem.run_bind, Sem.run_pure, Result.andThen_ok, List.map_toArray, List.map_cons, List.map_nil, hs, hx, hrun]
  exact hK _ _ (h v' w' h2 (grown_trans (grown_below ((Below.refl _ w).alloc (Nat.le_refl _) _) _) h3))
end

theorem insinfo : (Try.prog.info? 28).map (fun i => (i.zero, i.size, i.bytes)) = some (some (insV 0 0 0 false 0 0), 8, 96) := by kernel_rfl

/-- Instructions one behind the other, from a place on. -/
def allGo (xs : List Int) : Nat → Int → Option (List Ins)
  | 0, _ => none
  | f + 1, a => if (xs.length : Int) ≤ a then some [] else
    match insI xs a with
    | none => none
    | some I => (allGo xs f (a + I.len)).map (I :: ·)
def allI (xs : List Int) : Option (List Ins) := if xs.length == 0 || 4096 < xs.length then none else allGo xs (xs.length + 1) 0

theorem ins_len {xs : List Int} {a : Int} {I : Ins} (h : insI xs a = some I) : 1 ≤ I.len ∧ a + I.len ≤ xs.length ∧ I.place = a ∧ 0 ≤ a := by
  unfold insI at h
  dsimp only at h
  by_cases hout : (decide (a < 0) || decide ((xs.length : Int) ≤ a)) = true
  · rw [if_pos hout] at h; cases h
  · rw [if_neg hout] at h
    have hout2 : 0 ≤ a ∧ a < xs.length := by simpa using hout
    obtain ⟨p, rfl⟩ := Int.eq_ofNat_of_zero_le hout2.1
    rw [Int.toNat_natCast] at h
    have hp : p < xs.length := by omega
    split at h
    · cases h
    split at h
    · unfold wideI at h
      dsimp only at h
      generalize (b1 xs (p + 1) == 132) = t at h
      cases t
      all_goals
        simp only [Bool.false_eq_true, if_true, if_false] at h
        split at h
        · cases h
        · rename_i hc
          simp only [Bool.or_eq_true, decide_eq_true_eq, not_or] at hc
          cases h
          dsimp only
          omega
    split at h
    · unfold tabI at h
      dsimp only at h
      have := padE_bd p
      split at h
      · cases h
      rename_i hc
      simp only [Bool.or_eq_true, decide_eq_true_eq, not_or] at hc
      split at h
      · cases h
      split at h
      · cases h
      split at h
      · cases h
      cases h
      dsimp only
      omega
    split at h
    · unfold lookI at h
      dsimp only at h
      have := padE_bd p
      split at h
      · cases h
      rename_i hc
      simp only [Bool.or_eq_true, decide_eq_true_eq, not_or] at hc
      split at h
      · cases h
      split at h
      · cases h
      split at h
      · cases h
      split at h
      · cases h
        dsimp only
        omega
      · cases h
    unfold plainI at h
    split at h
    · cases h
    cases ho : operands (shapeT (b1 xs p)) (b1 xs p) p ((xs.drop (p + 1)).take (opB (shapeT (b1 xs p)))) with
    | none => rw [ho] at h; cases h
    | some x =>
      rw [ho] at h
      cases h
      dsimp only
      omega
end Go.Proofs.Ytllbbmofinminaa
