/- Slices of types: what the call's own rows hold, and how they are read. Nothing is claimed here. -/
import Derived.Test.YtjlcocalpjeghaaDoorDescrField
namespace Go.Proofs.YtjlcocalpjeghaaDoor
open Go.RowKit

/-- The cells of a list of types. -/
def tcells (ts : List Ty) : List Value := ts.flatMap Ty.cells
theorem tcells_len (ts : List Ty) : (tcells ts).length = ts.length * 4 := by
  induction ts with
  | nil => rfl
  | cons t r ih => simp only [tcells, List.flatMap_cons, List.length_append] at ih ⊢; rw [ih]; simp [Ty.cells]; omega
theorem tcells_snoc (ts : List Ty) (t : Ty) : tcells (ts ++ [t]) = tcells ts ++ t.cells := by simp [tcells]
theorem tcells_one (ts : List Ty) : ∀ v ∈ tcells ts, v.oneCell' = true := by
  intro v hv
  simp only [tcells, List.mem_flatMap] at hv
  obtain ⟨t, _, hv⟩ := hv
  simp only [Ty.cells, List.mem_cons, List.not_mem_nil, or_false] at hv
  rcases hv with rfl | rfl | rfl | rfl <;> rfl
theorem tcells_at (ts : List Ty) : ∀ (j i : Nat), j < ts.length → i < 4 → (tcells ts)[j * 4 + i]? = (ts.getD j noTy).cells[i]? := by
  induction ts with
  | nil => intro j i h; simp at h
  | cons t r ih =>
    intro j i h hi
    have hl : t.cells.length = 4 := rfl
    cases j with
    | zero =>
      rw [tcells, List.flatMap_cons, List.getElem?_append_left (by omega)]
      simp
    | succ j =>
      rw [tcells, List.flatMap_cons, List.getElem?_append_right (by omega), hl, show (j + 1) * 4 + i - 4 = j * 4 + i by omega]
      have := ih j i (by simpa using h) hi
      rw [tcells] at this
      rw [this]; simp

/-- The slice with address A and length n reads as the types ts, in blocks ahead of B. -/
def RdT (w : World) (B : Nat) (A : Option Addr) (n : Nat) (ts : List Ty) : Prop :=
  ts.length = n ∧ (0 < n → ∃ g o, A = some ⟨g, o, none⟩ ∧ g < B ∧ ∀ j u, (tcells ts)[j]? = some u → w.cell? ⟨g, o + j, none⟩ = some u)
section
variable {w w' : World} {B : Nat} {A : Option Addr} {n : Nat} {ts : List Ty} {base : Nat} {v : Value} {e : TypeId}
theorem RdT.below (h : RdT w B A n ts) (hb : Below B w w') : RdT w' B A n ts :=
  ⟨h.1, fun hn => by
    obtain ⟨g, o, ha, hg, hc⟩ := h.2 hn
    exact ⟨g, o, ha, hg, fun j u hu => by rw [hb.cell (p := ⟨g, o + j, none⟩) hg]; exact hc j u hu⟩⟩
theorem RdT.mono {B' : Nat} (h : RdT w B A n ts) (hB : B ≤ B') : RdT w B' A n ts :=
  ⟨h.1, fun hn => by
    obtain ⟨g, o, ha, hg, hc⟩ := h.2 hn
    exact ⟨g, o, ha, by omega, hc⟩⟩
theorem RdT.at (h : RdT w B A n ts) {j : Nat} (hj : j < n) : ∃ g o, A = some ⟨g, o, none⟩ ∧ g < B ∧
    w.cell? ⟨g, o + (j * 4 + 0), none⟩ = some (.int .u8 (ts.getD j noTy).kind) ∧ w.cell? ⟨g, o + (j * 4 + 1), none⟩ = some (.string (strOfNums (ts.getD j noTy).name)) ∧
    w.cell? ⟨g, o + (j * 4 + 2), none⟩ = some (.int .i64 (ts.getD j noTy).dims) ∧ w.cell? ⟨g, o + (j * 4 + 3), none⟩ = some (.int .u8 (ts.getD j noTy).elem) := by
  obtain ⟨g, o, ha, hg, hc⟩ := h.2 (by omega)
  have hl := h.1
  refine ⟨g, o, ha, hg, ?_, ?_, ?_, ?_⟩
  · exact hc _ _ (by rw [tcells_at ts j 0 (by omega) (by omega)]; rfl)
  · exact hc _ _ (by rw [tcells_at ts j 1 (by omega) (by omega)]; rfl)
  · exact hc _ _ (by rw [tcells_at ts j 2 (by omega) (by omega)]; rfl)
  · exact hc _ _ (by rw [tcells_at ts j 3 (by omega) (by omega)]; rfl)
theorem own_rd (h : w.ownsRow base e 4 v n (tcells ts)) : ∃ A c, v = .slice A n c ∧ RdT w w.heap.size A n ts ∧ n ≤ c ∧ c ≤ maxLen ∧ (A = none → n = 0 ∧ c = 0) := by
  obtain ⟨hl, ⟨rfl, rfl⟩ | ⟨g, cap, cur, rfl, hb, hg, hn, hm, hs, ht⟩⟩ := h
  · rw [tcells_len] at hl
    exact ⟨none, 0, rfl, ⟨by omega, fun h => absurd h (Nat.lt_irrefl 0)⟩, Nat.le_refl _, by decide, fun _ => ⟨rfl, rfl⟩⟩
  · rw [tcells_len] at hl
    refine ⟨_, cap, rfl, ⟨by omega, fun _ => ⟨g, 0, rfl, (Array.getElem?_eq_some_iff.1 hg).1, fun j u hu => ?_⟩⟩, hn, hm, fun h => by cases h⟩
    rw [cell_of_row w g _ cur e (0, 0) hg, Nat.zero_add, ← hu, ← ht]
    have : j < n * 4 := by
      have := (List.getElem?_eq_some_iff.1 hu).1
      rw [tcells_len] at this; omega
    rw [List.getElem?_take, if_pos this]; simp
theorem own_below {size : Nat} {xs : List Value} (h : w.ownsRow base e size v n xs) (hb : Below w.heap.size w w') : w'.ownsRow base e size v n xs := by
  obtain ⟨hl, h | ⟨g, cap, cur, rfl, h1, hg, h2⟩⟩ := h
  · exact ⟨hl, .inl h⟩
  · refine ⟨hl, .inr ⟨g, cap, cur, rfl, h1, ?_, h2⟩⟩
    rw [hb.block g (Array.getElem?_eq_some_iff.1 hg).1]; exact hg
theorem own_far {size : Nat} {xs : List Value} (h : w.ownsRow base e size v n xs) {g : Nat} (hg : g < base) : some g ≠ v.ownBlock := by
  obtain ⟨_, ⟨rfl, _⟩ | ⟨g', cap, cur, rfl, h1, _⟩⟩ := h
  · simp [Value.ownBlock]
  · simp only [Value.ownBlock, ne_eq, Option.some.injEq]; omega
theorem below_own4 {size : Nat} {xs : List Value} {B : Nat} {a w2 : World} (hb : Below B a w) (h : w.ownsRow base e size v n xs) (hg : w.grownBy w2 v.ownBlock) (h1 : B ≤ w.heap.size) (h2 : B ≤ base) : Below B a w2 :=
  hb.grown hg h1 fun k hk => by
    obtain ⟨_, ⟨rfl, _⟩ | ⟨g', cap, cur, rfl, h3, _⟩⟩ := h
    · cases hk
    · simp only [Value.ownBlock, Option.some.injEq] at hk; omega
end

/-- 'append(v, x)' of one value of four cells onto an own row: the cells were laid in a block just ahead. -/
theorem wpList_append_four {P : Program} (w : World) {ops : Array Oper} {rest : List Oper} {o : Oper} {a : Act} {Q : Exit → Act → World → Prop} (hgd : Region.wanted o (yielded ops a.tmps) = true) (s x : Operand) (t : TypeId)
    (ho : o.op = .call { callee := .builtin .append, args := #[s, x], argTypes := #[t, t] })
    (base : Nat) (e : TypeId) (i : TypeInfo) (z : Value) (bytes : Nat) (ht : P.underlying t = some (.slice e)) (hi : P.info? e = some i) (hz : i.zero = some z)
    (hsize : i.size = 4) (hby : i.bytes = bytes) (hzs : z.cells.size = 4) (v : Value) (n : Nat) (xs : List Value) (hs : a.eval s = v) (hown : w.ownsRow base e 4 v n xs)
    (news : List Value) (hm : news.length = 4) (g : Nat) (hg : g = w.heap.size) (hx : a.eval x = .slice (some ⟨g, 0, none⟩) 1 1) (h1 : news.all Value.oneCell' = true)
    (h63 : n + 1 ≤ maxLen) (hbytes : (n + 1) * bytes ≤ 140737488355328) (hbase : base ≤ w.heap.size)
    (h : ∀ v' w', w'.ownsRow base e 4 v' (n + 1) (xs ++ news) → w.grownBy w' v.ownBlock → wpList P ops Q rest (a.put o.dst v') w') : wpList P ops Q (o :: rest) a (w.alloc (.cells news.toArray e)) := by
  subst hg
  refine wpList_wanted hgd fun K hK => ?_
  have hown' : (w.alloc (.cells news.toArray e)).ownsRow base e 4 v n xs := own_below hown ((Below.refl _ w).alloc (Nat.le_refl _) _)
  obtain ⟨v', w', hrun, h2, h3, _⟩ := run_append_own (P := P) (w.alloc (.cells news.toArray e)) base t o.type e i z 4 bytes ht hi hz hsize hby hzs (by omega) v n xs hown' ⟨w.heap.size, 0, none⟩ 1 1 news (by omega)
    (fun j u hu => by rw [add_none, (At.new w e news).cell, Nat.zero_add]; exact hu) (one_cells _ h1) h63 hbytes (by simp; omega)
  unfold Oper.wp execOp
  simp only [ho, resolve, invoke, builtin, Sem.run_bind, Sem.run_pure, Result.andThen_ok, List.map_toArray, List.map_cons, List.map_nil, hs, hx, hrun]
  exact hK _ _ (h v' w' h2 (grown_trans (grown_below ((Below.refl _ w).alloc (Nat.le_refl _) _) _) h3))

/-- What a string holds. -/
def szOf : Value → Nat
  | .string s => s.size
  | _ => 0

set_option maxHeartbeats 2000000 in
set_option maxRecDepth 100000 in
theorem returned_any (s : ByteArray) (w : World) (hm : s.size ≤ 1000000) (hw : Maxed w) : Calls Tryd.prog 26 #[.string s] w fun e w' => e = .returned (fieldV (retL (nums s))) ∧ Below w.heap.size w w' := by
  by_cases hv : s = ⟨#[86]⟩
  · subst hv
    have HV : Hid (retL (nums ⟨#[86]⟩) = some ⟨86, [], 0, 0⟩) := hide (by decide +kernel)
    clear hw
    go_enter Tryd.func26, Tryd.ntmps26
    go_wp2_with fail
    refine bodyPost_ret (v := .tuple #[.agg #[.int .u8 86, .string ⟨#[]⟩, .int .i64 0, .int .u8 0], .bool true]) ?_ rfl ⟨by rw [HV.out]; rfl, ?_⟩
    · simp [results, Tryd.results26, go_sem]
    · repeat (first | with_reducible exact Below.refl _ _ | with_reducible refine Below.drew ?_ | with_reducible refine below_drewN ?_ _ | ((with_reducible refine Below.setCell ?_ ?hp _); case hp => simp) | ((with_reducible refine Below.alloc ?_ ?hp _); case hp => first | omega | (simp; done) | (simp; omega)))
  · obtain ⟨hn1, hn2⟩ := toList_no (l := [86]) hv
    have HF : Hid (∀ W, Maxed W → Calls Tryd.prog 9 #[.string s] W fun e w' => e = .returned (fieldV (field (nums s))) ∧ Below W.heap.size W w') := hide fun W hW => field_any s W hm hW
    have HW : Hid (∀ o, Maxed (w.alloc o)) := hide fun o => hw.below ((Below.refl _ w).alloc (Nat.le_refl _) o)
    have hr : retL (nums s) = field (nums s) := if_neg fun h => hv (by
      apply nums_inj; rw [h]; rfl)
    rw [hr]
    clear hr hw hv
    obtain ⟨k, nm, d, x, b, hfv⟩ : ∃ k nm d x b, fieldV (field (nums s)) = .tuple #[.agg #[.int .u8 k, .string nm, .int .i64 d, .int .u8 x], .bool b] := by
      cases field (nums s) with
      | none => exact ⟨_, _, _, _, _, rfl⟩
      | some t => exact ⟨_, _, _, _, _, rfl⟩
    rw [hfv] at HF ⊢
    clear hfv
    go_enter Tryd.func26, Tryd.ntmps26
    go_wp2_with fail
    refine (HF.out _ (HW.out _)).mono ?_
    rintro e w2 ⟨rfl, hb2⟩
    have ha := ((At.new w 25 [.int .u8 0, .string ⟨#[]⟩, .int .i64 0, .int .u8 0]).below hb2 (by simp))
    have HB2 : Hid (Below w.heap.size w w2) := hide (((Below.refl _ w).alloc (Nat.le_refl _) _).trans (hb2.mono (by simp)))
    obtain ⟨z0, z1, z2, z3, g0, g1, g2, g3⟩ := ha.c4
    clear hb2 ha
    go_wp2_with fail
    refine bodyPost_ret (v := .tuple #[.agg #[.int .u8 k, .string nm, .int .i64 d, .int .u8 x], .bool b]) ?_ rfl ⟨rfl, ?_⟩
    · simp [results, Tryd.results26, go_sem, World.cell?_setCell_other, z0, z1, z2, z3]
    · repeat (first | with_reducible exact HB2.out | with_reducible refine Below.drew ?_ | with_reducible refine below_drewN ?_ _ | ((with_reducible refine Below.setCell ?_ ?hp _); case hp => simp) | ((with_reducible refine Below.alloc ?_ ?hp _); case hp => first | omega | (simp; done) | (simp; omega)))
end Go.Proofs.YtjlcocalpjeghaaDoor
