/- What stated frames mean, as plain lists: types with their names, locals that come and go, words. Nothing is claimed here. -/
import Derived.Test.YtlgknednfgpgfaaMapRead
namespace Go.Proofs.Ytlgknednfgpgfaa
open Go.RowKit

/-- A type of a frame. -/
structure FT where
  kind : Int
  name : List Int
  num : Int
deriving DecidableEq
def noF : FT := ⟨0, [], 0⟩
def FT.cells (v : FT) : List Value := [.int .i64 v.kind, .string (strOfNums v.name), .int .i64 v.num]
def fcells (l : List FT) : List Value := l.flatMap FT.cells
def ftV (v : FT) : Value := .agg #[.int .i64 v.kind, .string (strOfNums v.name), .int .i64 v.num]
def VT.ft (v : VT) : FT := ⟨v.kind, [], v.num⟩
theorem vcells_f (l : List VT) : vcells l = fcells (l.map VT.ft) := by
  induction l with
  | nil => rfl
  | cons v r ih => simp only [vcells, fcells, List.map_cons, List.flatMap_cons] at ih ⊢; rw [ih]; rfl
theorem fcells_len (l : List FT) : (fcells l).length = l.length * 3 := by
  induction l with
  | nil => rfl
  | cons t r ih => simp only [fcells, List.flatMap_cons, List.length_append] at ih ⊢; rw [ih]; simp [FT.cells]; omega
theorem fcells_app (a b : List FT) : fcells (a ++ b) = fcells a ++ fcells b := List.flatMap_append
theorem fcells_one (v : FT) : fcells [v] = v.cells := by simp [fcells]
theorem fcells_at (ts : List FT) : ∀ (j i : Nat), j < ts.length → i < 3 → (fcells ts)[j * 3 + i]? = (ts.getD j noF).cells[i]? := by
  induction ts with
  | nil => intro j i h; simp at h
  | cons t r ih =>
    intro j i h hi
    have hl : t.cells.length = 3 := rfl
    cases j with
    | zero =>
      rw [fcells, List.flatMap_cons, List.getElem?_append_left (by omega)]
      simp
    | succ j =>
      rw [fcells, List.flatMap_cons, List.getElem?_append_right (by omega), hl, show (j + 1) * 3 + i - 3 = j * 3 + i by omega]
      have := ih j i (by simpa using h) hi
      rw [fcells] at this
      rw [this]; simp
theorem fcells_take (l : List FT) : ∀ k : Nat, fcells (l.take k) = (fcells l).take (k * 3) := by
  induction l with
  | nil => intro k; simp [fcells]
  | cons t r ih =>
    intro k
    cases k with
    | zero => simp [fcells]
    | succ k =>
      have := ih k
      simp only [fcells, List.take_succ_cons, List.flatMap_cons] at this ⊢
      rw [this, show (k + 1) * 3 = k * 3 + 3 by omega]
      have hl : t.cells.length = 3 := rfl
      rw [List.take_append, List.take_of_length_le (l := t.cells) (by omega), hl, show k * 3 + 3 - 3 = k * 3 by omega]

/-- A type with its name. -/
def nameF (ps : List Cst) (v : VT) : FT := if v.kind = 7 then ⟨7, (classAt ps v.num).getD [], 0⟩ else ⟨v.kind, [], v.num⟩
/-- One that the readers let by. -/
def GoodV (ps : List Cst) (v : VT) : Prop := ((v.kind = 0 ∨ v.kind = 1 ∨ v.kind = 4 ∨ v.kind = 5 ∨ v.kind = 6) ∧ v.num = 0) ∨ (v.kind = 7 ∧ (classAt ps v.num).isSome = true) ∨ v.kind = 8
/-- Entries as words. -/
def wide1 (s : Int) (v : FT) : List FT := if v.kind = 4 then [v, ⟨s, [], 0⟩] else [v]
def wideF (s : Int) (l : List FT) : List FT := l.flatMap (wide1 s)
def wordsF (l : List FT) : Nat := (wideF 0 l).length
theorem wide1_len (s : Int) (v : FT) : (wide1 s v).length = if v.kind = 4 then 2 else 1 := by unfold wide1; split <;> rfl
theorem wideF_len (s : Int) (l : List FT) : (wideF s l).length = wordsF l := by
  unfold wordsF wideF
  simp only [List.length_flatMap, wide1_len]
theorem wideF_app (s : Int) (a b : List FT) : wideF s (a ++ b) = wideF s a ++ wideF s b := List.flatMap_append
theorem wideF_one (s : Int) (v : FT) : wideF s [v] = wide1 s v := by simp [wideF]
theorem wordsF_app (a b : List FT) : wordsF (a ++ b) = wordsF a + wordsF b := by unfold wordsF; rw [wideF_app, List.length_append]
theorem wordsF_ge (l : List FT) : l.length ≤ wordsF l := by
  induction l with
  | nil => simp
  | cons v r ih =>
    rw [show v :: r = [v] ++ r from rfl, wordsF_app, List.length_append]
    have : 1 ≤ wordsF [v] := by unfold wordsF; rw [wideF_one, wide1_len]; split <;> omega
    simp only [List.length_cons, List.length_nil]; omega
theorem wordsF_le (l : List FT) : wordsF l ≤ 2 * l.length := by
  induction l with
  | nil => simp [wordsF, wideF]
  | cons v r ih =>
    rw [show v :: r = [v] ++ r from rfl, wordsF_app, List.length_append]
    have : wordsF [v] ≤ 2 := by unfold wordsF; rw [wideF_one, wide1_len]; split <;> omega
    simp only [List.length_cons, List.length_nil]; omega
theorem wordsF_one (v : FT) : wordsF [v] = if v.kind = 4 then 2 else 1 := by unfold wordsF; rw [wideF_one, wide1_len]
theorem wordsF_take (l : List FT) (j : Nat) (hj : j < l.length) : wordsF (l.take (j + 1)) = wordsF (l.take j) + if (l.getD j noF).kind = 4 then 2 else 1 := by
  rw [List.take_add_one, List.getElem?_eq_getElem hj, Option.toList_some, wordsF_app, wordsF_one]
  simp [List.getD, hj]
theorem wordsF_take_le (l : List FT) (j : Nat) : wordsF (l.take j) ≤ wordsF l := by
  have := wordsF_app (l.take j) (l.drop j)
  rw [List.take_append_drop] at this
  omega
def fillF (l : List FT) (n : Nat) : List FT := wideF 0 l ++ List.replicate (n - wordsF l) noF
theorem fillF_len (l : List FT) (n : Nat) (h : wordsF l ≤ n) : (fillF l n).length = n := by
  unfold fillF
  rw [List.length_append, wideF_len, List.length_replicate]
  omega
/-- How many are left where nothings at the end go. -/
def keepF (e : List FT) : Nat → Nat
  | 0 => 0
  | j + 1 => if (e.getD j noF).kind = 0 then keepF e j else j + 1
theorem keepF_le (e : List FT) : ∀ j, keepF e j ≤ j
  | 0 => Nat.le_refl _
  | j + 1 => by unfold keepF; split; · have := keepF_le e j; omega
                · exact Nat.le_refl _
def cutF (e : List FT) : List FT := e.take (keepF e e.length)
/-- An entry's doing. -/
def stepF (ps : List Cst) (L : List FT) (m : Mp) : Option (List FT) :=
  if 248 ≤ m.tag ∧ m.tag ≤ 250 then (if (L.length : Int) + m.tag < 251 then none else some (L.take (L.length - (251 - m.tag).toNat)))
  else if 252 ≤ m.tag ∧ m.tag ≤ 254 then some (L ++ m.locals.map (nameF ps))
  else if m.tag = 255 then some (m.locals.map (nameF ps))
  else some L
structure Fr where
  at_ : Int
  locals : List FT
  stack : List FT
def frOf (ps : List Cst) (at_ : Int) (L : List FT) (m : Mp) : Fr := ⟨at_ + 1 + m.delta, L, m.stack.map (nameF ps)⟩
def framesF (ps : List Cst) (ml ms : Nat) : List Mp → Int → List FT → Option (List Fr)
  | [], _, _ => some []
  | m :: r, at_, L => match stepF ps L m with
    | none => none
    | some L' =>
      if ml < wordsF L' ∨ ms < wordsF (m.stack.map (nameF ps)) then none
      else (framesF ps ml ms r (at_ + 1 + m.delta) L').map (frOf ps at_ L' m :: ·)
/-- An entry that the readers let by. -/
structure GoodM (ps : List Cst) (m : Mp) : Prop where
  tag : (0 ≤ m.tag ∧ m.tag ≤ 127) ∨ (247 ≤ m.tag ∧ m.tag ≤ 255)
  delta : 0 ≤ m.delta ∧ m.delta ≤ 65535
  locals : ∀ v ∈ m.locals, GoodV ps v
  stack : ∀ v ∈ m.stack, GoodV ps v
  none_ : m.stack = [] ∨ (64 ≤ m.tag ∧ m.tag ≤ 127) ∨ m.tag = 247 ∨ m.tag = 255
  small : m.locals.length ≤ 65536 ∧ m.stack.length ≤ 65536

/-- The slice with address A and length n reads as the types l, in blocks ahead of B. -/
def RdF (w : World) (B : Nat) (A : Option Addr) (n : Nat) (l : List FT) : Prop :=
  l.length = n ∧ (0 < n → ∃ g o, A = some ⟨g, o, none⟩ ∧ g < B ∧ ∀ j u, (fcells l)[j]? = some u → w.cell? ⟨g, o + j, none⟩ = some u)
section
variable {w w' : World} {B : Nat} {A : Option Addr} {n : Nat} {l : List FT}
theorem RdF.below (h : RdF w B A n l) (hb : Below B w w') : RdF w' B A n l :=
  ⟨h.1, fun hn => by
    obtain ⟨g, o, ha, hg, hc⟩ := h.2 hn
    exact ⟨g, o, ha, hg, fun j u hu => by rw [hb.cell (p := ⟨g, o + j, none⟩) hg]; exact hc j u hu⟩⟩
theorem RdF.mono {B' : Nat} (h : RdF w B A n l) (hB : B ≤ B') : RdF w B' A n l :=
  ⟨h.1, fun hn => by
    obtain ⟨g, o, ha, hg, hc⟩ := h.2 hn
    exact ⟨g, o, ha, by omega, hc⟩⟩
theorem RdF.drewN (h : RdF w B A n l) (k : Nat) : RdF (w.drewN k) B A n l := h
theorem RdF.cells3 (h : RdF w B A n l) {j : Nat} (hj : j < n) : ∃ g o, A = some ⟨g, o, none⟩ ∧ g < B ∧
    w.cell? ⟨g, o + j * 3, none⟩ = some (.int .i64 (l.getD j noF).kind) ∧ w.cell? ⟨g, o + j * 3 + 1, none⟩ = some (.string (strOfNums (l.getD j noF).name)) ∧
    w.cell? ⟨g, o + j * 3 + 2, none⟩ = some (.int .i64 (l.getD j noF).num) := by
  obtain ⟨g, o, ha, hg, hc⟩ := h.2 (by omega)
  have hl := h.1
  refine ⟨g, o, ha, hg, ?_, ?_, ?_⟩
  · exact hc _ _ (by have := fcells_at l j 0 (by omega) (by omega); rw [Nat.add_zero] at this; rw [this]; rfl)
  · rw [Nat.add_assoc]; exact hc _ _ (by rw [fcells_at l j 1 (by omega) (by omega)]; rfl)
  · rw [Nat.add_assoc]; exact hc _ _ (by rw [fcells_at l j 2 (by omega) (by omega)]; rfl)
theorem RdF.nil (w : World) (B : Nat) (A : Option Addr) : RdF w B A 0 [] := ⟨rfl, fun h => absurd h (Nat.lt_irrefl 0)⟩
theorem RdF.take (h : RdF w B A n l) {k : Nat} (hk : k ≤ n) : RdF w B A k (l.take k) :=
  ⟨by rw [List.length_take, h.1]; omega, fun hk0 => by
    obtain ⟨g, o, ha, hg, hc⟩ := h.2 (by omega)
    refine ⟨g, o, ha, hg, fun j u hu => hc j u ?_⟩
    rw [fcells_take, List.getElem?_take] at hu
    split at hu
    · exact hu
    · cases hu⟩
/-- A row of the call's own reads. -/
theorem orow_rdF {base : Nat} {v : Value} (h : w.ownsRow base 37 3 v n (fcells l)) (hn : l.length = n) : ∃ A c, v = .slice A n c ∧ RdF w w.heap.size A n l ∧ n ≤ c ∧ c ≤ maxLen := by
  obtain ⟨hl, ⟨rfl, rfl⟩ | ⟨g, cap, cur, rfl, hb, hg, hnc, hm, hs, ht⟩⟩ := h
  · exact ⟨none, 0, rfl, ⟨hn, fun h => absurd h (Nat.lt_irrefl 0)⟩, Nat.le_refl _, Nat.zero_le _⟩
  · refine ⟨some ⟨g, 0, none⟩, cap, rfl, ⟨hn, fun _ => ⟨g, 0, rfl, (Array.getElem?_eq_some_iff.1 hg).1, fun j u hu => ?_⟩⟩, hnc, hm⟩
    rw [Nat.zero_add, cell_of_row w g _ cur 37 (0, 0) hg, ← hu, ← ht]
    have : j < n * 3 := by
      have := (List.getElem?_eq_some_iff.1 hu).1
      omega
    rw [List.getElem?_take, if_pos this]; simp
end
theorem getD_mem {l : List FT} {j : Nat} (hj : j < l.length) : l.getD j noF ∈ l := by
  rw [List.getD, List.getElem?_eq_getElem hj]; exact List.getElem_mem _
theorem take_snoc {α : Type} (l : List α) (d : α) {j : Nat} (hj : j < l.length) : l.take (j + 1) = l.take j ++ [l.getD j d] := by
  rw [List.take_add_one, List.getElem?_eq_getElem hj, Option.toList_some]
  simp [List.getD, hj]
end Go.Proofs.Ytlgknednfgpgfaa
