/- Texts of one stage, merged. Nothing is claimed here. -/
import Derived.Test.YtdhalpmgfmbcgaaDoorPackD
import Derived.Test.YtdhalpmgfmbcgaaDoorPackA
import Derived.Test.YtdhalpmgfmbcgaaDoorProg
import Derived.Test.YtdhalpmgfmbcgaaDoorPackC
namespace Go.Proofs.YtdhalpmgfmbcgaaDoor
open Go.RowKit

/-- An entry: its tag, its text, its number, the numbers of other entries. -/
structure Cst where
  tag : Int
  text : List Int
  num : Int
  a : Int
  b : Int
deriving DecidableEq
/-- No entry. -/
def noC : Cst := ⟨0, [], 0, 0, 0⟩
/-- Its cells. -/
def Cst.cells (x : Cst) : List Value := [.int .i64 x.tag, .string (strOfNums x.text), .int .i64 x.num, .int .i64 x.a, .int .i64 x.b]
def ccells (l : List Cst) : List Value := l.flatMap Cst.cells
/-- The number of some bytes, the highest first. -/
def beL (l : List Int) : Int := l.foldl (fun x b => x * 256 + b) 0
/-- A number with its sign. -/
def sgn (n : Nat) (x : Int) : Int := if 2 ^ (n - 1) ≤ x then x - 2 ^ n else x

/-- The entry at some bytes' beginning; how long it is. -/
def entry1 : List Int → Option (Cst × Nat)
  | [] => none
  | t :: r =>
    if t = 1 then
      if r.length < 2 then none else
      if r.length < 2 + (beL (r.take 2)).toNat then none else some (⟨1, (r.drop 2).take (beL (r.take 2)).toNat, 0, 0, 0⟩, 3 + (beL (r.take 2)).toNat)
    else if t = 3 then if r.length < 4 then none else some (⟨3, [], sgn 32 (beL (r.take 4)), 0, 0⟩, 5)
    else if t = 5 then if r.length < 8 then none else some (⟨5, [], sgn 64 (beL (r.take 8)), 0, 0⟩, 9)
    else if t = 7 ∨ t = 8 then if r.length < 2 then none else some (⟨t, [], 0, beL (r.take 2), 0⟩, 3)
    else if t = 9 ∨ t = 10 ∨ t = 11 ∨ t = 12 then if r.length < 4 then none else some (⟨t, [], 0, beL (r.take 2), beL ((r.drop 2).take 2)⟩, 5)
    else none
/-- So many places of entries, one behind the other; how long they are. The first number: at least as many. -/
def entriesF : Nat → Nat → List Int → Option (List Cst × Nat)
  | _, 0, _ => some ([], 0)
  | 0, _ + 1, _ => none
  | f + 1, m + 1, l =>
    match entry1 l with
    | none => none
    | some (e, k) =>
      if e.tag = 5 then (if m = 0 then none else (entriesF f (m - 1) (l.drop k)).map fun x => (e :: noC :: x.1, k + x.2))
      else (entriesF f m (l.drop k)).map fun x => (e :: x.1, k + x.2)
def entries (m : Nat) (l : List Int) : Option (List Cst × Nat) := entriesF m m l

def tagAt (p : List Cst) (i : Int) : Int := if 0 ≤ i ∧ i < p.length then (p.getD i.toNat noC).tag else 0
def atC (p : List Cst) (i : Int) : Cst := if 0 ≤ i ∧ i < p.length then p.getD i.toNat noC else noC
def textAt (p : List Cst) (i : Int) : Option (List Int) := if (atC p i).tag = 1 then some (atC p i).text else none
def classAt (p : List Cst) (i : Int) : Option (List Int) := if (atC p i).tag = 7 then textAt p (atC p i).a else none
def memberAt (p : List Cst) (i : Int) : Option (List Int × List Int × List Int) :=
  if (atC p i).tag = 9 ∨ (atC p i).tag = 10 ∨ (atC p i).tag = 11 then
    match classAt p (atC p i).a with
    | none => none
    | some c => if (atC p (atC p i).b).tag = 12 then
        match textAt p (atC p (atC p i).b).a, textAt p (atC p (atC p i).b).b with
        | some n, some d => some (c, n, d)
        | _, _ => none
      else none
  else none
/-- An array's descriptor? -/
def arrB (l : List Int) : Bool := match field l with
  | some t => t.kind == 91
  | none => false
def nInit : List Int := [60, 105, 110, 105, 116, 62]
def nClinit : List Int := [60, 99, 108, 105, 110, 105, 116, 62]
/-- May an entry be? -/
def holdsAt (p : List Cst) (i : Int) : Bool :=
  let e := atC p i
  if e.tag = 1 then (dec e.text).isSome
  else if e.tag = 7 then match textAt p e.a with
    | some s => classB s || arrB s
    | none => false
  else if e.tag = 8 then (atC p e.a).tag == 1
  else if e.tag = 12 then match textAt p e.a, textAt p e.b with
    | some n, some d => (plainB n || n == nInit) && ((field d).isSome || (sig d).isSome)
    | _, _ => false
  else if e.tag = 9 ∨ e.tag = 10 ∨ e.tag = 11 then match memberAt p i with
    | some (_, n, d) =>
      if (field d).isSome == (e.tag == 9) then
        if n = nInit then e.tag == 10 && (match sig d with | some (_, t) => t.kind == 86 | none => false)
        else e.tag == 9 || (methodB n && n != nClinit)
      else false
    | none => false
  else true
/-- A pool at some bytes' beginning; how long it is. -/
def pool (l : List Int) : Option (List Cst × Nat) :=
  if l.length < 2 then none else
  if beL (l.take 2) < 1 ∨ 1000 < beL (l.take 2) then none else
  match entries ((beL (l.take 2)).toNat - 1) (l.drop 2) with
  | none => none
  | some (es, k) => if (List.range (beL (l.take 2)).toNat).all (fun i => i == 0 || holdsAt (noC :: es) i) then some (noC :: es, 2 + k) else none

theorem ccells_len (l : List Cst) : (ccells l).length = l.length * 5 := by
  induction l with
  | nil => rfl
  | cons t r ih => simp only [ccells, List.flatMap_cons, List.length_append] at ih ⊢; rw [ih]; simp [Cst.cells]; omega
theorem ccells_at (ts : List Cst) : ∀ (j i : Nat), j < ts.length → i < 5 → (ccells ts)[j * 5 + i]? = (ts.getD j noC).cells[i]? := by
  induction ts with
  | nil => intro j i h; simp at h
  | cons t r ih =>
    intro j i h hi
    have hl : t.cells.length = 5 := rfl
    cases j with
    | zero =>
      rw [ccells, List.flatMap_cons, List.getElem?_append_left (by omega)]
      simp
    | succ j =>
      rw [ccells, List.flatMap_cons, List.getElem?_append_right (by omega), hl, show (j + 1) * 5 + i - 5 = j * 5 + i by omega]
      have := ih j i (by simpa using h) hi
      rw [ccells] at this
      rw [this]; simp
theorem entriesF_more (f : Nat) : ∀ (g m : Nat) (l : List Int), m ≤ f → m ≤ g → entriesF f m l = entriesF g m l := by
  induction f with
  | zero =>
    intro g m l h _
    obtain rfl : m = 0 := by omega
    cases g <;> rfl
  | succ f ih =>
    intro g m l h1 h2
    cases m with
    | zero => cases g <;> rfl
    | succ m =>
      cases g with
      | zero => omega
      | succ g =>
        unfold entriesF
        cases entry1 l with
        | none => rfl
        | some x =>
          obtain ⟨e, k⟩ := x
          simp only
          by_cases h5 : e.tag = 5
          · rw [if_pos h5, if_pos h5]
            by_cases hm : m = 0
            · rw [if_pos hm, if_pos hm]
            · rw [if_neg hm, if_neg hm, ih g (m - 1) _ (by omega) (by omega)]
          · rw [if_neg h5, if_neg h5, ih g m _ (by omega) (by omega)]
theorem entries_zero (l : List Int) : entries 0 l = some ([], 0) := rfl
theorem entries_none {m : Nat} {l : List Int} (h : entry1 l = none) : entries (m + 1) l = none := by
  unfold entries entriesF; rw [h]
theorem entries_long {m : Nat} {l : List Int} {e : Cst} {k : Nat} (h : entry1 l = some (e, k)) (h5 : e.tag = 5) : entries (m + 2) l = (entries m (l.drop k)).map fun x => (e :: noC :: x.1, k + x.2) := by
  unfold entries
  rw [show entriesF (m + 2) (m + 2) l = if e.tag = 5 then (if m + 1 = 0 then none else (entriesF (m + 1) m (l.drop k)).map fun x => (e :: noC :: x.1, k + x.2)) else (entriesF (m + 1) (m + 1) (l.drop k)).map fun x => (e :: x.1, k + x.2) by
    rw [entriesF, h]; rfl, if_pos h5, if_neg (by omega), entriesF_more (m + 1) m m _ (by omega) (by omega)]
theorem entries_last {l : List Int} {e : Cst} {k : Nat} (h : entry1 l = some (e, k)) (h5 : e.tag = 5) : entries 1 l = none := by
  unfold entries entriesF
  rw [h]
  simp only
  rw [if_pos h5]; simp
theorem entries_one {m : Nat} {l : List Int} {e : Cst} {k : Nat} (h : entry1 l = some (e, k)) (h5 : e.tag ≠ 5) : entries (m + 1) l = (entries m (l.drop k)).map fun x => (e :: x.1, k + x.2) := by
  unfold entries
  rw [entriesF, h]
  simp only
  rw [if_neg h5]
theorem entries_len (n : Nat) : ∀ (m : Nat) (l : List Int) (es : List Cst) (k : Nat), m ≤ n → entries m l = some (es, k) → es.length = m := by
  induction n with
  | zero =>
    intro m l es k hm h
    obtain rfl : m = 0 := by omega
    rw [entries_zero] at h; cases h; rfl
  | succ n ih =>
    intro m l es k hm h
    cases m with
    | zero => rw [entries_zero] at h; cases h; rfl
    | succ m =>
      cases he : entry1 l with
      | none => rw [entries_none he] at h; cases h
      | some x =>
        obtain ⟨e, j⟩ := x
        by_cases h5 : e.tag = 5
        · cases m with
          | zero => rw [entries_last he h5] at h; cases h
          | succ m =>
            rw [entries_long he h5] at h
            cases hx : entries m (l.drop j) with
            | none => rw [hx] at h; cases h
            | some y =>
              rw [hx] at h
              simp only [Option.map_some, Option.some.injEq, Prod.mk.injEq] at h
              obtain ⟨rfl, rfl⟩ := h
              have := ih m _ y.1 y.2 (by omega) hx
              simp [this]
        · rw [entries_one he h5] at h
          cases hx : entries m (l.drop j) with
          | none => rw [hx] at h; cases h
          | some y =>
            rw [hx] at h
            simp only [Option.map_some, Option.some.injEq, Prod.mk.injEq] at h
            obtain ⟨rfl, rfl⟩ := h
            have := ih m _ y.1 y.2 (by omega) hx
            simp [this]
end Go.Proofs.YtdhalpmgfmbcgaaDoor
namespace Go.Proofs.YtdhalpmgfmbcgaaDoor
open Go.RowKit

/-- The slice with address A and length n reads as the entries ps, in blocks ahead of B. -/
def RdC (w : World) (B : Nat) (A : Option Addr) (n : Nat) (ps : List Cst) : Prop :=
  ps.length = n ∧ (0 < n → ∃ g o, A = some ⟨g, o, none⟩ ∧ g < B ∧ ∀ j u, (ccells ps)[j]? = some u → w.cell? ⟨g, o + j, none⟩ = some u)
section
variable {w w' : World} {B : Nat} {A : Option Addr} {n : Nat} {ps : List Cst}
theorem RdC.below (h : RdC w B A n ps) (hb : Below B w w') : RdC w' B A n ps :=
  ⟨h.1, fun hn => by
    obtain ⟨g, o, ha, hg, hc⟩ := h.2 hn
    exact ⟨g, o, ha, hg, fun j u hu => by rw [hb.cell (p := ⟨g, o + j, none⟩) hg]; exact hc j u hu⟩⟩
theorem RdC.mono {B' : Nat} (h : RdC w B A n ps) (hB : B ≤ B') : RdC w B' A n ps :=
  ⟨h.1, fun hn => by
    obtain ⟨g, o, ha, hg, hc⟩ := h.2 hn
    exact ⟨g, o, ha, by omega, hc⟩⟩
theorem RdC.drewN (h : RdC w B A n ps) (k : Nat) : RdC (w.drewN k) B A n ps := h
theorem RdC.cells5 (h : RdC w B A n ps) {j : Nat} (hj : j < n) : ∃ g o, A = some ⟨g, o, none⟩ ∧ g < B ∧
    w.cell? ⟨g, o + j * 5, none⟩ = some (.int .i64 (ps.getD j noC).tag) ∧ w.cell? ⟨g, o + j * 5 + 1, none⟩ = some (.string (strOfNums (ps.getD j noC).text)) ∧
    w.cell? ⟨g, o + j * 5 + 2, none⟩ = some (.int .i64 (ps.getD j noC).num) ∧ w.cell? ⟨g, o + j * 5 + 3, none⟩ = some (.int .i64 (ps.getD j noC).a) ∧ w.cell? ⟨g, o + j * 5 + 4, none⟩ = some (.int .i64 (ps.getD j noC).b) := by
  obtain ⟨g, o, ha, hg, hc⟩ := h.2 (by omega)
  have hl := h.1
  refine ⟨g, o, ha, hg, ?_, ?_, ?_, ?_, ?_⟩
  · exact hc _ _ (by have := ccells_at ps j 0 (by omega) (by omega); rw [Nat.add_zero] at this; rw [this]; rfl)
  · rw [Nat.add_assoc]; exact hc _ _ (by rw [ccells_at ps j 1 (by omega) (by omega)]; rfl)
  · rw [Nat.add_assoc]; exact hc _ _ (by rw [ccells_at ps j 2 (by omega) (by omega)]; rfl)
  · rw [Nat.add_assoc]; exact hc _ _ (by rw [ccells_at ps j 3 (by omega) (by omega)]; rfl)
  · rw [Nat.add_assoc]; exact hc _ _ (by rw [ccells_at ps j 4 (by omega) (by omega)]; rfl)
theorem atC_in (hl : ps.length = n) {j : Nat} (hj : j < n) : atC ps (j : Int) = ps.getD j noC := by
  unfold atC
  rw [if_pos (by omega), Int.toNat_natCast]
theorem atC_out (hl : ps.length = n) {i : Int} (h : i < 0 ∨ (n : Int) ≤ i) : atC ps i = noC := by
  unfold atC
  rw [if_neg (by omega)]
end
/-- A text, or none. -/
def textV : Option (List Int) → Value
  | some t => .tuple #[.string (strOfNums t), .bool true]
  | none => .tuple #[.string ⟨#[]⟩, .bool false]

theorem rtag_any (A : Option Addr) (n c : Nat) (ps : List Cst) (B : Nat) (i : Int) (w : World) (h : RdC w B A n ps) :
    Calls Tryd.prog 27 #[.slice A n c, .int .i64 i] w fun e w' => e = .returned (.int .i64 (atC ps i).tag) ∧ w = w' := by
  by_cases hi : 0 ≤ i ∧ i < (n : Int)
  · obtain ⟨j, rfl⟩ : ∃ j : Nat, i = j := ⟨i.toNat, by omega⟩
    have hj : j < n := by omega
    have hji : (j : Int) < (n : Int) := hi.2
    obtain ⟨g, o, rfl, _, c0, _⟩ := h.cells5 hj
    rw [atC_in h.1 hj]
    generalize (ps.getD j noC).tag = t at *
    clear h hi
    go_enter Tryd.func27, Tryd.ntmps27
    go_wp2_with fail
    go_ret
    exact ⟨rfl, rfl⟩
  · rw [atC_out h.1 (by omega)]
    clear h
    rcases (by omega : i < 0 ∨ (0 ≤ i ∧ (n : Int) ≤ i)) with h1 | ⟨h1, h2⟩
    all_goals
      clear hi
      go_enter Tryd.func27, Tryd.ntmps27
      go_wp2_with fail
      go_ret
      exact ⟨rfl, rfl⟩

theorem rtext5_any (A : Option Addr) (n c : Nat) (ps : List Cst) (B : Nat) (i : Int) (w : World) (h : RdC w B A n ps) :
    Calls Tryd.prog 14 #[.slice A n c, .int .i64 i] w fun e w' => e = .returned (textV (textAt ps i)) ∧ w = w' := by
  have HT := hide (rtag_any A n c ps B i w h)
  by_cases ht : (atC ps i).tag = 1
  · have hv : textV (textAt ps i) = .tuple #[.string (strOfNums (atC ps i).text), .bool true] := by unfold textAt; rw [if_pos ht]; rfl
    rw [hv]
    have hi : 0 ≤ i ∧ i < (n : Int) := by
      rcases Int.lt_or_le i 0 with h1 | h1
      · rw [atC_out h.1 (.inl h1)] at ht; cases ht
      · rcases Int.lt_or_le i n with h2 | h2
        · exact ⟨h1, h2⟩
        · rw [atC_out h.1 (.inr h2)] at ht; cases ht
    obtain ⟨j, rfl⟩ : ∃ j : Nat, i = j := ⟨i.toNat, by omega⟩
    have hj : j < n := by omega
    have hji : (j : Int) < (n : Int) := hi.2
    obtain ⟨g, o, rfl, _, _, c1, _⟩ := h.cells5 hj
    rw [ht] at HT
    rw [atC_in h.1 hj]
    generalize strOfNums (ps.getD j noC).text = t at *
    clear h hi ht hv
    go_enter Tryd.func14, Tryd.ntmps14
    go_wp2_with fail
    refine HT.out.mono ?_
    rintro e w1 ⟨rfl, rfl⟩
    go_wp2_with fail
    go_ret2
    exact ⟨rfl, rfl⟩
  · have hv : textV (textAt ps i) = .tuple #[.string ⟨#[]⟩, .bool false] := by unfold textAt; rw [if_neg ht]; rfl
    rw [hv]
    have hb : ((atC ps i).tag != 1) = true := by simpa using ht
    generalize (atC ps i).tag = t at *
    clear h ht hv
    go_enter Tryd.func14, Tryd.ntmps14
    go_wp2_with fail
    refine HT.out.mono ?_
    rintro e w1 ⟨rfl, rfl⟩
    go_wp2_with fail
    go_ret2
    exact ⟨rfl, rfl⟩

theorem rclass5_any (A : Option Addr) (n c : Nat) (ps : List Cst) (B : Nat) (i : Int) (w : World) (h : RdC w B A n ps) :
    Calls Tryd.prog 16 #[.slice A n c, .int .i64 i] w fun e w' => e = .returned (textV (classAt ps i)) ∧ w = w' := by
  have HT := hide (rtag_any A n c ps B i w h)
  by_cases ht : (atC ps i).tag = 7
  · have hv : classAt ps i = textAt ps (atC ps i).a := if_pos ht
    rw [hv]
    have hi : 0 ≤ i ∧ i < (n : Int) := by
      rcases Int.lt_or_le i 0 with h1 | h1
      · rw [atC_out h.1 (.inl h1)] at ht; cases ht
      · rcases Int.lt_or_le i n with h2 | h2
        · exact ⟨h1, h2⟩
        · rw [atC_out h.1 (.inr h2)] at ht; cases ht
    obtain ⟨j, rfl⟩ : ∃ j : Nat, i = j := ⟨i.toNat, by omega⟩
    have hj : j < n := by omega
    have hji : (j : Int) < (n : Int) := hi.2
    have HX := hide (fun x => rtext5_any A n c ps B x w h)
    obtain ⟨g, o, rfl, _, _, _, _, c3, _⟩ := h.cells5 hj
    rw [ht] at HT
    rw [atC_in h.1 hj]
    generalize (ps.getD j noC).a = x at *
    have HX1 := hide (HX.out x)
    obtain ⟨t, b, htv⟩ : ∃ t b, textV (textAt ps x) = .tuple #[.string t, .bool b] := by
      cases textAt ps x with
      | none => exact ⟨_, _, rfl⟩
      | some t => exact ⟨_, _, rfl⟩
    rw [htv] at HX1 ⊢
    clear h hi ht hv HX htv
    go_enter Tryd.func16, Tryd.ntmps16
    go_wp2_with fail
    refine HT.out.mono ?_
    rintro e w1 ⟨rfl, rfl⟩
    go_wp2_with fail
    refine HX1.out.mono ?_
    rintro e w1 ⟨rfl, rfl⟩
    go_wp2_with fail
    go_ret2
    exact ⟨rfl, rfl⟩
  · have hv : classAt ps i = none := if_neg ht
    rw [hv]
    have hb : ((atC ps i).tag != 7) = true := by simpa using ht
    generalize (atC ps i).tag = t at *
    clear h ht hv
    go_enter Tryd.func16, Tryd.ntmps16
    go_wp2_with fail
    refine HT.out.mono ?_
    rintro e w1 ⟨rfl, rfl⟩
    go_wp2_with fail
    go_ret2
    exact ⟨rfl, rfl⟩

theorem textV_split (o : Option (List Int)) : (o = none ∧ textV o = .tuple #[.string ⟨#[]⟩, .bool false]) ∨ ∃ t, o = some t ∧ textV o = .tuple #[.string (strOfNums t), .bool true] := by
  cases o with
  | none => exact .inl ⟨rfl, rfl⟩
  | some t => exact .inr ⟨t, rfl, rfl⟩
/-- A member's class, name and descriptor, or none. -/
def memberV : Option (List Int × List Int × List Int) → Value
  | some (c, n, d) => .tuple #[.string (strOfNums c), .string (strOfNums n), .string (strOfNums d), .bool true]
  | none => .tuple #[.string ⟨#[]⟩, .string ⟨#[]⟩, .string ⟨#[]⟩, .bool false]
theorem tag_in {ps : List Cst} {n : Nat} {i : Int} (hl : ps.length = n) (h : (atC ps i).tag ≠ 0) : ∃ j : Nat, i = j ∧ j < n := by
  rcases Int.lt_or_le i 0 with h1 | h1
  · rw [atC_out hl (.inl h1)] at h; exact absurd rfl h
  · rcases Int.lt_or_le i n with h2 | h2
    · exact ⟨i.toNat, by omega, by omega⟩
    · rw [atC_out hl (.inr h2)] at h; exact absurd rfl h
theorem member_no {ps : List Cst} {i : Int} (h : ¬ ((atC ps i).tag = 9 ∨ (atC ps i).tag = 10 ∨ (atC ps i).tag = 11)) : memberAt ps i = none := if_neg h
theorem member_yes {ps : List Cst} {i : Int} (h : (atC ps i).tag = 9 ∨ (atC ps i).tag = 10 ∨ (atC ps i).tag = 11) : memberAt ps i =
    (classAt ps (atC ps i).a).bind fun c => if (atC ps (atC ps i).b).tag = 12 then (textAt ps (atC ps (atC ps i).b).a).bind fun n => (textAt ps (atC ps (atC ps i).b).b).map fun d => (c, n, d) else none := by
  unfold memberAt
  rw [if_pos h]
  cases classAt ps (atC ps i).a with
  | none => rfl
  | some c =>
    simp only [Option.bind_some]
    split
    · cases textAt ps (atC ps (atC ps i).b).a with
      | none => rfl
      | some n =>
        cases textAt ps (atC ps (atC ps i).b).b with
        | none => rfl
        | some d => rfl
    · rfl

set_option maxHeartbeats 4000000 in
set_option maxRecDepth 100000 in
theorem rmember5_any (A : Option Addr) (n c : Nat) (ps : List Cst) (B : Nat) (i : Int) (w : World) (h : RdC w B A n ps) (hB : B ≤ w.heap.size) :
    Calls Tryd.prog 18 #[.slice A n c, .int .i64 i] w fun e w' => e = .returned (memberV (memberAt ps i)) ∧ Below w.heap.size w w' := by
  have HT := hide (fun x W (hW : RdC W B A n ps) => rtag_any A n c ps B x W hW)
  have HX := hide (fun x W (hW : RdC W B A n ps) => rtext5_any A n c ps B x W hW)
  have HC := hide (fun x W (hW : RdC W B A n ps) => rclass5_any A n c ps B x W hW)
  have HR := hide h
  have HT1 := hide (HT.out i w h)
  obtain ⟨D, hD⟩ : ∃ D, memberV (memberAt ps i) = D := ⟨_, rfl⟩
  rw [hD]
  by_cases hk : (atC ps i).tag = 9 ∨ (atC ps i).tag = 10 ∨ (atC ps i).tag = 11
  · rw [member_yes hk] at hD
    obtain ⟨j, rfl, hj⟩ := tag_in h.1 (i := i) (by omega)
    have hji : (j : Int) < (n : Int) := by omega
    obtain ⟨g, o, rfl, hg, c0, _, _, c3, c4⟩ := h.cells5 hj
    rw [atC_in h.1 hj] at hD hk HT1
    generalize ps.getD j noC = x at *
    obtain ⟨xt, xx, xn, xa, xb⟩ := x
    simp only at hD hk HT1 c0 c3 c4
    have HC1 := hide (HC.out xa w h)
    have HT2 := hide (HT.out xb w h)
    have k1 : xt = 9 ∨ (xt ≠ 9 ∧ xt = 10) ∨ (xt ≠ 9 ∧ xt ≠ 10 ∧ xt = 11) := by omega
    clear HC h hk
    have kb : ((xt != 9) = false) ∨ ((xt != 9) = true ∧ (xt != 10) = false) ∨ ((xt != 9) = true ∧ (xt != 10) = true ∧ (xt != 11) = false) := by
      simp only [bne_eq_false_iff_eq, bne_iff_ne, ne_eq]; omega
    clear k1
    obtain ⟨cl, hcl⟩ : ∃ cl, classAt ps xa = cl := ⟨_, rfl⟩
    rw [hcl] at HC1 hD
    rcases textV_split cl with ⟨rfl, hv⟩ | ⟨ct, rfl, hv⟩
    · have HV : Hid (D = .tuple #[.string ⟨#[]⟩, .string ⟨#[]⟩, .string ⟨#[]⟩, .bool false]) := hide (by rw [← hD]; rfl)
      rw [hv] at HC1
      clear hD hv hcl HX HT HT2
      rcases kb with kb | ⟨kb, kb2⟩ | ⟨kb, kb2, kb3⟩
      all_goals
        go_enter Tryd.func18, Tryd.ntmps18
        go_wp2_with fail
        refine HT1.out.mono ?_
        rintro e w1 ⟨rfl, rfl⟩
        go_wp2_with fail
        refine HC1.out.mono ?_
        rintro e w1 ⟨rfl, rfl⟩
        go_wp2_with fail
        refine bodyPost_ret (v := .tuple #[.string ⟨#[]⟩, .string ⟨#[]⟩, .string ⟨#[]⟩, .bool false]) (by simp [results, Tryd.results18, go_sem]) rfl ⟨by rw [HV.out], Below.refl _ _⟩
    · rw [hv] at HC1
      rw [Option.bind_some] at hD
      by_cases h12 : (atC ps xb).tag = 12
      · rw [if_pos h12] at hD
        rw [h12] at HT2
        obtain ⟨j2, rfl, hj2⟩ := tag_in HR.out.1 (i := xb) (by omega)
        have hji2 : (j2 : Int) < (n : Int) := by omega
        obtain ⟨g', o', hg', _, e0, e1, e2, e3, e4⟩ := HR.out.cells5 hj2
        cases hg'
        rw [atC_in HR.out.1 hj2] at hD
        generalize ps.getD j2 noC = y at *
        obtain ⟨yt, yx, yn, ya, yb⟩ := y
        simp only at hD e0 e1 e2 e3 e4
        generalize strOfNums yx = yq at *
        have hR2 : RdC (w.alloc (.cells #[.int .i64 yt, .string yq, .int .i64 yn, .int .i64 ya, .int .i64 yb] 44)) B (some ⟨g, o, none⟩) n ps := HR.out.below ((Below.refl B w).alloc hB _)
        have HX1 := hide (HX.out ya _ hR2)
        have HX2 := hide (HX.out yb _ hR2)
        obtain ⟨cq, hcq⟩ : ∃ cq, strOfNums ct = cq := ⟨_, rfl⟩
        rw [hcq] at HC1
        obtain ⟨tn, htn⟩ : ∃ tn, textAt ps ya = tn := ⟨_, rfl⟩
        obtain ⟨td, htd⟩ : ∃ td, textAt ps yb = td := ⟨_, rfl⟩
        rw [htn] at HX1 hD
        rw [htd] at HX2 hD
        have HDD := hide hD
        clear hD hv hcl HX HT h12 hR2 htn htd
        rcases textV_split tn with ⟨rfl, hv1⟩ | ⟨nt, rfl, hv1⟩
        · have HV : Hid (D = .tuple #[.string ⟨#[]⟩, .string ⟨#[]⟩, .string ⟨#[]⟩, .bool false]) := hide (by rw [← HDD.out]; rfl)
          rw [hv1] at HX1
          obtain ⟨dq, db, hv2⟩ : ∃ dq db, textV td = .tuple #[.string dq, .bool db] := by
            rcases textV_split td with ⟨_, h⟩ | ⟨_, _, h⟩
            · exact ⟨_, _, h⟩
            · exact ⟨_, _, h⟩
          rw [hv2] at HX2
          clear hv1 hv2 HDD hcq
          rcases kb with kb | ⟨kb, kb2⟩ | ⟨kb, kb2, kb3⟩
          all_goals
            go_enter Tryd.func18, Tryd.ntmps18
            go_wp2_with fail
            refine HT1.out.mono ?_
            rintro e w1 ⟨rfl, rfl⟩
            go_wp2_with fail
            refine HC1.out.mono ?_
            rintro e w1 ⟨rfl, rfl⟩
            go_wp2_with fail
            refine HT2.out.mono ?_
            rintro e w1 ⟨rfl, rfl⟩
            go_wp2_with fail
            refine HX1.out.mono ?_
            rintro e w1 ⟨rfl, rfl⟩
            go_wp2_with fail
            refine HX2.out.mono ?_
            rintro e w1 ⟨rfl, rfl⟩
            go_wp2_with fail
            refine bodyPost_ret (v := .tuple #[.string ⟨#[]⟩, .string ⟨#[]⟩, .string ⟨#[]⟩, .bool false]) (by simp [results, Tryd.results18, go_sem]) rfl ⟨by rw [HV.out], (Below.refl _ _).alloc (Nat.le_refl _) _⟩
        · rw [hv1] at HX1
          rcases textV_split td with ⟨rfl, hv2⟩ | ⟨dt, rfl, hv2⟩
          · have HV : Hid (D = .tuple #[.string ⟨#[]⟩, .string ⟨#[]⟩, .string ⟨#[]⟩, .bool false]) := hide (by rw [← HDD.out]; rfl)
            rw [hv2] at HX2
            generalize strOfNums nt = nq at *
            clear hv1 hv2 HDD hcq
            rcases kb with kb | ⟨kb, kb2⟩ | ⟨kb, kb2, kb3⟩
            all_goals
              go_enter Tryd.func18, Tryd.ntmps18
              go_wp2_with fail
              refine HT1.out.mono ?_
              rintro e w1 ⟨rfl, rfl⟩
              go_wp2_with fail
              refine HC1.out.mono ?_
              rintro e w1 ⟨rfl, rfl⟩
              go_wp2_with fail
              refine HT2.out.mono ?_
              rintro e w1 ⟨rfl, rfl⟩
              go_wp2_with fail
              refine HX1.out.mono ?_
              rintro e w1 ⟨rfl, rfl⟩
              go_wp2_with fail
              refine HX2.out.mono ?_
              rintro e w1 ⟨rfl, rfl⟩
              go_wp2_with fail
              refine bodyPost_ret (v := .tuple #[.string ⟨#[]⟩, .string ⟨#[]⟩, .string ⟨#[]⟩, .bool false]) (by simp [results, Tryd.results18, go_sem]) rfl ⟨by rw [HV.out], (Below.refl _ _).alloc (Nat.le_refl _) _⟩
          · rw [hv2] at HX2
            obtain ⟨nq, hnq⟩ : ∃ nq, strOfNums nt = nq := ⟨_, rfl⟩
            obtain ⟨dq, hdq⟩ : ∃ dq, strOfNums dt = dq := ⟨_, rfl⟩
            have HV : Hid (D = .tuple #[.string (strOfNums ct), .string (strOfNums nt), .string (strOfNums dt), .bool true]) := hide (by rw [← HDD.out]; rfl)
            rw [hnq] at HX1
            rw [hdq] at HX2
            rw [hcq, hnq, hdq] at HV
            clear hv1 hv2 HDD hcq hnq hdq
            rcases kb with kb | ⟨kb, kb2⟩ | ⟨kb, kb2, kb3⟩
            all_goals
              go_enter Tryd.func18, Tryd.ntmps18
              go_wp2_with fail
              refine HT1.out.mono ?_
              rintro e w1 ⟨rfl, rfl⟩
              go_wp2_with fail
              refine HC1.out.mono ?_
              rintro e w1 ⟨rfl, rfl⟩
              go_wp2_with fail
              refine HT2.out.mono ?_
              rintro e w1 ⟨rfl, rfl⟩
              go_wp2_with fail
              refine HX1.out.mono ?_
              rintro e w1 ⟨rfl, rfl⟩
              go_wp2_with fail
              refine HX2.out.mono ?_
              rintro e w1 ⟨rfl, rfl⟩
              go_wp2_with fail
              refine bodyPost_ret (v := .tuple #[.string cq, .string nq, .string dq, .bool true]) (by simp [results, Tryd.results18, go_sem]) rfl ⟨by rw [HV.out], (Below.refl _ _).alloc (Nat.le_refl _) _⟩
      · have HV : Hid (D = .tuple #[.string ⟨#[]⟩, .string ⟨#[]⟩, .string ⟨#[]⟩, .bool false]) := hide (by rw [← hD, if_neg h12]; rfl)
        have b12 : ((atC ps xb).tag != 12) = true := by simpa using h12
        generalize (atC ps xb).tag = tb at *
        generalize strOfNums ct = cq at *
        clear hD hv hcl HX HT h12
        rcases kb with kb | ⟨kb, kb2⟩ | ⟨kb, kb2, kb3⟩
        all_goals
          go_enter Tryd.func18, Tryd.ntmps18
          go_wp2_with fail
          refine HT1.out.mono ?_
          rintro e w1 ⟨rfl, rfl⟩
          go_wp2_with fail
          refine HC1.out.mono ?_
          rintro e w1 ⟨rfl, rfl⟩
          go_wp2_with fail
          refine HT2.out.mono ?_
          rintro e w1 ⟨rfl, rfl⟩
          go_wp2_with fail
          refine bodyPost_ret (v := .tuple #[.string ⟨#[]⟩, .string ⟨#[]⟩, .string ⟨#[]⟩, .bool false]) (by simp [results, Tryd.results18, go_sem]) rfl ⟨by rw [HV.out], Below.refl _ _⟩
  · have HV : Hid (D = .tuple #[.string ⟨#[]⟩, .string ⟨#[]⟩, .string ⟨#[]⟩, .bool false]) := hide (by rw [← hD, member_no hk]; rfl)
    have b1 : ((atC ps i).tag != 9) = true := by simp; omega
    have b2 : ((atC ps i).tag != 10) = true := by simp; omega
    have b3 : ((atC ps i).tag != 11) = true := by simp; omega
    generalize (atC ps i).tag = t at *
    clear hD h hk HX HC HT
    go_enter Tryd.func18, Tryd.ntmps18
    go_wp2_with fail
    refine HT1.out.mono ?_
    rintro e w1 ⟨rfl, rfl⟩
    go_wp2_with fail
    refine bodyPost_ret (v := .tuple #[.string ⟨#[]⟩, .string ⟨#[]⟩, .string ⟨#[]⟩, .bool false]) (by simp [results, Tryd.results18, go_sem]) rfl ⟨by rw [HV.out], Below.refl _ _⟩
end Go.Proofs.YtdhalpmgfmbcgaaDoor
namespace Go.Proofs.YtdhalpmgfmbcgaaDoor
open Go.RowKit

theorem fieldV_form (o : Option Ty) : ∃ k q d x, fieldV o = .tuple #[.agg #[.int .u8 k, .string q, .int .i64 d, .int .u8 x], .bool o.isSome] ∧ (o = none → k = 0) ∧ ∀ t, o = some t → k = t.kind := by
  cases o with
  | none => exact ⟨0, _, _, _, rfl, fun _ => rfl, fun t h => (by cases h)⟩
  | some t => exact ⟨t.kind, _, _, _, rfl, fun h => (by cases h), fun u h => (by cases h; rfl)⟩
theorem sigTold_form {o : Option (List Ty × Ty)} {w w' : World} {e : Ending} (h : SigTold o w e w') :
    ∃ A n c k q d x, e = .returned (.tuple #[.slice A n c, .agg #[.int .u8 k, .string q, .int .i64 d, .int .u8 x], .bool o.isSome]) ∧ Below w.heap.size w w' ∧ (o = none → k = 0) ∧ ∀ ts t, o = some (ts, t) → k = t.kind := by
  obtain ⟨hb, ⟨rfl, rfl⟩ | ⟨ts, t, A, c, rfl, rfl, _⟩⟩ := h
  · exact ⟨none, 0, 0, 0, _, _, _, rfl, hb, fun _ => rfl, fun _ _ h => (by cases h)⟩
  · exact ⟨A, _, c, t.kind, _, _, _, rfl, hb, fun h => (by cases h), fun _ _ h => (by cases h; rfl)⟩

set_option maxRecDepth 100000 in
theorem rarray_any (s : ByteArray) (w : World) (hm : s.size ≤ 1000000) : Calls Tryd.prog 36 #[.string s] w (Tells (arrB (nums s)) w) := by
  have HF := hide (rfield_any s w hm)
  obtain ⟨k, q, d, x, hv, h0, h1⟩ := fieldV_form (field (nums s))
  rw [hv] at HF
  have hD : arrB (nums s) = ((field (nums s)).isSome && (k == 91)) := by
    unfold arrB
    cases hf : field (nums s) with
    | none => rfl
    | some t => rw [h1 t hf]; rfl
  rw [hD]
  clear hv hD h0 h1
  generalize (field (nums s)).isSome = b at *
  cases b
  · go_enter Tryd.func36, Tryd.ntmps36
    go_wp2_with fail
    refine HF.out.mono ?_
    rintro e w2 ⟨rfl, hb2⟩
    have HB2 := hide hb2
    clear hb2
    have hz2 := HB2.out.size
    go_wp2_with fail
    go_ret
    exact ⟨rfl, HB2.out.alloc hz2 _⟩
  · go_enter Tryd.func36, Tryd.ntmps36
    go_wp2_with fail
    refine HF.out.mono ?_
    rintro e w2 ⟨rfl, hb2⟩
    have HB2 := hide hb2
    clear hb2
    have hz2 := HB2.out.size
    go_wp2_with fail
    go_ret
    exact ⟨rfl, HB2.out.alloc hz2 _⟩

/-- The texts of entries are bytes, and not too long. -/
def CWf (ps : List Cst) : Prop := ∀ x ∈ ps, IsBytes x.text ∧ x.text.length ≤ 100000
theorem atC_wf {ps : List Cst} (h : CWf ps) (i : Int) : IsBytes (atC ps i).text ∧ (atC ps i).text.length ≤ 100000 := by
  unfold atC
  split
  · rename_i hi
    have hj : i.toNat < ps.length := by omega
    have : ps.getD i.toNat noC = ps[i.toNat] := by simp [List.getD, hj]
    rw [this]
    exact h _ (List.getElem_mem hj)
  · exact ⟨fun x hx => (by cases hx), Nat.zero_le _⟩
theorem textAt_wf {ps : List Cst} (h : CWf ps) {i : Int} {t : List Int} (ht : textAt ps i = some t) : IsBytes t ∧ t.length ≤ 100000 := by
  unfold textAt at ht
  split at ht
  · cases ht; exact atC_wf h i
  · cases ht
/-- A text as a string: its numbers, its size. -/
theorem str_wf {t : List Int} (h : IsBytes t ∧ t.length ≤ 100000) : nums (strOfNums t) = t ∧ (strOfNums t).size ≤ 100000 := ⟨nums_of t h.1, by rw [strOfNums_size]; exact h.2⟩
def sI : ByteArray := ⟨#[60, 105, 110, 105, 116, 62]⟩
def sC : ByteArray := ⟨#[60, 99, 108, 105, 110, 105, 116, 62]⟩

theorem holds_1 {ps : List Cst} {i : Int} (h : (atC ps i).tag = 1) : holdsAt ps i = (dec (atC ps i).text).isSome := by unfold holdsAt; simp only; rw [if_pos h]
theorem holds_7 {ps : List Cst} {i : Int} (h : (atC ps i).tag = 7) : holdsAt ps i = match textAt ps (atC ps i).a with | some s => classB s || arrB s | none => false := by
  unfold holdsAt; simp only; rw [if_neg (by omega), if_pos h]
  all_goals (cases textAt ps (atC ps i).a <;> rfl)
theorem holds_8 {ps : List Cst} {i : Int} (h : (atC ps i).tag = 8) : holdsAt ps i = ((atC ps (atC ps i).a).tag == 1) := by
  unfold holdsAt; simp only; rw [if_neg (by omega), if_neg (by omega), if_pos h]

set_option maxHeartbeats 4000000 in
set_option maxRecDepth 100000 in
theorem rentry_1 (g o : Nat) (n c : Nat) (ps : List Cst) (B : Nat) (j : Nat) (w : World) (h : RdC w B (some ⟨g, o, none⟩) n ps) (hwf : CWf ps) (hj : j < n) (ht : (atC ps j).tag = 1 ∨ (atC ps j).tag = 7 ∨ (atC ps j).tag = 8) :
    Calls Tryd.prog 25 #[.slice (some ⟨g, o, none⟩) n c, .int .i64 j] w (Tells (holdsAt ps j) w) := by
  have HT := hide (fun x W (hW : RdC W B (some ⟨g, o, none⟩) n ps) => rtag_any (some ⟨g, o, none⟩) n c ps B x W hW)
  have HX := hide (fun x W (hW : RdC W B (some ⟨g, o, none⟩) n ps) => rtext5_any (some ⟨g, o, none⟩) n c ps B x W hW)
  have HR := hide h
  have hji : (j : Int) < (n : Int) := by omega
  obtain ⟨g', o', hg', hg, c0, c1, _, c3, _⟩ := h.cells5 hj
  cases hg'
  have hwj := atC_wf hwf j
  obtain ⟨D, hD⟩ : ∃ D, holdsAt ps j = D := ⟨_, rfl⟩
  rw [hD]
  rcases ht with ht | ht | ht
  · rw [holds_1 ht, atC_in h.1 hj] at hD
    rw [atC_in h.1 hj] at ht hwj
    obtain ⟨s1, s2⟩ := str_wf hwj
    generalize ps.getD j noC = x at *
    have HD := hide (rdecode_any (strOfNums x.text) w (by omega))
    rw [s1] at HD
    have e1 : (x.tag == 1) = true := by simp [ht]
    generalize strOfNums x.text = q at *
    generalize x.tag = tg at *
    clear h HT HX hwf s1 s2 ht hwj
    go_enter Tryd.func25, Tryd.ntmps25
    go_wp2_with fail
    refine HD.out.mono ?_
    rintro e w2 ⟨hb2, ⟨h, rfl⟩ | ⟨u, v, h, rfl, _⟩⟩
    · have HV : Hid (D = false) := hide (by rw [← hD, h]; rfl)
      have HB2 := hide hb2
      clear hb2 h hD
      go_wp2_with fail
      go_ret
      exact ⟨ret_bool HV.out.symm, HB2.out⟩
    · have HV : Hid (D = true) := hide (by rw [← hD, h]; rfl)
      have HB2 := hide hb2
      clear hb2 h hD
      go_wp2_with fail
      go_ret
      exact ⟨ret_bool HV.out.symm, HB2.out⟩
  · rw [holds_7 ht, atC_in h.1 hj] at hD
    rw [atC_in h.1 hj] at ht
    generalize ps.getD j noC = x at *
    have e1 : (x.tag == 1) = false := by simp [ht]
    have e7 : (x.tag == 7) = true := by simp [ht]
    have HX1 := hide (HX.out x.a w h)
    obtain ⟨tx, htx⟩ : ∃ tx, textAt ps x.a = tx := ⟨_, rfl⟩
    have htw := fun t (ht : tx = some t) => textAt_wf hwf (htx.trans ht)
    rw [htx] at HX1 hD
    generalize x.a = xa at *
    generalize x.tag = tg at *
    clear h HT HX hwf ht hwj htx
    rcases textV_split tx with ⟨rfl, hv⟩ | ⟨t, rfl, hv⟩
    · have HV : Hid (D = false) := hide hD.symm
      rw [hv] at HX1
      clear hD hv htw
      go_enter Tryd.func25, Tryd.ntmps25
      go_wp2_with fail
      refine HX1.out.mono ?_
      rintro e w1 ⟨rfl, rfl⟩
      go_wp2_with fail
      go_ret
      exact ⟨ret_bool HV.out.symm, Below.refl _ _⟩
    · obtain ⟨s1, s2⟩ := str_wf (htw t rfl)
      rw [hv] at HX1
      have HK := hide (rclass_any (strOfNums t) w (by omega))
      have HA := hide (fun W => rarray_any (strOfNums t) W (by omega))
      rw [s1] at HK HA
      have hD2 : (classB t || arrB t) = D := hD
      generalize strOfNums t = q at *
      generalize classB t = cb at *
      generalize arrB t = ab at *
      clear hD hv htw s1 s2
      cases cb
      · have HV : Hid (D = ab) := hide (by rw [← hD2]; rfl)
        clear hD2
        go_enter Tryd.func25, Tryd.ntmps25
        go_wp2_with fail
        refine HX1.out.mono ?_
        rintro e w1 ⟨rfl, rfl⟩
        go_wp2_with fail
        refine HK.out.mono ?_
        rintro e w2 ⟨rfl, hb2⟩
        have HB2 := hide hb2
        clear hb2
        go_wp2_with fail
        refine (HA.out _).mono ?_
        rintro e w3 ⟨rfl, hb3⟩
        have HB3 := hide (HB2.out.trans (hb3.mono HB2.out.size))
        clear hb3
        go_wp2_with fail
        go_ret
        exact ⟨ret_bool HV.out.symm, HB3.out⟩
      · have HV : Hid (D = true) := hide (by rw [← hD2]; rfl)
        clear hD2
        go_enter Tryd.func25, Tryd.ntmps25
        go_wp2_with fail
        refine HX1.out.mono ?_
        rintro e w1 ⟨rfl, rfl⟩
        go_wp2_with fail
        refine HK.out.mono ?_
        rintro e w2 ⟨rfl, hb2⟩
        have HB2 := hide hb2
        clear hb2
        go_wp2_with fail
        go_ret
        exact ⟨ret_bool HV.out.symm, HB2.out⟩
  · rw [holds_8 ht, atC_in h.1 hj] at hD
    rw [atC_in h.1 hj] at ht
    generalize ps.getD j noC = x at *
    have e1 : (x.tag == 1) = false := by simp [ht]
    have e7 : (x.tag == 7) = false := by simp [ht]
    have e8 : (x.tag == 8) = true := by simp [ht]
    have HT1 := hide (HT.out x.a w h)
    generalize x.a = xa at *
    generalize (atC ps xa).tag = ta at *
    generalize x.tag = tg at *
    have HV := hide hD
    clear h HT HX hwf ht hwj hD
    go_enter Tryd.func25, Tryd.ntmps25
    go_wp2_with fail
    refine HT1.out.mono ?_
    rintro e w1 ⟨rfl, rfl⟩
    go_wp2_with fail
    go_ret
    exact ⟨ret_bool HV.out, Below.refl _ _⟩
end Go.Proofs.YtdhalpmgfmbcgaaDoor
namespace Go.Proofs.YtdhalpmgfmbcgaaDoor
open Go.RowKit

theorem holds_12 {ps : List Cst} {i : Int} (h : (atC ps i).tag = 12) : holdsAt ps i = match textAt ps (atC ps i).a, textAt ps (atC ps i).b with
    | some n, some d => (plainB n || n == nInit) && ((field d).isSome || (sig d).isSome)
    | _, _ => false := by
  unfold holdsAt; simp only; rw [if_neg (by omega), if_neg (by omega), if_neg (by omega), if_pos h]
  all_goals (cases textAt ps (atC ps i).a <;> cases textAt ps (atC ps i).b <;> rfl)
theorem holds_else {ps : List Cst} {i : Int} (h : (atC ps i).tag ≠ 1 ∧ (atC ps i).tag ≠ 7 ∧ (atC ps i).tag ≠ 8 ∧ (atC ps i).tag ≠ 12 ∧ (atC ps i).tag ≠ 9 ∧ (atC ps i).tag ≠ 10 ∧ (atC ps i).tag ≠ 11) : holdsAt ps i = true := by
  unfold holdsAt; simp only; rw [if_neg (by omega), if_neg (by omega), if_neg (by omega), if_neg (by omega), if_neg (by omega)]
theorem holds_9 {ps : List Cst} {i : Int} (h : (atC ps i).tag = 9 ∨ (atC ps i).tag = 10 ∨ (atC ps i).tag = 11) : holdsAt ps i = match memberAt ps i with
    | some (_, n, d) =>
      if (field d).isSome == ((atC ps i).tag == 9) then
        if n = nInit then (atC ps i).tag == 10 && (match sig d with | some (_, t) => t.kind == 86 | none => false)
        else (atC ps i).tag == 9 || (methodB n && n != nClinit)
      else false
    | none => false := by
  unfold holdsAt; simp only; rw [if_neg (by omega), if_neg (by omega), if_neg (by omega), if_neg (by omega), if_pos h]
  all_goals (cases memberAt ps i <;> rfl)
theorem init_iff {t : List Int} (h : nums (strOfNums t) = t) : t = nInit ↔ strOfNums t = sI := by
  constructor
  · rintro rfl; apply nums_inj; rw [h]; rfl
  · intro e; rw [← h, e]; rfl
theorem clinit_iff {t : List Int} (h : nums (strOfNums t) = t) : t = nClinit ↔ strOfNums t = sC := by
  constructor
  · rintro rfl; apply nums_inj; rw [h]; rfl
  · intro e; rw [← h, e]; rfl
/-- A string that is known or not, in the walk's two forms. -/
theorem lit_yes {q : ByteArray} {l : List UInt8} (h : q = ⟨l.toArray⟩) : q.toList = l ∧ (q.toList == l) = true := by
  subst h
  have : (⟨l.toArray⟩ : ByteArray).toList = l := by rw [Lib.toList_data]
  exact ⟨this, by rw [this]; simp⟩

set_option maxHeartbeats 4000000 in
set_option maxRecDepth 100000 in
theorem rentry_0 (g o : Nat) (n c : Nat) (ps : List Cst) (B : Nat) (j : Nat) (w : World) (h : RdC w B (some ⟨g, o, none⟩) n ps) (hj : j < n)
    (ht : (atC ps j).tag ≠ 1 ∧ (atC ps j).tag ≠ 7 ∧ (atC ps j).tag ≠ 8 ∧ (atC ps j).tag ≠ 12 ∧ (atC ps j).tag ≠ 9 ∧ (atC ps j).tag ≠ 10 ∧ (atC ps j).tag ≠ 11) :
    Calls Tryd.prog 25 #[.slice (some ⟨g, o, none⟩) n c, .int .i64 j] w (Tells (holdsAt ps j) w) := by
  have hji : (j : Int) < (n : Int) := by omega
  obtain ⟨g', o', hg', hg, c0, _⟩ := h.cells5 hj
  cases hg'
  rw [holds_else ht]
  rw [atC_in h.1 hj] at ht
  generalize (ps.getD j noC).tag = tg at *
  have e1 : (tg == 1) = false := by simp; omega
  have e7 : (tg == 7) = false := by simp; omega
  have e8 : (tg == 8) = false := by simp; omega
  have e12 : (tg == 12) = false := by simp; omega
  have e9 : (tg == 9) = false := by simp; omega
  have e10 : (tg == 10) = false := by simp; omega
  have e11 : (tg == 11) = false := by simp; omega
  clear h ht
  go_enter Tryd.func25, Tryd.ntmps25
  go_wp2_with fail
  go_ret
  exact ⟨rfl, Below.refl _ _⟩

set_option maxHeartbeats 8000000 in
set_option maxRecDepth 100000 in
theorem rentry_12 (g o : Nat) (n c : Nat) (ps : List Cst) (B : Nat) (j : Nat) (w : World) (h : RdC w B (some ⟨g, o, none⟩) n ps) (hwf : CWf ps) (hj : j < n) (ht : (atC ps j).tag = 12) :
    Calls Tryd.prog 25 #[.slice (some ⟨g, o, none⟩) n c, .int .i64 j] w (Tells (holdsAt ps j) w) := by
  have HX := hide (fun x W (hW : RdC W B (some ⟨g, o, none⟩) n ps) => rtext5_any (some ⟨g, o, none⟩) n c ps B x W hW)
  have hji : (j : Int) < (n : Int) := by omega
  obtain ⟨g', o', hg', hg, c0, _, _, c3, c4⟩ := h.cells5 hj
  cases hg'
  obtain ⟨D, hD⟩ : ∃ D, holdsAt ps j = D := ⟨_, rfl⟩
  rw [hD]
  rw [holds_12 ht, atC_in h.1 hj] at hD
  rw [atC_in h.1 hj] at ht
  generalize ps.getD j noC = x at *
  have e1 : (x.tag == 1) = false := by simp [ht]
  have e7 : (x.tag == 7) = false := by simp [ht]
  have e8 : (x.tag == 8) = false := by simp [ht]
  have e12 : (x.tag == 12) = true := by simp [ht]
  have HX1 := hide (HX.out x.a w h)
  have HX2 := hide (HX.out x.b w h)
  obtain ⟨tn, htn⟩ : ∃ tn, textAt ps x.a = tn := ⟨_, rfl⟩
  obtain ⟨td, htd⟩ : ∃ td, textAt ps x.b = td := ⟨_, rfl⟩
  have hnw := fun t (h : tn = some t) => textAt_wf hwf (htn.trans h)
  have hdw := fun t (h : td = some t) => textAt_wf hwf (htd.trans h)
  rw [htn] at HX1 hD
  rw [htd] at HX2 hD
  generalize x.a = xa at *
  generalize x.b = xb at *
  generalize x.tag = tg at *
  clear h HX hwf ht htn htd
  obtain ⟨dq, db, dl, hv2, hdl, hds, hdd⟩ : ∃ dq db dl, textV td = .tuple #[.string dq, .bool db] ∧ nums dq = dl ∧ dq.size ≤ 100000 ∧ ((td = none ∧ db = false) ∨ (td = some dl ∧ db = true)) := by
    rcases textV_split td with ⟨h, hv⟩ | ⟨t, h, hv⟩
    · exact ⟨_, _, [], hv, rfl, Nat.zero_le _, .inl ⟨h, rfl⟩⟩
    · obtain ⟨s1, s2⟩ := str_wf (hdw t h)
      exact ⟨_, _, t, hv, s1, s2, .inr ⟨h, rfl⟩⟩
  rw [hv2] at HX2
  have HF := hide (rfield_any dq w (by omega))
  have HS := hide (fun W => rsig_any dq W (by omega))
  rw [hdl] at HF HS
  obtain ⟨fk, fq, fd, fx, hfv, _, _⟩ := fieldV_form (field dl)
  rw [hfv] at HF
  have HFM : Hid (∀ W, Calls Tryd.prog 38 #[.string dq] W fun e w' => ∃ A n c k q d x, e = .returned (.tuple #[.slice A n c, .agg #[.int .u8 k, .string q, .int .i64 d, .int .u8 x], .bool (sig dl).isSome]) ∧ Below W.heap.size W w') := hide fun W => (HS.out W).mono fun e w' hh => by
    obtain ⟨A, n, c, k, q, d, x, h1, h2, _⟩ := sigTold_form hh
    exact ⟨A, n, c, k, q, d, x, h1, h2⟩
  clear hv2 hfv hdw hdl hds HS
  obtain ⟨fb, hfb⟩ : ∃ fb, (field dl).isSome = fb := ⟨_, rfl⟩
  obtain ⟨mb, hmb⟩ : ∃ mb, (sig dl).isSome = mb := ⟨_, rfl⟩
  rw [hfb] at HF
  rw [hmb] at HFM
  rcases textV_split tn with ⟨rfl, hv1⟩ | ⟨nt, rfl, hv1⟩
  · have HV : Hid (D = false) := hide hD.symm
    rw [hv1] at HX1
    clear hD hv1 hnw hdd hfb hmb
    go_enter Tryd.func25, Tryd.ntmps25
    go_wp2_with fail
    refine HX1.out.mono ?_
    rintro e w1 ⟨rfl, rfl⟩
    go_wp2_with fail
    refine HX2.out.mono ?_
    rintro e w1 ⟨rfl, rfl⟩
    go_wp2_with fail
    refine HF.out.mono ?_
    rintro e w2 ⟨rfl, hb2⟩
    have B2 := hide (hb2.alloc hb2.size (.cells #[.int .u8 fk, .string fq, .int .i64 fd, .int .u8 fx] 73))
    clear hb2
    go_wp2_with fail
    refine (HFM.out _).mono ?_
    rintro e w3 ⟨A, n3, c3', k3, q3, d3, x3, rfl, hb3⟩
    have B3 := hide ((B2.out.trans (hb3.mono B2.out.size)).alloc (by have := hb3.size; have := B2.out.size; omega) (.cells #[.int .u8 k3, .string q3, .int .i64 d3, .int .u8 x3] 73))
    clear hb3
    go_wp2_with fail
    go_ret
    exact ⟨ret_bool HV.out.symm, B3.out⟩
  · rw [hv1] at HX1
    rcases hdd with ⟨rfl, rfl⟩ | ⟨rfl, rfl⟩
    · have HV : Hid (D = false) := hide hD.symm
      generalize strOfNums nt = nq at *
      clear hD hv1 hnw hfb hmb
      go_enter Tryd.func25, Tryd.ntmps25
      go_wp2_with fail
      refine HX1.out.mono ?_
      rintro e w1 ⟨rfl, rfl⟩
      go_wp2_with fail
      refine HX2.out.mono ?_
      rintro e w1 ⟨rfl, rfl⟩
      go_wp2_with fail
      refine HF.out.mono ?_
      rintro e w2 ⟨rfl, hb2⟩
      have B2 := hide (hb2.alloc hb2.size (.cells #[.int .u8 fk, .string fq, .int .i64 fd, .int .u8 fx] 73))
      clear hb2
      go_wp2_with fail
      refine (HFM.out _).mono ?_
      rintro e w3 ⟨A, n3, c3', k3, q3, d3, x3, rfl, hb3⟩
      have B3 := hide ((B2.out.trans (hb3.mono B2.out.size)).alloc (by have := hb3.size; have := B2.out.size; omega) (.cells #[.int .u8 k3, .string q3, .int .i64 d3, .int .u8 x3] 73))
      clear hb3
      go_wp2_with fail
      go_ret
      exact ⟨ret_bool HV.out.symm, B3.out⟩
    · obtain ⟨s1, s2⟩ := str_wf (hnw nt rfl)
      have hD2 : ((plainB nt || nt == nInit) && (fb || mb)) = D := by rw [← hfb, ← hmb]; exact hD
      have HP := hide (fun W => rplain_any (strOfNums nt) W (by omega))
      rw [s1] at HP
      have hin := init_iff s1
      generalize strOfNums nt = nq at *
      clear hD hv1 hnw s1 s2 hfb hmb
      cases hpb : plainB nt
      · rw [hpb] at HP hD2
        by_cases hi : nq = sI
        · have hn : (nt == nInit) = true := by simpa using hin.2 hi
          obtain ⟨l1, l2⟩ := lit_yes (l := [60, 105, 110, 105, 116, 62]) hi
          rw [hn] at hD2
          have HDD := hide hD2
          clear hi hin hn hpb hD2
          cases fb
          · cases mb
            · have HV : Hid (D = false) := hide (by rw [← HDD.out]; rfl)
              go_enter Tryd.func25, Tryd.ntmps25
              go_wp2_with fail
              refine HX1.out.mono ?_
              rintro e w1 ⟨rfl, rfl⟩
              go_wp2_with fail
              refine HX2.out.mono ?_
              rintro e w1 ⟨rfl, rfl⟩
              go_wp2_with fail
              refine HF.out.mono ?_
              rintro e w2 ⟨rfl, hb2⟩
              have B2 := hide (hb2.alloc hb2.size (.cells #[.int .u8 fk, .string fq, .int .i64 fd, .int .u8 fx] 73))
              clear hb2
              go_wp2_with fail
              refine (HFM.out _).mono ?_
              rintro e w3 ⟨A, n3, c3', k3, q3, d3, x3, rfl, hb3⟩
              have B3 := hide ((B2.out.trans (hb3.mono B2.out.size)).alloc (by have := hb3.size; have := B2.out.size; omega) (.cells #[.int .u8 k3, .string q3, .int .i64 d3, .int .u8 x3] 73))
              clear hb3
              go_wp2_with fail
              refine (HP.out _).mono ?_
              rintro e w4 ⟨rfl, hb4⟩
              have B4 := hide (B3.out.trans (hb4.mono B3.out.size))
              clear hb4
              go_wp2_with fail
              go_ret
              exact ⟨ret_bool HV.out.symm, B4.out⟩
            · have HV : Hid (D = true) := hide (by rw [← HDD.out]; rfl)
              go_enter Tryd.func25, Tryd.ntmps25
              go_wp2_with fail
              refine HX1.out.mono ?_
              rintro e w1 ⟨rfl, rfl⟩
              go_wp2_with fail
              refine HX2.out.mono ?_
              rintro e w1 ⟨rfl, rfl⟩
              go_wp2_with fail
              refine HF.out.mono ?_
              rintro e w2 ⟨rfl, hb2⟩
              have B2 := hide (hb2.alloc hb2.size (.cells #[.int .u8 fk, .string fq, .int .i64 fd, .int .u8 fx] 73))
              clear hb2
              go_wp2_with fail
              refine (HFM.out _).mono ?_
              rintro e w3 ⟨A, n3, c3', k3, q3, d3, x3, rfl, hb3⟩
              have B3 := hide ((B2.out.trans (hb3.mono B2.out.size)).alloc (by have := hb3.size; have := B2.out.size; omega) (.cells #[.int .u8 k3, .string q3, .int .i64 d3, .int .u8 x3] 73))
              clear hb3
              go_wp2_with fail
              refine (HP.out _).mono ?_
              rintro e w4 ⟨rfl, hb4⟩
              have B4 := hide (B3.out.trans (hb4.mono B3.out.size))
              clear hb4
              go_wp2_with fail
              go_ret
              exact ⟨ret_bool HV.out.symm, B4.out⟩
          · have HV : Hid (D = true) := hide (by rw [← HDD.out]; rfl)
            go_enter Tryd.func25, Tryd.ntmps25
            go_wp2_with fail
            refine HX1.out.mono ?_
            rintro e w1 ⟨rfl, rfl⟩
            go_wp2_with fail
            refine HX2.out.mono ?_
            rintro e w1 ⟨rfl, rfl⟩
            go_wp2_with fail
            refine HF.out.mono ?_
            rintro e w2 ⟨rfl, hb2⟩
            have B2 := hide (hb2.alloc hb2.size (.cells #[.int .u8 fk, .string fq, .int .i64 fd, .int .u8 fx] 73))
            clear hb2
            go_wp2_with fail
            refine (HFM.out _).mono ?_
            rintro e w3 ⟨A, n3, c3', k3, q3, d3, x3, rfl, hb3⟩
            have B3 := hide ((B2.out.trans (hb3.mono B2.out.size)).alloc (by have := hb3.size; have := B2.out.size; omega) (.cells #[.int .u8 k3, .string q3, .int .i64 d3, .int .u8 x3] 73))
            clear hb3
            go_wp2_with fail
            refine (HP.out _).mono ?_
            rintro e w4 ⟨rfl, hb4⟩
            have B4 := hide (B3.out.trans (hb4.mono B3.out.size))
            clear hb4
            go_wp2_with fail
            go_ret
            exact ⟨ret_bool HV.out.symm, B4.out⟩
        · have hn : (nt == nInit) = false := by simpa using fun e => hi (hin.1 e)
          obtain ⟨l1, l2⟩ := toList_no (l := [60, 105, 110, 105, 116, 62]) hi
          rw [hn] at hD2
          have HV : Hid (D = false) := hide (by rw [← hD2]; rfl)
          clear hi hin hn hpb hD2
          go_enter Tryd.func25, Tryd.ntmps25
          go_wp2_with fail
          refine HX1.out.mono ?_
          rintro e w1 ⟨rfl, rfl⟩
          go_wp2_with fail
          refine HX2.out.mono ?_
          rintro e w1 ⟨rfl, rfl⟩
          go_wp2_with fail
          refine HF.out.mono ?_
          rintro e w2 ⟨rfl, hb2⟩
          have B2 := hide (hb2.alloc hb2.size (.cells #[.int .u8 fk, .string fq, .int .i64 fd, .int .u8 fx] 73))
          clear hb2
          go_wp2_with fail
          refine (HFM.out _).mono ?_
          rintro e w3 ⟨A, n3, c3', k3, q3, d3, x3, rfl, hb3⟩
          have B3 := hide ((B2.out.trans (hb3.mono B2.out.size)).alloc (by have := hb3.size; have := B2.out.size; omega) (.cells #[.int .u8 k3, .string q3, .int .i64 d3, .int .u8 x3] 73))
          clear hb3
          go_wp2_with fail
          refine (HP.out _).mono ?_
          rintro e w4 ⟨rfl, hb4⟩
          have B4 := hide (B3.out.trans (hb4.mono B3.out.size))
          clear hb4
          go_wp2_with fail
          go_ret
          exact ⟨ret_bool HV.out.symm, B4.out⟩
      · rw [hpb] at HP hD2
        have HDD := hide hD2
        clear hin hpb hD2
        cases fb
        · cases mb
          · have HV : Hid (D = false) := hide (by rw [← HDD.out]; rfl)
            go_enter Tryd.func25, Tryd.ntmps25
            go_wp2_with fail
            refine HX1.out.mono ?_
            rintro e w1 ⟨rfl, rfl⟩
            go_wp2_with fail
            refine HX2.out.mono ?_
            rintro e w1 ⟨rfl, rfl⟩
            go_wp2_with fail
            refine HF.out.mono ?_
            rintro e w2 ⟨rfl, hb2⟩
            have B2 := hide (hb2.alloc hb2.size (.cells #[.int .u8 fk, .string fq, .int .i64 fd, .int .u8 fx] 73))
            clear hb2
            go_wp2_with fail
            refine (HFM.out _).mono ?_
            rintro e w3 ⟨A, n3, c3', k3, q3, d3, x3, rfl, hb3⟩
            have B3 := hide ((B2.out.trans (hb3.mono B2.out.size)).alloc (by have := hb3.size; have := B2.out.size; omega) (.cells #[.int .u8 k3, .string q3, .int .i64 d3, .int .u8 x3] 73))
            clear hb3
            go_wp2_with fail
            refine (HP.out _).mono ?_
            rintro e w4 ⟨rfl, hb4⟩
            have B4 := hide (B3.out.trans (hb4.mono B3.out.size))
            clear hb4
            go_wp2_with fail
            go_ret
            exact ⟨ret_bool HV.out.symm, B4.out⟩
          · have HV : Hid (D = true) := hide (by rw [← HDD.out]; rfl)
            go_enter Tryd.func25, Tryd.ntmps25
            go_wp2_with fail
            refine HX1.out.mono ?_
            rintro e w1 ⟨rfl, rfl⟩
            go_wp2_with fail
            refine HX2.out.mono ?_
            rintro e w1 ⟨rfl, rfl⟩
            go_wp2_with fail
            refine HF.out.mono ?_
            rintro e w2 ⟨rfl, hb2⟩
            have B2 := hide (hb2.alloc hb2.size (.cells #[.int .u8 fk, .string fq, .int .i64 fd, .int .u8 fx] 73))
            clear hb2
            go_wp2_with fail
            refine (HFM.out _).mono ?_
            rintro e w3 ⟨A, n3, c3', k3, q3, d3, x3, rfl, hb3⟩
            have B3 := hide ((B2.out.trans (hb3.mono B2.out.size)).alloc (by have := hb3.size; have := B2.out.size; omega) (.cells #[.int .u8 k3, .string q3, .int .i64 d3, .int .u8 x3] 73))
            clear hb3
            go_wp2_with fail
            refine (HP.out _).mono ?_
            rintro e w4 ⟨rfl, hb4⟩
            have B4 := hide (B3.out.trans (hb4.mono B3.out.size))
            clear hb4
            go_wp2_with fail
            go_ret
            exact ⟨ret_bool HV.out.symm, B4.out⟩
        · have HV : Hid (D = true) := hide (by rw [← HDD.out]; rfl)
          go_enter Tryd.func25, Tryd.ntmps25
          go_wp2_with fail
          refine HX1.out.mono ?_
          rintro e w1 ⟨rfl, rfl⟩
          go_wp2_with fail
          refine HX2.out.mono ?_
          rintro e w1 ⟨rfl, rfl⟩
          go_wp2_with fail
          refine HF.out.mono ?_
          rintro e w2 ⟨rfl, hb2⟩
          have B2 := hide (hb2.alloc hb2.size (.cells #[.int .u8 fk, .string fq, .int .i64 fd, .int .u8 fx] 73))
          clear hb2
          go_wp2_with fail
          refine (HFM.out _).mono ?_
          rintro e w3 ⟨A, n3, c3', k3, q3, d3, x3, rfl, hb3⟩
          have B3 := hide ((B2.out.trans (hb3.mono B2.out.size)).alloc (by have := hb3.size; have := B2.out.size; omega) (.cells #[.int .u8 k3, .string q3, .int .i64 d3, .int .u8 x3] 73))
          clear hb3
          go_wp2_with fail
          refine (HP.out _).mono ?_
          rintro e w4 ⟨rfl, hb4⟩
          have B4 := hide (B3.out.trans (hb4.mono B3.out.size))
          clear hb4
          go_wp2_with fail
          go_ret
          exact ⟨ret_bool HV.out.symm, B4.out⟩
end Go.Proofs.YtdhalpmgfmbcgaaDoor
namespace Go.Proofs.YtdhalpmgfmbcgaaDoor
open Go.RowKit

theorem member_wf {ps : List Cst} (hwf : CWf ps) {i : Int} {c n d : List Int} (h : memberAt ps i = some (c, n, d)) : (IsBytes n ∧ n.length ≤ 100000) ∧ (IsBytes d ∧ d.length ≤ 100000) := by
  by_cases hk : (atC ps i).tag = 9 ∨ (atC ps i).tag = 10 ∨ (atC ps i).tag = 11
  · rw [member_yes hk] at h
    cases hc : classAt ps (atC ps i).a with
    | none => rw [hc] at h; cases h
    | some c' =>
      rw [hc, Option.bind_some] at h
      split at h
      · cases hn : textAt ps (atC ps (atC ps i).b).a with
        | none => rw [hn] at h; cases h
        | some n' =>
          rw [hn, Option.bind_some] at h
          cases hd : textAt ps (atC ps (atC ps i).b).b with
          | none => rw [hd] at h; cases h
          | some d' =>
            rw [hd] at h
            cases h
            exact ⟨textAt_wf hwf hn, textAt_wf hwf hd⟩
      · cases h
  · rw [member_no hk] at h; cases h

set_option maxHeartbeats 16000000 in
set_option maxRecDepth 100000 in
theorem rentry_m (g o : Nat) (n c : Nat) (ps : List Cst) (B : Nat) (j : Nat) (w : World) (h : RdC w B (some ⟨g, o, none⟩) n ps) (hB : B ≤ w.heap.size) (hwf : CWf ps) (hj : j < n) (ht : (atC ps j).tag = 9 ∨ (atC ps j).tag = 10 ∨ (atC ps j).tag = 11) :
    Calls Tryd.prog 25 #[.slice (some ⟨g, o, none⟩) n c, .int .i64 j] w (Tells (holdsAt ps j) w) := by
  have HM := hide (rmember5_any (some ⟨g, o, none⟩) n c ps B j w h hB)
  have hji : (j : Int) < (n : Int) := by omega
  obtain ⟨g', o', hg', hg, c0, _, _, _, _⟩ := h.cells5 hj
  cases hg'
  obtain ⟨D, hD⟩ : ∃ D, holdsAt ps j = D := ⟨_, rfl⟩
  rw [hD]
  rw [holds_9 ht] at hD
  have hmw := fun c n d (h : memberAt ps j = some (c, n, d)) => member_wf hwf h
  generalize memberAt ps j = mo at *
  rw [atC_in h.1 hj] at hD ht
  generalize (ps.getD j noC).tag = tg at *
  have e1 : (tg == 1) = false := by simp; omega
  have e7 : (tg == 7) = false := by simp; omega
  have e8 : (tg == 8) = false := by simp; omega
  have e12 : (tg == 12) = false := by simp; omega
  have et : ((tg == 9) = true) ∨ ((tg == 9) = false ∧ (tg == 10) = true) ∨ ((tg == 9) = false ∧ (tg == 10) = false ∧ (tg == 11) = true) := by
    simp only [beq_eq_false_iff_ne, beq_iff_eq, ne_eq]; omega
  have hc0 : ∀ W, Below w.heap.size w W → W.cell? ⟨g, o + j * 5, none⟩ = some (.int .i64 tg) := fun W hW => by
    rw [hW.cell (p := ⟨g, o + j * 5, none⟩) (by show g < _; omega)]; exact c0
  have HC0 := hide hc0
  have hgw : g < w.heap.size := by omega
  clear h hwf ht hc0
  cases mo with
  | none =>
    have HV : Hid (D = false) := hide hD.symm
    have hmv : memberV none = .tuple #[.string ⟨#[]⟩, .string ⟨#[]⟩, .string ⟨#[]⟩, .bool false] := rfl
    rw [hmv] at HM
    have HF := hide (fun W => rfield_any ⟨#[]⟩ W (by decide))
    have HS := hide (fun W => rsig_any ⟨#[]⟩ W (by decide))
    obtain ⟨fk, fq, fd, fx, hfv, _, _⟩ := fieldV_form (field (nums ⟨#[]⟩))
    rw [hfv] at HF
    have HFM : Hid (∀ W, Calls Tryd.prog 38 #[.string ⟨#[]⟩] W fun e w' => ∃ A n c k q d x, e = .returned (.tuple #[.slice A n c, .agg #[.int .u8 k, .string q, .int .i64 d, .int .u8 x], .bool (sig (nums ⟨#[]⟩)).isSome]) ∧ Below W.heap.size W w' ∧ True) := hide fun W => (HS.out W).mono fun e w' hh => by
      obtain ⟨A, n, c, k, q, d, x, h1, h2, _⟩ := sigTold_form hh
      exact ⟨A, n, c, k, q, d, x, h1, h2, trivial⟩
    clear hD hmv hfv HS hmw
    generalize (field (nums ⟨#[]⟩)).isSome = fb at *
    generalize (sig (nums ⟨#[]⟩)).isSome = mb at *
    rcases et with et | ⟨et, et2⟩ | ⟨et, et2, et3⟩
    · go_enter Tryd.func25, Tryd.ntmps25
      go_wp2_with fail
      refine HM.out.mono ?_
      rintro e w1 ⟨rfl, hb1⟩
      have B1 := hide hb1
      clear hb1
      go_wp2_with fail
      refine (HF.out _).mono ?_
      rintro e w2 ⟨rfl, hb2⟩
      have B2 := hide ((B1.out.trans (hb2.mono B1.out.size)).alloc (by have := hb2.size; have := B1.out.size; omega) (.cells #[.int .u8 fk, .string fq, .int .i64 fd, .int .u8 fx] 73))
      clear hb2
      go_wp2_with fail
      refine (HFM.out _).mono ?_
      rintro e w3 ⟨A, n3, c3', k3, q3, d3, x3, rfl, hb3, hk3⟩
      have b3 := B2.out.trans (hb3.mono B2.out.size)
      have k0 := HC0.out w3 b3
      have hg3 : g < w3.heap.size := by have := b3.size; omega
      have B3 := hide (b3.alloc b3.size (.cells #[.int .u8 k3, .string q3, .int .i64 d3, .int .u8 x3] 73))
      clear hb3 b3
      go_wp2_with fail
      go_ret
      exact ⟨ret_bool HV.out.symm, B3.out⟩
    · go_enter Tryd.func25, Tryd.ntmps25
      go_wp2_with fail
      refine HM.out.mono ?_
      rintro e w1 ⟨rfl, hb1⟩
      have B1 := hide hb1
      clear hb1
      go_wp2_with fail
      refine (HF.out _).mono ?_
      rintro e w2 ⟨rfl, hb2⟩
      have B2 := hide ((B1.out.trans (hb2.mono B1.out.size)).alloc (by have := hb2.size; have := B1.out.size; omega) (.cells #[.int .u8 fk, .string fq, .int .i64 fd, .int .u8 fx] 73))
      clear hb2
      go_wp2_with fail
      refine (HFM.out _).mono ?_
      rintro e w3 ⟨A, n3, c3', k3, q3, d3, x3, rfl, hb3, hk3⟩
      have b3 := B2.out.trans (hb3.mono B2.out.size)
      have k0 := HC0.out w3 b3
      have hg3 : g < w3.heap.size := by have := b3.size; omega
      have B3 := hide (b3.alloc b3.size (.cells #[.int .u8 k3, .string q3, .int .i64 d3, .int .u8 x3] 73))
      clear hb3 b3
      go_wp2_with fail
      go_ret
      exact ⟨ret_bool HV.out.symm, B3.out⟩
    · go_enter Tryd.func25, Tryd.ntmps25
      go_wp2_with fail
      refine HM.out.mono ?_
      rintro e w1 ⟨rfl, hb1⟩
      have B1 := hide hb1
      clear hb1
      go_wp2_with fail
      refine (HF.out _).mono ?_
      rintro e w2 ⟨rfl, hb2⟩
      have B2 := hide ((B1.out.trans (hb2.mono B1.out.size)).alloc (by have := hb2.size; have := B1.out.size; omega) (.cells #[.int .u8 fk, .string fq, .int .i64 fd, .int .u8 fx] 73))
      clear hb2
      go_wp2_with fail
      refine (HFM.out _).mono ?_
      rintro e w3 ⟨A, n3, c3', k3, q3, d3, x3, rfl, hb3, hk3⟩
      have b3 := B2.out.trans (hb3.mono B2.out.size)
      have k0 := HC0.out w3 b3
      have hg3 : g < w3.heap.size := by have := b3.size; omega
      have B3 := hide (b3.alloc b3.size (.cells #[.int .u8 k3, .string q3, .int .i64 d3, .int .u8 x3] 73))
      clear hb3 b3
      go_wp2_with fail
      go_ret
      exact ⟨ret_bool HV.out.symm, B3.out⟩
  | some y =>
    obtain ⟨ct, nt, dt⟩ := y
    obtain ⟨hnw, hdw⟩ := hmw _ _ _ rfl
    obtain ⟨s1, s2⟩ := str_wf hnw
    obtain ⟨d1, d2⟩ := str_wf hdw
    have hmv : memberV (some (ct, nt, dt)) = .tuple #[.string (strOfNums ct), .string (strOfNums nt), .string (strOfNums dt), .bool true] := rfl
    rw [hmv] at HM
    have HF := hide (fun W => rfield_any (strOfNums dt) W (by omega))
    have HS := hide (fun W => rsig_any (strOfNums dt) W (by omega))
    have HN := hide (fun W => rmethod_any (strOfNums nt) W (by omega))
    rw [d1] at HF HS
    rw [s1] at HN
    have hin := init_iff s1
    have hcl := clinit_iff s1
    obtain ⟨fk, fq, fd, fx, hfv, _, _⟩ := fieldV_form (field dt)
    rw [hfv] at HF
    obtain ⟨vb, hvb⟩ : ∃ vb, (match sig dt with | some (_, t) => t.kind == 86 | none => false) = vb := ⟨_, rfl⟩
    obtain ⟨fb, hfb⟩ : ∃ fb, (field dt).isSome = fb := ⟨_, rfl⟩
    obtain ⟨mm, hmm⟩ : ∃ mm, methodB nt = mm := ⟨_, rfl⟩
    have hD2 : (if (fb == (tg == 9)) = true then if nt = nInit then tg == 10 && vb else tg == 9 || (mm && nt != nClinit) else false) = D := by
      rw [← hfb, ← hvb, ← hmm]; exact hD
    rw [hfb] at HF
    rw [hmm] at HN
    have HFM : Hid (∀ W, Calls Tryd.prog 38 #[.string (strOfNums dt)] W fun e w' => ∃ A n c k q d x, e = .returned (.tuple #[.slice A n c, .agg #[.int .u8 k, .string q, .int .i64 d, .int .u8 x], .bool (sig dt).isSome]) ∧ Below W.heap.size W w' ∧ (k == 86) = vb) := hide fun W => (HS.out W).mono fun e w' hh => by
      obtain ⟨A, n, c, k, q, d, x, h1, h2, h3, h4⟩ := sigTold_form hh
      refine ⟨A, n, c, k, q, d, x, h1, h2, ?_⟩
      rw [← hvb]
      cases hs : sig dt with
      | none => rw [h3 hs]; rfl
      | some p => obtain ⟨ts, t⟩ := p; rw [h4 ts t hs]
    generalize (sig dt).isSome = mb at *
    generalize strOfNums ct = cq at *
    generalize strOfNums nt = nq at *
    generalize strOfNums dt = dq at *
    clear hD hmv hfv HS hmw hnw hdw s1 s2 d1 d2 hvb hfb hmm
    rcases et with et | ⟨et, et2⟩ | ⟨et, et2, et3⟩
    · cases fb
      · have HV : Hid (D = false) := hide (by rw [← hD2, et]; rfl)
        clear hD2 hin hcl
        go_enter Tryd.func25, Tryd.ntmps25
        go_wp2_with fail
        refine HM.out.mono ?_
        rintro e w1 ⟨rfl, hb1⟩
        have B1 := hide hb1
        clear hb1
        go_wp2_with fail
        refine (HF.out _).mono ?_
        rintro e w2 ⟨rfl, hb2⟩
        have B2 := hide ((B1.out.trans (hb2.mono B1.out.size)).alloc (by have := hb2.size; have := B1.out.size; omega) (.cells #[.int .u8 fk, .string fq, .int .i64 fd, .int .u8 fx] 73))
        clear hb2
        go_wp2_with fail
        refine (HFM.out _).mono ?_
        rintro e w3 ⟨A, n3, c3', k3, q3, d3, x3, rfl, hb3, hk3⟩
        have b3 := B2.out.trans (hb3.mono B2.out.size)
        have k0 := HC0.out w3 b3
        have hg3 : g < w3.heap.size := by have := b3.size; omega
        have B3 := hide (b3.alloc b3.size (.cells #[.int .u8 k3, .string q3, .int .i64 d3, .int .u8 x3] 73))
        clear hb3 b3
        go_wp2_with fail
        go_ret
        exact ⟨ret_bool HV.out.symm, B3.out⟩
      · rw [et] at hD2
        by_cases hi : nq = sI
        · have hn := hin.2 hi
          obtain ⟨l1, l2⟩ := lit_yes (l := [60, 105, 110, 105, 116, 62]) hi
          have e10 : (tg == 10) = false := by simp only [beq_iff_eq, beq_eq_false_iff_ne, ne_eq] at et ⊢; omega
          have HV : Hid (D = false) := hide (by rw [← hD2, if_pos (by rfl), if_pos hn, e10]; rfl)
          clear hD2 hin hcl hi hn
          go_enter Tryd.func25, Tryd.ntmps25
          go_wp2_with fail
          refine HM.out.mono ?_
          rintro e w1 ⟨rfl, hb1⟩
          have B1 := hide hb1
          clear hb1
          go_wp2_with fail
          refine (HF.out _).mono ?_
          rintro e w2 ⟨rfl, hb2⟩
          have B2 := hide ((B1.out.trans (hb2.mono B1.out.size)).alloc (by have := hb2.size; have := B1.out.size; omega) (.cells #[.int .u8 fk, .string fq, .int .i64 fd, .int .u8 fx] 73))
          clear hb2
          go_wp2_with fail
          refine (HFM.out _).mono ?_
          rintro e w3 ⟨A, n3, c3', k3, q3, d3, x3, rfl, hb3, hk3⟩
          have b3 := B2.out.trans (hb3.mono B2.out.size)
          have k0 := HC0.out w3 b3
          have hg3 : g < w3.heap.size := by have := b3.size; omega
          have B3 := hide (b3.alloc b3.size (.cells #[.int .u8 k3, .string q3, .int .i64 d3, .int .u8 x3] 73))
          clear hb3 b3
          go_wp2_with fail
          go_ret
          exact ⟨ret_bool HV.out.symm, B3.out⟩
        · have hn : nt ≠ nInit := fun e => hi (hin.1 e)
          obtain ⟨l1, l2⟩ := toList_no (l := [60, 105, 110, 105, 116, 62]) hi
          have HV : Hid (D = true) := hide (by rw [← hD2, if_pos (by rfl), if_neg hn]; rfl)
          clear hD2 hin hcl hi hn
          go_enter Tryd.func25, Tryd.ntmps25
          go_wp2_with fail
          refine HM.out.mono ?_
          rintro e w1 ⟨rfl, hb1⟩
          have B1 := hide hb1
          clear hb1
          go_wp2_with fail
          refine (HF.out _).mono ?_
          rintro e w2 ⟨rfl, hb2⟩
          have B2 := hide ((B1.out.trans (hb2.mono B1.out.size)).alloc (by have := hb2.size; have := B1.out.size; omega) (.cells #[.int .u8 fk, .string fq, .int .i64 fd, .int .u8 fx] 73))
          clear hb2
          go_wp2_with fail
          refine (HFM.out _).mono ?_
          rintro e w3 ⟨A, n3, c3', k3, q3, d3, x3, rfl, hb3, hk3⟩
          have b3 := B2.out.trans (hb3.mono B2.out.size)
          have k0 := HC0.out w3 b3
          have hg3 : g < w3.heap.size := by have := b3.size; omega
          have B3 := hide (b3.alloc b3.size (.cells #[.int .u8 k3, .string q3, .int .i64 d3, .int .u8 x3] 73))
          clear hb3 b3
          go_wp2_with fail
          go_ret
          exact ⟨ret_bool HV.out.symm, B3.out⟩
    · cases fb
      · rw [et] at hD2
        rw [et2] at hD2
        by_cases hi : nq = sI
        · have hn := hin.2 hi
          obtain ⟨l1, l2⟩ := lit_yes (l := [60, 105, 110, 105, 116, 62]) hi
          have HDD : Hid (D = vb) := hide (by rw [← hD2, if_pos (by rfl), if_pos hn]; rfl)
          clear hD2 hin hcl hi hn
          cases vb
          · have HV : Hid (D = false) := hide HDD.out
            go_enter Tryd.func25, Tryd.ntmps25
            go_wp2_with fail
            refine HM.out.mono ?_
            rintro e w1 ⟨rfl, hb1⟩
            have B1 := hide hb1
            clear hb1
            go_wp2_with fail
            refine (HF.out _).mono ?_
            rintro e w2 ⟨rfl, hb2⟩
            have B2 := hide ((B1.out.trans (hb2.mono B1.out.size)).alloc (by have := hb2.size; have := B1.out.size; omega) (.cells #[.int .u8 fk, .string fq, .int .i64 fd, .int .u8 fx] 73))
            clear hb2
            go_wp2_with fail
            refine (HFM.out _).mono ?_
            rintro e w3 ⟨A, n3, c3', k3, q3, d3, x3, rfl, hb3, hk3⟩
            have b3 := B2.out.trans (hb3.mono B2.out.size)
            have k0 := HC0.out w3 b3
            have hg3 : g < w3.heap.size := by have := b3.size; omega
            have B3 := hide (b3.alloc b3.size (.cells #[.int .u8 k3, .string q3, .int .i64 d3, .int .u8 x3] 73))
            clear hb3 b3
            go_wp2_with fail
            go_ret
            exact ⟨ret_bool HV.out.symm, B3.out⟩
          · have HV : Hid (D = true) := hide HDD.out
            go_enter Tryd.func25, Tryd.ntmps25
            go_wp2_with fail
            refine HM.out.mono ?_
            rintro e w1 ⟨rfl, hb1⟩
            have B1 := hide hb1
            clear hb1
            go_wp2_with fail
            refine (HF.out _).mono ?_
            rintro e w2 ⟨rfl, hb2⟩
            have B2 := hide ((B1.out.trans (hb2.mono B1.out.size)).alloc (by have := hb2.size; have := B1.out.size; omega) (.cells #[.int .u8 fk, .string fq, .int .i64 fd, .int .u8 fx] 73))
            clear hb2
            go_wp2_with fail
            refine (HFM.out _).mono ?_
            rintro e w3 ⟨A, n3, c3', k3, q3, d3, x3, rfl, hb3, hk3⟩
            have b3 := B2.out.trans (hb3.mono B2.out.size)
            have k0 := HC0.out w3 b3
            have hg3 : g < w3.heap.size := by have := b3.size; omega
            have B3 := hide (b3.alloc b3.size (.cells #[.int .u8 k3, .string q3, .int .i64 d3, .int .u8 x3] 73))
            clear hb3 b3
            go_wp2_with fail
            go_ret
            exact ⟨ret_bool HV.out.symm, B3.out⟩
        · have hn : nt ≠ nInit := fun e => hi (hin.1 e)
          obtain ⟨l1, l2⟩ := toList_no (l := [60, 105, 110, 105, 116, 62]) hi
          have HDD : Hid (D = (mm && nt != nClinit)) := hide (by rw [← hD2, if_pos (by rfl), if_neg hn]; rfl)
          clear hD2 hin hi hn
          cases mm
          · have HV : Hid (D = false) := hide (by rw [HDD.out]; rfl)
            clear hcl
            go_enter Tryd.func25, Tryd.ntmps25
            go_wp2_with fail
            refine HM.out.mono ?_
            rintro e w1 ⟨rfl, hb1⟩
            have B1 := hide hb1
            clear hb1
            go_wp2_with fail
            refine (HF.out _).mono ?_
            rintro e w2 ⟨rfl, hb2⟩
            have B2 := hide ((B1.out.trans (hb2.mono B1.out.size)).alloc (by have := hb2.size; have := B1.out.size; omega) (.cells #[.int .u8 fk, .string fq, .int .i64 fd, .int .u8 fx] 73))
            clear hb2
            go_wp2_with fail
            refine (HFM.out _).mono ?_
            rintro e w3 ⟨A, n3, c3', k3, q3, d3, x3, rfl, hb3, hk3⟩
            have b3 := B2.out.trans (hb3.mono B2.out.size)
            have k0 := HC0.out w3 b3
            have hg3 : g < w3.heap.size := by have := b3.size; omega
            have B3 := hide (b3.alloc b3.size (.cells #[.int .u8 k3, .string q3, .int .i64 d3, .int .u8 x3] 73))
            clear hb3 b3
            go_wp2_with fail
            refine (HN.out _).mono ?_
            rintro e w4 ⟨rfl, hb4⟩
            have B4 := hide (B3.out.trans (hb4.mono B3.out.size))
            clear hb4
            go_wp2_with fail
            go_ret
            exact ⟨ret_bool HV.out.symm, B4.out⟩
          · by_cases hc : nq = sC
            · have hx : (nt != nClinit) = false := by simpa using hcl.2 hc
              have HV : Hid (D = false) := hide (by rw [HDD.out, hx]; rfl)
              obtain ⟨m1, m2⟩ := lit_yes (l := [60, 99, 108, 105, 110, 105, 116, 62]) hc
              have m3 : (nq.toList != [60, 99, 108, 105, 110, 105, 116, 62]) = false := by simp [m1]
              clear hcl hc hx HDD
              go_enter Tryd.func25, Tryd.ntmps25
              go_wp2_with fail
              refine HM.out.mono ?_
              rintro e w1 ⟨rfl, hb1⟩
              have B1 := hide hb1
              clear hb1
              go_wp2_with fail
              refine (HF.out _).mono ?_
              rintro e w2 ⟨rfl, hb2⟩
              have B2 := hide ((B1.out.trans (hb2.mono B1.out.size)).alloc (by have := hb2.size; have := B1.out.size; omega) (.cells #[.int .u8 fk, .string fq, .int .i64 fd, .int .u8 fx] 73))
              clear hb2
              go_wp2_with fail
              refine (HFM.out _).mono ?_
              rintro e w3 ⟨A, n3, c3', k3, q3, d3, x3, rfl, hb3, hk3⟩
              have b3 := B2.out.trans (hb3.mono B2.out.size)
              have k0 := HC0.out w3 b3
              have hg3 : g < w3.heap.size := by have := b3.size; omega
              have B3 := hide (b3.alloc b3.size (.cells #[.int .u8 k3, .string q3, .int .i64 d3, .int .u8 x3] 73))
              clear hb3 b3
              go_wp2_with fail
              refine (HN.out _).mono ?_
              rintro e w4 ⟨rfl, hb4⟩
              have B4 := hide (B3.out.trans (hb4.mono B3.out.size))
              clear hb4
              go_wp2_with fail
              go_ret
              exact ⟨ret_bool HV.out.symm, B4.out⟩
            · have hx : (nt != nClinit) = true := by simpa using fun e => hc (hcl.1 e)
              have HV : Hid (D = true) := hide (by rw [HDD.out, hx]; rfl)
              obtain ⟨m1, m2⟩ := toList_no (l := [60, 99, 108, 105, 110, 105, 116, 62]) hc
              have m3 : (nq.toList != [60, 99, 108, 105, 110, 105, 116, 62]) = true := by simp [m1]
              clear hcl hc hx HDD
              go_enter Tryd.func25, Tryd.ntmps25
              go_wp2_with fail
              refine HM.out.mono ?_
              rintro e w1 ⟨rfl, hb1⟩
              have B1 := hide hb1
              clear hb1
              go_wp2_with fail
              refine (HF.out _).mono ?_
              rintro e w2 ⟨rfl, hb2⟩
              have B2 := hide ((B1.out.trans (hb2.mono B1.out.size)).alloc (by have := hb2.size; have := B1.out.size; omega) (.cells #[.int .u8 fk, .string fq, .int .i64 fd, .int .u8 fx] 73))
              clear hb2
              go_wp2_with fail
              refine (HFM.out _).mono ?_
              rintro e w3 ⟨A, n3, c3', k3, q3, d3, x3, rfl, hb3, hk3⟩
              have b3 := B2.out.trans (hb3.mono B2.out.size)
              have k0 := HC0.out w3 b3
              have hg3 : g < w3.heap.size := by have := b3.size; omega
              have B3 := hide (b3.alloc b3.size (.cells #[.int .u8 k3, .string q3, .int .i64 d3, .int .u8 x3] 73))
              clear hb3 b3
              go_wp2_with fail
              refine (HN.out _).mono ?_
              rintro e w4 ⟨rfl, hb4⟩
              have B4 := hide (B3.out.trans (hb4.mono B3.out.size))
              clear hb4
              go_wp2_with fail
              go_ret
              exact ⟨ret_bool HV.out.symm, B4.out⟩
      · have HV : Hid (D = false) := hide (by rw [← hD2, et]; rfl)
        clear hD2 hin hcl
        go_enter Tryd.func25, Tryd.ntmps25
        go_wp2_with fail
        refine HM.out.mono ?_
        rintro e w1 ⟨rfl, hb1⟩
        have B1 := hide hb1
        clear hb1
        go_wp2_with fail
        refine (HF.out _).mono ?_
        rintro e w2 ⟨rfl, hb2⟩
        have B2 := hide ((B1.out.trans (hb2.mono B1.out.size)).alloc (by have := hb2.size; have := B1.out.size; omega) (.cells #[.int .u8 fk, .string fq, .int .i64 fd, .int .u8 fx] 73))
        clear hb2
        go_wp2_with fail
        refine (HFM.out _).mono ?_
        rintro e w3 ⟨A, n3, c3', k3, q3, d3, x3, rfl, hb3, hk3⟩
        have b3 := B2.out.trans (hb3.mono B2.out.size)
        have k0 := HC0.out w3 b3
        have hg3 : g < w3.heap.size := by have := b3.size; omega
        have B3 := hide (b3.alloc b3.size (.cells #[.int .u8 k3, .string q3, .int .i64 d3, .int .u8 x3] 73))
        clear hb3 b3
        go_wp2_with fail
        go_ret
        exact ⟨ret_bool HV.out.symm, B3.out⟩
    · cases fb
      · rw [et] at hD2
        rw [et2] at hD2
        by_cases hi : nq = sI
        · have hn := hin.2 hi
          obtain ⟨l1, l2⟩ := lit_yes (l := [60, 105, 110, 105, 116, 62]) hi
          have HV : Hid (D = false) := hide (by rw [← hD2, if_pos (by rfl), if_pos hn]; rfl)
          clear hD2 hin hcl hi hn
          go_enter Tryd.func25, Tryd.ntmps25
          go_wp2_with fail
          refine HM.out.mono ?_
          rintro e w1 ⟨rfl, hb1⟩
          have B1 := hide hb1
          clear hb1
          go_wp2_with fail
          refine (HF.out _).mono ?_
          rintro e w2 ⟨rfl, hb2⟩
          have B2 := hide ((B1.out.trans (hb2.mono B1.out.size)).alloc (by have := hb2.size; have := B1.out.size; omega) (.cells #[.int .u8 fk, .string fq, .int .i64 fd, .int .u8 fx] 73))
          clear hb2
          go_wp2_with fail
          refine (HFM.out _).mono ?_
          rintro e w3 ⟨A, n3, c3', k3, q3, d3, x3, rfl, hb3, hk3⟩
          have b3 := B2.out.trans (hb3.mono B2.out.size)
          have k0 := HC0.out w3 b3
          have hg3 : g < w3.heap.size := by have := b3.size; omega
          have B3 := hide (b3.alloc b3.size (.cells #[.int .u8 k3, .string q3, .int .i64 d3, .int .u8 x3] 73))
          clear hb3 b3
          go_wp2_with fail
          go_ret
          exact ⟨ret_bool HV.out.symm, B3.out⟩
        · have hn : nt ≠ nInit := fun e => hi (hin.1 e)
          obtain ⟨l1, l2⟩ := toList_no (l := [60, 105, 110, 105, 116, 62]) hi
          have HDD : Hid (D = (mm && nt != nClinit)) := hide (by rw [← hD2, if_pos (by rfl), if_neg hn]; rfl)
          clear hD2 hin hi hn
          cases mm
          · have HV : Hid (D = false) := hide (by rw [HDD.out]; rfl)
            clear hcl
            go_enter Tryd.func25, Tryd.ntmps25
            go_wp2_with fail
            refine HM.out.mono ?_
            rintro e w1 ⟨rfl, hb1⟩
            have B1 := hide hb1
            clear hb1
            go_wp2_with fail
            refine (HF.out _).mono ?_
            rintro e w2 ⟨rfl, hb2⟩
            have B2 := hide ((B1.out.trans (hb2.mono B1.out.size)).alloc (by have := hb2.size; have := B1.out.size; omega) (.cells #[.int .u8 fk, .string fq, .int .i64 fd, .int .u8 fx] 73))
            clear hb2
            go_wp2_with fail
            refine (HFM.out _).mono ?_
            rintro e w3 ⟨A, n3, c3', k3, q3, d3, x3, rfl, hb3, hk3⟩
            have b3 := B2.out.trans (hb3.mono B2.out.size)
            have k0 := HC0.out w3 b3
            have hg3 : g < w3.heap.size := by have := b3.size; omega
            have B3 := hide (b3.alloc b3.size (.cells #[.int .u8 k3, .string q3, .int .i64 d3, .int .u8 x3] 73))
            clear hb3 b3
            go_wp2_with fail
            refine (HN.out _).mono ?_
            rintro e w4 ⟨rfl, hb4⟩
            have B4 := hide (B3.out.trans (hb4.mono B3.out.size))
            clear hb4
            go_wp2_with fail
            go_ret
            exact ⟨ret_bool HV.out.symm, B4.out⟩
          · by_cases hc : nq = sC
            · have hx : (nt != nClinit) = false := by simpa using hcl.2 hc
              have HV : Hid (D = false) := hide (by rw [HDD.out, hx]; rfl)
              obtain ⟨m1, m2⟩ := lit_yes (l := [60, 99, 108, 105, 110, 105, 116, 62]) hc
              have m3 : (nq.toList != [60, 99, 108, 105, 110, 105, 116, 62]) = false := by simp [m1]
              clear hcl hc hx HDD
              go_enter Tryd.func25, Tryd.ntmps25
              go_wp2_with fail
              refine HM.out.mono ?_
              rintro e w1 ⟨rfl, hb1⟩
              have B1 := hide hb1
              clear hb1
              go_wp2_with fail
              refine (HF.out _).mono ?_
              rintro e w2 ⟨rfl, hb2⟩
              have B2 := hide ((B1.out.trans (hb2.mono B1.out.size)).alloc (by have := hb2.size; have := B1.out.size; omega) (.cells #[.int .u8 fk, .string fq, .int .i64 fd, .int .u8 fx] 73))
              clear hb2
              go_wp2_with fail
              refine (HFM.out _).mono ?_
              rintro e w3 ⟨A, n3, c3', k3, q3, d3, x3, rfl, hb3, hk3⟩
              have b3 := B2.out.trans (hb3.mono B2.out.size)
              have k0 := HC0.out w3 b3
              have hg3 : g < w3.heap.size := by have := b3.size; omega
              have B3 := hide (b3.alloc b3.size (.cells #[.int .u8 k3, .string q3, .int .i64 d3, .int .u8 x3] 73))
              clear hb3 b3
              go_wp2_with fail
              refine (HN.out _).mono ?_
              rintro e w4 ⟨rfl, hb4⟩
              have B4 := hide (B3.out.trans (hb4.mono B3.out.size))
              clear hb4
              go_wp2_with fail
              go_ret
              exact ⟨ret_bool HV.out.symm, B4.out⟩
            · have hx : (nt != nClinit) = true := by simpa using fun e => hc (hcl.1 e)
              have HV : Hid (D = true) := hide (by rw [HDD.out, hx]; rfl)
              obtain ⟨m1, m2⟩ := toList_no (l := [60, 99, 108, 105, 110, 105, 116, 62]) hc
              have m3 : (nq.toList != [60, 99, 108, 105, 110, 105, 116, 62]) = true := by simp [m1]
              clear hcl hc hx HDD
              go_enter Tryd.func25, Tryd.ntmps25
              go_wp2_with fail
              refine HM.out.mono ?_
              rintro e w1 ⟨rfl, hb1⟩
              have B1 := hide hb1
              clear hb1
              go_wp2_with fail
              refine (HF.out _).mono ?_
              rintro e w2 ⟨rfl, hb2⟩
              have B2 := hide ((B1.out.trans (hb2.mono B1.out.size)).alloc (by have := hb2.size; have := B1.out.size; omega) (.cells #[.int .u8 fk, .string fq, .int .i64 fd, .int .u8 fx] 73))
              clear hb2
              go_wp2_with fail
              refine (HFM.out _).mono ?_
              rintro e w3 ⟨A, n3, c3', k3, q3, d3, x3, rfl, hb3, hk3⟩
              have b3 := B2.out.trans (hb3.mono B2.out.size)
              have k0 := HC0.out w3 b3
              have hg3 : g < w3.heap.size := by have := b3.size; omega
              have B3 := hide (b3.alloc b3.size (.cells #[.int .u8 k3, .string q3, .int .i64 d3, .int .u8 x3] 73))
              clear hb3 b3
              go_wp2_with fail
              refine (HN.out _).mono ?_
              rintro e w4 ⟨rfl, hb4⟩
              have B4 := hide (B3.out.trans (hb4.mono B3.out.size))
              clear hb4
              go_wp2_with fail
              go_ret
              exact ⟨ret_bool HV.out.symm, B4.out⟩
      · have HV : Hid (D = false) := hide (by rw [← hD2, et]; rfl)
        clear hD2 hin hcl
        go_enter Tryd.func25, Tryd.ntmps25
        go_wp2_with fail
        refine HM.out.mono ?_
        rintro e w1 ⟨rfl, hb1⟩
        have B1 := hide hb1
        clear hb1
        go_wp2_with fail
        refine (HF.out _).mono ?_
        rintro e w2 ⟨rfl, hb2⟩
        have B2 := hide ((B1.out.trans (hb2.mono B1.out.size)).alloc (by have := hb2.size; have := B1.out.size; omega) (.cells #[.int .u8 fk, .string fq, .int .i64 fd, .int .u8 fx] 73))
        clear hb2
        go_wp2_with fail
        refine (HFM.out _).mono ?_
        rintro e w3 ⟨A, n3, c3', k3, q3, d3, x3, rfl, hb3, hk3⟩
        have b3 := B2.out.trans (hb3.mono B2.out.size)
        have k0 := HC0.out w3 b3
        have hg3 : g < w3.heap.size := by have := b3.size; omega
        have B3 := hide (b3.alloc b3.size (.cells #[.int .u8 k3, .string q3, .int .i64 d3, .int .u8 x3] 73))
        clear hb3 b3
        go_wp2_with fail
        go_ret
        exact ⟨ret_bool HV.out.symm, B3.out⟩

theorem rentry_any (g o : Nat) (n c : Nat) (ps : List Cst) (B : Nat) (j : Nat) (w : World) (h : RdC w B (some ⟨g, o, none⟩) n ps) (hB : B ≤ w.heap.size) (hwf : CWf ps) (hj : j < n) :
    Calls Tryd.prog 25 #[.slice (some ⟨g, o, none⟩) n c, .int .i64 j] w (Tells (holdsAt ps j) w) := by
  by_cases h1 : (atC ps j).tag = 1 ∨ (atC ps j).tag = 7 ∨ (atC ps j).tag = 8
  · exact rentry_1 g o n c ps B j w h hwf hj h1
  · by_cases h2 : (atC ps j).tag = 12
    · exact rentry_12 g o n c ps B j w h hwf hj h2
    · by_cases h3 : (atC ps j).tag = 9 ∨ (atC ps j).tag = 10 ∨ (atC ps j).tag = 11
      · exact rentry_m g o n c ps B j w h hB hwf hj h3
      · exact rentry_0 g o n c ps B j w h hj (by omega)
end Go.Proofs.YtdhalpmgfmbcgaaDoor
namespace Go.Proofs.YtdhalpmgfmbcgaaDoor
open Go.RowKit

theorem beL_be (l : List Int) : beL l = be l := rfl
theorem fold_range (xs : List Int) : ∀ (v : Int), 0 ≤ v → IsBytes xs → v ≤ xs.foldl (fun v b => v * 256 + b) v ∧ xs.foldl (fun v b => v * 256 + b) v < (v + 1) * 256 ^ xs.length := by
  induction xs with
  | nil => intro v h _; simp; omega
  | cons b r ih =>
    intro v h hx
    have hb := hx b (by simp)
    obtain ⟨h1, h2⟩ := ih (v * 256 + b) (by omega) fun x hx' => hx x (by simp [hx'])
    rw [List.foldl_cons, List.length_cons, Int.pow_succ]
    refine ⟨by omega, Int.lt_of_lt_of_le h2 ?_⟩
    have h3 : v * 256 + b + 1 ≤ (v + 1) * 256 := by omega
    have h4 : (v * 256 + b + 1) * 256 ^ r.length ≤ (v + 1) * 256 * 256 ^ r.length := Int.mul_le_mul_of_nonneg_right h3 (Int.pow_nonneg (by decide))
    rw [Int.mul_assoc, Int.mul_comm 256] at h4
    exact h4
theorem be_range (xs : List Int) (h : IsBytes xs) : 0 ≤ be xs ∧ be xs < 256 ^ xs.length := by
  have := fold_range xs 0 (Int.le_refl 0) h
  unfold be
  omega

set_option maxHeartbeats 2000000 in
theorem rn_eight (r base : Nat) (A : Option Addr) (c : Nat) (xs : List Int) (k : Nat) (w : World) (h : Ref w r base A c xs k false) (hn : (8 : Int) ≤ (xs.length : Int) - k) :
    Calls Tryd.prog 23 #[.pointer (some ⟨r, 0, none⟩), .int .i64 8] w fun e w' => e = .returned (.int .i64 (sgn 64 (be ((xs.drop k).take 8)))) ∧ Ref w' r base A c xs (k + 8) false ∧ w.grownBy w' (some r) := by
  have c0 : w.cell? ⟨r, 0, none⟩ = some (.slice A xs.length c) := h.1.cell 0
  have c1 : w.cell? ⟨r, 1, none⟩ = some (.int .i64 k) := h.1.cell 1
  have c2 : w.cell? ⟨r, 2, none⟩ = some (.bool false) := h.1.cell 2
  have f1 := h.1.free 1
  have hk := h.2.2.1
  have hl := h.2.2.2.2.1
  have hlc := h.2.2.2.2.2
  have hb := h.2.2.2.1.drop k
  have H := hide h
  obtain ⟨ys, hys⟩ : ∃ ys, ys = xs.drop k := ⟨_, rfl⟩
  rw [← hys] at hb ⊢
  have Hy : Hid (ys = xs.drop k) := hys
  have Hyl : Hid (ys.length = xs.length - k) := by rw [hys]; exact List.length_drop
  have Hb := hide hb
  clear h hys hb
  generalize hL : xs.length = l at *
  have HL := hide hL
  clear hL
  have hd : decide ((l : Int) - (k : Int) < 8) = false := by simp; omega
  go_enter Tryd.func23, Tryd.ntmps23
  go_wp2
  go_quiet (fail)
  go_wp2
  go_loopw [5, 6] (fun x i wr => ∃ (j q : Nat) (v : Int), j ≤ 8 ∧ i = .int .i64 j ∧ x = .int .i64 v ∧ (j < 8 → v = be (ys.take j)) ∧ (j = 8 → v = sgn 64 (be (ys.take 8))) ∧ wr = w.drewN q) (fun _ i _ => 8 - (intOf i).toNat)
  case atStart => exact ⟨0, _, 0, Nat.zero_le _, rfl, rfl, fun _ => rfl, fun h => by omega, rfl⟩
  case round =>
    obtain ⟨j, q, v, hj, rfl, rfl, h1, h2, rfl⟩ := hrel
    by_cases hlt : j < 8
    · have hv := h1 hlt
      have hbd := be_range (ys.take j) (Hb.out.take j)
      have hjl : j < ys.length := by rw [Hyl.out]; omega
      have hlen : (ys.take j).length = j := by rw [List.length_take]; omega
      rw [hlen, ← hv] at hbd
      have hy := Hb.out (ys.getD j 0) (by rw [List.getD, List.getElem?_eq_getElem hjl]; exact List.getElem_mem _)
      have Hst := hide (take_step ys j hjl)
      rw [← hv] at Hst
      obtain ⟨g, rfl, hcell⟩ := src_cell H.out.2.1 (j := k + j) (by rw [HL.out]; omega)
      rw [show xs.getD (k + j) 0 = ys.getD j 0 by rw [Hy.out]; simp [List.getD]] at hcell
      generalize ys.getD j 0 = y at *
      clear h1 h2 hv
      by_cases h7 : j = 7
      · subst h7
        by_cases hbig : v < 36028797018963968
        · have hb0 := hbd.1
          clear hbd
          go_wp2
          go_quiet (fail)
          go_wp2
          go_roundw
          case rel =>
            refine ⟨8, _, _, by omega, by go_num, rfl, fun h => by omega, fun _ => ?_, rfl⟩
            rw [Hst.out, sgn, if_neg (by omega)]
          case measure => simp [intOf]
        · have hb0 : v < 72057594037927936 := hbd.2
          obtain ⟨u, hu⟩ : ∃ u, u = v * 256 - 18446744073709551616 := ⟨_, rfl⟩
          have hw1 : wrap64 (v * 256) = u := by unfold wrap64; omega
          have hu1 : -9223372036854775808 ≤ u := by omega
          have hu2 : u ≤ -256 := by omega
          have HU := hide hu
          clear hbd hu
          go_wp2
          go_quiet (fail)
          go_wp2
          go_roundw
          case rel =>
            refine ⟨8, _, _, by omega, by go_num, rfl, fun h => by omega, fun _ => ?_, rfl⟩
            have h1 := HU.out
            rw [Hst.out, sgn, if_pos (by omega)]
            omega
          case measure => simp [intOf]
      · have hsm : v < 72057594037927936 / 256 := by
          have : (256 : Int) ^ j ≤ 256 ^ 6 := by
            have hj6 : j = 0 ∨ j = 1 ∨ j = 2 ∨ j = 3 ∨ j = 4 ∨ j = 5 ∨ j = 6 := by omega
            rcases hj6 with rfl | rfl | rfl | rfl | rfl | rfl | rfl <;> decide
          have h3 := hbd.2
          have h4 : (256 : Int) ^ 6 = 281474976710656 := by decide
          omega
        have hb0 := hbd.1
        clear hbd
        go_wp2
        go_quiet (fail)
        go_wp2
        go_roundw
        case rel => exact ⟨j + 1, _, _, by omega, by go_num, rfl, fun _ => by rw [Hst.out], fun h => by omega, rfl⟩
        case measure => simp [intOf]; omega
    · obtain rfl : j = 8 := by omega
      have HV := hide (h2 rfl)
      clear h1 h2
      go_wp2
      go_ret
      refine ⟨by rw [← HV.out]; rfl, ?_, grown_trans (grown_drewN (grown_refl w _) q) (only_set _)⟩
      have := (H.out.drewN q).turn (k + 8) (by rw [HL.out]; omega)
      rwa [Int.natCast_add] at this
end Go.Proofs.YtdhalpmgfmbcgaaDoor
namespace Go.Proofs.YtdhalpmgfmbcgaaDoor
open Go.RowKit

theorem e1_short (r : List Int) (h : r.length < 2) : entry1 (1 :: r) = none := by rw [entry1, if_pos rfl, if_pos h]
theorem e1_lack (r : List Int) (h : ¬ r.length < 2) (h2 : r.length < 2 + (be (r.take 2)).toNat) : entry1 (1 :: r) = none := by rw [entry1, if_pos rfl, if_neg h, if_pos (show r.length < 2 + (beL (r.take 2)).toNat from h2)]
theorem e1_yes (r : List Int) (h : ¬ r.length < 2) (h2 : ¬ r.length < 2 + (be (r.take 2)).toNat) : entry1 (1 :: r) = some (⟨1, (r.drop 2).take (be (r.take 2)).toNat, 0, 0, 0⟩, 3 + (be (r.take 2)).toNat) := by
  rw [entry1, if_pos rfl, if_neg h, if_neg (show ¬ r.length < 2 + (beL (r.take 2)).toNat from h2)]; rfl
theorem e3_lack (r : List Int) (h : r.length < 4) : entry1 (3 :: r) = none := by rw [entry1, if_neg (by decide), if_pos rfl, if_pos h]
theorem e3_yes (r : List Int) (h : ¬ r.length < 4) : entry1 (3 :: r) = some (⟨3, [], sgn 32 (be (r.take 4)), 0, 0⟩, 5) := by rw [entry1, if_neg (by decide), if_pos rfl, if_neg h]; rfl
theorem e5_lack (r : List Int) (h : r.length < 8) : entry1 (5 :: r) = none := by rw [entry1, if_neg (by decide), if_neg (by decide), if_pos rfl, if_pos h]
theorem e5_yes (r : List Int) (h : ¬ r.length < 8) : entry1 (5 :: r) = some (⟨5, [], sgn 64 (be (r.take 8)), 0, 0⟩, 9) := by rw [entry1, if_neg (by decide), if_neg (by decide), if_pos rfl, if_neg h]; rfl
theorem e7_lack (t : Int) (ht : t = 7 ∨ t = 8) (r : List Int) (h : r.length < 2) : entry1 (t :: r) = none := by rw [entry1, if_neg (by omega), if_neg (by omega), if_neg (by omega), if_pos ht, if_pos h]
theorem e7_yes (t : Int) (ht : t = 7 ∨ t = 8) (r : List Int) (h : ¬ r.length < 2) : entry1 (t :: r) = some (⟨t, [], 0, be (r.take 2), 0⟩, 3) := by rw [entry1, if_neg (by omega), if_neg (by omega), if_neg (by omega), if_pos ht, if_neg h]; rfl
theorem e9_lack (t : Int) (ht : t = 9 ∨ t = 10 ∨ t = 11 ∨ t = 12) (r : List Int) (h : r.length < 4) : entry1 (t :: r) = none := by
  rw [entry1, if_neg (by omega), if_neg (by omega), if_neg (by omega), if_neg (by omega), if_pos ht, if_pos h]
theorem e9_yes (t : Int) (ht : t = 9 ∨ t = 10 ∨ t = 11 ∨ t = 12) (r : List Int) (h : ¬ r.length < 4) : entry1 (t :: r) = some (⟨t, [], 0, be (r.take 2), be ((r.drop 2).take 2)⟩, 5) := by
  rw [entry1, if_neg (by omega), if_neg (by omega), if_neg (by omega), if_neg (by omega), if_pos ht, if_neg h]; rfl
theorem e0_none (t : Int) (ht : t ≠ 1 ∧ t ≠ 3 ∧ t ≠ 5 ∧ t ≠ 7 ∧ t ≠ 8 ∧ t ≠ 9 ∧ t ≠ 10 ∧ t ≠ 11 ∧ t ≠ 12) (r : List Int) : entry1 (t :: r) = none := by
  rw [entry1, if_neg (by omega), if_neg (by omega), if_neg (by omega), if_neg (by omega), if_neg (by omega)]
theorem be2_range (l : List Int) (h : IsBytes l) : 0 ≤ be (l.take 2) ∧ be (l.take 2) ≤ 65535 := by
  have h1 := be_range (l.take 2) (h.take 2)
  have h2 : (l.take 2).length ≤ 2 := by simp; omega
  have h3 : (256 : Int) ^ (l.take 2).length ≤ 65536 := by
    rcases (by omega : (l.take 2).length = 0 ∨ (l.take 2).length = 1 ∨ (l.take 2).length = 2) with h | h | h <;> rw [h] <;> decide
  omega
theorem entry1_wf {l : List Int} {e : Cst} {k : Nat} (hl : IsBytes l) (h : entry1 l = some (e, k)) : IsBytes e.text ∧ e.text.length ≤ 100000 ∧ 1 ≤ k ∧ k ≤ l.length := by
  have hnil : IsBytes [] := fun x hx => by cases hx
  cases l with
  | nil => cases h
  | cons t r =>
    have hr : IsBytes r := fun x hx => hl x (by simp [hx])
    by_cases h1 : t = 1
    · subst h1
      by_cases a : r.length < 2
      · rw [e1_short r a] at h; cases h
      · by_cases b : r.length < 2 + (be (r.take 2)).toNat
        · rw [e1_lack r a b] at h; cases h
        · rw [e1_yes r a b] at h
          cases h
          have := be2_range r hr
          refine ⟨(hr.drop 2).take _, ?_, by omega, ?_⟩
          · simp; omega
          · simp; omega
    · by_cases h3 : t = 3
      · subst h3
        by_cases a : r.length < 4
        · rw [e3_lack r a] at h; cases h
        · rw [e3_yes r a] at h; cases h; exact ⟨hnil, Nat.zero_le _, by omega, by simp; omega⟩
      · by_cases h5 : t = 5
        · subst h5
          by_cases a : r.length < 8
          · rw [e5_lack r a] at h; cases h
          · rw [e5_yes r a] at h; cases h; exact ⟨hnil, Nat.zero_le _, by omega, by simp; omega⟩
        · by_cases h7 : t = 7 ∨ t = 8
          · by_cases a : r.length < 2
            · rw [e7_lack t h7 r a] at h; cases h
            · rw [e7_yes t h7 r a] at h; cases h; exact ⟨hnil, Nat.zero_le _, by omega, by simp; omega⟩
          · by_cases h9 : t = 9 ∨ t = 10 ∨ t = 11 ∨ t = 12
            · by_cases a : r.length < 4
              · rw [e9_lack t h9 r a] at h; cases h
              · rw [e9_yes t h9 r a] at h; cases h; exact ⟨hnil, Nat.zero_le _, by omega, by simp; omega⟩
            · rw [e0_none t (by omega) r] at h; cases h
theorem entries_wf (n : Nat) : ∀ (m : Nat) (l : List Int) (es : List Cst) (k : Nat), m ≤ n → IsBytes l → entries m l = some (es, k) → CWf es ∧ k ≤ l.length := by
  have h0 : CWf [] := fun x hx => by cases hx
  induction n with
  | zero =>
    intro m l es k hm _ h
    obtain rfl : m = 0 := by omega
    rw [entries_zero] at h; cases h; exact ⟨h0, Nat.zero_le _⟩
  | succ n ih =>
    intro m l es k hm hl h
    cases m with
    | zero => rw [entries_zero] at h; cases h; exact ⟨h0, Nat.zero_le _⟩
    | succ m =>
      cases he : entry1 l with
      | none => rw [entries_none he] at h; cases h
      | some x =>
        obtain ⟨e, j⟩ := x
        obtain ⟨w1, w2, w3, w4⟩ := entry1_wf hl he
        by_cases h5 : e.tag = 5
        · cases m with
          | zero => rw [entries_last he h5] at h; cases h
          | succ m =>
            rw [entries_long he h5] at h
            cases hx : entries m (l.drop j) with
            | none => rw [hx] at h; cases h
            | some y =>
              rw [hx] at h
              simp only [Option.map_some, Option.some.injEq, Prod.mk.injEq] at h
              obtain ⟨rfl, rfl⟩ := h
              obtain ⟨i1, i2⟩ := ih m _ y.1 y.2 (by omega) (hl.drop j) hx
              rw [List.length_drop] at i2
              refine ⟨fun x hx => ?_, by omega⟩
              rcases List.mem_cons.1 hx with rfl | hx
              · exact ⟨w1, w2⟩
              · rcases List.mem_cons.1 hx with rfl | hx
                · exact ⟨fun x hx => (by cases hx), Nat.zero_le _⟩
                · exact i1 x hx
        · rw [entries_one he h5] at h
          cases hx : entries m (l.drop j) with
          | none => rw [hx] at h; cases h
          | some y =>
            rw [hx] at h
            simp only [Option.map_some, Option.some.injEq, Prod.mk.injEq] at h
            obtain ⟨rfl, rfl⟩ := h
            obtain ⟨i1, i2⟩ := ih m _ y.1 y.2 (by omega) (hl.drop j) hx
            rw [List.length_drop] at i2
            refine ⟨fun x hx => ?_, by omega⟩
            rcases List.mem_cons.1 hx with rfl | hx
            · exact ⟨w1, w2⟩
            · exact i1 x hx

/-! ### a block of entries, one of them being written -/
theorem ccells_app (a b : List Cst) : ccells (a ++ b) = ccells a ++ ccells b := by simp [ccells]
theorem ccells_cons (x : Cst) (b : List Cst) : ccells (x :: b) = x.cells ++ ccells b := by simp [ccells]
theorem at_cell {w : World} {g : Nat} {t : TypeId} {a : List Cst} {c0 c1 c2 c3 c4 : Value} {b : List Value} (h : At w g t (ccells a ++ c0 :: c1 :: c2 :: c3 :: c4 :: b)) {i : Nat} (hi : a.length = i) :
    w.cell? ⟨g, i * 5, none⟩ = some c0 ∧ w.cell? ⟨g, i * 5 + 1, none⟩ = some c1 ∧ w.cell? ⟨g, i * 5 + 2, none⟩ = some c2 ∧ w.cell? ⟨g, i * 5 + 3, none⟩ = some c3 ∧ w.cell? ⟨g, i * 5 + 4, none⟩ = some c4 ∧
    w.frozen? ⟨g, i * 5, none⟩ = false ∧ w.frozen? ⟨g, i * 5 + 1, none⟩ = false ∧ w.frozen? ⟨g, i * 5 + 2, none⟩ = false ∧ w.frozen? ⟨g, i * 5 + 3, none⟩ = false ∧ w.frozen? ⟨g, i * 5 + 4, none⟩ = false := by
  have hl : (ccells a).length = i * 5 := by rw [ccells_len, hi]
  have e : ∀ j, (ccells a ++ c0 :: c1 :: c2 :: c3 :: c4 :: b)[i * 5 + j]? = (c0 :: c1 :: c2 :: c3 :: c4 :: b)[j]? := fun j => by
    rw [List.getElem?_append_right (by omega), hl, Nat.add_sub_cancel_left]
  refine ⟨?_, ?_, ?_, ?_, ?_, h.free _, h.free _, h.free _, h.free _, h.free _⟩
  · rw [h.cell]; exact e 0
  · rw [h.cell]; exact e 1
  · rw [h.cell]; exact e 2
  · rw [h.cell]; exact e 3
  · rw [h.cell]; exact e 4
theorem at_put {w : World} {g : Nat} {t : TypeId} {a : List Cst} {l : List Value} (h : At w g t (ccells a ++ l)) {i : Nat} (hi : a.length = i) (j : Nat) (v : Value) :
    At (w.setCell ⟨g, i * 5 + j, none⟩ v) g t (ccells a ++ l.set j v) := by
  have hl : (ccells a).length = i * 5 := by rw [ccells_len, hi]
  have := h.set (i * 5 + j) v
  rwa [List.set_append_right _ _ (by omega), hl, Nat.add_sub_cancel_left] at this
theorem at_put0 {w : World} {g : Nat} {t : TypeId} {a : List Cst} {c : Value} {l : List Value} (h : At w g t (ccells a ++ c :: l)) {i : Nat} (hi : a.length = i) (v : Value) :
    At (w.setCell ⟨g, i * 5, none⟩ v) g t (ccells a ++ v :: l) := at_put h hi 0 v
end Go.Proofs.YtdhalpmgfmbcgaaDoor
namespace Go.Proofs.YtdhalpmgfmbcgaaDoor
open Go.RowKit

set_option maxHeartbeats 4000000 in
set_option maxRecDepth 100000 in
theorem psame_yes (A A' : Option Addr) (n c c' : Nat) (ps : List Cst) (w : World) (B B' : Nat) (hr : RdC w B A n ps) (hr' : RdC w B' A' n ps) (hn : n ≤ 1000000) :
    Calls Tryd.prog 11 #[.slice A n c, .slice A' n c'] w fun e w' => e = .returned (.bool true) ∧ ∃ m, w' = w.drewN m := by
  have Hr := hide hr
  have Hr' := hide hr'
  clear hr hr'
  go_enter Tryd.func11, Tryd.ntmps11
  go_wp2_with fail
  go_loopw [5] (fun iv wr => ∃ k m : Nat, k ≤ n ∧ iv = .int .i64 k ∧ wr = w.drewN m) (fun iv _ => n - (intOf iv).toNat)
  case atStart => exact ⟨0, 0, Nat.zero_le _, rfl, rfl⟩
  case round =>
    obtain ⟨k, m, hk, rfl, rfl⟩ := hrel
    by_cases hlt : k < n
    · obtain ⟨g, o, rfl, _, a0, a1, a2, a3, a4⟩ := Hr.out.cells5 hlt
      obtain ⟨g', o', rfl, _, b0, b1, b2, b3, b4⟩ := Hr'.out.cells5 hlt
      generalize (ps.getD k noC) = x at *
      obtain ⟨x0, x1, x2, x3, x4⟩ := x
      simp only at a0 a1 a2 a3 a4 b0 b1 b2 b3 b4
      generalize strOfNums x1 = s1 at *
      have hlt' : (k : Int) < (n : Int) := by omega
      go_wp2_with fail
      go_quiet (fail)
      go_wp2
      go_roundw
      case rel => exact ⟨k + 1, _, by omega, by go_num, rfl⟩
      case measure => simp [intOf]; omega
    · obtain rfl : k = n := by omega
      go_wp2
      go_ret
      exact ⟨rfl, m, rfl⟩
end Go.Proofs.YtdhalpmgfmbcgaaDoor
