/- Texts of one stage, merged. Nothing is claimed here. -/
import Derived.Test.YtbdbcalmjbmflaaGreatDoorPackD
import Derived.Test.YtbdbcalmjbmflaaGreatDoorPackA
import Derived.Test.YtbdbcalmjbmflaaGreatDoorProg
import Derived.Test.YtbdbcalmjbmflaaGreatDoorPackC
namespace Go.Proofs.YtbdbcalmjbmflaaGreatDoor
open Go.RowKit

/-- An entry: its tag, its text, its number, the numbers of other entries. -/
structure Cst where
  tag : Int
  text : List Int
  num : Int
  a : Int
  b : Int
deriving DecidableEq
/-- No entry. -/
def noC : Cst := ⟨0, [], 0, 0, 0⟩
/-- Its cells. -/
def Cst.cells (x : Cst) : List Value := [.int .i64 x.tag, .string (strOfNums x.text), .int .i64 x.num, .int .i64 x.a, .int .i64 x.b]
def ccells (l : List Cst) : List Value := l.flatMap Cst.cells
/-- The number of some bytes, the highest first. -/
def beL (l : List Int) : Int := l.foldl (fun x b => x * 256 + b) 0
/-- A number with its sign. -/
def sgn (n : Nat) (x : Int) : Int := if 2 ^ (n - 1) ≤ x then x - 2 ^ n else x

/-- The entry at some bytes' beginning; how long it is. -/
def entry1 : List Int → Option (Cst × Nat)
  | [] => none
  | t :: r =>
    if t = 1 then
      if r.length < 2 then none else
      if r.length < 2 + (beL (r.take 2)).toNat then none else some (⟨1, (r.drop 2).take (beL (r.take 2)).toNat, 0, 0, 0⟩, 3 + (beL (r.take 2)).toNat)
    else if t = 3 then if r.length < 4 then none else some (⟨3, [], sgn 32 (beL (r.take 4)), 0, 0⟩, 5)
    else if t = 5 then if r.length < 8 then none else some (⟨5, [], sgn 64 (beL (r.take 8)), 0, 0⟩, 9)
    else if t = 7 ∨ t = 8 then if r.length < 2 then none else some (⟨t, [], 0, beL (r.take 2), 0⟩, 3)
    else if t = 9 ∨ t = 10 ∨ t = 11 ∨ t = 12 then if r.length < 4 then none else some (⟨t, [], 0, beL (r.take 2), beL ((r.drop 2).take 2)⟩, 5)
    else none
/-- So many places of entries, one behind the other; how long they are. The first number: at least as many. -/
def entriesF : Nat → Nat → List Int → Option (List Cst × Nat)
  | _, 0, _ => some ([], 0)
  | 0, _ + 1, _ => none
  | f + 1, m + 1, l =>
    match entry1 l with
    | none => none
    | some (e, k) =>
      if e.tag = 5 then (if m = 0 then none else (entriesF f (m - 1) (l.drop k)).map fun x => (e :: noC :: x.1, k + x.2))
      else (entriesF f m (l.drop k)).map fun x => (e :: x.1, k + x.2)
def entries (m : Nat) (l : List Int) : Option (List Cst × Nat) := entriesF m m l

def tagAt (p : List Cst) (i : Int) : Int := if 0 ≤ i ∧ i < p.length then (p.getD i.toNat noC).tag else 0
def atC (p : List Cst) (i : Int) : Cst := if 0 ≤ i ∧ i < p.length then p.getD i.toNat noC else noC
def textAt (p : List Cst) (i : Int) : Option (List Int) := if (atC p i).tag = 1 then some (atC p i).text else none
def classAt (p : List Cst) (i : Int) : Option (List Int) := if (atC p i).tag = 7 then textAt p (atC p i).a else none
def memberAt (p : List Cst) (i : Int) : Option (List Int × List Int × List Int) :=
  if (atC p i).tag = 9 ∨ (atC p i).tag = 10 ∨ (atC p i).tag = 11 then
    match classAt p (atC p i).a with
    | none => none
    | some c => if (atC p (atC p i).b).tag = 12 then
        match textAt p (atC p (atC p i).b).a, textAt p (atC p (atC p i).b).b with
        | some n, some d => some (c, n, d)
        | _, _ => none
      else none
  else none
/-- An array's descriptor? -/
def arrB (l : List Int) : Bool := match field l with
  | some t => t.kind == 91
  | none => false
def nInit : List Int := [60, 105, 110, 105, 116, 62]
def nClinit : List Int := [60, 99, 108, 105, 110, 105, 116, 62]
/-- May an entry be? -/
def holdsAt (p : List Cst) (i : Int) : Bool :=
  let e := atC p i
  if e.tag = 1 then (dec e.text).isSome
  else if e.tag = 7 then match textAt p e.a with
    | some s => classB s || arrB s
    | none => false
  else if e.tag = 8 then (atC p e.a).tag == 1
  else if e.tag = 12 then match textAt p e.a, textAt p e.b with
    | some n, some d => (plainB n || n == nInit) && ((field d).isSome || (sig d).isSome)
    | _, _ => false
  else if e.tag = 9 ∨ e.tag = 10 ∨ e.tag = 11 then match memberAt p i with
    | some (_, n, d) =>
      if (field d).isSome == (e.tag == 9) then
        if n = nInit then e.tag == 10 && (match sig d with | some (_, t) => t.kind == 86 | none => false)
        else e.tag == 9 || (methodB n && n != nClinit)
      else false
    | none => false
  else true
/-- A pool at some bytes' beginning; how long it is. -/
def pool (l : List Int) : Option (List Cst × Nat) :=
  if l.length < 2 then none else
  if beL (l.take 2) < 1 ∨ 1000 < beL (l.take 2) then none else
  match entries ((beL (l.take 2)).toNat - 1) (l.drop 2) with
  | none => none
  | some (es, k) => if (List.range (beL (l.take 2)).toNat).all (fun i => i == 0 || holdsAt (noC :: es) i) then some (noC :: es, 2 + k) else none

theorem ccells_len (l : List Cst) : (ccells l).length = l.length * 5 := by
  induction l with
  | nil => rfl
  | cons t r ih => simp only [ccells, List.flatMap_cons, List.length_append] at ih ⊢; rw [ih]; simp [Cst.cells]; omega
theorem ccells_at (ts : List Cst) : ∀ (j i : Nat), j < ts.length → i < 5 → (ccells ts)[j * 5 + i]? = (ts.getD j noC).cells[i]? := by
  induction ts with
  | nil => intro j i h; simp at h
  | cons t r ih =>
    intro j i h hi
    have hl : t.cells.length = 5 := rfl
    cases j with
    | zero =>
      rw [ccells, List.flatMap_cons, List.getElem?_append_left (by omega)]
      simp
    | succ j =>
      rw [ccells, List.flatMap_cons, List.getElem?_append_right (by omega), hl, show (j + 1) * 5 + i - 5 = j * 5 + i by omega]
      have := ih j i (by simpa using h) hi
      rw [ccells] at this
      rw [this]; simp
theorem entriesF_more (f : Nat) : ∀ (g m : Nat) (l : List Int), m ≤ f → m ≤ g → entriesF f m l = entriesF g m l := by
  induction f with
  | zero =>
    intro g m l h _
    obtain rfl : m = 0 := by omega
    cases g <;> rfl
  | succ f ih =>
    intro g m l h1 h2
    cases m with
    | zero => cases g <;> rfl
    | succ m =>
      cases g with
      | zero => omega
      | succ g =>
        unfold entriesF
        cases entry1 l with
        | none => rfl
        | some x =>
          obtain ⟨e, k⟩ := x
          simp only
          by_cases h5 : e.tag = 5
          · rw [if_pos h5, if_pos h5]
            by_cases hm : m = 0
            · rw [if_pos hm, if_pos hm]
            · rw [if_neg hm, if_neg hm, ih g (m - 1) _ (by omega) (by omega)]
          · rw [if_neg h5, if_neg h5, ih g m _ (by omega) (by omega)]
theorem entries_zero (l : List Int) : entries 0 l = some ([], 0) := rfl
theorem entries_none {m : Nat} {l : List Int} (h : entry1 l = none) : entries (m + 1) l = none := by
  unfold entries entriesF; rw [h]
theorem entries_long {m : Nat} {l : List Int} {e : Cst} {k : Nat} (h : entry1 l = some (e, k)) (h5 : e.tag = 5) : entries (m + 2) l = (entries m (l.drop k)).map fun x => (e :: noC :: x.1, k + x.2) := by
  unfold entries
  rw [show entriesF (m + 2) (m + 2) l = if e.tag = 5 then (if m + 1 = 0 then none else (entriesF (m + 1) m (l.drop k)).map fun x => (e :: noC :: x.1, k + x.2)) else (entriesF (m + 1) (m + 1) (l.drop k)).map fun x => (e :: x.1, k + x.2) by
    rw [entriesF, h]; rfl, if_pos h5, if_neg (by omega), entriesF_more (m + 1) m m _ (by omega) (by omega)]
theorem entries_last {l : List Int} {e : Cst} {k : Nat} (h : entry1 l = some (e, k)) (h5 : e.tag = 5) : entries 1 l = none := by
  unfold entries entriesF
  rw [h]
  simp only
  rw [if_pos h5]; simp
theorem entries_one {m : Nat} {l : List Int} {e : Cst} {k : Nat} (h : entry1 l = some (e, k)) (h5 : e.tag ≠ 5) : entries (m + 1) l = (entries m (l.drop k)).map fun x => (e :: x.1, k + x.2) := by
  unfold entries
  rw [entriesF, h]
  simp only
  rw [if_neg h5]
theorem entries_len (n : Nat) : ∀ (m : Nat) (l : List Int) (es : List Cst) (k : Nat), m ≤ n → entries m l = some (es, k) → es.length = m := by
  induction n with
  | zero =>
    intro m l es k hm h
    obtain rfl : m = 0 := by omega
    rw [entries_zero] at h; cases h; rfl
  | succ n ih =>
    intro m l es k hm h
    cases m with
    | zero => rw [entries_zero] at h; cases h; rfl
    | succ m =>
      cases he : entry1 l with
      | none => rw [entries_none he] at h; cases h
      | some x =>
        obtain ⟨e, j⟩ := x
        by_cases h5 : e.tag = 5
        · cases m with
          | zero => rw [entries_last he h5] at h; cases h
          | succ m =>
            rw [entries_long he h5] at h
            cases hx : entries m (l.drop j) with
            | none => rw [hx] at h; cases h
            | some y =>
              rw [hx] at h
              simp only [Option.map_some, Option.some.injEq, Prod.mk.injEq] at h
              obtain ⟨rfl, rfl⟩ := h
              have := ih m _ y.1 y.2 (by omega) hx
              simp [this]
        · rw [entries_one he h5] at h
          cases hx : entries m (l.drop j) with
          | none => rw [hx] at h; cases h
          | some y =>
            rw [hx] at h
            simp only [Option.map_some, Option.some.injEq, Prod.mk.injEq] at h
            obtain ⟨rfl, rfl⟩ := h
            have := ih m _ y.1 y.2 (by omega) hx
            simp [this]
end Go.Proofs.YtbdbcalmjbmflaaGreatDoor
namespace Go.Proofs.YtbdbcalmjbmflaaGreatDoor
open Go.RowKit

/-- The slice with address A and length n reads as the entries ps, in blocks ahead of B. -/
def RdC (w : World) (B : Nat) (A : Option Addr) (n : Nat) (ps : List Cst) : Prop :=
  ps.length = n ∧ (0 < n → ∃ g o, A = some ⟨g, o, none⟩ ∧ g < B ∧ ∀ j u, (ccells ps)[j]? = some u → w.cell? ⟨g, o + j, none⟩ = some u)
section
variable {w w' : World} {B : Nat} {A : Option Addr} {n : Nat} {ps : List Cst}
theorem RdC.below (h : RdC w B A n ps) (hb : Below B w w') : RdC w' B A n ps :=
  ⟨h.1, fun hn => by
    obtain ⟨g, o, ha, hg, hc⟩ := h.2 hn
    exact ⟨g, o, ha, hg, fun j u hu => by rw [hb.cell (p := ⟨g, o + j, none⟩) hg]; exact hc j u hu⟩⟩
theorem RdC.mono {B' : Nat} (h : RdC w B A n ps) (hB : B ≤ B') : RdC w B' A n ps :=
  ⟨h.1, fun hn => by
    obtain ⟨g, o, ha, hg, hc⟩ := h.2 hn
    exact ⟨g, o, ha, by omega, hc⟩⟩
theorem RdC.drewN (h : RdC w B A n ps) (k : Nat) : RdC (w.drewN k) B A n ps := h
theorem RdC.cells5 (h : RdC w B A n ps) {j : Nat} (hj : j < n) : ∃ g o, A = some ⟨g, o, none⟩ ∧ g < B ∧
    w.cell? ⟨g, o + j * 5, none⟩ = some (.int .i64 (ps.getD j noC).tag) ∧ w.cell? ⟨g, o + j * 5 + 1, none⟩ = some (.string (strOfNums (ps.getD j noC).text)) ∧
    w.cell? ⟨g, o + j * 5 + 2, none⟩ = some (.int .i64 (ps.getD j noC).num) ∧ w.cell? ⟨g, o + j * 5 + 3, none⟩ = some (.int .i64 (ps.getD j noC).a) ∧ w.cell? ⟨g, o + j * 5 + 4, none⟩ = some (.int .i64 (ps.getD j noC).b) := by
  obtain ⟨g, o, ha, hg, hc⟩ := h.2 (by omega)
  have hl := h.1
  refine ⟨g, o, ha, hg, ?_, ?_, ?_, ?_, ?_⟩
  · exact hc _ _ (by have := ccells_at ps j 0 (by omega) (by omega); rw [Nat.add_zero] at this; rw [this]; rfl)
  · rw [Nat.add_assoc]; exact hc _ _ (by rw [ccells_at ps j 1 (by omega) (by omega)]; rfl)
  · rw [Nat.add_assoc]; exact hc _ _ (by rw [ccells_at ps j 2 (by omega) (by omega)]; rfl)
  · rw [Nat.add_assoc]; exact hc _ _ (by rw [ccells_at ps j 3 (by omega) (by omega)]; rfl)
  · rw [Nat.add_assoc]; exact hc _ _ (by rw [ccells_at ps j 4 (by omega) (by omega)]; rfl)
theorem atC_in (hl : ps.length = n) {j : Nat} (hj : j < n) : atC ps (j : Int) = ps.getD j noC := by
  unfold atC
  rw [if_pos (by omega), Int.toNat_natCast]
theorem atC_out (hl : ps.length = n) {i : Int} (h : i < 0 ∨ (n : Int) ≤ i) : atC ps i = noC := by
  unfold atC
  rw [if_neg (by omega)]
end
/-- A text, or none. -/
def textV : Option (List Int) → Value
  | some t => .tuple #[.string (strOfNums t), .bool true]
  | none => .tuple #[.string ⟨#[]⟩, .bool false]

theorem textV_split (o : Option (List Int)) : (o = none ∧ textV o = .tuple #[.string ⟨#[]⟩, .bool false]) ∨ ∃ t, o = some t ∧ textV o = .tuple #[.string (strOfNums t), .bool true] := by
  cases o with
  | none => exact .inl ⟨rfl, rfl⟩
  | some t => exact .inr ⟨t, rfl, rfl⟩
/-- A member's class, name and descriptor, or none. -/
def memberV : Option (List Int × List Int × List Int) → Value
  | some (c, n, d) => .tuple #[.string (strOfNums c), .string (strOfNums n), .string (strOfNums d), .bool true]
  | none => .tuple #[.string ⟨#[]⟩, .string ⟨#[]⟩, .string ⟨#[]⟩, .bool false]
theorem tag_in {ps : List Cst} {n : Nat} {i : Int} (hl : ps.length = n) (h : (atC ps i).tag ≠ 0) : ∃ j : Nat, i = j ∧ j < n := by
  rcases Int.lt_or_le i 0 with h1 | h1
  · rw [atC_out hl (.inl h1)] at h; exact absurd rfl h
  · rcases Int.lt_or_le i n with h2 | h2
    · exact ⟨i.toNat, by omega, by omega⟩
    · rw [atC_out hl (.inr h2)] at h; exact absurd rfl h
theorem member_no {ps : List Cst} {i : Int} (h : ¬ ((atC ps i).tag = 9 ∨ (atC ps i).tag = 10 ∨ (atC ps i).tag = 11)) : memberAt ps i = none := if_neg h
theorem member_yes {ps : List Cst} {i : Int} (h : (atC ps i).tag = 9 ∨ (atC ps i).tag = 10 ∨ (atC ps i).tag = 11) : memberAt ps i =
    (classAt ps (atC ps i).a).bind fun c => if (atC ps (atC ps i).b).tag = 12 then (textAt ps (atC ps (atC ps i).b).a).bind fun n => (textAt ps (atC ps (atC ps i).b).b).map fun d => (c, n, d) else none := by
  unfold memberAt
  rw [if_pos h]
  cases classAt ps (atC ps i).a with
  | none => rfl
  | some c =>
    simp only [Option.bind_some]
    split
    · cases textAt ps (atC ps (atC ps i).b).a with
      | none => rfl
      | some n =>
        cases textAt ps (atC ps (atC ps i).b).b with
        | none => rfl
        | some d => rfl
    · rfl

end Go.Proofs.YtbdbcalmjbmflaaGreatDoor
namespace Go.Proofs.YtbdbcalmjbmflaaGreatDoor
open Go.RowKit

theorem fieldV_form (o : Option Ty) : ∃ k q d x, fieldV o = .tuple #[.agg #[.int .u8 k, .string q, .int .i64 d, .int .u8 x], .bool o.isSome] ∧ (o = none → k = 0) ∧ ∀ t, o = some t → k = t.kind := by
  cases o with
  | none => exact ⟨0, _, _, _, rfl, fun _ => rfl, fun t h => (by cases h)⟩
  | some t => exact ⟨t.kind, _, _, _, rfl, fun h => (by cases h), fun u h => (by cases h; rfl)⟩
theorem sigTold_form {o : Option (List Ty × Ty)} {w w' : World} {e : Ending} (h : SigTold o w e w') :
    ∃ A n c k q d x, e = .returned (.tuple #[.slice A n c, .agg #[.int .u8 k, .string q, .int .i64 d, .int .u8 x], .bool o.isSome]) ∧ Below w.heap.size w w' ∧ (o = none → k = 0) ∧ ∀ ts t, o = some (ts, t) → k = t.kind := by
  obtain ⟨hb, ⟨rfl, rfl⟩ | ⟨ts, t, A, c, rfl, rfl, _⟩⟩ := h
  · exact ⟨none, 0, 0, 0, _, _, _, rfl, hb, fun _ => rfl, fun _ _ h => (by cases h)⟩
  · exact ⟨A, _, c, t.kind, _, _, _, rfl, hb, fun h => (by cases h), fun _ _ h => (by cases h; rfl)⟩

/-- The texts of entries are bytes, and not too long. -/
def CWf (ps : List Cst) : Prop := ∀ x ∈ ps, IsBytes x.text ∧ x.text.length ≤ 100000
theorem atC_wf {ps : List Cst} (h : CWf ps) (i : Int) : IsBytes (atC ps i).text ∧ (atC ps i).text.length ≤ 100000 := by
  unfold atC
  split
  · rename_i hi
    have hj : i.toNat < ps.length := by omega
    have : ps.getD i.toNat noC = ps[i.toNat] := by simp [List.getD, hj]
    rw [this]
    exact h _ (List.getElem_mem hj)
  · exact ⟨fun x hx => (by cases hx), Nat.zero_le _⟩
theorem textAt_wf {ps : List Cst} (h : CWf ps) {i : Int} {t : List Int} (ht : textAt ps i = some t) : IsBytes t ∧ t.length ≤ 100000 := by
  unfold textAt at ht
  split at ht
  · cases ht; exact atC_wf h i
  · cases ht
/-- A text as a string: its numbers, its size. -/
theorem str_wf {t : List Int} (h : IsBytes t ∧ t.length ≤ 100000) : nums (strOfNums t) = t ∧ (strOfNums t).size ≤ 100000 := ⟨nums_of t h.1, by rw [strOfNums_size]; exact h.2⟩
def sI : ByteArray := ⟨#[60, 105, 110, 105, 116, 62]⟩
def sC : ByteArray := ⟨#[60, 99, 108, 105, 110, 105, 116, 62]⟩

theorem holds_1 {ps : List Cst} {i : Int} (h : (atC ps i).tag = 1) : holdsAt ps i = (dec (atC ps i).text).isSome := by unfold holdsAt; simp only; rw [if_pos h]
theorem holds_7 {ps : List Cst} {i : Int} (h : (atC ps i).tag = 7) : holdsAt ps i = match textAt ps (atC ps i).a with | some s => classB s || arrB s | none => false := by
  unfold holdsAt; simp only; rw [if_neg (by omega), if_pos h]
  all_goals (cases textAt ps (atC ps i).a <;> rfl)
theorem holds_8 {ps : List Cst} {i : Int} (h : (atC ps i).tag = 8) : holdsAt ps i = ((atC ps (atC ps i).a).tag == 1) := by
  unfold holdsAt; simp only; rw [if_neg (by omega), if_neg (by omega), if_pos h]

end Go.Proofs.YtbdbcalmjbmflaaGreatDoor
namespace Go.Proofs.YtbdbcalmjbmflaaGreatDoor
open Go.RowKit

theorem holds_12 {ps : List Cst} {i : Int} (h : (atC ps i).tag = 12) : holdsAt ps i = match textAt ps (atC ps i).a, textAt ps (atC ps i).b with
    | some n, some d => (plainB n || n == nInit) && ((field d).isSome || (sig d).isSome)
    | _, _ => false := by
  unfold holdsAt; simp only; rw [if_neg (by omega), if_neg (by omega), if_neg (by omega), if_pos h]
  all_goals (cases textAt ps (atC ps i).a <;> cases textAt ps (atC ps i).b <;> rfl)
theorem holds_else {ps : List Cst} {i : Int} (h : (atC ps i).tag ≠ 1 ∧ (atC ps i).tag ≠ 7 ∧ (atC ps i).tag ≠ 8 ∧ (atC ps i).tag ≠ 12 ∧ (atC ps i).tag ≠ 9 ∧ (atC ps i).tag ≠ 10 ∧ (atC ps i).tag ≠ 11) : holdsAt ps i = true := by
  unfold holdsAt; simp only; rw [if_neg (by omega), if_neg (by omega), if_neg (by omega), if_neg (by omega), if_neg (by omega)]
theorem holds_9 {ps : List Cst} {i : Int} (h : (atC ps i).tag = 9 ∨ (atC ps i).tag = 10 ∨ (atC ps i).tag = 11) : holdsAt ps i = match memberAt ps i with
    | some (_, n, d) =>
      if (field d).isSome == ((atC ps i).tag == 9) then
        if n = nInit then (atC ps i).tag == 10 && (match sig d with | some (_, t) => t.kind == 86 | none => false)
        else (atC ps i).tag == 9 || (methodB n && n != nClinit)
      else false
    | none => false := by
  unfold holdsAt; simp only; rw [if_neg (by omega), if_neg (by omega), if_neg (by omega), if_neg (by omega), if_pos h]
  all_goals (cases memberAt ps i <;> rfl)
theorem init_iff {t : List Int} (h : nums (strOfNums t) = t) : t = nInit ↔ strOfNums t = sI := by
  constructor
  · rintro rfl; apply nums_inj; rw [h]; rfl
  · intro e; rw [← h, e]; rfl
theorem clinit_iff {t : List Int} (h : nums (strOfNums t) = t) : t = nClinit ↔ strOfNums t = sC := by
  constructor
  · rintro rfl; apply nums_inj; rw [h]; rfl
  · intro e; rw [← h, e]; rfl
/-- A string that is known or not, in the walk's two forms. -/
theorem lit_yes {q : ByteArray} {l : List UInt8} (h : q = ⟨l.toArray⟩) : q.toList = l ∧ (q.toList == l) = true := by
  subst h
  have : (⟨l.toArray⟩ : ByteArray).toList = l := by rw [Lib.toList_data]
  exact ⟨this, by rw [this]; simp⟩

end Go.Proofs.YtbdbcalmjbmflaaGreatDoor
namespace Go.Proofs.YtbdbcalmjbmflaaGreatDoor
open Go.RowKit

theorem member_wf {ps : List Cst} (hwf : CWf ps) {i : Int} {c n d : List Int} (h : memberAt ps i = some (c, n, d)) : (IsBytes n ∧ n.length ≤ 100000) ∧ (IsBytes d ∧ d.length ≤ 100000) := by
  by_cases hk : (atC ps i).tag = 9 ∨ (atC ps i).tag = 10 ∨ (atC ps i).tag = 11
  · rw [member_yes hk] at h
    cases hc : classAt ps (atC ps i).a with
    | none => rw [hc] at h; cases h
    | some c' =>
      rw [hc, Option.bind_some] at h
      split at h
      · cases hn : textAt ps (atC ps (atC ps i).b).a with
        | none => rw [hn] at h; cases h
        | some n' =>
          rw [hn, Option.bind_some] at h
          cases hd : textAt ps (atC ps (atC ps i).b).b with
          | none => rw [hd] at h; cases h
          | some d' =>
            rw [hd] at h
            cases h
            exact ⟨textAt_wf hwf hn, textAt_wf hwf hd⟩
      · cases h
  · rw [member_no hk] at h; cases h

end Go.Proofs.YtbdbcalmjbmflaaGreatDoor
namespace Go.Proofs.YtbdbcalmjbmflaaGreatDoor
open Go.RowKit

theorem beL_be (l : List Int) : beL l = be l := rfl
theorem fold_range (xs : List Int) : ∀ (v : Int), 0 ≤ v → IsBytes xs → v ≤ xs.foldl (fun v b => v * 256 + b) v ∧ xs.foldl (fun v b => v * 256 + b) v < (v + 1) * 256 ^ xs.length := by
  induction xs with
  | nil => intro v h _; simp; omega
  | cons b r ih =>
    intro v h hx
    have hb := hx b (by simp)
    obtain ⟨h1, h2⟩ := ih (v * 256 + b) (by omega) fun x hx' => hx x (by simp [hx'])
    rw [List.foldl_cons, List.length_cons, Int.pow_succ]
    refine ⟨by omega, Int.lt_of_lt_of_le h2 ?_⟩
    have h3 : v * 256 + b + 1 ≤ (v + 1) * 256 := by omega
    have h4 : (v * 256 + b + 1) * 256 ^ r.length ≤ (v + 1) * 256 * 256 ^ r.length := Int.mul_le_mul_of_nonneg_right h3 (Int.pow_nonneg (by decide))
    rw [Int.mul_assoc, Int.mul_comm 256] at h4
    exact h4
theorem be_range (xs : List Int) (h : IsBytes xs) : 0 ≤ be xs ∧ be xs < 256 ^ xs.length := by
  have := fold_range xs 0 (Int.le_refl 0) h
  unfold be
  omega

end Go.Proofs.YtbdbcalmjbmflaaGreatDoor
namespace Go.Proofs.YtbdbcalmjbmflaaGreatDoor
open Go.RowKit

theorem e1_short (r : List Int) (h : r.length < 2) : entry1 (1 :: r) = none := by rw [entry1, if_pos rfl, if_pos h]
theorem e1_lack (r : List Int) (h : ¬ r.length < 2) (h2 : r.length < 2 + (be (r.take 2)).toNat) : entry1 (1 :: r) = none := by rw [entry1, if_pos rfl, if_neg h, if_pos (show r.length < 2 + (beL (r.take 2)).toNat from h2)]
theorem e1_yes (r : List Int) (h : ¬ r.length < 2) (h2 : ¬ r.length < 2 + (be (r.take 2)).toNat) : entry1 (1 :: r) = some (⟨1, (r.drop 2).take (be (r.take 2)).toNat, 0, 0, 0⟩, 3 + (be (r.take 2)).toNat) := by
  rw [entry1, if_pos rfl, if_neg h, if_neg (show ¬ r.length < 2 + (beL (r.take 2)).toNat from h2)]; rfl
theorem e3_lack (r : List Int) (h : r.length < 4) : entry1 (3 :: r) = none := by rw [entry1, if_neg (by decide), if_pos rfl, if_pos h]
theorem e3_yes (r : List Int) (h : ¬ r.length < 4) : entry1 (3 :: r) = some (⟨3, [], sgn 32 (be (r.take 4)), 0, 0⟩, 5) := by rw [entry1, if_neg (by decide), if_pos rfl, if_neg h]; rfl
theorem e5_lack (r : List Int) (h : r.length < 8) : entry1 (5 :: r) = none := by rw [entry1, if_neg (by decide), if_neg (by decide), if_pos rfl, if_pos h]
theorem e5_yes (r : List Int) (h : ¬ r.length < 8) : entry1 (5 :: r) = some (⟨5, [], sgn 64 (be (r.take 8)), 0, 0⟩, 9) := by rw [entry1, if_neg (by decide), if_neg (by decide), if_pos rfl, if_neg h]; rfl
theorem e7_lack (t : Int) (ht : t = 7 ∨ t = 8) (r : List Int) (h : r.length < 2) : entry1 (t :: r) = none := by rw [entry1, if_neg (by omega), if_neg (by omega), if_neg (by omega), if_pos ht, if_pos h]
theorem e7_yes (t : Int) (ht : t = 7 ∨ t = 8) (r : List Int) (h : ¬ r.length < 2) : entry1 (t :: r) = some (⟨t, [], 0, be (r.take 2), 0⟩, 3) := by rw [entry1, if_neg (by omega), if_neg (by omega), if_neg (by omega), if_pos ht, if_neg h]; rfl
theorem e9_lack (t : Int) (ht : t = 9 ∨ t = 10 ∨ t = 11 ∨ t = 12) (r : List Int) (h : r.length < 4) : entry1 (t :: r) = none := by
  rw [entry1, if_neg (by omega), if_neg (by omega), if_neg (by omega), if_neg (by omega), if_pos ht, if_pos h]
theorem e9_yes (t : Int) (ht : t = 9 ∨ t = 10 ∨ t = 11 ∨ t = 12) (r : List Int) (h : ¬ r.length < 4) : entry1 (t :: r) = some (⟨t, [], 0, be (r.take 2), be ((r.drop 2).take 2)⟩, 5) := by
  rw [entry1, if_neg (by omega), if_neg (by omega), if_neg (by omega), if_neg (by omega), if_pos ht, if_neg h]; rfl
theorem e0_none (t : Int) (ht : t ≠ 1 ∧ t ≠ 3 ∧ t ≠ 5 ∧ t ≠ 7 ∧ t ≠ 8 ∧ t ≠ 9 ∧ t ≠ 10 ∧ t ≠ 11 ∧ t ≠ 12) (r : List Int) : entry1 (t :: r) = none := by
  rw [entry1, if_neg (by omega), if_neg (by omega), if_neg (by omega), if_neg (by omega), if_neg (by omega)]
theorem be2_range (l : List Int) (h : IsBytes l) : 0 ≤ be (l.take 2) ∧ be (l.take 2) ≤ 65535 := by
  have h1 := be_range (l.take 2) (h.take 2)
  have h2 : (l.take 2).length ≤ 2 := by simp; omega
  have h3 : (256 : Int) ^ (l.take 2).length ≤ 65536 := by
    rcases (by omega : (l.take 2).length = 0 ∨ (l.take 2).length = 1 ∨ (l.take 2).length = 2) with h | h | h <;> rw [h] <;> decide
  omega
theorem entry1_wf {l : List Int} {e : Cst} {k : Nat} (hl : IsBytes l) (h : entry1 l = some (e, k)) : IsBytes e.text ∧ e.text.length ≤ 100000 ∧ 1 ≤ k ∧ k ≤ l.length := by
  have hnil : IsBytes [] := fun x hx => by cases hx
  cases l with
  | nil => cases h
  | cons t r =>
    have hr : IsBytes r := fun x hx => hl x (by simp [hx])
    by_cases h1 : t = 1
    · subst h1
      by_cases a : r.length < 2
      · rw [e1_short r a] at h; cases h
      · by_cases b : r.length < 2 + (be (r.take 2)).toNat
        · rw [e1_lack r a b] at h; cases h
        · rw [e1_yes r a b] at h
          cases h
          have := be2_range r hr
          refine ⟨(hr.drop 2).take _, ?_, by omega, ?_⟩
          · simp; omega
          · simp; omega
    · by_cases h3 : t = 3
      · subst h3
        by_cases a : r.length < 4
        · rw [e3_lack r a] at h; cases h
        · rw [e3_yes r a] at h; cases h; exact ⟨hnil, Nat.zero_le _, by omega, by simp; omega⟩
      · by_cases h5 : t = 5
        · subst h5
          by_cases a : r.length < 8
          · rw [e5_lack r a] at h; cases h
          · rw [e5_yes r a] at h; cases h; exact ⟨hnil, Nat.zero_le _, by omega, by simp; omega⟩
        · by_cases h7 : t = 7 ∨ t = 8
          · by_cases a : r.length < 2
            · rw [e7_lack t h7 r a] at h; cases h
            · rw [e7_yes t h7 r a] at h; cases h; exact ⟨hnil, Nat.zero_le _, by omega, by simp; omega⟩
          · by_cases h9 : t = 9 ∨ t = 10 ∨ t = 11 ∨ t = 12
            · by_cases a : r.length < 4
              · rw [e9_lack t h9 r a] at h; cases h
              · rw [e9_yes t h9 r a] at h; cases h; exact ⟨hnil, Nat.zero_le _, by omega, by simp; omega⟩
            · rw [e0_none t (by omega) r] at h; cases h
theorem entries_wf (n : Nat) : ∀ (m : Nat) (l : List Int) (es : List Cst) (k : Nat), m ≤ n → IsBytes l → entries m l = some (es, k) → CWf es ∧ k ≤ l.length := by
  have h0 : CWf [] := fun x hx => by cases hx
  induction n with
  | zero =>
    intro m l es k hm _ h
    obtain rfl : m = 0 := by omega
    rw [entries_zero] at h; cases h; exact ⟨h0, Nat.zero_le _⟩
  | succ n ih =>
    intro m l es k hm hl h
    cases m with
    | zero => rw [entries_zero] at h; cases h; exact ⟨h0, Nat.zero_le _⟩
    | succ m =>
      cases he : entry1 l with
      | none => rw [entries_none he] at h; cases h
      | some x =>
        obtain ⟨e, j⟩ := x
        obtain ⟨w1, w2, w3, w4⟩ := entry1_wf hl he
        by_cases h5 : e.tag = 5
        · cases m with
          | zero => rw [entries_last he h5] at h; cases h
          | succ m =>
            rw [entries_long he h5] at h
            cases hx : entries m (l.drop j) with
            | none => rw [hx] at h; cases h
            | some y =>
              rw [hx] at h
              simp only [Option.map_some, Option.some.injEq, Prod.mk.injEq] at h
              obtain ⟨rfl, rfl⟩ := h
              obtain ⟨i1, i2⟩ := ih m _ y.1 y.2 (by omega) (hl.drop j) hx
              rw [List.length_drop] at i2
              refine ⟨fun x hx => ?_, by omega⟩
              rcases List.mem_cons.1 hx with rfl | hx
              · exact ⟨w1, w2⟩
              · rcases List.mem_cons.1 hx with rfl | hx
                · exact ⟨fun x hx => (by cases hx), Nat.zero_le _⟩
                · exact i1 x hx
        · rw [entries_one he h5] at h
          cases hx : entries m (l.drop j) with
          | none => rw [hx] at h; cases h
          | some y =>
            rw [hx] at h
            simp only [Option.map_some, Option.some.injEq, Prod.mk.injEq] at h
            obtain ⟨rfl, rfl⟩ := h
            obtain ⟨i1, i2⟩ := ih m _ y.1 y.2 (by omega) (hl.drop j) hx
            rw [List.length_drop] at i2
            refine ⟨fun x hx => ?_, by omega⟩
            rcases List.mem_cons.1 hx with rfl | hx
            · exact ⟨w1, w2⟩
            · exact i1 x hx

/-! ### a block of entries, one of them being written -/
theorem ccells_app (a b : List Cst) : ccells (a ++ b) = ccells a ++ ccells b := by simp [ccells]
theorem ccells_cons (x : Cst) (b : List Cst) : ccells (x :: b) = x.cells ++ ccells b := by simp [ccells]
theorem at_cell {w : World} {g : Nat} {t : TypeId} {a : List Cst} {c0 c1 c2 c3 c4 : Value} {b : List Value} (h : At w g t (ccells a ++ c0 :: c1 :: c2 :: c3 :: c4 :: b)) {i : Nat} (hi : a.length = i) :
    w.cell? ⟨g, i * 5, none⟩ = some c0 ∧ w.cell? ⟨g, i * 5 + 1, none⟩ = some c1 ∧ w.cell? ⟨g, i * 5 + 2, none⟩ = some c2 ∧ w.cell? ⟨g, i * 5 + 3, none⟩ = some c3 ∧ w.cell? ⟨g, i * 5 + 4, none⟩ = some c4 ∧
    w.frozen? ⟨g, i * 5, none⟩ = false ∧ w.frozen? ⟨g, i * 5 + 1, none⟩ = false ∧ w.frozen? ⟨g, i * 5 + 2, none⟩ = false ∧ w.frozen? ⟨g, i * 5 + 3, none⟩ = false ∧ w.frozen? ⟨g, i * 5 + 4, none⟩ = false := by
  have hl : (ccells a).length = i * 5 := by rw [ccells_len, hi]
  have e : ∀ j, (ccells a ++ c0 :: c1 :: c2 :: c3 :: c4 :: b)[i * 5 + j]? = (c0 :: c1 :: c2 :: c3 :: c4 :: b)[j]? := fun j => by
    rw [List.getElem?_append_right (by omega), hl, Nat.add_sub_cancel_left]
  refine ⟨?_, ?_, ?_, ?_, ?_, h.free _, h.free _, h.free _, h.free _, h.free _⟩
  · rw [h.cell]; exact e 0
  · rw [h.cell]; exact e 1
  · rw [h.cell]; exact e 2
  · rw [h.cell]; exact e 3
  · rw [h.cell]; exact e 4
theorem at_put {w : World} {g : Nat} {t : TypeId} {a : List Cst} {l : List Value} (h : At w g t (ccells a ++ l)) {i : Nat} (hi : a.length = i) (j : Nat) (v : Value) :
    At (w.setCell ⟨g, i * 5 + j, none⟩ v) g t (ccells a ++ l.set j v) := by
  have hl : (ccells a).length = i * 5 := by rw [ccells_len, hi]
  have := h.set (i * 5 + j) v
  rwa [List.set_append_right _ _ (by omega), hl, Nat.add_sub_cancel_left] at this
theorem at_put0 {w : World} {g : Nat} {t : TypeId} {a : List Cst} {c : Value} {l : List Value} (h : At w g t (ccells a ++ c :: l)) {i : Nat} (hi : a.length = i) (v : Value) :
    At (w.setCell ⟨g, i * 5, none⟩ v) g t (ccells a ++ v :: l) := at_put h hi 0 v
end Go.Proofs.YtbdbcalmjbmflaaGreatDoor
