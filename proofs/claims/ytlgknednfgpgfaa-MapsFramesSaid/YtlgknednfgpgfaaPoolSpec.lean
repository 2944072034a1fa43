/- Constant pools as plain lists: what the document says of them. Nothing is claimed here. -/
import Derived.Test.YtlgknednfgpgfaaDescrSpec
import Derived.Test.YtlgknednfgpgfaaArgs
namespace Go.Proofs.Ytlgknednfgpgfaa
open Go.RowKit

/-- An entry: its tag, its text, its number, the numbers of other entries. -/
structure Cst where
  tag : Int
  text : List Int
  num : Int
  a : Int
  b : Int
deriving DecidableEq
/-- No entry. -/
def noC : Cst := ⟨0, [], 0, 0, 0⟩
/-- Its cells. -/
def Cst.cells (x : Cst) : List Value := [.int .i64 x.tag, .string (strOfNums x.text), .int .i64 x.num, .int .i64 x.a, .int .i64 x.b]
def ccells (l : List Cst) : List Value := l.flatMap Cst.cells
/-- The number of some bytes, the highest first. -/
def beL (l : List Int) : Int := l.foldl (fun x b => x * 256 + b) 0
/-- A number with its sign. -/
def sgn (n : Nat) (x : Int) : Int := if 2 ^ (n - 1) ≤ x then x - 2 ^ n else x

/-- The entry at some bytes' beginning; how long it is. -/
def entry1 : List Int → Option (Cst × Nat)
  | [] => none
  | t :: r =>
    if t = 1 then
      if r.length < 2 then none else
      if r.length < 2 + (beL (r.take 2)).toNat then none else some (⟨1, (r.drop 2).take (beL (r.take 2)).toNat, 0, 0, 0⟩, 3 + (beL (r.take 2)).toNat)
    else if t = 3 then if r.length < 4 then none else some (⟨3, [], sgn 32 (beL (r.take 4)), 0, 0⟩, 5)
    else if t = 5 then if r.length < 8 then none else some (⟨5, [], sgn 64 (beL (r.take 8)), 0, 0⟩, 9)
    else if t = 7 ∨ t = 8 then if r.length < 2 then none else some (⟨t, [], 0, beL (r.take 2), 0⟩, 3)
    else if t = 9 ∨ t = 10 ∨ t = 11 ∨ t = 12 then if r.length < 4 then none else some (⟨t, [], 0, beL (r.take 2), beL ((r.drop 2).take 2)⟩, 5)
    else none
/-- So many places of entries, one behind the other; how long they are. The first number: at least as many. -/
def entriesF : Nat → Nat → List Int → Option (List Cst × Nat)
  | _, 0, _ => some ([], 0)
  | 0, _ + 1, _ => none
  | f + 1, m + 1, l =>
    match entry1 l with
    | none => none
    | some (e, k) =>
      if e.tag = 5 then (if m = 0 then none else (entriesF f (m - 1) (l.drop k)).map fun x => (e :: noC :: x.1, k + x.2))
      else (entriesF f m (l.drop k)).map fun x => (e :: x.1, k + x.2)
def entries (m : Nat) (l : List Int) : Option (List Cst × Nat) := entriesF m m l

def tagAt (p : List Cst) (i : Int) : Int := if 0 ≤ i ∧ i < p.length then (p.getD i.toNat noC).tag else 0
def atC (p : List Cst) (i : Int) : Cst := if 0 ≤ i ∧ i < p.length then p.getD i.toNat noC else noC
def textAt (p : List Cst) (i : Int) : Option (List Int) := if (atC p i).tag = 1 then some (atC p i).text else none
def classAt (p : List Cst) (i : Int) : Option (List Int) := if (atC p i).tag = 7 then textAt p (atC p i).a else none
def memberAt (p : List Cst) (i : Int) : Option (List Int × List Int × List Int) :=
  if (atC p i).tag = 9 ∨ (atC p i).tag = 10 ∨ (atC p i).tag = 11 then
    match classAt p (atC p i).a with
    | none => none
    | some c => if (atC p (atC p i).b).tag = 12 then
        match textAt p (atC p (atC p i).b).a, textAt p (atC p (atC p i).b).b with
        | some n, some d => some (c, n, d)
        | _, _ => none
      else none
  else none
/-- An array's descriptor? -/
def arrB (l : List Int) : Bool := match field l with
  | some t => t.kind == 91
  | none => false
def nInit : List Int := [60, 105, 110, 105, 116, 62]
def nClinit : List Int := [60, 99, 108, 105, 110, 105, 116, 62]
/-- May an entry be? -/
def holdsAt (p : List Cst) (i : Int) : Bool :=
  let e := atC p i
  if e.tag = 1 then (dec e.text).isSome
  else if e.tag = 7 then match textAt p e.a with
    | some s => classB s || arrB s
    | none => false
  else if e.tag = 8 then (atC p e.a).tag == 1
  else if e.tag = 12 then match textAt p e.a, textAt p e.b with
    | some n, some d => (plainB n || n == nInit) && ((field d).isSome || (sig d).isSome)
    | _, _ => false
  else if e.tag = 9 ∨ e.tag = 10 ∨ e.tag = 11 then match memberAt p i with
    | some (_, n, d) =>
      if (field d).isSome == (e.tag == 9) then
        if n = nInit then e.tag == 10 && (match sig d with | some (_, t) => t.kind == 86 | none => false)
        else e.tag == 9 || (methodB n && n != nClinit)
      else false
    | none => false
  else true
/-- A pool at some bytes' beginning; how long it is. -/
def pool (l : List Int) : Option (List Cst × Nat) :=
  if l.length < 2 then none else
  if beL (l.take 2) < 1 ∨ 1000 < beL (l.take 2) then none else
  match entries ((beL (l.take 2)).toNat - 1) (l.drop 2) with
  | none => none
  | some (es, k) => if (List.range (beL (l.take 2)).toNat).all (fun i => i == 0 || holdsAt (noC :: es) i) then some (noC :: es, 2 + k) else none

theorem ccells_len (l : List Cst) : (ccells l).length = l.length * 5 := by
  induction l with
  | nil => rfl
  | cons t r ih => simp only [ccells, List.flatMap_cons, List.length_append] at ih ⊢; rw [ih]; simp [Cst.cells]; omega
theorem ccells_at (ts : List Cst) : ∀ (j i : Nat), j < ts.length → i < 5 → (ccells ts)[j * 5 + i]? = (ts.getD j noC).cells[i]? := by
  induction ts with
  | nil => intro j i h; simp at h
  | cons t r ih =>
    intro j i h hi
    have hl : t.cells.length = 5 := rfl
    cases j with
    | zero =>
      rw [ccells, List.flatMap_cons, List.getElem?_append_left (by omega)]
      simp
    | succ j =>
      rw [ccells, List.flatMap_cons, List.getElem?_append_right (by omega), hl, show (j + 1) * 5 + i - 5 = j * 5 + i by omega]
      have := ih j i (by simpa using h) hi
      rw [ccells] at this
      rw [this]; simp
theorem entriesF_more (f : Nat) : ∀ (g m : Nat) (l : List Int), m ≤ f → m ≤ g → entriesF f m l = entriesF g m l := by
  induction f with
  | zero =>
    intro g m l h _
    obtain rfl : m = 0 := by omega
    cases g <;> rfl
  | succ f ih =>
    intro g m l h1 h2
    cases m with
    | zero => cases g <;> rfl
    | succ m =>
      cases g with
      | zero => omega
      | succ g =>
        unfold entriesF
        cases entry1 l with
        | none => rfl
        | some x =>
          obtain ⟨e, k⟩ := x
          simp only
          by_cases h5 : e.tag = 5
          · rw [if_pos h5, if_pos h5]
            by_cases hm : m = 0
            · rw [if_pos hm, if_pos hm]
            · rw [if_neg hm, if_neg hm, ih g (m - 1) _ (by omega) (by omega)]
          · rw [if_neg h5, if_neg h5, ih g m _ (by omega) (by omega)]
theorem entries_zero (l : List Int) : entries 0 l = some ([], 0) := rfl
theorem entries_none {m : Nat} {l : List Int} (h : entry1 l = none) : entries (m + 1) l = none := by
  unfold entries entriesF; rw [h]
theorem entries_long {m : Nat} {l : List Int} {e : Cst} {k : Nat} (h : entry1 l = some (e, k)) (h5 : e.tag = 5) : entries (m + 2) l = (entries m (l.drop k)).map fun x => (e :: noC :: x.1, k + x.2) := by
  unfold entries
  rw [show entriesF (m + 2) (m + 2) l = if e.tag = 5 then (if m + 1 = 0 then none else (entriesF (m + 1) m (l.drop k)).map fun x => (e :: noC :: x.1, k + x.2)) else (entriesF (m + 1) (m + 1) (l.drop k)).map fun x => (e :: x.1, k + x.2) by
    rw [entriesF, h]; rfl, if_pos h5, if_neg (by omega), entriesF_more (m + 1) m m _ (by omega) (by omega)]
theorem entries_last {l : List Int} {e : Cst} {k : Nat} (h : entry1 l = some (e, k)) (h5 : e.tag = 5) : entries 1 l = none := by
  unfold entries entriesF
  rw [h]
  simp only
  rw [if_pos h5]; simp
theorem entries_one {m : Nat} {l : List Int} {e : Cst} {k : Nat} (h : entry1 l = some (e, k)) (h5 : e.tag ≠ 5) : entries (m + 1) l = (entries m (l.drop k)).map fun x => (e :: x.1, k + x.2) := by
  unfold entries
  rw [entriesF, h]
  simp only
  rw [if_neg h5]
theorem entries_len (n : Nat) : ∀ (m : Nat) (l : List Int) (es : List Cst) (k : Nat), m ≤ n → entries m l = some (es, k) → es.length = m := by
  induction n with
  | zero =>
    intro m l es k hm h
    obtain rfl : m = 0 := by omega
    rw [entries_zero] at h; cases h; rfl
  | succ n ih =>
    intro m l es k hm h
    cases m with
    | zero => rw [entries_zero] at h; cases h; rfl
    | succ m =>
      cases he : entry1 l with
      | none => rw [entries_none he] at h; cases h
      | some x =>
        obtain ⟨e, j⟩ := x
        by_cases h5 : e.tag = 5
        · cases m with
          | zero => rw [entries_last he h5] at h; cases h
          | succ m =>
            rw [entries_long he h5] at h
            cases hx : entries m (l.drop j) with
            | none => rw [hx] at h; cases h
            | some y =>
              rw [hx] at h
              simp only [Option.map_some, Option.some.injEq, Prod.mk.injEq] at h
              obtain ⟨rfl, rfl⟩ := h
              have := ih m _ y.1 y.2 (by omega) hx
              simp [this]
        · rw [entries_one he h5] at h
          cases hx : entries m (l.drop j) with
          | none => rw [hx] at h; cases h
          | some y =>
            rw [hx] at h
            simp only [Option.map_some, Option.some.injEq, Prod.mk.injEq] at h
            obtain ⟨rfl, rfl⟩ := h
            have := ih m _ y.1 y.2 (by omega) hx
            simp [this]
end Go.Proofs.Ytlgknednfgpgfaa
