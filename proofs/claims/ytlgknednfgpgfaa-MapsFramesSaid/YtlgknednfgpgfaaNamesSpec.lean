/- Names as plain lists: what the document says of them. Nothing is claimed here. -/
import Derived.Test.YtlgknednfgpgfaaMutfSpec
namespace Go.Proofs.Ytlgknednfgpgfaa
open Go.RowKit

/-- Is one of the bytes among some? -/
def hasB (cs l : List Int) : Bool := l.any fun b => cs.contains b
theorem hasB_nil (cs : List Int) : hasB cs [] = false := rfl
theorem hasB_append (cs l m : List Int) : hasB cs (l ++ m) = (hasB cs l || hasB cs m) := by simp [hasB]
theorem hasB_at {cs l : List Int} {k : Nat} (hk : k < l.length) (h : cs.contains (l.getD k 0) = true) : hasB cs l = true := by
  unfold hasB
  rw [List.any_eq_true]
  exact ⟨l.getD k 0, by simp [List.getD, List.getElem?_eq_getElem hk], h⟩
theorem hasB_take {cs l : List Int} {k : Nat} (hk : k < l.length) (h : hasB cs (l.take k) = false) (hn : cs.contains (l.getD k 0) = false) : hasB cs (l.take (k + 1)) = false := by
  have e : l.take (k + 1) = l.take k ++ [l.getD k 0] := by
    rw [List.take_succ_eq_append_getElem hk]; simp [List.getD, List.getElem?_eq_getElem hk]
  rw [e, hasB_append, h]
  unfold hasB
  rw [List.any_cons, hn]
  rfl

/-- Is it an unqualified name? -/
def plainB (l : List Int) : Bool := !l.isEmpty && (!hasB [46, 59, 91, 47] l && (dec l).isSome)
theorem plainB_has {l : List Int} (h : hasB [46, 59, 91, 47] l = true) : plainB l = false := by simp [plainB, h]
theorem plainB_nil : plainB [] = false := rfl
theorem plainB_no {l : List Int} (h : plainB l = true) : hasB [46, 59, 91, 47] l = false := by
  unfold plainB at h
  cases e : hasB [46, 59, 91, 47] l
  · rfl
  · rw [e] at h; simp at h
theorem no_stroke {l : List Int} (h : plainB l = true) : (47 : Int) ∉ l := by
  intro hm
  have := plainB_no h
  have h2 : hasB [46, 59, 91, 47] l = true := by
    unfold hasB
    rw [List.any_eq_true]
    exact ⟨47, hm, rfl⟩
  rw [h2] at this
  cases this

/-- The parts of a text between strokes. -/
def partsL : List Int → List (List Int)
  | [] => [[]]
  | b :: t => if b = 47 then [] :: partsL t else match partsL t with
    | p :: ps => (b :: p) :: ps
    | [] => [[b]]
theorem partsL_ne (l : List Int) : ∃ p ps, partsL l = p :: ps := by
  cases l with
  | nil => exact ⟨[], [], rfl⟩
  | cons b t =>
    unfold partsL
    split
    · exact ⟨_, _, rfl⟩
    · cases partsL t with
      | nil => exact ⟨_, _, rfl⟩
      | cons p ps => exact ⟨_, _, rfl⟩
theorem partsL_one {l : List Int} (h : (47 : Int) ∉ l) : partsL l = [l] := by
  induction l with
  | nil => rfl
  | cons b t ih =>
    have h1 : b ≠ 47 := fun e => h (by simp [e])
    rw [partsL, if_neg h1, ih (fun e => h (by simp [e]))]
theorem partsL_join (l m : List Int) : partsL (l ++ 47 :: m) = partsL l ++ partsL m := by
  induction l with
  | nil => simp [partsL]
  | cons b t ih =>
    by_cases h : b = 47
    · subst h; simp [partsL, ih]
    · rw [List.cons_append, partsL, if_neg h, ih, partsL, if_neg h]
      obtain ⟨p, ps, e⟩ := partsL_ne t
      rw [e]
      rfl
/-- Is it the name of a class? -/
def classB (l : List Int) : Bool := decide (l.length ≤ 255) && (partsL l).all plainB
theorem classB_long {l : List Int} (h : 255 < l.length) : classB l = false := by simp [classB]; omega
theorem classB_short {l : List Int} (h : l.length ≤ 255) : classB l = (partsL l).all plainB := by simp [classB, h]
theorem classB_join {a b : List Int} (h : (a ++ 47 :: b).length ≤ 255) (hb : plainB b = true) : classB (a ++ 47 :: b) = classB a := by
  rw [classB_short h, classB_short (by simp at h ⊢; omega), partsL_join, partsL_one (no_stroke hb), List.all_append]
  simp [hb]

/-- Is it the name of a method? -/
def methodB (l : List Int) : Bool := (l == [60, 105, 110, 105, 116, 62] || l == [60, 99, 108, 105, 110, 105, 116, 62]) || (plainB l && !hasB [60, 62] l)

/-- Each stroke a point. -/
def dots (l : List Int) : List Int := l.map fun b => if b = 47 then 46 else b
theorem dots_append (l m : List Int) : dots (l ++ m) = dots l ++ dots m := by simp [dots]
theorem dots_plain {l : List Int} (h : (47 : Int) ∉ l) : dots l = l := by
  unfold dots
  refine (List.map_congr_left fun x hx => ?_).trans (List.map_id l)
  rw [if_neg (fun e : x = 47 => h (by rw [← e]; exact hx))]
  rfl
theorem dots_bytes {l : List Int} (h : IsBytes l) : IsBytes (dots l) := by
  intro x hx
  simp only [dots, List.mem_map] at hx
  obtain ⟨b, hb, rfl⟩ := hx
  have := h b hb
  split <;> omega
theorem dots_len (l : List Int) : (dots l).length = l.length := by simp [dots]
end Go.Proofs.Ytlgknednfgpgfaa
