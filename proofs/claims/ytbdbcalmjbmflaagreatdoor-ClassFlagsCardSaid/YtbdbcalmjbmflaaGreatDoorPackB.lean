/- Texts of one stage, merged. Nothing is claimed here. -/
import Derived.Test.YtbdbcalmjbmflaaGreatDoorPackA
import Derived.Lib.LastIndexByte
import Derived.Lib.ConvBytes
namespace Go.Proofs.YtbdbcalmjbmflaaGreatDoor
open Go.RowKit

/-- Is one of the bytes among some? -/
def hasB (cs l : List Int) : Bool := l.any fun b => cs.contains b
theorem hasB_nil (cs : List Int) : hasB cs [] = false := rfl
theorem hasB_append (cs l m : List Int) : hasB cs (l ++ m) = (hasB cs l || hasB cs m) := by simp [hasB]
theorem hasB_at {cs l : List Int} {k : Nat} (hk : k < l.length) (h : cs.contains (l.getD k 0) = true) : hasB cs l = true := by
  unfold hasB
  rw [List.any_eq_true]
  exact ⟨l.getD k 0, by simp [List.getD, List.getElem?_eq_getElem hk], h⟩
theorem hasB_take {cs l : List Int} {k : Nat} (hk : k < l.length) (h : hasB cs (l.take k) = false) (hn : cs.contains (l.getD k 0) = false) : hasB cs (l.take (k + 1)) = false := by
  have e : l.take (k + 1) = l.take k ++ [l.getD k 0] := by
    rw [List.take_succ_eq_append_getElem hk]; simp [List.getD, List.getElem?_eq_getElem hk]
  rw [e, hasB_append, h]
  unfold hasB
  rw [List.any_cons, hn]
  rfl

/-- Is it an unqualified name? -/
def plainB (l : List Int) : Bool := !l.isEmpty && (!hasB [46, 59, 91, 47] l && (dec l).isSome)
theorem plainB_has {l : List Int} (h : hasB [46, 59, 91, 47] l = true) : plainB l = false := by simp [plainB, h]
theorem plainB_nil : plainB [] = false := rfl
theorem plainB_no {l : List Int} (h : plainB l = true) : hasB [46, 59, 91, 47] l = false := by
  unfold plainB at h
  cases e : hasB [46, 59, 91, 47] l
  · rfl
  · rw [e] at h; simp at h
theorem no_stroke {l : List Int} (h : plainB l = true) : (47 : Int) ∉ l := by
  intro hm
  have := plainB_no h
  have h2 : hasB [46, 59, 91, 47] l = true := by
    unfold hasB
    rw [List.any_eq_true]
    exact ⟨47, hm, rfl⟩
  rw [h2] at this
  cases this

/-- The parts of a text between strokes. -/
def partsL : List Int → List (List Int)
  | [] => [[]]
  | b :: t => if b = 47 then [] :: partsL t else match partsL t with
    | p :: ps => (b :: p) :: ps
    | [] => [[b]]
theorem partsL_ne (l : List Int) : ∃ p ps, partsL l = p :: ps := by
  cases l with
  | nil => exact ⟨[], [], rfl⟩
  | cons b t =>
    unfold partsL
    split
    · exact ⟨_, _, rfl⟩
    · cases partsL t with
      | nil => exact ⟨_, _, rfl⟩
      | cons p ps => exact ⟨_, _, rfl⟩
theorem partsL_one {l : List Int} (h : (47 : Int) ∉ l) : partsL l = [l] := by
  induction l with
  | nil => rfl
  | cons b t ih =>
    have h1 : b ≠ 47 := fun e => h (by simp [e])
    rw [partsL, if_neg h1, ih (fun e => h (by simp [e]))]
theorem partsL_join (l m : List Int) : partsL (l ++ 47 :: m) = partsL l ++ partsL m := by
  induction l with
  | nil => simp [partsL]
  | cons b t ih =>
    by_cases h : b = 47
    · subst h; simp [partsL, ih]
    · rw [List.cons_append, partsL, if_neg h, ih, partsL, if_neg h]
      obtain ⟨p, ps, e⟩ := partsL_ne t
      rw [e]
      rfl
/-- Is it the name of a class? -/
def classB (l : List Int) : Bool := decide (l.length ≤ 255) && (partsL l).all plainB
theorem classB_long {l : List Int} (h : 255 < l.length) : classB l = false := by simp [classB]; omega
theorem classB_short {l : List Int} (h : l.length ≤ 255) : classB l = (partsL l).all plainB := by simp [classB, h]
theorem classB_join {a b : List Int} (h : (a ++ 47 :: b).length ≤ 255) (hb : plainB b = true) : classB (a ++ 47 :: b) = classB a := by
  rw [classB_short h, classB_short (by simp at h ⊢; omega), partsL_join, partsL_one (no_stroke hb), List.all_append]
  simp [hb]

/-- Is it the name of a method? -/
def methodB (l : List Int) : Bool := (l == [60, 105, 110, 105, 116, 62] || l == [60, 99, 108, 105, 110, 105, 116, 62]) || (plainB l && !hasB [60, 62] l)

/-- Each stroke a point. -/
def dots (l : List Int) : List Int := l.map fun b => if b = 47 then 46 else b
theorem dots_append (l m : List Int) : dots (l ++ m) = dots l ++ dots m := by simp [dots]
theorem dots_plain {l : List Int} (h : (47 : Int) ∉ l) : dots l = l := by
  unfold dots
  refine (List.map_congr_left fun x hx => ?_).trans (List.map_id l)
  rw [if_neg (fun e : x = 47 => h (by rw [← e]; exact hx))]
  rfl
theorem dots_bytes {l : List Int} (h : IsBytes l) : IsBytes (dots l) := by
  intro x hx
  simp only [dots, List.mem_map] at hx
  obtain ⟨b, hb, rfl⟩ := hx
  have := h b hb
  split <;> omega
theorem dots_len (l : List Int) : (dots l).length = l.length := by simp [dots]
end Go.Proofs.YtbdbcalmjbmflaaGreatDoor
namespace Go.Proofs.YtbdbcalmjbmflaaGreatDoor
open Go.RowKit

theorem getD_at (s : ByteArray) (k : Nat) (h : k < s.size) : (nums s).getD k 0 = ((s[k].toNat : Nat) : Int) := num_at s k h
theorem str_empty (s : ByteArray) : (s = ByteArray.empty ↔ (nums s) = []) := by
  constructor
  · rintro rfl; rfl
  · intro h
    have : s = strOfNums (nums s) := (of_nums s).symm
    rw [h] at this
    exact this

abbrev cs4 : List Int := [46, 59, 91, 47]
theorem pick4 (c : Int) : ((c == 46) = true ∧ cs4.contains c = true) ∨ ((c == 46) = false ∧ (c == 59) = true ∧ cs4.contains c = true) ∨ ((c == 46) = false ∧ (c == 59) = false ∧ (c == 91) = true ∧ cs4.contains c = true) ∨
    ((c == 46) = false ∧ (c == 59) = false ∧ (c == 91) = false ∧ (c == 47) = true ∧ cs4.contains c = true) ∨ ((c == 46) = false ∧ (c == 59) = false ∧ (c == 91) = false ∧ (c == 47) = false ∧ cs4.contains c = false) := by
  cases h1 : (c == 46) <;> cases h2 : (c == 59) <;> cases h3 : (c == 91) <;> cases h4 : (c == 47) <;> simp_all [cs4]

/-- What a function that asks and may make memory gives. -/
def Tells (b : Bool) (w : World) (e : Ending) (w' : World) : Prop := e = .returned (.bool b) ∧ Below w.heap.size w w'

/-- The whole text between two strokes, or the end. -/
theorem parts_stroke (l : List Int) (f i : Nat) (hf : f ≤ i) (hi : i < l.length) (hn : (47 : Int) ∉ (l.drop f).take (i - f)) (hs : l.getD i 0 = 47) :
    partsL (l.drop f) = (l.drop f).take (i - f) :: partsL (l.drop (i + 1)) := by
  have e : l.drop f = (l.drop f).take (i - f) ++ 47 :: l.drop (i + 1) := by
    have h1 : l.drop f = (l.drop f).take (i - f) ++ (l.drop f).drop (i - f) := (List.take_append_drop _ _).symm
    rw [List.drop_drop, show f + (i - f) = i by omega, List.drop_eq_getElem_cons hi] at h1
    have h2 : l[i] = 47 := by rw [← hs]; simp [List.getD, List.getElem?_eq_getElem hi]
    rw [h2] at h1
    exact h1
  generalize (l.drop f).take (i - f) = a at *
  rw [e, partsL_join, partsL_one hn]
  rfl
theorem no_more {l : List Int} {f i : Nat} (hf : f ≤ i) (hi : i < l.length) (hn : (47 : Int) ∉ (l.drop f).take (i - f)) (hs : l.getD i 0 ≠ 47) : (47 : Int) ∉ (l.drop f).take (i + 1 - f) := by
  have hd : i - f < (l.drop f).length := by simp; omega
  rw [show i + 1 - f = (i - f) + 1 by omega, List.take_succ_eq_append_getElem hd]
  intro h
  rcases List.mem_append.1 h with h | h
  · exact hn h
  · simp at h
    apply hs
    rw [h]
    simp [List.getD, List.getElem?_eq_getElem hi, show f + (i - f) = i by omega]

theorem toList_eq {s : ByteArray} {l : List UInt8} (h : s.toList = l) : s = ⟨l.toArray⟩ := by
  rw [Lib.toList_data] at h
  rw [← h]
theorem toList_no {s : ByteArray} {l : List UInt8} (h : s ≠ ⟨l.toArray⟩) : ¬ s.toList = l ∧ (s.toList == l) = false :=
  ⟨fun e => h (toList_eq e), by simpa using fun e => h (toList_eq e)⟩
abbrev sInit : ByteArray := ⟨#[60, 105, 110, 105, 116, 62]⟩
abbrev sClinit : ByteArray := ⟨#[60, 99, 108, 105, 110, 105, 116, 62]⟩
theorem method_lit {s : ByteArray} (h1 : s ≠ sInit) (h2 : s ≠ sClinit) : methodB (nums s) = (plainB (nums s) && !hasB [60, 62] (nums s)) := by
  have e1 : (nums s == [60, 105, 110, 105, 116, 62]) = false := by
    rw [beq_eq_false_iff_ne]
    exact fun e => h1 (nums_inj (e.trans (by decide)))
  have e2 : (nums s == [60, 99, 108, 105, 110, 105, 116, 62]) = false := by
    rw [beq_eq_false_iff_ne]
    exact fun e => h2 (nums_inj (e.trans (by decide)))
  unfold methodB
  rw [e1, e2]
  rfl
abbrev cs2 : List Int := [60, 62]
theorem pick2 (c : Int) : ((c == 60) = true ∧ cs2.contains c = true) ∨ ((c == 60) = false ∧ (c == 62) = true ∧ cs2.contains c = true) ∨ ((c == 60) = false ∧ (c == 62) = false ∧ cs2.contains c = false) := by
  cases h1 : (c == 60) <;> cases h2 : (c == 62) <;> simp_all [cs2]

/-- What stands ahead of the last stroke. -/
def pkgOf (s : ByteArray) : ByteArray := s.extract 0 (Lib.lastIndexByte s 47).toNat
theorem bang (s : ByteArray) (j : Nat) (hj : j < s.size) : s.data[j]! = s[j] := by
  rw [getElem!_pos s.data j (by simpa using hj)]; rfl
/-- Block g holds just the cells cs, of element type t, with some frozen stretch. -/
def AtF (w : World) (g : Nat) (t : TypeId) (fz : Nat × Nat) (cs : List Value) : Prop := w.heap[g]? = some (.cells cs.toArray t fz)
section
variable {w w' : World} {g : Nat} {t : TypeId} {fz : Nat × Nat} {cs : List Value}
theorem AtF.cell (h : AtF w g t fz cs) (i : Nat) : w.cell? ⟨g, i, none⟩ = cs[i]? := by
  rw [cell_of_row w g i cs.toArray t fz h]; simp
theorem AtF.free (h : AtF w g t fz cs) (i : Nat) (hi : i < fz.1) : w.frozen? ⟨g, i, none⟩ = false := by
  unfold AtF at h; simp [World.frozen?, h]; omega
theorem AtF.lt (h : AtF w g t fz cs) : g < w.heap.size := by
  unfold AtF at h
  rcases Nat.lt_or_ge g w.heap.size with a | a
  · exact a
  · rw [Array.getElem?_eq_none a] at h; cases h
theorem AtF.set (h : AtF w g t fz cs) (i : Nat) (u : Value) : AtF (w.setCell ⟨g, i, none⟩ u) g t fz (cs.set i u) := by
  unfold AtF at h ⊢
  simp [World.setCell, Array.getElem?_modify, h]
theorem AtF.rd (h : AtF w g t fz cs) (n : Nat) (hn : n ≤ cs.length) : Rd w w.heap.size (some ⟨g, 0, none⟩) n (cs.take n) :=
  ⟨by simp; omega, fun _ => ⟨g, 0, rfl, h.lt, fun j u hu => by
    rw [Nat.zero_add, h.cell]
    simp only [List.getElem?_take] at hu
    split at hu
    · exact hu
    · cases hu⟩⟩
end
theorem bytesWorld_atF (w : World) (s : ByteArray) : ∃ ex n, AtF (Lib.bytesWorld w 5 s) w.heap.size 5 (n, n + 1) (cells .u8 (nums s) ++ ex) ∧ s.size ≤ n ∧ Below w.heap.size w (Lib.bytesWorld w 5 s) := by
  refine ⟨List.replicate (grownCap w s.size 0 5 - s.size) (.int .u8 0), (Lib.bytesCells w 5 s).size, ?_, ?_, ?_⟩
  · unfold AtF
    rw [Lib.bytesWorld_at_new]
    congr 2
    unfold Lib.bytesCells
    apply Array.toList_inj.1
    simp [cells, nums]
  · unfold Lib.bytesCells
    simp
  · refine ⟨?_, ?_, ?_, by rw [Lib.bytesWorld_size]; omega, fun i hi => Lib.bytesWorld_at_old w _ s i hi⟩
    all_goals (unfold Lib.bytesWorld World.freeze; split <;> rfl)
theorem dots_step {l : List Int} {k : Nat} (hk : k < l.length) (ex : List Value) (hc : (l.getD k 0 == 47) = true) :
    (cells .u8 (dots (l.take k) ++ l.drop k) ++ ex).set k (.int .u8 46) = cells .u8 (dots (l.take (k + 1)) ++ l.drop (k + 1)) ++ ex := by
  have h1 : l.take (k + 1) = l.take k ++ [l[k]] := List.take_succ_eq_append_getElem hk
  have h2 : l.drop k = l[k] :: l.drop (k + 1) := List.drop_eq_getElem_cons hk
  have h3 : l[k] = 47 := by
    have := beq_iff_eq.1 hc
    rw [← this]; simp [List.getD, List.getElem?_eq_getElem hk]
  rw [h1, h2, dots_append, h3]
  simp only [cells, List.map_append, List.append_assoc, List.map_cons, List.cons_append, dots, List.map_nil, List.nil_append]
  rw [List.set_append]
  simp [Nat.min_eq_left (Nat.le_of_lt hk)]
theorem dots_stay {l : List Int} {k : Nat} (hk : k < l.length) (hc : (l.getD k 0 == 47) = false) : dots (l.take k) ++ l.drop k = dots (l.take (k + 1)) ++ l.drop (k + 1) := by
  have h1 : l.take (k + 1) = l.take k ++ [l[k]] := List.take_succ_eq_append_getElem hk
  have h2 : l.drop k = l[k] :: l.drop (k + 1) := List.drop_eq_getElem_cons hk
  have h3 : ¬ l[k] = 47 := by
    have := beq_eq_false_iff_ne.1 hc
    intro e; apply this; rw [← e]; simp [List.getD, List.getElem?_eq_getElem hk]
  rw [h1, h2, dots_append]
  simp [dots, h3]
theorem dots_cell {l : List Int} {k : Nat} (hk : k < l.length) (ex : List Value) : (cells .u8 (dots (l.take k) ++ l.drop k) ++ ex)[k]? = some (.int .u8 (l.getD k 0)) := by
  have h2 : l.drop k = l[k] :: l.drop (k + 1) := List.drop_eq_getElem_cons hk
  rw [h2]
  simp only [cells, List.map_append, List.append_assoc, List.map_cons, List.cons_append, dots]
  rw [List.getElem?_append_right (by simp; omega)]
  simp [Nat.min_eq_left (Nat.le_of_lt hk), List.getD, List.getElem?_eq_getElem hk]

end Go.Proofs.YtbdbcalmjbmflaaGreatDoor
