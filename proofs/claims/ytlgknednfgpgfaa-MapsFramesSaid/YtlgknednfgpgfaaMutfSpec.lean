/- Texts of class files as plain lists: what the document says of them. Nothing is claimed here. -/
import Derived.Test.YtlgknednfgpgfaaStr
namespace Go.Proofs.Ytlgknednfgpgfaa
open Go.RowKit

def trl (b : Int) : Bool := decide (128 ≤ b) && decide (b < 192)
/-- The char that a list of bytes begins with, and of how many bytes it is; none of them: 0. -/
def one (l : List Int) : Int × Nat :=
  if 1 ≤ l.getD 0 0 ∧ l.getD 0 0 ≤ 127 then (l.getD 0 0, 1)
  else if 192 ≤ l.getD 0 0 ∧ l.getD 0 0 < 224 ∧ 2 ≤ l.length ∧ trl (l.getD 1 0) = true then ((l.getD 0 0 - 192) * 64 + (l.getD 1 0 - 128), 2)
  else if 224 ≤ l.getD 0 0 ∧ l.getD 0 0 < 240 ∧ 3 ≤ l.length ∧ trl (l.getD 1 0) = true ∧ trl (l.getD 2 0) = true then ((l.getD 0 0 - 224) * 4096 + (l.getD 1 0 - 128) * 64 + (l.getD 2 0 - 128), 3)
  else (0, 0)
theorem trl_iff (b : Int) : trl b = true ↔ 128 ≤ b ∧ b < 192 := by simp [trl]
theorem one_le (l : List Int) : (one l).2 ≤ l.length := by
  unfold one
  split
  · cases l with
    | nil => simp at *
    | cons a t => simp
  · split
    · simp; omega
    · split
      · simp; omega
      · simp
theorem one_range (l : List Int) : 0 ≤ (one l).1 ∧ (one l).1 < 65536 := by
  unfold one
  split
  · dsimp only; omega
  · split
    · rename_i h; have := (trl_iff _).1 h.2.2.2; dsimp only; omega
    · split
      · rename_i h; have := (trl_iff _).1 h.2.2.2.1; have := (trl_iff _).1 h.2.2.2.2; dsimp only; omega
      · dsimp only; omega

def decF : Nat → List Int → Option (List Int)
  | 0, l => if l = [] then some [] else none
  | f + 1, l => if l = [] then some [] else if (one l).2 = 0 then none else (decF f (l.drop (one l).2)).map ((one l).1 :: ·)
theorem decF_more (f : Nat) : ∀ (g : Nat) (l : List Int), l.length ≤ f → l.length ≤ g → decF f l = decF g l := by
  induction f with
  | zero =>
    intro g l h _
    have : l = [] := List.eq_nil_of_length_eq_zero (by omega)
    subst this
    cases g <;> simp [decF]
  | succ f ih =>
    intro g l h hg
    by_cases hl : l = []
    · subst hl; cases g <;> simp [decF]
    · cases g with
      | zero => exact absurd (List.eq_nil_of_length_eq_zero (by omega)) hl
      | succ g =>
        simp only [decF, hl, if_false]
        split
        · rfl
        · rw [ih g _ (by simp; omega) (by simp; omega)]
/-- The chars of a text; none: it is no such text. -/
def dec (l : List Int) : Option (List Int) := decF l.length l
theorem dec_nil : dec [] = some [] := rfl
theorem dec_none {l : List Int} (hl : l ≠ []) (h : (one l).2 = 0) : dec l = none := by
  unfold dec
  cases hn : l.length with
  | zero => exact absurd (List.eq_nil_of_length_eq_zero hn) hl
  | succ n => simp [decF, hl, h]
theorem dec_some {l : List Int} (h : (one l).2 ≠ 0) : dec l = (dec (l.drop (one l).2)).map ((one l).1 :: ·) := by
  have hl : l ≠ [] := by
    intro e
    subst e
    exact h rfl
  unfold dec
  cases hn : l.length with
  | zero => exact absurd (List.eq_nil_of_length_eq_zero hn) hl
  | succ n =>
    simp only [decF, hl, h, if_false]
    rw [decF_more n (l.drop (one l).2).length _ (by simp; omega) (Nat.le_refl _)]
theorem dec_len (n : Nat) : ∀ (l u : List Int), l.length ≤ n → dec l = some u → u.length ≤ l.length := by
  induction n with
  | zero =>
    intro l u h hd
    have : l = [] := List.eq_nil_of_length_eq_zero (by omega)
    subst this
    cases hd
    simp
  | succ n ih =>
    intro l u h hd
    by_cases h0 : (one l).2 = 0
    · by_cases hl : l = []
      · subst hl; cases hd; simp
      · rw [dec_none hl h0] at hd; cases hd
    · rw [dec_some h0] at hd
      have h1 := one_le l
      cases hu : dec (l.drop (one l).2) with
      | none => rw [hu] at hd; cases hd
      | some u' =>
        rw [hu] at hd
        cases hd
        have := ih (l.drop (one l).2) u' (by simp; omega) hu
        simp at this ⊢
        omega

/-- A text behind another one. -/
theorem one_join {l : List Int} (m : List Int) (h : (one l).2 ≠ 0) : one (l ++ m) = one l := by
  have g : ∀ i, i < l.length → (l ++ m).getD i 0 = l.getD i 0 := fun i hi => by simp [List.getD, List.getElem?_append_left hi]
  have h1 := one_le l
  have e : ∀ k, (one l).2 = k → one (l ++ m) = one l := by
    intro k hk
    unfold one at hk
    split at hk
    · rename_i h0
      have hl : 0 < l.length := by
        cases l with
        | nil => simp at h0
        | cons a t => simp
      unfold one
      rw [g 0 hl, if_pos h0, if_pos h0]
    · rename_i h0
      split at hk
      · rename_i h2
        unfold one
        rw [g 0 (by omega), g 1 (by omega), if_neg h0, if_neg h0, if_pos h2, if_pos ⟨h2.1, h2.2.1, by rw [List.length_append]; omega, h2.2.2.2⟩]
      · rename_i h2
        split at hk
        · rename_i h3
          unfold one
          rw [g 0 (by omega), g 1 (by omega), g 2 (by omega), if_neg h0, if_neg h0, if_neg (fun x => by omega), if_neg h2, if_pos h3, if_pos ⟨h3.1, h3.2.1, by rw [List.length_append]; omega, h3.2.2.2⟩]
        · rename_i h3
          exact absurd (by unfold one; rw [if_neg h0, if_neg h2, if_neg h3]) h
  exact e _ rfl
theorem dec_join (n : Nat) : ∀ (l m u v : List Int), l.length ≤ n → dec l = some u → dec m = some v → dec (l ++ m) = some (u ++ v) := by
  induction n with
  | zero =>
    intro l m u v h hu hv
    have : l = [] := List.eq_nil_of_length_eq_zero (by omega)
    subst this
    cases hu
    simpa using hv
  | succ n ih =>
    intro l m u v h hu hv
    by_cases h0 : (one l).2 = 0
    · by_cases hl : l = []
      · subst hl; cases hu; simpa using hv
      · rw [dec_none hl h0] at hu; cases hu
    · rw [dec_some h0] at hu
      have h1 := one_le l
      cases hu' : dec (l.drop (one l).2) with
      | none => rw [hu'] at hu; cases hu
      | some u' =>
        rw [hu'] at hu
        cases hu
        rw [dec_some (by rw [one_join m h0]; exact h0), one_join m h0, List.drop_append_of_le_length h1, ih _ m u' v (by simp; omega) hu' hv]
        rfl

/-- A char in the shortest form, but that of 0. -/
def put (c : Int) : List Int :=
  if c < 128 then [c] else if c < 2048 then [192 + c / 64, 128 + c % 64] else [224 + c / 4096, 128 + c / 64 % 64, 128 + c % 64]
def enc1 (c : Int) : List Int := if c = 0 then [192, 128] else put c
def enc (u : List Int) : List Int := u.flatMap enc1
/-- Each is a char. -/
def IsChars (u : List Int) : Prop := ∀ c ∈ u, 0 ≤ c ∧ c < 65536
theorem put_bytes {c : Int} (h : 0 ≤ c ∧ c < 65536) : IsBytes (put c) := by
  unfold put
  intro x hx
  split at hx
  · simp at hx; omega
  · split at hx
    · simp at hx; omega
    · simp at hx; omega
theorem enc1_bytes {c : Int} (h : 0 ≤ c ∧ c < 65536) : IsBytes (enc1 c) := by
  unfold enc1
  split
  · intro x hx; simp at hx; omega
  · exact put_bytes h
theorem enc_bytes {u : List Int} (h : IsChars u) : IsBytes (enc u) := by
  intro x hx
  simp only [enc, List.mem_flatMap] at hx
  obtain ⟨c, hc, hx⟩ := hx
  exact enc1_bytes (h c hc) x hx
theorem put_len (c : Int) : 1 ≤ (put c).length ∧ (put c).length ≤ 3 := by unfold put; split; simp; split <;> simp
theorem enc1_len (c : Int) : 1 ≤ (enc1 c).length ∧ (enc1 c).length ≤ 3 := by unfold enc1; split; simp; exact put_len c
theorem enc_len (u : List Int) : (enc u).length ≤ 3 * u.length := by
  induction u with
  | nil => simp [enc]
  | cons c u ih =>
    have := enc1_len c
    simp only [enc, List.flatMap_cons, List.length_append, List.length_cons] at ih ⊢
    omega
theorem enc_snoc (u : List Int) (c : Int) : enc (u ++ [c]) = enc u ++ enc1 c := by simp [enc]
theorem one_enc1 {c : Int} (h : 0 ≤ c ∧ c < 65536) (m : List Int) : one (enc1 c ++ m) = (c, (enc1 c).length) := by
  unfold enc1
  by_cases h0 : c = 0
  · subst h0; simp [one, trl]
  · rw [if_neg h0]
    unfold put
    by_cases h1 : c < 128
    · rw [if_pos h1]
      unfold one
      simp only [List.cons_append, List.getD_cons_zero, List.nil_append]
      rw [if_pos (by omega)]
      simp
    · rw [if_neg h1]
      by_cases h2 : c < 2048
      · rw [if_pos h2]
        unfold one
        simp only [List.cons_append, List.getD_cons_zero, List.getD_cons_succ, List.nil_append, trl_iff, List.length_cons]
        rw [if_neg (by omega), if_pos (by omega)]
        simp
        omega
      · rw [if_neg h2]
        unfold one
        simp only [List.cons_append, List.getD_cons_zero, List.getD_cons_succ, List.nil_append, trl_iff, List.length_cons]
        rw [if_neg (by omega), if_neg (by omega), if_pos (by omega)]
        simp
        omega
theorem dec_enc (u : List Int) (h : IsChars u) : dec (enc u) = some u := by
  induction u with
  | nil => rfl
  | cons c u ih =>
    have h1 := one_enc1 (h c (by simp)) (enc u)
    have h2 := enc1_len c
    have e : enc (c :: u) = enc1 c ++ enc u := by simp [enc]
    rw [e, dec_some (by rw [h1]; dsimp only; omega), h1]
    simp only [List.drop_left]
    rw [ih (fun x hx => h x (by simp [hx]))]
    rfl

/-! ### UTF-8 -/
def isHi (c : Int) : Bool := decide (55296 ≤ c) && decide (c ≤ 56319)
def isLo (c : Int) : Bool := decide (56320 ≤ c) && decide (c ≤ 57343)
def pairOf (h l : Int) : Int := 65536 + (h - 55296) * 1024 + (l - 56320)
def four (v : Int) : List Int := [240 + v / 262144, 128 + v / 4096 % 64, 128 + v / 64 % 64, 128 + v % 64]
def alone (c : Int) : List Int := if isHi c || isLo c then [63] else put c
/-- Chars in UTF-8. -/
def outs : List Int → List Int
  | [] => []
  | [c] => alone c
  | h :: l :: t => if isHi h && isLo l then four (pairOf h l) ++ outs t else alone h ++ outs (l :: t)
end Go.Proofs.Ytlgknednfgpgfaa
