/- Texts of one stage, merged. Nothing is claimed here. -/
import Derived.Test.YtbdbcalmjbmflaaGreatDoorPackB
import Derived.Test.YtbdbcalmjbmflaaGreatDoorPackC
namespace Go.Proofs.YtbdbcalmjbmflaaGreatDoor
open Go.RowKit

/-- A type: its kind, its name, how many dimensions, what lies behind them. -/
structure Ty where
  kind : Int
  name : List Int
  dims : Nat
  elem : Int
deriving DecidableEq
/-- No type. -/
def noTy : Ty := ⟨0, [], 0, 0⟩
/-- What an array of d dimensions is. -/
def Ty.arr (t : Ty) (d : Nat) : Ty := if d = 0 then t else ⟨91, t.name, d, t.kind⟩

/-- Is it a kind of one char? -/
def baseB (c : Int) : Bool := [66, 67, 73, 74, 83, 90].contains c
/-- The type without dimensions at a text's beginning; how long it is. -/
def single : List Int → Option (Ty × Nat)
  | [] => none
  | c :: r => if baseB c then some (⟨c, [], 0, 0⟩, 1) else if c = 76 ∧ (59 : Int) ∈ r ∧ classB (r.takeWhile (· != 59)) = true then some (⟨76, r.takeWhile (· != 59), 0, 0⟩, (r.takeWhile (· != 59)).length + 2) else none
theorem single_cons (c : Int) (r : List Int) : single (c :: r) = if baseB c then some (⟨c, [], 0, 0⟩, 1) else if c = 76 ∧ (59 : Int) ∈ r ∧ classB (r.takeWhile (· != 59)) = true then some (⟨76, r.takeWhile (· != 59), 0, 0⟩, (r.takeWhile (· != 59)).length + 2) else none := rfl
theorem tw_no (r : List Int) (b : Int) : b ∉ r.takeWhile (· != b) := by
  induction r with
  | nil => simp
  | cons a r ih =>
    by_cases h : a = b
    · simp [h]
    · rw [List.takeWhile_cons]
      simp only [bne_iff_ne, ne_eq, h, not_false_eq_true, if_true, List.mem_cons, not_or]
      exact ⟨fun e => h e.symm, ih⟩
/-- How many brackets open a text. -/
def dimsL (l : List Int) : Nat := (l.takeWhile (· == 91)).length
/-- The type at a text's beginning; how long it is. -/
def front (l : List Int) : Option (Ty × Nat) :=
  if 255 < dimsL l then none else (single (l.drop (dimsL l))).map fun x => (x.1.arr (dimsL l), dimsL l + x.2)
/-- A field's type. -/
def field (l : List Int) : Option Ty :=
  match front l with
  | some (t, n) => if n = l.length then some t else none
  | none => none
/-- A method's arguments, and what stands behind the bracket. -/
def argsF : Nat → List Int → Option (List Ty × List Int)
  | 0, _ => none
  | f + 1, l => if l.head? = some 41 then some ([], l.drop 1) else
    match front l with
    | some (t, n) => (argsF f (l.drop n)).map fun x => (t :: x.1, x.2)
    | none => none
def args (l : List Int) : Option (List Ty × List Int) := argsF (l.length + 1) l
/-- What a method returns. -/
def retL (l : List Int) : Option Ty := if l = [86] then some ⟨86, [], 0, 0⟩ else field l
/-- A method's descriptor. -/
def sig (l : List Int) : Option (List Ty × Ty) :=
  if l.head? = some 40 then
    match args (l.drop 1) with
    | some (ts, r) => (retL r).map fun t => (ts, t)
    | none => none
  else none
/-- How many words a type takes. -/
def words (k : Int) : Int := if k = 74 then 2 else if baseB k = true ∨ k = 76 ∨ k = 91 then 1 else 0
def sumW (ts : List Ty) : Int := (ts.map fun t => words t.kind).sum
def argsW (l : List Int) : Int := match sig l with
  | some (ts, _) => sumW ts
  | none => -1
/-- How a type is written. -/
def putS (k : Int) (n : List Int) : List Int := if baseB k then [k] else if k = 76 ∧ classB n = true then 76 :: (n ++ [59]) else []
def putT (t : Ty) : List Int :=
  if t.kind = 86 then [86] else if t.kind = 91 then
    if putS t.elem t.name = [] ∨ t.dims < 1 ∨ 255 < t.dims then [] else List.replicate t.dims 91 ++ putS t.elem t.name
  else putS t.kind t.name

theorem baseB_cases {c : Int} (h : baseB c = true) : c = 66 ∨ c = 67 ∨ c = 73 ∨ c = 74 ∨ c = 83 ∨ c = 90 := by
  simpa [baseB] using h
theorem baseB_not {c : Int} (h : baseB c = true) : c ≠ 91 ∧ c ≠ 86 ∧ c ≠ 76 ∧ c ≠ 41 := by
  rcases baseB_cases h with h | h | h | h | h | h <;> subst h <;> decide

/-- How long what is found is: at least one, at most all. -/
theorem single_len {l : List Int} {t : Ty} {n : Nat} (h : single l = some (t, n)) : 1 ≤ n ∧ n ≤ l.length := by
  cases l with
  | nil => cases h
  | cons c r =>
    rw [single_cons] at h
    split at h
    · cases h; simp
    · split at h
      · rename_i h2
        cases h
        have h3 : (r.takeWhile (· != 59)).length < r.length := by
          have hle := (List.takeWhile_prefix (l := r) (· != 59)).length_le
          rcases Nat.lt_or_eq_of_le hle with h4 | h4
          · exact h4
          · exfalso
            have h5 : r.takeWhile (· != 59) = r := (List.takeWhile_prefix (l := r) (· != 59)).eq_of_length h4
            have h6 : (59 : Int) ∈ r.takeWhile (· != 59) := by rw [h5]; exact h2.2.1
            exact tw_no _ _ h6
        simp; omega
      · cases h
theorem dimsL_le (l : List Int) : dimsL l ≤ l.length := (List.takeWhile_prefix (l := l) (· == 91)).length_le
theorem front_len {l : List Int} {t : Ty} {n : Nat} (h : front l = some (t, n)) : 1 ≤ n ∧ n ≤ l.length := by
  unfold front at h
  split at h
  · cases h
  · cases hs : single (l.drop (dimsL l)) with
    | none => rw [hs] at h; cases h
    | some x =>
      obtain ⟨u, m⟩ := x
      rw [hs] at h
      simp only [Option.map_some, Option.some.injEq, Prod.mk.injEq] at h
      have := single_len hs
      have := dimsL_le l
      simp at *
      omega
theorem front_dims {l : List Int} (h : 255 < dimsL l) : front l = none := if_pos h
theorem front_none {l : List Int} (h : single (l.drop (dimsL l)) = none) : front l = none := by
  unfold front
  split
  · rfl
  · rw [h]; rfl
theorem front_some {l : List Int} {t : Ty} {n : Nat} (hd : dimsL l ≤ 255) (h : single (l.drop (dimsL l)) = some (t, n)) : front l = some (t.arr (dimsL l), dimsL l + n) := by
  unfold front
  rw [if_neg (by omega), h]; rfl

theorem argsF_more (f : Nat) : ∀ (g : Nat) (l : List Int), l.length < f → l.length < g → argsF f l = argsF g l := by
  induction f with
  | zero => intro g l h; omega
  | succ f ih =>
    intro g l h1 h2
    cases g with
    | zero => omega
    | succ g =>
      unfold argsF
      split
      · rfl
      · cases hf : front l with
        | none => rfl
        | some x =>
          obtain ⟨t, n⟩ := x
          have := front_len hf
          show (argsF f _).map _ = (argsF g _).map _
          rw [ih g (l.drop n) (by simp; omega) (by simp; omega)]
theorem args_stop {l : List Int} (h : l.head? = some 41) : args l = some ([], l.drop 1) := by
  unfold args argsF
  rw [if_pos h]
theorem args_none {l : List Int} (h : l.head? ≠ some 41) (hf : front l = none) : args l = none := by
  unfold args argsF
  rw [if_neg h, hf]
theorem args_some {l : List Int} {t : Ty} {n : Nat} (h : l.head? ≠ some 41) (hf : front l = some (t, n)) : args l = (args (l.drop n)).map fun x => (t :: x.1, x.2) := by
  have := front_len hf
  unfold args
  rw [show argsF (l.length + 1) l = (argsF l.length (l.drop n)).map fun x => (t :: x.1, x.2) by rw [argsF, if_neg h, hf]]
  rw [argsF_more l.length ((l.drop n).length + 1) (l.drop n) (by simp; omega) (by omega)]
theorem args_len (n : Nat) : ∀ (l : List Int) (ts : List Ty) (r : List Int), l.length ≤ n → args l = some (ts, r) → ts.length + r.length < l.length ∧ ∃ k, r = l.drop k := by
  induction n with
  | zero =>
    intro l ts r hl h
    have : l = [] := List.eq_nil_of_length_eq_zero (by omega)
    subst this
    rw [args_none (by simp) (front_none rfl)] at h
    cases h
  | succ n ih =>
    intro l ts r hl h
    by_cases h1 : l.head? = some 41
    · rw [args_stop h1] at h
      cases h
      have : l ≠ [] := fun e => by rw [e] at h1; cases h1
      have : 0 < l.length := List.length_pos_iff.2 this
      refine ⟨by simp; omega, 1, rfl⟩
    · cases hf : front l with
      | none => rw [args_none h1 hf] at h; cases h
      | some x =>
        obtain ⟨t, k⟩ := x
        have := front_len hf
        rw [args_some h1 hf] at h
        cases ha : args (l.drop k) with
        | none => rw [ha] at h; cases h
        | some y =>
          rw [ha] at h
          simp only [Option.map_some, Option.some.injEq, Prod.mk.injEq] at h
          obtain ⟨rfl, rfl⟩ := h
          have := ih (l.drop k) y.1 y.2 (by simp; omega) ha
          obtain ⟨h3, k2, h4⟩ := this
          simp at h3
          refine ⟨by simp; omega, k + k2, ?_⟩
          rw [h4, List.drop_drop]

/-! ### What is printed is read -/
theorem takeWhile_stop {l m : List Int} {b : Int} (h : ∀ x ∈ l, x ≠ b) : (l ++ b :: m).takeWhile (· != b) = l := by
  induction l with
  | nil => simp
  | cons a r ih =>
    have := h a (by simp)
    rw [List.cons_append, List.takeWhile_cons]
    simp [this]
    exact ih fun x hx => h x (by simp [hx])
theorem parts_mem (x : Int) (l : List Int) (hx : x ≠ 47) : x ∈ l → ∃ p ∈ partsL l, x ∈ p := by
  induction l with
  | nil => intro h; cases h
  | cons b t ih =>
    intro h
    unfold partsL
    by_cases hb : b = 47
    · rw [if_pos hb]
      rcases List.mem_cons.1 h with h | h
      · exact absurd (h.trans hb) hx
      · obtain ⟨p, hp, hxp⟩ := ih h
        exact ⟨p, by simp [hp], hxp⟩
    · rw [if_neg hb]
      obtain ⟨p, ps, e⟩ := partsL_ne t
      rw [e]
      rcases List.mem_cons.1 h with h | h
      · exact ⟨b :: p, by simp, by simp [h]⟩
      · obtain ⟨q, hq, hxq⟩ := ih h
        rw [e] at hq
        rcases List.mem_cons.1 hq with h2 | h2
        · subst h2; exact ⟨b :: q, by simp, by simp [hxq]⟩
        · exact ⟨q, by simp [h2], hxq⟩
theorem class_no {l : List Int} (h : classB l = true) (x : Int) (hx : x ≠ 47) (hc : [46, 59, 91, 47].contains x = true) : x ∉ l := by
  intro hm
  obtain ⟨p, hp, hxp⟩ := parts_mem x l hx hm
  unfold classB at h
  simp only [Bool.and_eq_true, List.all_eq_true] at h
  have h2 := plainB_no (h.2 p hp)
  have h3 : hasB [46, 59, 91, 47] p = true := by
    unfold hasB
    rw [List.any_eq_true]
    exact ⟨x, hxp, hc⟩
  rw [h2] at h3
  cases h3
theorem single_put {k : Int} {n : List Int} (m : List Int) (h : putS k n ≠ []) : single (putS k n ++ m) = some (⟨k, if baseB k then [] else n, 0, 0⟩, (putS k n).length) := by
  unfold putS at h ⊢
  by_cases hb : baseB k = true
  · rw [if_pos hb] at h ⊢
    simp [single, hb]
  · rw [if_neg hb] at h ⊢
    by_cases hk : k = 76 ∧ classB n = true
    · rw [if_pos hk] at h ⊢
      obtain ⟨rfl, hc⟩ := hk
      have h59 : ∀ x ∈ n, x ≠ 59 := fun x hx e => class_no hc 59 (by decide) (by decide) (e ▸ hx)
      have ht : (n ++ 59 :: m).takeWhile (· != 59) = n := takeWhile_stop h59
      have : 76 :: (n ++ [59]) ++ m = 76 :: (n ++ 59 :: m) := by simp
      rw [this, single_cons, if_neg hb, ht, if_pos ⟨rfl, by simp, hc⟩]
      simp [hb]
    · rw [if_neg hk] at h; exact absurd rfl h
theorem dimsL_rep (d : Nat) (l : List Int) (h : l.head? ≠ some 91) : dimsL (List.replicate d 91 ++ l) = d := by
  unfold dimsL
  induction d with
  | zero =>
    cases l with
    | nil => rfl
    | cons a r =>
      have : a ≠ 91 := fun e => h (by simp [e])
      simp [this]
  | succ d ih =>
    rw [List.replicate_succ, List.cons_append, List.takeWhile_cons]
    simp at ih ⊢
    exact ih
theorem putS_head {k : Int} {n m : List Int} (h : putS k n ≠ []) : (putS k n ++ m).head? ≠ some 91 ∧ (putS k n ++ m).head? ≠ some 41 := by
  unfold putS at h ⊢
  by_cases hb : baseB k = true
  · rw [if_pos hb]
    have := baseB_not hb
    simp; omega
  · rw [if_neg hb] at h ⊢
    split at h
    · rw [if_pos (by assumption)]; simp
    · exact absurd rfl h
/-- A type as it may be read: its cells that mean nothing are empty. -/
def Ty.good (t : Ty) : Prop :=
  (baseB t.kind = true ∧ t = ⟨t.kind, [], 0, 0⟩) ∨ (t.kind = 76 ∧ classB t.name = true ∧ t = ⟨76, t.name, 0, 0⟩) ∨
  (t.kind = 91 ∧ 1 ≤ t.dims ∧ t.dims ≤ 255 ∧ ((baseB t.elem = true ∧ t.name = []) ∨ (t.elem = 76 ∧ classB t.name = true)))
theorem front_put {t : Ty} (m : List Int) (h : t.good) : front (putT t ++ m) = some (t, (putT t).length) ∧ (putT t ++ m).head? ≠ some 41 := by
  rcases h with ⟨hb, ht⟩ | ⟨hk, hc, ht⟩ | ⟨hk, h1, h2, he⟩
  · have hn := baseB_not hb
    have hp : putS t.kind t.name ≠ [] := by simp [putS, hb]
    have e : putT t = putS t.kind t.name := by unfold putT; rw [if_neg hn.2.1, if_neg hn.1]
    rw [e]
    have hd := dimsL_rep 0 (putS t.kind t.name ++ m) (putS_head hp).1
    simp only [List.replicate_zero, List.nil_append] at hd
    refine ⟨?_, (putS_head hp).2⟩
    rw [front_some (by omega) (by rw [hd, List.drop_zero]; exact single_put m hp), hd, Nat.zero_add]
    rw [ht]; simp [Ty.arr, hb]
  · have hb : baseB t.kind = false := by rw [hk]; decide
    have hp : putS t.kind t.name ≠ [] := by unfold putS; rw [if_neg (by simp [hb]), if_pos ⟨hk, hc⟩]; simp
    have e : putT t = putS t.kind t.name := by unfold putT; rw [if_neg (by omega), if_neg (by omega)]
    rw [e]
    have hd := dimsL_rep 0 (putS t.kind t.name ++ m) (putS_head hp).1
    simp only [List.replicate_zero, List.nil_append] at hd
    refine ⟨?_, (putS_head hp).2⟩
    rw [front_some (by omega) (by rw [hd, List.drop_zero]; exact single_put m hp), hd, Nat.zero_add]
    simp only [hb, Ty.arr, if_pos, Bool.false_eq_true, if_false]
    rw [ht]
  · have hp : putS t.elem t.name ≠ [] := by
      rcases he with ⟨hb, _⟩ | ⟨hk, hc⟩
      · simp [putS, hb]
      · unfold putS; rw [if_neg (by rw [hk]; decide), if_pos ⟨hk, hc⟩]; simp
    have e : putT t = List.replicate t.dims 91 ++ putS t.elem t.name := by
      unfold putT
      rw [if_neg (by omega), if_pos hk, if_neg]
      rintro (h | h | h)
      · exact hp h
      · omega
      · omega
    rw [e, List.append_assoc]
    have hd := dimsL_rep t.dims (putS t.elem t.name ++ m) (putS_head hp).1
    have hdr : (List.replicate t.dims (91 : Int) ++ (putS t.elem t.name ++ m)).drop t.dims = putS t.elem t.name ++ m := by
      rw [List.drop_append_of_le_length (by simp), List.drop_eq_nil_of_le (by simp)]; rfl
    refine ⟨?_, ?_⟩
    · rw [front_some (by omega) (by rw [hd, hdr]; exact single_put m hp), hd]
      have : (⟨t.elem, if baseB t.elem = true then [] else t.name, 0, 0⟩ : Ty).arr t.dims = t := by
        unfold Ty.arr
        rw [if_neg (by omega)]
        cases t with
        | mk k n d x =>
          simp only at *
          rcases he with ⟨hb, hn⟩ | ⟨hx, _⟩
          · simp [hb, hn, hk]
          · subst hx
            simp [hk, baseB]
      rw [this]
      simp
    · obtain ⟨d, hdd⟩ : ∃ d, t.dims = d + 1 := ⟨t.dims - 1, by omega⟩
      rw [hdd, List.replicate_succ]
      simp
/-- What is read is written as it stood. -/
theorem single_good {l : List Int} {t : Ty} {n : Nat} (h : single l = some (t, n)) : putS t.kind t.name = l.take n ∧ putS t.kind t.name ≠ [] ∧ t.dims = 0 ∧ t.elem = 0 ∧ t.kind ≠ 86 ∧ t.kind ≠ 91 := by
  cases l with
  | nil => cases h
  | cons c r =>
    rw [single_cons] at h
    split at h
    · rename_i hb
      cases h
      have := baseB_not hb
      exact ⟨by simp [putS, hb], by simp [putS, hb], rfl, rfl, this.2.1, this.1⟩
    · split at h
      · rename_i h2
        cases h
        obtain ⟨rfl, hm, hc⟩ := h2
        have h3 : r.takeWhile (· != 59) ++ [59] = r.take ((r.takeWhile (· != 59)).length + 1) := by
          clear hc
          induction r with
          | nil => cases hm
          | cons a r ih =>
            by_cases ha : a = 59
            · subst ha; simp
            · have hm2 : (59 : Int) ∈ r := by rcases List.mem_cons.1 hm with h | h; exact absurd h.symm ha; exact h
              rw [List.takeWhile_cons]
              simp only [bne_iff_ne, ne_eq, ha, not_false_eq_true, if_true]
              simp only [List.cons_append, List.length_cons, List.take_succ_cons, List.cons.injEq, true_and]
              exact ih hm2
        refine ⟨?_, ?_, rfl, rfl, show ¬ (76 : Int) = 86 by decide, show ¬ (76 : Int) = 91 by decide⟩
        · show putS 76 _ = _
          unfold putS
          rw [if_neg (by decide), if_pos ⟨rfl, hc⟩, h3]
          simp
        · show putS 76 _ ≠ _
          unfold putS
          rw [if_neg (by decide), if_pos ⟨rfl, hc⟩]
          simp
      · cases h
theorem dims_take (l : List Int) : l.take (dimsL l) = List.replicate (dimsL l) 91 := by
  unfold dimsL
  induction l with
  | nil => rfl
  | cons a r ih =>
    by_cases ha : a = 91
    · subst ha
      simp only [List.takeWhile_cons, beq_self_eq_true, if_true, List.length_cons, List.take_succ_cons, List.replicate_succ, List.cons.injEq, true_and]
      exact ih
    · simp [ha]
theorem put_front {l : List Int} {t : Ty} {n : Nat} (h : front l = some (t, n)) : putT t = l.take n := by
  unfold front at h
  split at h
  · cases h
  · cases hs : single (l.drop (dimsL l)) with
    | none => rw [hs] at h; cases h
    | some x =>
      obtain ⟨u, m⟩ := x
      rw [hs] at h
      simp only [Option.map_some, Option.some.injEq, Prod.mk.injEq] at h
      obtain ⟨rfl, rfl⟩ := h
      obtain ⟨h1, h2, h3, h4, h5, h6⟩ := single_good hs
      unfold Ty.arr
      split
      · rename_i hd
        rw [hd, List.drop_zero] at h1
        unfold putT
        rw [if_neg h5, if_neg h6, h1, hd, Nat.zero_add]
      · unfold putT
        rw [if_neg (show ¬ (91 : Int) = 86 by decide), if_pos rfl]
        simp only
        rw [if_neg (by rintro (h | h | h); exact h2 h; omega; omega), h1, List.take_add, dims_take]
theorem put_field {l : List Int} {t : Ty} (h : field l = some t) : putT t = l := by
  unfold field at h
  cases hf : front l with
  | none => rw [hf] at h; cases h
  | some x =>
    obtain ⟨u, n⟩ := x
    rw [hf] at h
    simp only at h
    split at h
    · cases h
      rw [put_front hf, List.take_of_length_le (by omega)]
    · cases h
theorem args_put (ts : List Ty) (m : List Int) (h : ∀ t ∈ ts, t.good) : args (ts.flatMap putT ++ 41 :: m) = some (ts, m) := by
  induction ts with
  | nil => exact args_stop rfl
  | cons t r ih =>
    have hg := h t (by simp)
    obtain ⟨hf, hh⟩ := front_put (r.flatMap putT ++ 41 :: m) hg
    rw [List.flatMap_cons, List.append_assoc, args_some hh hf, List.drop_append_of_le_length (Nat.le_refl _), List.drop_length, List.nil_append, ih fun t ht => h t (by simp [ht])]
    rfl
theorem field_put {t : Ty} (h : t.good) : field (putT t) = some t := by
  have := (front_put [] h).1
  rw [List.append_nil] at this
  unfold field
  rw [this]
  simp
theorem ret_put {t : Ty} (h : t.good) : retL (putT t) = some t := by
  unfold retL
  split
  · rename_i e
    have := (front_put [] h).1
    rw [List.append_nil, e, front_none (by decide)] at this
    cases this
  · exact field_put h
theorem sig_put (ts : List Ty) (t : Ty) (h : ∀ t ∈ ts, t.good) (ht : t.good) : sig (40 :: (ts.flatMap putT ++ 41 :: putT t)) = some (ts, t) := by
  show (match args (ts.flatMap putT ++ 41 :: putT t) with | some (ts, r) => (retL r).map fun t => (ts, t) | none => none) = _
  rw [args_put ts _ h]
  simp only [ret_put ht, Option.map_some]
theorem sig_putV (ts : List Ty) (h : ∀ t ∈ ts, t.good) : sig (40 :: (ts.flatMap putT ++ 41 :: [86])) = some (ts, ⟨86, [], 0, 0⟩) := by
  show (match args (ts.flatMap putT ++ 41 :: [86]) with | some (ts, r) => (retL r).map fun t => (ts, t) | none => none) = _
  rw [args_put ts _ h]
  rfl
end Go.Proofs.YtbdbcalmjbmflaaGreatDoor
namespace Go.Proofs.YtbdbcalmjbmflaaGreatDoor
open Go.RowKit

/-- A type's cells. -/
def Ty.cells (t : Ty) : List Value := [.int .u8 t.kind, .string (strOfNums t.name), .int .i64 t.dims, .int .u8 t.elem]
/-- A type as a value. -/
def Ty.val (t : Ty) : Value := .agg #[.int .u8 t.kind, .string (strOfNums t.name), .int .i64 t.dims, .int .u8 t.elem]

theorem below_one (w : World) (o : Obj) : Below w.heap.size w (w.alloc o) := (Below.refl _ w).alloc (Nat.le_refl _) o
end Go.Proofs.YtbdbcalmjbmflaaGreatDoor
namespace Go.Proofs.YtbdbcalmjbmflaaGreatDoor
open Go.RowKit

theorem tw_step {p : Int → Bool} {l : List Int} : ∀ {k : Nat}, k < l.length → p (l.getD k 0) = true → k ≤ (l.takeWhile p).length → k + 1 ≤ (l.takeWhile p).length := by
  induction l with
  | nil => intro k h; simp at h
  | cons a r ih =>
    intro k h hp hk
    by_cases ha : p a = true
    · simp only [List.takeWhile_cons, ha, if_true, List.length_cons] at hk ⊢
      cases k with
      | zero => omega
      | succ k =>
        have := ih (k := k) (by simpa using h) (by simpa using hp) (by omega)
        omega
    · simp only [List.takeWhile_cons, ha, Bool.false_eq_true, if_false, List.length_nil] at hk
      obtain rfl : k = 0 := by omega
      simp at hp
      exact absurd hp ha
theorem tw_stop {p : Int → Bool} {l : List Int} : ∀ {k : Nat}, k < l.length → p (l.getD k 0) = false → k ≤ (l.takeWhile p).length → (l.takeWhile p).length = k := by
  induction l with
  | nil => intro k h; simp at h
  | cons a r ih =>
    intro k h hp hk
    by_cases ha : p a = true
    · simp only [List.takeWhile_cons, ha, if_true, List.length_cons] at hk ⊢
      cases k with
      | zero => simp at hp; rw [hp] at ha; cases ha
      | succ k =>
        have := ih (k := k) (by simpa using h) (by simpa using hp) (by omega)
        omega
    · simp only [List.takeWhile_cons, ha, Bool.false_eq_true, if_false, List.length_nil] at hk ⊢
      omega
theorem tw_all {p : Int → Bool} {l : List Int} (h : l.length ≤ (l.takeWhile p).length) : l.takeWhile p = l :=
  (List.takeWhile_prefix (l := l) p).eq_of_length_le h
theorem At.c4 {w : World} {g : Nat} {t : TypeId} {a b c d : Value} (h : At w g t [a, b, c, d]) :
    w.cell? ⟨g, 0, none⟩ = some a ∧ w.cell? ⟨g, 1, none⟩ = some b ∧ w.cell? ⟨g, 2, none⟩ = some c ∧ w.cell? ⟨g, 3, none⟩ = some d ∧
    w.frozen? ⟨g, 0, none⟩ = false ∧ w.frozen? ⟨g, 1, none⟩ = false ∧ w.frozen? ⟨g, 2, none⟩ = false ∧ w.frozen? ⟨g, 3, none⟩ = false :=
  ⟨h.cell 0, h.cell 1, h.cell 2, h.cell 3, h.free 0, h.free 1, h.free 2, h.free 3⟩

/-- What the type at a beginning is told as. -/
def frontV : Option (Ty × Nat) → Value
  | some (t, n) => .tuple #[t.val, .int .i64 n]
  | none => .tuple #[noTy.val, .int .i64 0]

end Go.Proofs.YtbdbcalmjbmflaaGreatDoor
namespace Go.Proofs.YtbdbcalmjbmflaaGreatDoor
open Go.RowKit

def sBases : ByteArray := ⟨#[66, 67, 73, 74, 83, 90]⟩
theorem bases_idx (c : Int) (h0 : 0 ≤ c) (h1 : c < 256) : decide (0 ≤ Lib.indexByte sBases.data.toList c.toNat.toUInt8) = baseB c := by
  have : ∀ n : Fin 256, decide (0 ≤ Lib.indexByte sBases.data.toList n.val.toUInt8) = baseB (n.val : Int) := by decide +kernel
  have := this ⟨c.toNat, by omega⟩
  simpa [Int.toNat_of_nonneg h0] using this
theorem isbase_any (c : Int) (w : World) (h0 : 0 ≤ c) (h1 : c < 256) : Calls Tryz.prog 115 #[.int .u8 c] w fun e w' => e = .returned (.bool (baseB c)) ∧ w = w' := by
  have H : Hid (∀ W, Calls Tryz.prog 134 #[.string sBases, .int .u8 c] W fun e w' => e = .returned (.int .i64 (Lib.indexByte sBases.data.toList c.toNat.toUInt8)) ∧ w' = W) := hide fun W => Tryz.strings_IndexByte sBases c W
  have HB := hide (bases_idx c h0 h1)
  generalize Lib.indexByte sBases.data.toList c.toNat.toUInt8 = r at *
  go_enter Tryz.func115, Tryz.ntmps115
  go_wp2_with fail
  refine (H.out _).mono ?_
  rintro e w1 ⟨rfl, rfl⟩
  go_wp2_with fail
  go_ret
  exact ⟨ret_bool HB.out, rfl⟩

theorem words_any (t : Ty) (w : World) (h0 : 0 ≤ t.kind) (h1 : t.kind < 256) : Calls Tryz.prog 98 #[t.val] w fun e w' => e = .returned (.int .i64 (words t.kind)) ∧ Below w.heap.size w w' := by
  obtain ⟨k, n, d, x⟩ := t
  simp only [Ty.val] at *
  generalize strOfNums n = s
  have HI : Hid (∀ W, Calls Tryz.prog 115 #[.int .u8 k] W fun e w' => e = .returned (.bool (baseB k)) ∧ W = w') := hide fun W => isbase_any k W h0 h1
  have H := hide (show ∀ k, words k = if k = 74 then 2 else if baseB k = true ∨ k = 76 ∨ k = 91 then 1 else 0 from fun _ => rfl)
  by_cases hj : k = 74
  · have b1 : (k == 74) = true := by simpa using hj
    have HV : Hid (words k = 2) := hide (by rw [H.out, if_pos hj])
    clear hj
    go_enter Tryz.func98, Tryz.ntmps98
    go_wp2_with fail
    go_ret
    exact ⟨ret_int HV.out.symm, below_one _ _⟩
  · have b1 : (k == 74) = false := by simpa using hj
    cases hb : baseB k
    · by_cases hl : k = 76
      · have b2 : (k == 76) = true := by simpa using hl
        have HV : Hid (words k = 1) := hide (by rw [H.out, if_neg hj, if_pos (.inr (.inl hl))])
        rw [hb] at HI
        clear hj hb hl
        go_enter Tryz.func98, Tryz.ntmps98
        go_wp2_with fail
        refine (HI.out _).mono ?_
        rintro e w1 ⟨rfl, rfl⟩
        go_wp2_with fail
        go_ret
        exact ⟨ret_int HV.out.symm, below_one _ _⟩
      · have b2 : (k == 76) = false := by simpa using hl
        by_cases ha : k = 91
        · have b3 : (k == 91) = true := by simpa using ha
          have HV : Hid (words k = 1) := hide (by rw [H.out, if_neg hj, if_pos (.inr (.inr ha))])
          rw [hb] at HI
          clear hj hb hl ha
          go_enter Tryz.func98, Tryz.ntmps98
          go_wp2_with fail
          refine (HI.out _).mono ?_
          rintro e w1 ⟨rfl, rfl⟩
          go_wp2_with fail
          go_ret
          exact ⟨ret_int HV.out.symm, below_one _ _⟩
        · have b3 : (k == 91) = false := by simpa using ha
          have HV : Hid (words k = 0) := hide (by rw [H.out, if_neg hj, if_neg (by simp [hb, hl, ha])])
          rw [hb] at HI
          clear hj hb hl ha
          go_enter Tryz.func98, Tryz.ntmps98
          go_wp2_with fail
          refine (HI.out _).mono ?_
          rintro e w1 ⟨rfl, rfl⟩
          go_wp2_with fail
          go_ret
          exact ⟨ret_int HV.out.symm, below_one _ _⟩
    · have HV : Hid (words k = 1) := hide (by rw [H.out, if_neg hj, if_pos (.inl hb)])
      rw [hb] at HI
      clear hj hb
      go_enter Tryz.func98, Tryz.ntmps98
      go_wp2_with fail
      refine (HI.out _).mono ?_
      rintro e w1 ⟨rfl, rfl⟩
      go_wp2_with fail
      go_ret
      exact ⟨ret_int HV.out.symm, below_one _ _⟩

/-- The prefix of one byte. -/
theorem cutPrefix_any (s : ByteArray) (w : World) (hm : s.size ≤ 1000000) (b : Bool) (hb : Lib.hasPrefix s.data.toList [40] = b) :
    Calls Tryz.prog 104 #[.string s, .string ⟨#[40]⟩] w fun e w' => e = .returned (.tuple #[.string (if b then s.extract 1 s.size else s), .bool b]) ∧ w = w' := by
  have H : Hid (∀ W, Calls Tryz.prog 130 #[.string s, .string ⟨#[40]⟩] W fun e w' => e = .returned (.bool b) ∧ w' = W) := hide fun W => hb ▸ Tryz.stringslite_HasPrefix s ⟨#[40]⟩ W
  have H2 : Hid (∀ W, Calls Tryz.prog 129 #[.string s, .string ⟨#[40]⟩] W fun e w' => e = .returned (.tuple #[.string (if b then s.extract 1 s.size else s), .bool b]) ∧ W = w') := hide fun W => by
    cases b
    · go_enter Tryz.func129, Tryz.ntmps129
      go_wp2_with fail
      refine (H.out _).mono ?_
      rintro e w1 ⟨rfl, rfl⟩
      go_wp2_with fail
      go_ret2
      exact ⟨rfl, rfl⟩
    · have hz : (1 : Int) ≤ (s.size : Int) := by
        cases h : s.data.toList with
        | nil => rw [h] at hb; cases hb
        | cons a r => have := Lib.size_eq s; rw [h] at this; simp at this; omega
      go_enter Tryz.func129, Tryz.ntmps129
      go_wp2_with fail
      refine (H.out _).mono ?_
      rintro e w1 ⟨rfl, rfl⟩
      go_wp2_with fail
      go_ret2
      exact ⟨rfl, rfl⟩
  generalize (if b then s.extract 1 s.size else s) = x at *
  go_enter Tryz.func104, Tryz.ntmps104
  go_wp2_with fail
  refine (H2.out _).mono ?_
  rintro e w1 ⟨rfl, rfl⟩
  go_wp2_with fail
  go_ret2
  exact ⟨rfl, rfl⟩

/-! ### what Go's library says of a text, as numbers -/
theorem prefix_head (s : ByteArray) (c : UInt8) : Lib.hasPrefix s.data.toList [c] = decide ((nums s).head? = some ((c.toNat : Nat) : Int)) := by
  unfold nums Lib.hasPrefix
  cases s.data.toList with
  | nil => rfl
  | cons a r =>
    simp only [List.isPrefixOf_cons_cons, List.isPrefixOf_nil_left, Bool.and_true, List.map_cons, List.head?_cons, Option.some.injEq]
    by_cases h : c = a
    · subst h; simp
    · have : ¬ ((a.toNat : Nat) : Int) = ((c.toNat : Nat) : Int) := fun e => h (UInt8.toNat_inj.1 (by omega))
      simp [h, this]
theorem tw_map (l : List UInt8) (c : UInt8) : (l.takeWhile (· == c)).length = ((l.map fun b => ((b.toNat : Nat) : Int)).takeWhile (· == ((c.toNat : Nat) : Int))).length := by
  induction l with
  | nil => rfl
  | cons a r ih =>
    by_cases h : a = c
    · subst h; simp [ih]
    · have : ¬ ((a.toNat : Nat) : Int) = ((c.toNat : Nat) : Int) := fun e => h (UInt8.toNat_inj.1 (by omega))
      simp [h, this]
theorem dropWhile_drop (l : List UInt8) (p : UInt8 → Bool) : l.dropWhile p = l.drop (l.takeWhile p).length := by
  induction l with
  | nil => rfl
  | cons a r ih =>
    by_cases h : p a = true
    · simp [h, ih]
    · simp [h]
theorem trim_drop (s : ByteArray) : (⟨(Lib.trimLeftB s.data.toList 91).toArray⟩ : ByteArray) = s.extract (dimsL (nums s)) s.size := by
  apply nums_inj
  rw [nums_from]
  unfold nums dimsL Lib.trimLeftB
  rw [dropWhile_drop, tw_map, List.map_drop]
  rfl
theorem index_cons (a : UInt8) (r : List UInt8) (h : a ≠ 59) : Lib.index (a :: r) [59] = if Lib.index r [59] == -1 then -1 else Lib.index r [59] + 1 := by
  have hp : ([59] : List UInt8).isPrefixOf (a :: r) = false := by
    have : ((59 : UInt8) == a) = false := by simpa using Ne.symm h
    rw [List.isPrefixOf_cons_cons, this]; rfl
  rw [Lib.index, hp]; rfl
theorem index_semi (l : List UInt8) : Lib.index l [59] = if (59 : Int) ∈ l.map (fun b => ((b.toNat : Nat) : Int)) then (((l.map fun b => ((b.toNat : Nat) : Int)).takeWhile (· != 59)).length : Int) else -1 := by
  induction l with
  | nil => rfl
  | cons a r ih =>
    by_cases h : a = 59
    · subst h
      simp [Lib.index, show ((59 : UInt8).toNat) = 59 from rfl]
    · have hn : ¬ ((a.toNat : Nat) : Int) = 59 := fun e => h (UInt8.toNat_inj.1 (by have : ((59 : UInt8).toNat) = 59 := rfl; omega))
      rw [index_cons a r h, ih]
      have hn' : ¬ (59 : Int) = ((a.toNat : Nat) : Int) := fun e => hn e.symm
      generalize hq : r.map (fun b => ((b.toNat : Nat) : Int)) = q
      rw [List.map_cons, hq]
      by_cases hm : (59 : Int) ∈ q
      · rw [if_pos hm, if_pos (List.mem_cons_of_mem _ hm), List.takeWhile_cons]
        simp only [bne_iff_ne, ne_eq, hn, not_false_eq_true, if_true, List.length_cons]
        rw [if_neg (by simp)]
        rfl
      · have : ¬ (59 : Int) ∈ ((a.toNat : Nat) : Int) :: q := fun e => by
          rcases List.mem_cons.1 e with e | e
          · exact hn' e
          · exact hm e
        rw [if_neg hm, if_neg this]
        rfl
/-- A text cut at its first semicolon. -/
def semiV (x : ByteArray) : Value :=
  if (59 : Int) ∈ nums x then .tuple #[.string (x.extract 0 ((nums x).takeWhile (· != 59)).length), .string (x.extract (((nums x).takeWhile (· != 59)).length + 1) x.size), .bool true]
  else .tuple #[.string x, .string ⟨#[]⟩, .bool false]
theorem cutsemi_any (x : ByteArray) (w : World) (hm : x.size ≤ 1000000) (hw : Maxed w) :
    Calls Tryz.prog 116 #[.string x, .string ⟨#[59]⟩] w fun e w' => e = .returned (semiV x) ∧ ∃ n, w' = w.drewN n := by
  obtain ⟨m, hmx⟩ := hw
  refine (Tryz.strings_Cut x ⟨#[59]⟩ m w (by omega) hmx).mono ?_
  rintro e w' ⟨rfl, hn⟩
  refine ⟨?_, hn⟩
  have hi := index_semi x.data.toList
  have hx : x.data.toList.map (fun b => ((b.toNat : Nat) : Int)) = nums x := rfl
  rw [hx] at hi
  unfold semiV Lib.cut
  show Ending.returned (Value.tuple #[.string ⟨(if 0 ≤ Lib.index x.data.toList [59] then _ else _ : List UInt8 × List UInt8 × Bool).1.toArray⟩, .string ⟨(if 0 ≤ Lib.index x.data.toList [59] then _ else _ : List UInt8 × List UInt8 × Bool).2.1.toArray⟩, .bool (if 0 ≤ Lib.index x.data.toList [59] then _ else _ : List UInt8 × List UInt8 × Bool).2.2]) = _
  by_cases h : (59 : Int) ∈ nums x
  · rw [if_pos h] at hi ⊢
    rw [hi, if_pos (by omega)]
    simp only [Int.toNat_natCast, List.length_singleton]
    have e1 : (⟨(x.data.toList.take ((nums x).takeWhile (· != 59)).length).toArray⟩ : ByteArray) = x.extract 0 ((nums x).takeWhile (· != 59)).length := by
      apply nums_inj
      rw [nums_cut]
      simp [nums, List.map_take]
    have e2 : (⟨(x.data.toList.drop (((nums x).takeWhile (· != 59)).length + 1)).toArray⟩ : ByteArray) = x.extract (((nums x).takeWhile (· != 59)).length + 1) x.size := by
      apply nums_inj
      rw [nums_from]
      simp [nums, List.map_drop]
    rw [← e1, ← e2]
  · rw [if_neg h] at hi ⊢
    rw [hi, if_neg (by omega)]
end Go.Proofs.YtbdbcalmjbmflaaGreatDoor
namespace Go.Proofs.YtbdbcalmjbmflaaGreatDoor
open Go.RowKit

/-- What a type at the beginning is told as, with what stands behind it. -/
def restV (s : ByteArray) : Option (Ty × Nat) → Value
  | some (t, n) => .tuple #[t.val, .string (s.extract n s.size), .bool true]
  | none => .tuple #[noTy.val, .string ⟨#[]⟩, .bool false]
theorem restV_none (s : ByteArray) : restV s none = .tuple #[.agg #[.int .u8 0, .string ⟨#[]⟩, .int .i64 0, .int .u8 0], .string ⟨#[]⟩, .bool false] := rfl
theorem nums_at {s : ByteArray} (h : 0 < s.size) : nums s = (s[0].toNat : Int) :: (nums s).drop 1 := by
  have hl : 0 < (nums s).length := by rw [nums_len]; exact h
  have : (nums s)[0]'hl = (s[0].toNat : Int) := by rw [← num_at s 0 h]; simp [List.getD, hl]
  rw [← this]
  exact (List.drop_eq_getElem_cons hl)
theorem nonempty {s : ByteArray} (h : 0 < s.size) : s.toList.isEmpty = false := by
  rw [Lib.toList_data]
  cases hd : s.data.toList with
  | nil => have := Lib.size_eq s; rw [hd] at this; simp only [List.length_nil] at this; omega
  | cons a r => rfl

set_option maxHeartbeats 2000000 in
set_option maxRecDepth 100000 in
theorem single_any (s : ByteArray) (w : World) (hm : s.size ≤ 1000000) (hw : Maxed w) : Calls Tryz.prog 94 #[.string s] w fun e w' => e = .returned (restV s (single (nums s))) ∧ Below w.heap.size w w' := by
  by_cases hz : 0 < s.size
  · have he := nonempty hz
    have hN := nums_at hz
    have hr := byte_range s[0]
    obtain ⟨r, hrd⟩ : ∃ r, r = nums (s.extract 1 s.size) := ⟨_, rfl⟩
    have hrd2 : r = (nums s).drop 1 := by rw [hrd, nums_from]
    rw [← hrd2] at hN
    have HI : Hid (∀ W, Calls Tryz.prog 115 #[.int .u8 s[0].toNat] W fun e w' => e = .returned (.bool (baseB s[0].toNat)) ∧ W = w') := hide fun W => isbase_any _ W hr.1 hr.2
    obtain ⟨D, hD⟩ : ∃ D, restV s (single (nums s)) = D := ⟨_, rfl⟩
    rw [hD]
    rw [hN, single_cons] at hD
    have hz1 : (1 : Int) ≤ (s.size : Int) := by omega
    have hz2 : (0 : Int) < (s.size : Int) := by omega
    by_cases hb : baseB (s[0].toNat : Int) = true
    · have HV : Hid (D = .tuple #[.agg #[.int .u8 s[0].toNat, .string ⟨#[]⟩, .int .i64 0, .int .u8 0], .string (s.extract 1 s.size), .bool true]) := hide (by rw [← hD, if_pos hb]; rfl)
      rw [hb] at HI
      clear hD hN hb hr hrd hrd2 hw
      go_enter Tryz.func94, Tryz.ntmps94
      go_wp2_with fail
      refine (HI.out _).mono ?_
      rintro e w1 ⟨rfl, rfl⟩
      go_wp2_with fail
      go_region
      all_goals
        go_wp2_with fail
        refine bodyPost_ret (v := .tuple #[.agg #[.int .u8 s[0].toNat, .string ⟨#[]⟩, .int .i64 0, .int .u8 0], .string (s.extract 1 s.size), .bool true]) ?_ rfl ⟨by rw [HV.out], ?_⟩
        · simp [results, Tryz.results94, go_sem]
        · repeat (first | with_reducible exact Below.refl _ _ | with_reducible refine Below.drew ?_ | with_reducible refine below_drewN ?_ _ | ((with_reducible refine Below.setCell ?_ ?hp _); case hp => simp) | ((with_reducible refine Below.alloc ?_ ?hp _); case hp => first | omega | (simp; done) | (simp; omega)))
    · rw [if_neg hb] at hD
      by_cases h76 : (s[0].toNat : Int) = 76
      · have b76 : ((s[0].toNat : Int) != 76) = false := by simpa using h76
        have HW : Hid (∀ o, Maxed (w.alloc o)) := hide fun o => hw.below ((Below.refl _ w).alloc (Nat.le_refl _) o)
        have hzs : (s.extract 1 s.size).size = s.size - 1 := by rw [← nums_len, nums_from, List.length_drop, nums_len]
        have HC : Hid (∀ W, Maxed W → Calls Tryz.prog 116 #[.string (s.extract 1 s.size), .string ⟨#[59]⟩] W fun e w' => e = .returned (semiV (s.extract 1 s.size)) ∧ ∃ n, w' = W.drewN n) := hide fun W hW => cutsemi_any _ W (by omega) hW
        have hbf : baseB (s[0].toNat : Int) = false := by simpa using hb
        rw [hbf] at HI
        by_cases h59 : (59 : Int) ∈ r
        · have hv : semiV (s.extract 1 s.size) = .tuple #[.string ((s.extract 1 s.size).extract 0 (r.takeWhile (· != 59)).length), .string ((s.extract 1 s.size).extract ((r.takeWhile (· != 59)).length + 1) (s.extract 1 s.size).size), .bool true] := by
            unfold semiV; rw [← hrd, if_pos h59]
          have e1 : nums ((s.extract 1 s.size).extract 0 (r.takeWhile (· != 59)).length) = r.takeWhile (· != 59) := by
            rw [nums_cut, ← hrd]
            exact (List.prefix_iff_eq_take.1 (List.takeWhile_prefix _)).symm
          have e2 : (s.extract 1 s.size).extract ((r.takeWhile (· != 59)).length + 1) (s.extract 1 s.size).size = s.extract ((r.takeWhile (· != 59)).length + 2) s.size := by
            apply nums_inj
            rw [nums_from, nums_from, nums_from, List.drop_drop, show 1 + ((r.takeWhile (· != 59)).length + 1) = (r.takeWhile (· != 59)).length + 2 by omega]
          rw [e2] at hv
          rw [hv] at HC
          obtain ⟨q, hq⟩ : ∃ q, q = (s.extract 1 s.size).extract 0 (r.takeWhile (· != 59)).length := ⟨_, rfl⟩
          rw [← hq] at e1 HC
          have HS : Hid (strOfNums (r.takeWhile (· != 59)) = q) := hide (by rw [← e1, of_nums])
          have HK : Hid (∀ W, Calls Tryz.prog 49 #[.string q] W (Tells (classB (r.takeWhile (· != 59))) W)) := hide fun W => by
            have := class_any q W
            rwa [e1] at this
          cases hcl : classB (r.takeWhile (· != 59))
          · rw [hcl] at HK
            have HV : Hid (D = .tuple #[.agg #[.int .u8 0, .string ⟨#[]⟩, .int .i64 0, .int .u8 0], .string ⟨#[]⟩, .bool false]) := hide (by rw [← hD, if_neg (by rw [hcl]; simp)]; rfl)
            clear hD hN hb hr hrd hrd2 hw hv e1 e2 hq HS hcl h59 hbf h76 hzs
            go_enter Tryz.func94, Tryz.ntmps94
            go_wp2_with fail
            refine (HI.out _).mono ?_
            rintro e w1 ⟨rfl, rfl⟩
            go_wp2_with fail
            refine (HC.out _ (HW.out _)).mono ?_
            rintro e w1 ⟨rfl, n, rfl⟩
            go_wp2_with fail
            refine (HK.out _).mono ?_
            rintro e w2 ⟨rfl, hb2⟩
            have ha := (((At.new w 94 [.int .u8 0, .string ⟨#[]⟩, .int .i64 0, .int .u8 0]).drewN n).below hb2 (by simp))
            have HB2 : Hid (Below w.heap.size w w2) := hide ((below_drewN ((Below.refl _ w).alloc (Nat.le_refl _) _) n).trans (hb2.mono (by simp)))
            obtain ⟨z0, z1, z2, z3, g0, g1, g2, g3⟩ := ha.c4
            clear hb2 ha
            go_wp2_with fail
            refine bodyPost_ret (v := .tuple #[.agg #[.int .u8 0, .string ⟨#[]⟩, .int .i64 0, .int .u8 0], .string ⟨#[]⟩, .bool false]) ?_ rfl ⟨by rw [HV.out], ?_⟩
            · simp [results, Tryz.results94, go_sem, World.cell?_setCell_other, z0, z1, z2, z3]
            · repeat (first | with_reducible exact HB2.out | with_reducible refine Below.drew ?_ | with_reducible refine below_drewN ?_ _ | ((with_reducible refine Below.setCell ?_ ?hp _); case hp => simp) | ((with_reducible refine Below.alloc ?_ ?hp _); case hp => first | omega | (simp; done) | (simp; omega)))
          · rw [hcl] at HK
            have HV : Hid (D = .tuple #[.agg #[.int .u8 76, .string q, .int .i64 0, .int .u8 0], .string (s.extract ((r.takeWhile (· != 59)).length + 2) s.size), .bool true]) := hide (by rw [← hD, if_pos ⟨h76, h59, hcl⟩, restV, Ty.val, HS.out]; rfl)
            generalize s.extract ((r.takeWhile (· != 59)).length + 2) s.size = q2 at *
            clear hD hN hb hr hrd hrd2 hw hv e1 e2 hq HS hcl h59 hbf h76 hzs
            go_enter Tryz.func94, Tryz.ntmps94
            go_wp2_with fail
            refine (HI.out _).mono ?_
            rintro e w1 ⟨rfl, rfl⟩
            go_wp2_with fail
            refine (HC.out _ (HW.out _)).mono ?_
            rintro e w1 ⟨rfl, n, rfl⟩
            go_wp2_with fail
            refine (HK.out _).mono ?_
            rintro e w2 ⟨rfl, hb2⟩
            have ha := (((At.new w 94 [.int .u8 0, .string ⟨#[]⟩, .int .i64 0, .int .u8 0]).drewN n).below hb2 (by simp))
            have HB2 : Hid (Below w.heap.size w w2) := hide ((below_drewN ((Below.refl _ w).alloc (Nat.le_refl _) _) n).trans (hb2.mono (by simp)))
            obtain ⟨z0, z1, z2, z3, g0, g1, g2, g3⟩ := ha.c4
            clear hb2 ha
            go_wp2_with fail
            try go_region
            all_goals go_wp2_with fail
            all_goals
              refine bodyPost_ret (v := .tuple #[.agg #[.int .u8 76, .string q, .int .i64 0, .int .u8 0], .string q2, .bool true]) ?_ rfl ⟨by rw [HV.out], ?_⟩
              · simp [results, Tryz.results94, go_sem, World.cell?_setCell_other, z0, z1, z2, z3]
              · repeat (first | with_reducible exact HB2.out | with_reducible refine Below.drew ?_ | with_reducible refine below_drewN ?_ _ | ((with_reducible refine Below.setCell ?_ ?hp _); case hp => simp) | ((with_reducible refine Below.alloc ?_ ?hp _); case hp => first | omega | (simp; done) | (simp; omega)))
        · have hv : semiV (s.extract 1 s.size) = .tuple #[.string (s.extract 1 s.size), .string ⟨#[]⟩, .bool false] := by
            unfold semiV; rw [← hrd, if_neg h59]
          rw [hv] at HC
          have HV : Hid (D = .tuple #[.agg #[.int .u8 0, .string ⟨#[]⟩, .int .i64 0, .int .u8 0], .string ⟨#[]⟩, .bool false]) := hide (by rw [← hD, if_neg (fun h => h59 h.2.1)]; rfl)
          clear hD hN hb hr hrd hrd2 hw hv h59 hbf h76 hzs
          go_enter Tryz.func94, Tryz.ntmps94
          go_wp2_with fail
          refine (HI.out _).mono ?_
          rintro e w1 ⟨rfl, rfl⟩
          go_wp2_with fail
          refine (HC.out _ (HW.out _)).mono ?_
          rintro e w1 ⟨rfl, n, rfl⟩
          go_wp2_with fail
          refine bodyPost_ret (v := .tuple #[.agg #[.int .u8 0, .string ⟨#[]⟩, .int .i64 0, .int .u8 0], .string ⟨#[]⟩, .bool false]) ?_ rfl ⟨by rw [HV.out], ?_⟩
          · simp [results, Tryz.results94, go_sem]
          · repeat (first | with_reducible exact Below.refl _ _ | with_reducible refine Below.drew ?_ | with_reducible refine below_drewN ?_ _ | ((with_reducible refine Below.setCell ?_ ?hp _); case hp => simp) | ((with_reducible refine Below.alloc ?_ ?hp _); case hp => first | omega | (simp; done) | (simp; omega)))
      · have b76 : ((s[0].toNat : Int) != 76) = true := by simpa using h76
        have hbf : baseB (s[0].toNat : Int) = false := by simpa using hb
        rw [hbf] at HI
        have HV : Hid (D = .tuple #[.agg #[.int .u8 0, .string ⟨#[]⟩, .int .i64 0, .int .u8 0], .string ⟨#[]⟩, .bool false]) := hide (by rw [← hD, if_neg (fun h => h76 h.1)]; rfl)
        clear hD hN hb hr hrd hrd2 hw hbf h76
        go_enter Tryz.func94, Tryz.ntmps94
        go_wp2_with fail
        refine (HI.out _).mono ?_
        rintro e w1 ⟨rfl, rfl⟩
        go_wp2_with fail
        refine bodyPost_ret (v := .tuple #[.agg #[.int .u8 0, .string ⟨#[]⟩, .int .i64 0, .int .u8 0], .string ⟨#[]⟩, .bool false]) ?_ rfl ⟨by rw [HV.out], ?_⟩
        · simp [results, Tryz.results94, go_sem]
        · repeat (first | with_reducible exact Below.refl _ _ | with_reducible refine Below.drew ?_ | with_reducible refine below_drewN ?_ _ | ((with_reducible refine Below.setCell ?_ ?hp _); case hp => simp) | ((with_reducible refine Below.alloc ?_ ?hp _); case hp => first | omega | (simp; done) | (simp; omega)))
  · have h0 : nums s = [] := List.eq_nil_of_length_eq_zero (by rw [nums_len]; omega)
    have he : s.toList.isEmpty = true := by rw [Lib.toList_data, (str_empty s).2 h0]; rfl
    rw [h0]
    clear hw hz h0
    go_enter Tryz.func94, Tryz.ntmps94
    go_wp2_with fail
    refine bodyPost_ret (v := .tuple #[.agg #[.int .u8 0, .string ⟨#[]⟩, .int .i64 0, .int .u8 0], .string ⟨#[]⟩, .bool false]) ?_ rfl ⟨rfl, ?_⟩
    · simp [results, Tryz.results94, go_sem]
    · repeat (first | with_reducible exact Below.refl _ _ | with_reducible refine Below.drew ?_ | with_reducible refine below_drewN ?_ _ | ((with_reducible refine Below.setCell ?_ ?hp _); case hp => simp) | ((with_reducible refine Below.alloc ?_ ?hp _); case hp => first | omega | (simp; done) | (simp; omega)))
end Go.Proofs.YtbdbcalmjbmflaaGreatDoor
namespace Go.Proofs.YtbdbcalmjbmflaaGreatDoor
open Go.RowKit

theorem Ty.val_mk (k : Int) (n : List Int) (d : Nat) (x : Int) : (⟨k, n, d, x⟩ : Ty).val = .agg #[.int .u8 k, .string (strOfNums n), .int .i64 d, .int .u8 x] := rfl
theorem noTy_val : noTy.val = .agg #[.int .u8 0, .string ⟨#[]⟩, .int .i64 0, .int .u8 0] := rfl

set_option maxHeartbeats 2000000 in
set_option maxRecDepth 100000 in
theorem dfirst_any (s : ByteArray) (w : World) (hm : s.size ≤ 1000000) (hw : Maxed w) : Calls Tryz.prog 75 #[.string s] w fun e w' => e = .returned (restV s (front (nums s))) ∧ Below w.heap.size w w' := by
  obtain ⟨d, hd⟩ : ∃ d, d = dimsL (nums s) := ⟨_, rfl⟩
  have hdl : d ≤ s.size := by rw [hd, ← nums_len]; exact dimsL_le _
  obtain ⟨q, hq⟩ : ∃ q, q = s.extract d s.size := ⟨_, rfl⟩
  have hqn : nums q = (nums s).drop d := by rw [hq, nums_from]
  have hqs : q.size = s.size - d := by rw [← nums_len, hqn, List.length_drop, nums_len]
  have hsub : (s.size : Int) - (q.size : Int) = (d : Int) := by omega
  have HT : Hid (∀ W, Calls Tryz.prog 93 #[.string s, .string ⟨#[91]⟩] W fun e w' => e = .returned (.string q) ∧ w' = W) := hide fun W => by
    have := Tryz.strings_TrimLeft_one s 91 (by decide) W
    rwa [trim_drop, ← hd, ← hq] at this
  have HS : Hid (∀ W, Maxed W → Calls Tryz.prog 94 #[.string q] W fun e w' => e = .returned (restV q (single ((nums s).drop d))) ∧ Below W.heap.size W w') := hide fun W hW => by
    have := single_any q W (by omega) hW
    rwa [hqn] at this
  have HW : Hid (∀ o, Maxed (w.alloc o)) := hide fun o => hw.below ((Below.refl _ w).alloc (Nat.le_refl _) o)
  have hf : front (nums s) = if 255 < d then none else (single ((nums s).drop d)).map fun x => (x.1.arr d, d + x.2) := by
    rw [hd]; rfl
  have hrest : ∀ n, q.extract n q.size = s.extract (d + n) s.size := fun n => by
    apply nums_inj
    rw [nums_from, hqn, nums_from, List.drop_drop]
  obtain ⟨D, hD⟩ : ∃ D, restV s (front (nums s)) = D := ⟨_, rfl⟩
  rw [hD]
  rw [hf] at hD
  generalize hsg : single ((nums s).drop d) = sg at *
  clear hf hq hqn hqs hd hw
  cases sg with
  | none =>
    have HV : Hid (D = .tuple #[.agg #[.int .u8 0, .string ⟨#[]⟩, .int .i64 0, .int .u8 0], .string ⟨#[]⟩, .bool false]) := hide (by
      rw [← hD]; split <;> rfl)
    rw [restV_none] at HS
    clear hD hrest hsg
    go_enter Tryz.func75, Tryz.ntmps75
    go_wp2_with fail
    refine (HT.out _).mono ?_
    rintro e w1 ⟨rfl, rfl⟩
    go_wp2_with fail
    refine (HS.out _ (HW.out _)).mono ?_
    rintro e w2 ⟨rfl, hb2⟩
    have ha := ((At.new w 94 [.int .u8 0, .string ⟨#[]⟩, .int .i64 0, .int .u8 0]).below hb2 (by simp))
    have HB2 : Hid (Below w.heap.size w w2) := hide (((Below.refl _ w).alloc (Nat.le_refl _) _).trans (hb2.mono (by simp)))
    have hz2 : w.heap.size < w2.heap.size := by have := hb2.size; simp at this; omega
    obtain ⟨z0, z1, z2, z3, g0, g1, g2, g3⟩ := ha.c4
    clear hb2 ha
    go_wp2_with fail
    refine bodyPost_ret (v := .tuple #[.agg #[.int .u8 0, .string ⟨#[]⟩, .int .i64 0, .int .u8 0], .string ⟨#[]⟩, .bool false]) ?_ rfl ⟨by rw [HV.out], ?_⟩
    · simp [results, Tryz.results75, go_sem, World.cell?_setCell_other, hz2, z0, z1, z2, z3]
    · repeat (first | with_reducible exact HB2.out | with_reducible refine Below.drew ?_ | with_reducible refine below_drewN ?_ _ | ((with_reducible refine Below.setCell ?_ ?hp _); case hp => simp) | ((with_reducible refine Below.alloc ?_ ?hp _); case hp => first | omega | (simp; done) | (simp; omega)))
  | some x =>
    obtain ⟨⟨k, nm, dd, x⟩, n⟩ := x
    have hr : restV q (some (⟨k, nm, dd, x⟩, n)) = .tuple #[.agg #[.int .u8 k, .string (strOfNums nm), .int .i64 dd, .int .u8 x], .string (q.extract n q.size), .bool true] := rfl
    rw [hr, hrest] at HS
    clear hrest hr
    by_cases h255 : 255 < d
    · have HV : Hid (D = .tuple #[.agg #[.int .u8 0, .string ⟨#[]⟩, .int .i64 0, .int .u8 0], .string ⟨#[]⟩, .bool false]) := hide (by
        rw [← hD, if_pos h255]; rfl)
      generalize s.extract (d + n) s.size = q2 at *
      generalize strOfNums nm = nq at *
      clear hD hsg
      go_enter Tryz.func75, Tryz.ntmps75
      go_wp2_with fail
      refine (HT.out _).mono ?_
      rintro e w1 ⟨rfl, rfl⟩
      go_wp2_with fail
      refine (HS.out _ (HW.out _)).mono ?_
      rintro e w2 ⟨rfl, hb2⟩
      have ha := ((At.new w 94 [.int .u8 0, .string ⟨#[]⟩, .int .i64 0, .int .u8 0]).below hb2 (by simp))
      have HB2 : Hid (Below w.heap.size w w2) := hide (((Below.refl _ w).alloc (Nat.le_refl _) _).trans (hb2.mono (by simp)))
      have hz2 : w.heap.size < w2.heap.size := by have := hb2.size; simp at this; omega
      obtain ⟨z0, z1, z2, z3, g0, g1, g2, g3⟩ := ha.c4
      clear hb2 ha
      go_wp2_with fail
      refine bodyPost_ret (v := .tuple #[.agg #[.int .u8 0, .string ⟨#[]⟩, .int .i64 0, .int .u8 0], .string ⟨#[]⟩, .bool false]) ?_ rfl ⟨by rw [HV.out], ?_⟩
      · simp [results, Tryz.results75, go_sem, World.cell?_setCell_other, hz2, z0, z1, z2, z3]
      · repeat (first | with_reducible exact HB2.out | with_reducible refine Below.drew ?_ | with_reducible refine below_drewN ?_ _ | ((with_reducible refine Below.setCell ?_ ?hp _); case hp => simp) | ((with_reducible refine Below.alloc ?_ ?hp _); case hp => first | omega | (simp; done) | (simp; omega)))
    · by_cases h0 : 0 < d
      · have HV : Hid (D = .tuple #[.agg #[.int .u8 91, .string (strOfNums nm), .int .i64 d, .int .u8 k], .string (s.extract (d + n) s.size), .bool true]) := hide (by
          rw [← hD, if_neg h255, Option.map_some, Ty.arr, if_neg (by omega)]; rfl)
        generalize s.extract (d + n) s.size = q2 at *
        generalize strOfNums nm = nq at *
        clear hD hsg
        go_enter Tryz.func75, Tryz.ntmps75
        go_wp2_with fail
        refine (HT.out _).mono ?_
        rintro e w1 ⟨rfl, rfl⟩
        go_wp2_with fail
        refine (HS.out _ (HW.out _)).mono ?_
        rintro e w2 ⟨rfl, hb2⟩
        have ha := ((At.new w 94 [.int .u8 0, .string ⟨#[]⟩, .int .i64 0, .int .u8 0]).below hb2 (by simp))
        have HB2 : Hid (Below w.heap.size w w2) := hide (((Below.refl _ w).alloc (Nat.le_refl _) _).trans (hb2.mono (by simp)))
        have hz2 : w.heap.size < w2.heap.size := by have := hb2.size; simp at this; omega
        obtain ⟨z0, z1, z2, z3, g0, g1, g2, g3⟩ := ha.c4
        clear hb2 ha
        go_wp2_with fail
        try go_region
        all_goals go_wp2_with fail
        all_goals
          refine bodyPost_ret (v := .tuple #[.agg #[.int .u8 91, .string nq, .int .i64 d, .int .u8 k], .string q2, .bool true]) ?_ rfl ⟨by rw [HV.out], ?_⟩
          · simp [results, Tryz.results75, go_sem, World.cell?_setCell_other, hz2, z0, z1, z2, z3]
          · repeat (first | with_reducible exact HB2.out | with_reducible refine Below.drew ?_ | with_reducible refine below_drewN ?_ _ | ((with_reducible refine Below.setCell ?_ ?hp _); case hp => simp) | ((with_reducible refine Below.alloc ?_ ?hp _); case hp => first | omega | (simp; done) | (simp; omega)))
      · have HV : Hid (D = .tuple #[.agg #[.int .u8 k, .string (strOfNums nm), .int .i64 dd, .int .u8 x], .string (s.extract (d + n) s.size), .bool true]) := hide (by
          rw [← hD, if_neg h255, Option.map_some, Ty.arr, if_pos (by omega)]; rfl)
        generalize s.extract (d + n) s.size = q2 at *
        generalize strOfNums nm = nq at *
        clear hD hsg
        go_enter Tryz.func75, Tryz.ntmps75
        go_wp2_with fail
        refine (HT.out _).mono ?_
        rintro e w1 ⟨rfl, rfl⟩
        go_wp2_with fail
        refine (HS.out _ (HW.out _)).mono ?_
        rintro e w2 ⟨rfl, hb2⟩
        have ha := ((At.new w 94 [.int .u8 0, .string ⟨#[]⟩, .int .i64 0, .int .u8 0]).below hb2 (by simp))
        have HB2 : Hid (Below w.heap.size w w2) := hide (((Below.refl _ w).alloc (Nat.le_refl _) _).trans (hb2.mono (by simp)))
        have hz2 : w.heap.size < w2.heap.size := by have := hb2.size; simp at this; omega
        obtain ⟨z0, z1, z2, z3, g0, g1, g2, g3⟩ := ha.c4
        clear hb2 ha
        go_wp2_with fail
        try go_region
        all_goals go_wp2_with fail
        all_goals
          refine bodyPost_ret (v := .tuple #[.agg #[.int .u8 k, .string nq, .int .i64 dd, .int .u8 x], .string q2, .bool true]) ?_ rfl ⟨by rw [HV.out], ?_⟩
          · simp [results, Tryz.results75, go_sem, World.cell?_setCell_other, hz2, z0, z1, z2, z3]
          · repeat (first | with_reducible exact HB2.out | with_reducible refine Below.drew ?_ | with_reducible refine below_drewN ?_ _ | ((with_reducible refine Below.setCell ?_ ?hp _); case hp => simp) | ((with_reducible refine Below.alloc ?_ ?hp _); case hp => first | omega | (simp; done) | (simp; omega)))

/-- What a field's type is told as. -/
def fieldV : Option Ty → Value
  | some t => .tuple #[t.val, .bool true]
  | none => .tuple #[noTy.val, .bool false]
end Go.Proofs.YtbdbcalmjbmflaaGreatDoor
namespace Go.Proofs.YtbdbcalmjbmflaaGreatDoor
open Go.RowKit

theorem rest_empty (s : ByteArray) (n : Nat) (h : n = s.size) : (s.extract n s.size).toList.isEmpty = true := by
  have : nums (s.extract n s.size) = [] := by rw [nums_from, List.drop_eq_nil_of_le (by rw [nums_len]; omega)]
  rw [Lib.toList_data, (str_empty _).2 this]; rfl
theorem rest_some (s : ByteArray) (n : Nat) (h : n < s.size) : (s.extract n s.size).toList.isEmpty = false := by
  refine nonempty ?_
  rw [← nums_len, nums_from, List.length_drop, nums_len]; omega

theorem field_len (s : ByteArray) : field (nums s) = match front (nums s) with
    | some (t, n) => if n = s.size then some t else none
    | none => none := by
  unfold field; rw [nums_len]
  all_goals (cases front (nums s) <;> rfl)

set_option maxHeartbeats 2000000 in
set_option maxRecDepth 100000 in
theorem field_any (s : ByteArray) (w : World) (hm : s.size ≤ 1000000) (hw : Maxed w) : Calls Tryz.prog 56 #[.string s] w fun e w' => e = .returned (fieldV (field (nums s))) ∧ Below w.heap.size w w' := by
  have HS : Hid (∀ W, Maxed W → Calls Tryz.prog 75 #[.string s] W fun e w' => e = .returned (restV s (front (nums s))) ∧ Below W.heap.size W w') := hide fun W hW => dfirst_any s W hm hW
  have HW : Hid (∀ o, Maxed (w.alloc o)) := hide fun o => hw.below ((Below.refl _ w).alloc (Nat.le_refl _) o)
  have hf : field (nums s) = match front (nums s) with
    | some (t, n) => if n = s.size then some t else none
    | none => none := field_len s
  have hlen := fun t n (h : front (nums s) = some (t, n)) => front_len h
  rw [nums_len] at hlen
  obtain ⟨D, hD⟩ : ∃ D, fieldV (field (nums s)) = D := ⟨_, rfl⟩
  rw [hD]
  rw [hf] at hD
  clear hw hf
  generalize front (nums s) = sg at *
  cases sg with
  | none =>
    have HV : Hid (D = .tuple #[.agg #[.int .u8 0, .string ⟨#[]⟩, .int .i64 0, .int .u8 0], .bool false]) := hide (by rw [← hD]; rfl)
    rw [restV_none] at HS
    clear hD hlen
    go_enter Tryz.func56, Tryz.ntmps56
    go_wp2_with fail
    refine (HS.out _ (HW.out _)).mono ?_
    rintro e w2 ⟨rfl, hb2⟩
    have ha := ((At.new w 94 [.int .u8 0, .string ⟨#[]⟩, .int .i64 0, .int .u8 0]).below hb2 (by simp))
    have HB2 : Hid (Below w.heap.size w w2) := hide (((Below.refl _ w).alloc (Nat.le_refl _) _).trans (hb2.mono (by simp)))
    have hz2 : w.heap.size < w2.heap.size := by have := hb2.size; simp at this; omega
    obtain ⟨z0, z1, z2, z3, g0, g1, g2, g3⟩ := ha.c4
    clear hb2 ha
    go_wp2_with fail
    refine bodyPost_ret (v := .tuple #[.agg #[.int .u8 0, .string ⟨#[]⟩, .int .i64 0, .int .u8 0], .bool false]) ?_ rfl ⟨by rw [HV.out], ?_⟩
    · simp [results, Tryz.results56, go_sem, World.cell?_setCell_other, hz2, z0, z1, z2, z3]
    · repeat (first | with_reducible exact HB2.out | with_reducible refine Below.drew ?_ | with_reducible refine below_drewN ?_ _ | ((with_reducible refine Below.setCell ?_ ?hp _); case hp => simp) | ((with_reducible refine Below.alloc ?_ ?hp _); case hp => first | omega | (simp; done) | (simp; omega)))
  | some x =>
    obtain ⟨⟨k, nm, dd, x⟩, n⟩ := x
    have hn := hlen _ _ rfl
    have hr : restV s (some (⟨k, nm, dd, x⟩, n)) = .tuple #[.agg #[.int .u8 k, .string (strOfNums nm), .int .i64 dd, .int .u8 x], .string (s.extract n s.size), .bool true] := rfl
    rw [hr] at HS
    clear hr hlen
    by_cases hns : n = s.size
    · have HV : Hid (D = .tuple #[.agg #[.int .u8 k, .string (strOfNums nm), .int .i64 dd, .int .u8 x], .bool true]) := hide (by rw [← hD]; simp only; rw [if_pos hns]; rfl)
      have he := rest_empty s n hns
      generalize s.extract n s.size = q2 at *
      generalize strOfNums nm = nq at *
      clear hD hn hns
      go_enter Tryz.func56, Tryz.ntmps56
      go_wp2_with fail
      refine (HS.out _ (HW.out _)).mono ?_
      rintro e w2 ⟨rfl, hb2⟩
      have ha := ((At.new w 94 [.int .u8 0, .string ⟨#[]⟩, .int .i64 0, .int .u8 0]).below hb2 (by simp))
      have HB2 : Hid (Below w.heap.size w w2) := hide (((Below.refl _ w).alloc (Nat.le_refl _) _).trans (hb2.mono (by simp)))
      have hz2 : w.heap.size < w2.heap.size := by have := hb2.size; simp at this; omega
      obtain ⟨z0, z1, z2, z3, g0, g1, g2, g3⟩ := ha.c4
      clear hb2 ha
      go_wp2_with fail
      refine bodyPost_ret (v := .tuple #[.agg #[.int .u8 k, .string nq, .int .i64 dd, .int .u8 x], .bool true]) ?_ rfl ⟨by rw [HV.out], ?_⟩
      · simp [results, Tryz.results56, go_sem, World.cell?_setCell_other, hz2, z0, z1, z2, z3]
      · repeat (first | with_reducible exact HB2.out | with_reducible refine Below.drew ?_ | with_reducible refine below_drewN ?_ _ | ((with_reducible refine Below.setCell ?_ ?hp _); case hp => simp) | ((with_reducible refine Below.alloc ?_ ?hp _); case hp => first | omega | (simp; done) | (simp; omega)))
    · have HV : Hid (D = .tuple #[.agg #[.int .u8 0, .string ⟨#[]⟩, .int .i64 0, .int .u8 0], .bool false]) := hide (by rw [← hD]; simp only; rw [if_neg hns]; rfl)
      have he := rest_some s n (by omega)
      generalize s.extract n s.size = q2 at *
      generalize strOfNums nm = nq at *
      clear hD hn hns
      go_enter Tryz.func56, Tryz.ntmps56
      go_wp2_with fail
      refine (HS.out _ (HW.out _)).mono ?_
      rintro e w2 ⟨rfl, hb2⟩
      have ha := ((At.new w 94 [.int .u8 0, .string ⟨#[]⟩, .int .i64 0, .int .u8 0]).below hb2 (by simp))
      have HB2 : Hid (Below w.heap.size w w2) := hide (((Below.refl _ w).alloc (Nat.le_refl _) _).trans (hb2.mono (by simp)))
      have hz2 : w.heap.size < w2.heap.size := by have := hb2.size; simp at this; omega
      obtain ⟨z0, z1, z2, z3, g0, g1, g2, g3⟩ := ha.c4
      clear hb2 ha
      go_wp2_with fail
      refine bodyPost_ret (v := .tuple #[.agg #[.int .u8 0, .string ⟨#[]⟩, .int .i64 0, .int .u8 0], .bool false]) ?_ rfl ⟨by rw [HV.out], ?_⟩
      · simp [results, Tryz.results56, go_sem, World.cell?_setCell_other, hz2, z0, z1, z2, z3]
      · repeat (first | with_reducible exact HB2.out | with_reducible refine Below.drew ?_ | with_reducible refine below_drewN ?_ _ | ((with_reducible refine Below.setCell ?_ ?hp _); case hp => simp) | ((with_reducible refine Below.alloc ?_ ?hp _); case hp => first | omega | (simp; done) | (simp; omega)))

end Go.Proofs.YtbdbcalmjbmflaaGreatDoor
namespace Go.Proofs.YtbdbcalmjbmflaaGreatDoor
open Go.RowKit

/-- The cells of a list of types. -/
def tcells (ts : List Ty) : List Value := ts.flatMap Ty.cells
theorem tcells_len (ts : List Ty) : (tcells ts).length = ts.length * 4 := by
  induction ts with
  | nil => rfl
  | cons t r ih => simp only [tcells, List.flatMap_cons, List.length_append] at ih ⊢; rw [ih]; simp [Ty.cells]; omega
theorem tcells_snoc (ts : List Ty) (t : Ty) : tcells (ts ++ [t]) = tcells ts ++ t.cells := by simp [tcells]
theorem tcells_one (ts : List Ty) : ∀ v ∈ tcells ts, v.oneCell' = true := by
  intro v hv
  simp only [tcells, List.mem_flatMap] at hv
  obtain ⟨t, _, hv⟩ := hv
  simp only [Ty.cells, List.mem_cons, List.not_mem_nil, or_false] at hv
  rcases hv with rfl | rfl | rfl | rfl <;> rfl
theorem tcells_at (ts : List Ty) : ∀ (j i : Nat), j < ts.length → i < 4 → (tcells ts)[j * 4 + i]? = (ts.getD j noTy).cells[i]? := by
  induction ts with
  | nil => intro j i h; simp at h
  | cons t r ih =>
    intro j i h hi
    have hl : t.cells.length = 4 := rfl
    cases j with
    | zero =>
      rw [tcells, List.flatMap_cons, List.getElem?_append_left (by omega)]
      simp
    | succ j =>
      rw [tcells, List.flatMap_cons, List.getElem?_append_right (by omega), hl, show (j + 1) * 4 + i - 4 = j * 4 + i by omega]
      have := ih j i (by simpa using h) hi
      rw [tcells] at this
      rw [this]; simp

/-- The slice with address A and length n reads as the types ts, in blocks ahead of B. -/
def RdT (w : World) (B : Nat) (A : Option Addr) (n : Nat) (ts : List Ty) : Prop :=
  ts.length = n ∧ (0 < n → ∃ g o, A = some ⟨g, o, none⟩ ∧ g < B ∧ ∀ j u, (tcells ts)[j]? = some u → w.cell? ⟨g, o + j, none⟩ = some u)
section
variable {w w' : World} {B : Nat} {A : Option Addr} {n : Nat} {ts : List Ty} {base : Nat} {v : Value} {e : TypeId}
theorem RdT.below (h : RdT w B A n ts) (hb : Below B w w') : RdT w' B A n ts :=
  ⟨h.1, fun hn => by
    obtain ⟨g, o, ha, hg, hc⟩ := h.2 hn
    exact ⟨g, o, ha, hg, fun j u hu => by rw [hb.cell (p := ⟨g, o + j, none⟩) hg]; exact hc j u hu⟩⟩
theorem RdT.mono {B' : Nat} (h : RdT w B A n ts) (hB : B ≤ B') : RdT w B' A n ts :=
  ⟨h.1, fun hn => by
    obtain ⟨g, o, ha, hg, hc⟩ := h.2 hn
    exact ⟨g, o, ha, by omega, hc⟩⟩
theorem RdT.at (h : RdT w B A n ts) {j : Nat} (hj : j < n) : ∃ g o, A = some ⟨g, o, none⟩ ∧ g < B ∧
    w.cell? ⟨g, o + (j * 4 + 0), none⟩ = some (.int .u8 (ts.getD j noTy).kind) ∧ w.cell? ⟨g, o + (j * 4 + 1), none⟩ = some (.string (strOfNums (ts.getD j noTy).name)) ∧
    w.cell? ⟨g, o + (j * 4 + 2), none⟩ = some (.int .i64 (ts.getD j noTy).dims) ∧ w.cell? ⟨g, o + (j * 4 + 3), none⟩ = some (.int .u8 (ts.getD j noTy).elem) := by
  obtain ⟨g, o, ha, hg, hc⟩ := h.2 (by omega)
  have hl := h.1
  refine ⟨g, o, ha, hg, ?_, ?_, ?_, ?_⟩
  · exact hc _ _ (by rw [tcells_at ts j 0 (by omega) (by omega)]; rfl)
  · exact hc _ _ (by rw [tcells_at ts j 1 (by omega) (by omega)]; rfl)
  · exact hc _ _ (by rw [tcells_at ts j 2 (by omega) (by omega)]; rfl)
  · exact hc _ _ (by rw [tcells_at ts j 3 (by omega) (by omega)]; rfl)
theorem own_rd (h : w.ownsRow base e 4 v n (tcells ts)) : ∃ A c, v = .slice A n c ∧ RdT w w.heap.size A n ts ∧ n ≤ c ∧ c ≤ maxLen ∧ (A = none → n = 0 ∧ c = 0) := by
  obtain ⟨hl, ⟨rfl, rfl⟩ | ⟨g, cap, cur, rfl, hb, hg, hn, hm, hs, ht⟩⟩ := h
  · rw [tcells_len] at hl
    exact ⟨none, 0, rfl, ⟨by omega, fun h => absurd h (Nat.lt_irrefl 0)⟩, Nat.le_refl _, by decide, fun _ => ⟨rfl, rfl⟩⟩
  · rw [tcells_len] at hl
    refine ⟨_, cap, rfl, ⟨by omega, fun _ => ⟨g, 0, rfl, (Array.getElem?_eq_some_iff.1 hg).1, fun j u hu => ?_⟩⟩, hn, hm, fun h => by cases h⟩
    rw [cell_of_row w g _ cur e (0, 0) hg, Nat.zero_add, ← hu, ← ht]
    have : j < n * 4 := by
      have := (List.getElem?_eq_some_iff.1 hu).1
      rw [tcells_len] at this; omega
    rw [List.getElem?_take, if_pos this]; simp
theorem own_below {size : Nat} {xs : List Value} (h : w.ownsRow base e size v n xs) (hb : Below w.heap.size w w') : w'.ownsRow base e size v n xs := by
  obtain ⟨hl, h | ⟨g, cap, cur, rfl, h1, hg, h2⟩⟩ := h
  · exact ⟨hl, .inl h⟩
  · refine ⟨hl, .inr ⟨g, cap, cur, rfl, h1, ?_, h2⟩⟩
    rw [hb.block g (Array.getElem?_eq_some_iff.1 hg).1]; exact hg
theorem own_far {size : Nat} {xs : List Value} (h : w.ownsRow base e size v n xs) {g : Nat} (hg : g < base) : some g ≠ v.ownBlock := by
  obtain ⟨_, ⟨rfl, _⟩ | ⟨g', cap, cur, rfl, h1, _⟩⟩ := h
  · simp [Value.ownBlock]
  · simp only [Value.ownBlock, ne_eq, Option.some.injEq]; omega
theorem below_own4 {size : Nat} {xs : List Value} {B : Nat} {a w2 : World} (hb : Below B a w) (h : w.ownsRow base e size v n xs) (hg : w.grownBy w2 v.ownBlock) (h1 : B ≤ w.heap.size) (h2 : B ≤ base) : Below B a w2 :=
  hb.grown hg h1 fun k hk => by
    obtain ⟨_, ⟨rfl, _⟩ | ⟨g', cap, cur, rfl, h3, _⟩⟩ := h
    · cases hk
    · simp only [Value.ownBlock, Option.some.injEq] at hk; omega
end

/-- 'append(v, x)' of one value of four cells onto an own row: the cells were laid in a block just ahead. -/
theorem wpList_append_four {P : Program} (w : World) {ops : Array Oper} {rest : List Oper} {o : Oper} {a : Act} {Q : Exit → Act → World → Prop} (hgd : Region.wanted o (yielded ops a.tmps) = true) (s x : Operand) (t : TypeId)
    (ho : o.op = .call { callee := .builtin .append, args := #[s, x], argTypes := #[t, t] })
    (base : Nat) (e : TypeId) (i : TypeInfo) (z : Value) (bytes : Nat) (ht : P.underlying t = some (.slice e)) (hi : P.info? e = some i) (hz : i.zero = some z)
    (hsize : i.size = 4) (hby : i.bytes = bytes) (hzs : z.cells.size = 4) (v : Value) (n : Nat) (xs : List Value) (hs : a.eval s = v) (hown : w.ownsRow base e 4 v n xs)
    (news : List Value) (hm : news.length = 4) (g : Nat) (hg : g = w.heap.size) (hx : a.eval x = .slice (some ⟨g, 0, none⟩) 1 1) (h1 : news.all Value.oneCell' = true)
    (h63 : n + 1 ≤ maxLen) (hbytes : (n + 1) * bytes ≤ 140737488355328) (hbase : base ≤ w.heap.size)
    (h : ∀ v' w', w'.ownsRow base e 4 v' (n + 1) (xs ++ news) → w.grownBy w' v.ownBlock → wpList P ops Q rest (a.put o.dst v') w') : wpList P ops Q (o :: rest) a (w.alloc (.cells news.toArray e)) := by
  subst hg
  refine wpList_wanted hgd fun K hK => ?_
  have hown' : (w.alloc (.cells news.toArray e)).ownsRow base e 4 v n xs := own_below hown ((Below.refl _ w).alloc (Nat.le_refl _) _)
  obtain ⟨v', w', hrun, h2, h3, _⟩ := run_append_own (P := P) (w.alloc (.cells news.toArray e)) base t o.type e i z 4 bytes ht hi hz hsize hby hzs (by omega) v n xs hown' ⟨w.heap.size, 0, none⟩ 1 1 news (by omega)
    (fun j u hu => by rw [add_none, (At.new w e news).cell, Nat.zero_add]; exact hu) (one_cells _ h1) h63 hbytes (by simp; omega)
  unfold Oper.wp execOp
  simp only [ho, resolve, invoke, builtin, Sem.run_bind, Sem.run_pure, Result.andThen_ok, List.map_toArray, List.map_cons, List.map_nil, hs, hx, hrun]
  exact hK _ _ (h v' w' h2 (grown_trans (grown_below ((Below.refl _ w).alloc (Nat.le_refl _) _) _) h3))

/-- What a string holds. -/
def szOf : Value → Nat
  | .string s => s.size
  | _ => 0

set_option maxHeartbeats 2000000 in
set_option maxRecDepth 100000 in
theorem returned_any (s : ByteArray) (w : World) (hm : s.size ≤ 1000000) (hw : Maxed w) : Calls Tryz.prog 106 #[.string s] w fun e w' => e = .returned (fieldV (retL (nums s))) ∧ Below w.heap.size w w' := by
  by_cases hv : s = ⟨#[86]⟩
  · subst hv
    have HV : Hid (retL (nums ⟨#[86]⟩) = some ⟨86, [], 0, 0⟩) := hide (by decide +kernel)
    clear hw
    go_enter Tryz.func106, Tryz.ntmps106
    go_wp2_with fail
    refine bodyPost_ret (v := .tuple #[.agg #[.int .u8 86, .string ⟨#[]⟩, .int .i64 0, .int .u8 0], .bool true]) ?_ rfl ⟨by rw [HV.out]; rfl, ?_⟩
    · simp [results, Tryz.results106, go_sem]
    · repeat (first | with_reducible exact Below.refl _ _ | with_reducible refine Below.drew ?_ | with_reducible refine below_drewN ?_ _ | ((with_reducible refine Below.setCell ?_ ?hp _); case hp => simp) | ((with_reducible refine Below.alloc ?_ ?hp _); case hp => first | omega | (simp; done) | (simp; omega)))
  · obtain ⟨hn1, hn2⟩ := toList_no (l := [86]) hv
    have HF : Hid (∀ W, Maxed W → Calls Tryz.prog 56 #[.string s] W fun e w' => e = .returned (fieldV (field (nums s))) ∧ Below W.heap.size W w') := hide fun W hW => field_any s W hm hW
    have HW : Hid (∀ o, Maxed (w.alloc o)) := hide fun o => hw.below ((Below.refl _ w).alloc (Nat.le_refl _) o)
    have hr : retL (nums s) = field (nums s) := if_neg fun h => hv (by
      apply nums_inj; rw [h]; rfl)
    rw [hr]
    clear hr hw hv
    obtain ⟨k, nm, d, x, b, hfv⟩ : ∃ k nm d x b, fieldV (field (nums s)) = .tuple #[.agg #[.int .u8 k, .string nm, .int .i64 d, .int .u8 x], .bool b] := by
      cases field (nums s) with
      | none => exact ⟨_, _, _, _, _, rfl⟩
      | some t => exact ⟨_, _, _, _, _, rfl⟩
    rw [hfv] at HF ⊢
    clear hfv
    go_enter Tryz.func106, Tryz.ntmps106
    go_wp2_with fail
    refine (HF.out _ (HW.out _)).mono ?_
    rintro e w2 ⟨rfl, hb2⟩
    have ha := ((At.new w 94 [.int .u8 0, .string ⟨#[]⟩, .int .i64 0, .int .u8 0]).below hb2 (by simp))
    have HB2 : Hid (Below w.heap.size w w2) := hide (((Below.refl _ w).alloc (Nat.le_refl _) _).trans (hb2.mono (by simp)))
    obtain ⟨z0, z1, z2, z3, g0, g1, g2, g3⟩ := ha.c4
    clear hb2 ha
    go_wp2_with fail
    refine bodyPost_ret (v := .tuple #[.agg #[.int .u8 k, .string nm, .int .i64 d, .int .u8 x], .bool b]) ?_ rfl ⟨rfl, ?_⟩
    · simp [results, Tryz.results106, go_sem, World.cell?_setCell_other, z0, z1, z2, z3]
    · repeat (first | with_reducible exact HB2.out | with_reducible refine Below.drew ?_ | with_reducible refine below_drewN ?_ _ | ((with_reducible refine Below.setCell ?_ ?hp _); case hp => simp) | ((with_reducible refine Below.alloc ?_ ?hp _); case hp => first | omega | (simp; done) | (simp; omega)))
end Go.Proofs.YtbdbcalmjbmflaaGreatDoor
namespace Go.Proofs.YtbdbcalmjbmflaaGreatDoor
open Go.RowKit

theorem typeinfo : (Tryz.prog.info? 94).map (fun i => (i.zero, i.size, i.bytes)) = some (some (.agg #[.int .u8 0, .string ⟨#[]⟩, .int .i64 0, .int .u8 0]), 4, 40) := by kernel_rfl
/-- What a method's descriptor is told as. -/
def SigTold (o : Option (List Ty × Ty)) (w : World) (e : Ending) (w' : World) : Prop :=
  Below w.heap.size w w' ∧ ((o = none ∧ e = .returned (.tuple #[.slice none 0 0, noTy.val, .bool false])) ∨
    ∃ ts t A c, o = some (ts, t) ∧ e = .returned (.tuple #[.slice A ts.length c, t.val, .bool true]) ∧ RdT w' w'.heap.size A ts.length ts ∧ ts.length ≤ c ∧ c ≤ maxLen)
theorem SigTold.no {o : Option (List Ty × Ty)} {w w' : World} {e : Ending} (ho : o = none) (he : e = .returned (.tuple #[.slice none 0 0, noTy.val, .bool false])) (hb : Below w.heap.size w w') : SigTold o w e w' := ⟨hb, .inl ⟨ho, he⟩⟩

theorem sig_open {l : List Int} (h : l.head? = some 40) : sig l = (args (l.drop 1)).bind fun x => (retL x.2).map fun t => (x.1, t) := by
  unfold sig
  rw [if_pos h]
  cases args (l.drop 1) <;> rfl
theorem own_rd' {w : World} {base : Nat} {e : TypeId} {A : Option Addr} {n c : Nat} {ts : List Ty} (h : w.ownsRow base e 4 (.slice A n c) n (tcells ts)) : RdT w w.heap.size A n ts := by
  obtain ⟨A', c', he, hr, _⟩ := own_rd h
  cases he
  exact hr

set_option maxHeartbeats 4000000 in
set_option maxRecDepth 100000 in
theorem method4_any (s : ByteArray) (w : World) (hm : s.size ≤ 1000000) (hw : Maxed w) : Calls Tryz.prog 87 #[.string s] w (SigTold (sig (nums s)) w) := by
  obtain ⟨i0, hi0, iz0, iz1, iz2⟩ := info_parts typeinfo
  obtain ⟨D, hD⟩ : ∃ D, sig (nums s) = D := ⟨_, rfl⟩
  rw [hD]
  have HP : Hid (∀ (x : ByteArray) (W : World), Calls Tryz.prog 105 #[.string x, .string ⟨#[41]⟩] W fun e w' => e = .returned (.bool (decide ((nums x).head? = some 41))) ∧ w' = W) := hide fun x W => by
    have := Tryz.strings_HasPrefix x ⟨#[41]⟩ W
    rwa [show (⟨#[41]⟩ : ByteArray).data.toList = [41] from rfl, prefix_head] at this
  have HF : Hid (∀ (x : ByteArray) (W : World), x.size ≤ 1000000 → Maxed W → Calls Tryz.prog 75 #[.string x] W fun e w' => e = .returned (restV x (front (nums x))) ∧ Below W.heap.size W w') := hide fun x W hx hW => dfirst_any x W hx hW
  have HR : Hid (∀ (x : ByteArray) (W : World), x.size ≤ 1000000 → Maxed W → Calls Tryz.prog 106 #[.string x] W fun e w' => e = .returned (fieldV (retL (nums x))) ∧ Below W.heap.size W w') := hide fun x W hx hW => returned_any x W hx hW
  have HM : Hid (∀ w', Below w.heap.size w w' → Maxed w') := hide fun w' hb => hw.below hb
  by_cases h40 : (nums s).head? = some 40
  · have HC : Hid (∀ W, Calls Tryz.prog 104 #[.string s, .string ⟨#[40]⟩] W fun e w' => e = .returned (.tuple #[.string (s.extract 1 s.size), .bool true]) ∧ W = w') := hide fun W => by
      have := cutPrefix_any s W hm true (by rw [prefix_head]; simpa using h40)
      simpa using this
    have hs1 : 1 ≤ s.size := by
      rw [← nums_len]
      cases h : nums s with
      | nil => rw [h] at h40; cases h40
      | cons a r => simp
    have HD : Hid (D = (args ((nums s).drop 1)).bind fun x => (retL x.2).map fun t => (x.1, t)) := hide (by rw [← hD, sig_open h40])
    have HE := hide (show ∀ k, k ≤ s.size → nums (s.extract k s.size) = (nums s).drop k ∧ (s.extract k s.size).size = s.size - k from fun k hk => ⟨nums_from s k, by rw [← nums_len, nums_from, List.length_drop, nums_len]⟩)
    clear hD h40 hw
    go_enter Tryz.func87, Tryz.ntmps87
    go_wp2_with fail
    refine (HC.out _).mono ?_
    rintro e w1 ⟨rfl, rfl⟩
    go_wp2_with fail
    go_loopw [5, 7] (fun rv av wr => ∃ (k : Nat) (acc : List Ty), k ≤ s.size ∧ 1 ≤ k ∧ rv = .string (s.extract k s.size) ∧ acc.length ≤ k ∧ wr.ownsRow (w.heap.size + 1) 94 4 av acc.length (tcells acc) ∧
      At wr w.heap.size 94 [.int .u8 0, .string ⟨#[]⟩, .int .i64 0, .int .u8 0] ∧ Below w.heap.size w wr ∧ w.heap.size < wr.heap.size ∧
      args ((nums s).drop 1) = (args ((nums s).drop k)).map fun x => (acc ++ x.1, x.2)) (fun rv _ _ => szOf rv)
    case atStart =>
      exact ⟨1, [], hs1, Nat.le_refl _, rfl, Nat.zero_le _, World.ownsRow_nil _ _ _ _, At.new _ _ _, (Below.refl _ w).alloc (Nat.le_refl _) _, by simp, by cases args ((nums s).drop 1) <;> rfl⟩
    case round =>
      obtain ⟨k, acc, hk, hk1, rfl, hal, hown, hat, hb, hlt, hargs⟩ := hrel
      have Hown := hide hown
      have HA := hide hat
      have HB := hide hb
      have HG := hide hargs
      obtain ⟨hen, hez⟩ := HE.out k hk
      clear hown hat hb hargs
      obtain ⟨q, hq⟩ : ∃ q, q = s.extract k s.size := ⟨_, rfl⟩
      rw [← hq] at hen hez ⊢
      have hrest : ∀ n, q.extract n q.size = s.extract (k + n) s.size := fun n => by
        apply nums_inj
        rw [nums_from, hen, nums_from, List.drop_drop]
      by_cases h41 : (nums q).head? = some 41
      · have HP1 : Hid (∀ W, Calls Tryz.prog 105 #[.string q, .string ⟨#[41]⟩] W fun e w' => e = .returned (.bool true) ∧ w' = W) := hide fun W => by
          have := HP.out q W
          rwa [decide_eq_true h41] at this
        have hq1 : (1 : Int) ≤ (q.size : Int) := by
          have : 0 < (nums q).length := by
            cases h : nums q with
            | nil => rw [h] at h41; cases h41
            | cons a r => simp
          rw [nums_len] at this; omega
        have HD2 : Hid (D = (retL (nums (q.extract 1 q.size))).map fun t => (acc, t)) := hide (by
          rw [HD.out, HG.out, ← hen, args_stop h41, nums_from]
          simp)
        have hqz : (q.extract 1 q.size).size ≤ 1000000 := by rw [← nums_len, nums_from, List.length_drop, nums_len]; omega
        have HR1 := hide (fun W hW => HR.out (q.extract 1 q.size) W hqz hW)
        clear hq hen hez hrest h41 hqz HE HG HD
        go_wp2_with fail
        refine (HP1.out _).mono ?_
        rintro e w1 ⟨rfl, rfl⟩
        go_wp2_with fail
        refine (HR1.out _ (HM.out _ HB.out)).mono ?_
        rintro e w2 ⟨rfl, hb2⟩
        have ha := HA.out.below hb2 (by omega)
        have HO2 := hide (own_below Hown.out hb2)
        have HB2 := hide (HB.out.trans (hb2.mono (by omega)))
        have hz2 : w.heap.size < w2.heap.size := by have := hb2.size; omega
        obtain ⟨z0, z1, z2, z3, g0, g1, g2, g3⟩ := ha.c4
        clear hb2 ha HA Hown HB
        generalize retL (nums (q.extract 1 q.size)) = rt at *
        cases rt with
        | none =>
          have HV : Hid (D = none) := hide (by rw [HD2.out]; rfl)
          have hfv : fieldV none = .tuple #[.agg #[.int .u8 0, .string ⟨#[]⟩, .int .i64 0, .int .u8 0], .bool false] := rfl
          rw [hfv]
          clear HD2 hfv
          go_wp2_with fail
          refine bodyPost_ret (v := .tuple #[.slice none 0 0, .agg #[.int .u8 0, .string ⟨#[]⟩, .int .i64 0, .int .u8 0], .bool false]) ?_ rfl (SigTold.no HV.out rfl ?_)
          · simp [results, Tryz.results87, go_sem, World.cell?_setCell_other, hz2, z0, z1, z2, z3]
          · repeat (first | with_reducible exact HB2.out | with_reducible refine Below.drew ?_ | with_reducible refine below_drewN ?_ _ | ((with_reducible refine Below.setCell ?_ ?hp _); case hp => simp) | ((with_reducible refine Below.alloc ?_ ?hp _); case hp => first | omega | (simp; done) | (simp; omega)))
        | some t =>
          obtain ⟨kk, nm, dd, x⟩ := t
          have HV : Hid (D = some (acc, ⟨kk, nm, dd, x⟩)) := hide (by rw [HD2.out]; rfl)
          have hfv : fieldV (some ⟨kk, nm, dd, x⟩) = .tuple #[.agg #[.int .u8 kk, .string (strOfNums nm), .int .i64 dd, .int .u8 x], .bool true] := rfl
          rw [hfv]
          clear HD2 hfv
          obtain ⟨nq, hnq⟩ : ∃ nq, strOfNums nm = nq := ⟨_, rfl⟩
          have HN := hide hnq
          rw [hnq]
          clear hnq
          obtain ⟨A, c, rfl, _, hc1, hc2, _⟩ := own_rd HO2.out
          go_wp2_with fail
          try go_region
          all_goals go_wp2_with fail
          all_goals
            refine bodyPost_ret (v := .tuple #[.slice A acc.length c, .agg #[.int .u8 kk, .string nq, .int .i64 dd, .int .u8 x], .bool true]) ?_ rfl ⟨?_, .inr ⟨acc, ⟨kk, nm, dd, x⟩, A, c, HV.out, by rw [Ty.val_mk, HN.out], own_rd' (base := w.heap.size + 1) (e := 94) (c := c) ?_, hc1, hc2⟩⟩
            · simp [results, Tryz.results87, go_sem, World.cell?_setCell_other, hz2, z0, z1, z2, z3]
            · repeat (first | with_reducible exact HB2.out | with_reducible refine Below.drew ?_ | with_reducible refine below_drewN ?_ _ | ((with_reducible refine Below.setCell ?_ ?hp _); case hp => simp) | ((with_reducible refine Below.alloc ?_ ?hp _); case hp => first | omega | (simp; done) | (simp; omega)))
            · repeat (first | with_reducible exact HO2.out | with_reducible refine World.ownsRow.drew ?_ | with_reducible refine World.ownsRow.alloc ?_ _ | ((with_reducible refine ownsRow_setCell_below ?_ ?hp _); case hp => simp))
      · have HP1 : Hid (∀ W, Calls Tryz.prog 105 #[.string q, .string ⟨#[41]⟩] W fun e w' => e = .returned (.bool false) ∧ w' = W) := hide fun W => by
          have := HP.out q W
          rwa [decide_eq_false h41] at this
        have HF1 := hide (fun W hW => HF.out q W (by omega) hW)
        have hlen := fun t n (h : front (nums q) = some (t, n)) => front_len h
        rw [nums_len] at hlen
        have hstep := fun t n (h : front (nums q) = some (t, n)) => args_some h41 h
        have hnone := fun (h : front (nums q) = none) => args_none h41 h
        clear h41
        generalize front (nums q) = sg at *
        cases sg with
        | none =>
          have HV : Hid (D = none) := hide (by rw [HD.out, HG.out, ← hen, hnone rfl]; rfl)
          rw [restV_none] at HF1
          clear hq hen hez hrest hlen hstep hnone HE HG HD
          go_wp2_with fail
          refine (HP1.out _).mono ?_
          rintro e w1 ⟨rfl, rfl⟩
          go_wp2_with fail
          refine (HF1.out _ (HM.out _ HB.out)).mono ?_
          rintro e w2 ⟨rfl, hb2⟩
          have ha := HA.out.below hb2 (by omega)
          have HB2 := hide (HB.out.trans (hb2.mono (by omega)))
          have hz2 : w.heap.size < w2.heap.size := by have := hb2.size; omega
          obtain ⟨z0, z1, z2, z3, g0, g1, g2, g3⟩ := ha.c4
          clear hb2 ha HA Hown HB
          go_wp2_with fail
          refine bodyPost_ret (v := .tuple #[.slice none 0 0, .agg #[.int .u8 0, .string ⟨#[]⟩, .int .i64 0, .int .u8 0], .bool false]) ?_ rfl (SigTold.no HV.out rfl ?_)
          · simp [results, Tryz.results87, go_sem, World.cell?_setCell_other, hz2, z0, z1, z2, z3]
          · repeat (first | with_reducible exact HB2.out | with_reducible refine Below.drew ?_ | with_reducible refine below_drewN ?_ _ | ((with_reducible refine Below.setCell ?_ ?hp _); case hp => simp) | ((with_reducible refine Below.alloc ?_ ?hp _); case hp => first | omega | (simp; done) | (simp; omega)))
        | some y =>
          obtain ⟨⟨kk, nm, dd, x⟩, n⟩ := y
          have hn := hlen _ _ rfl
          have HS := hide (hstep _ _ rfl)
          have hr : restV q (some (⟨kk, nm, dd, x⟩, n)) = .tuple #[.agg #[.int .u8 kk, .string (strOfNums nm), .int .i64 dd, .int .u8 x], .string (q.extract n q.size), .bool true] := rfl
          rw [hr, hrest] at HF1
          have HEN := hide hen
          obtain ⟨nq, hnq⟩ : ∃ nq, strOfNums nm = nq := ⟨_, rfl⟩
          have HN := hide hnq
          rw [hnq] at HF1
          have HEZ := hide (HE.out (k + n) (by omega)).2
          have HQZ := hide hez
          clear hq hen hez hrest hlen hstep hnone hnq hr
          go_wp2_with fail
          refine (HP1.out _).mono ?_
          rintro e w1 ⟨rfl, rfl⟩
          go_wp2_with fail
          refine (HF1.out _ (HM.out _ HB.out)).mono ?_
          rintro e w2 ⟨rfl, hb2⟩
          have HA2 := hide (HA.out.below hb2 (by omega))
          have HO2 := hide (World.ownsRow.alloc (own_below Hown.out hb2) (.cells #[.int .u8 kk, .string nq, .int .i64 dd, .int .u8 x] 94))
          have HB2 := hide (HB.out.trans (hb2.mono (by omega)))
          have hz2 : w.heap.size < w2.heap.size := by have := hb2.size; omega
          clear hb2 HA Hown HB
          go_wp2_with (at_builtin; go_loud (refine wpList_append_four _ rfl (.tmp 32) (.tmp 34) 136 rfl (w.heap.size + 1) 94 i0 _ 40 Tryz.underlying136 hi0 iz0 iz1 iz2 rfl _ _ _ rfl HO2.out [.int .u8 kk, .string nq, .int .i64 dd, .int .u8 x] rfl _ (by simp) rfl rfl (by unfold maxLen; omega) (by omega) (by simp; omega) ?_); intro v2 w3 hown3 hg3)
          have HA3 := hide ((HA2.out.alloc (.cells #[.int .u8 kk, .string nq, .int .i64 dd, .int .u8 x] 94)).grown hg3 (own_far HO2.out (by omega)))
          have HB3 := hide (below_own4 (B := w.heap.size) (HB2.out.alloc (by omega) (.cells #[.int .u8 kk, .string nq, .int .i64 dd, .int .u8 x] 94)) HO2.out hg3 (by simp; omega) (by omega))
          have HO3 := hide hown3
          have hz3 : w.heap.size < w3.heap.size := by have := hg3.size; simp at this; omega
          have HG3 : Hid (args ((nums s).drop 1) = (args ((nums s).drop (k + n))).map fun x' => ((acc ++ [⟨kk, nm, dd, x⟩]) ++ x'.1, x'.2)) := hide (by
            rw [HG.out, ← HEN.out, HS.out, HEN.out, List.drop_drop, Option.map_map]
            congr 1
            funext y
            simp)
          have HT : Hid (tcells (acc ++ [⟨kk, nm, dd, x⟩]) = tcells acc ++ [.int .u8 kk, .string nq, .int .i64 dd, .int .u8 x]) := hide (by
            rw [tcells_snoc, Ty.cells, HN.out])
          clear hown3 hg3 HA2 HB2 HO2 HS HG
          go_roundw
          case rel =>
            have hqz := HQZ.out
            refine ⟨k + n, acc ++ [⟨kk, nm, dd, x⟩], by omega, by omega, rfl, by simp; omega, ?_, HA3.out, HB3.out, hz3, HG3.out⟩
            rw [HT.out, List.length_append]
            exact HO3.out
          case measure =>
            show (s.extract (k + n) s.size).size < q.size
            have hqz := HQZ.out
            rw [HEZ.out]; omega
  · have HC : Hid (∀ W, Calls Tryz.prog 104 #[.string s, .string ⟨#[40]⟩] W fun e w' => e = .returned (.tuple #[.string s, .bool false]) ∧ W = w') := hide fun W => by
      have := cutPrefix_any s W hm false (by rw [prefix_head]; simpa using h40)
      simpa using this
    have HV : Hid (D = none) := hide (by rw [← hD, sig, if_neg h40])
    clear hD h40 hw HP HF HR HM
    go_enter Tryz.func87, Tryz.ntmps87
    go_wp2_with fail
    refine (HC.out _).mono ?_
    rintro e w1 ⟨rfl, rfl⟩
    go_wp2_with fail
    refine bodyPost_ret (v := .tuple #[.slice none 0 0, .agg #[.int .u8 0, .string ⟨#[]⟩, .int .i64 0, .int .u8 0], .bool false]) ?_ rfl (SigTold.no HV.out rfl ?_)
    · simp [results, Tryz.results87, go_sem]
    · repeat (first | with_reducible exact Below.refl _ _ | with_reducible refine Below.drew ?_ | with_reducible refine below_drewN ?_ _ | ((with_reducible refine Below.setCell ?_ ?hp _); case hp => simp) | ((with_reducible refine Below.alloc ?_ ?hp _); case hp => first | omega | (simp; done) | (simp; omega)))
end Go.Proofs.YtbdbcalmjbmflaaGreatDoor
namespace Go.Proofs.YtbdbcalmjbmflaaGreatDoor
open Go.RowKit

theorem drop_head (s : ByteArray) (k : Nat) (h : k < s.size) : ((nums s).drop k).head? = some (s[k].toNat : Int) := by
  have hl : k < (nums s).length := by rw [nums_len]; exact h
  rw [List.head?_drop, List.getElem?_eq_getElem hl, ← num_at s k h]
  simp [List.getD, hl]
theorem sig_not {l : List Int} (h : l.head? ≠ some 40) : sig l = none := by unfold sig; rw [if_neg h]
theorem ret_V {l : List Int} (h : l = [86]) : retL l = some ⟨86, [], 0, 0⟩ := if_pos h
theorem ret_F {l : List Int} (h : l ≠ [86]) : retL l = field l := if_neg h

end Go.Proofs.YtbdbcalmjbmflaaGreatDoor
namespace Go.Proofs.YtbdbcalmjbmflaaGreatDoor
open Go.RowKit

theorem single_kind {l : List Int} {t : Ty} {n : Nat} (h : single l = some (t, n)) : (baseB t.kind = true ∨ t.kind = 76) := by
  cases l with
  | nil => cases h
  | cons c r =>
    rw [single_cons] at h
    split at h
    · rename_i hb
      cases h; exact .inl hb
    · split at h
      · cases h; exact .inr rfl
      · cases h
theorem base_range {c : Int} (h : baseB c = true) : 0 ≤ c ∧ c < 256 := by
  rcases baseB_cases h with h | h | h | h | h | h <;> subst h <;> decide
theorem front_kind {l : List Int} {t : Ty} {n : Nat} (h : front l = some (t, n)) : 0 ≤ t.kind ∧ t.kind < 256 := by
  unfold front at h
  split at h
  · cases h
  · cases hs : single (l.drop (dimsL l)) with
    | none => rw [hs] at h; cases h
    | some x =>
      obtain ⟨u, m⟩ := x
      rw [hs] at h
      simp only [Option.map_some, Option.some.injEq, Prod.mk.injEq] at h
      obtain ⟨rfl, rfl⟩ := h
      unfold Ty.arr
      split
      · rcases single_kind hs with h | h
        · exact base_range h
        · rw [h]; decide
      · exact ⟨show (0 : Int) ≤ 91 by decide, show (91 : Int) < 256 by decide⟩
theorem args_kind (n : Nat) : ∀ (l : List Int) (ts : List Ty) (r : List Int), l.length ≤ n → args l = some (ts, r) → ∀ t ∈ ts, 0 ≤ t.kind ∧ t.kind < 256 := by
  induction n with
  | zero =>
    intro l ts r hl h
    have : l = [] := List.eq_nil_of_length_eq_zero (by omega)
    subst this
    rw [args_none (by simp) (front_none rfl)] at h
    cases h
  | succ n ih =>
    intro l ts r hl h
    by_cases h1 : l.head? = some 41
    · rw [args_stop h1] at h
      cases h
      intro t ht; cases ht
    · cases hf : front l with
      | none => rw [args_none h1 hf] at h; cases h
      | some x =>
        obtain ⟨t, k⟩ := x
        have := front_len hf
        rw [args_some h1 hf] at h
        cases ha : args (l.drop k) with
        | none => rw [ha] at h; cases h
        | some y =>
          rw [ha] at h
          simp only [Option.map_some, Option.some.injEq, Prod.mk.injEq] at h
          obtain ⟨rfl, rfl⟩ := h
          intro u hu
          rcases List.mem_cons.1 hu with rfl | hu
          · exact front_kind hf
          · exact ih (l.drop k) y.1 y.2 (by simp; omega) ha u hu
theorem sig_facts {l : List Int} {ts : List Ty} {t : Ty} (h : sig l = some (ts, t)) : ts.length ≤ l.length ∧ ∀ t ∈ ts, 0 ≤ t.kind ∧ t.kind < 256 := by
  by_cases h40 : l.head? = some 40
  · rw [sig_open h40] at h
    cases ha : args (l.drop 1) with
    | none => rw [ha] at h; cases h
    | some y =>
      rw [ha] at h
      have h2 : ((retL y.2).map fun t => (y.1, t)) = some (ts, t) := h
      cases hr : retL y.2 with
      | none => rw [hr] at h2; cases h2
      | some u =>
        rw [hr] at h2
        cases h2
        have h3 := (args_len _ _ _ _ (Nat.le_refl _) ha).1
        simp at h3
        exact ⟨by omega, args_kind _ _ _ _ (Nat.le_refl _) ha⟩
  · rw [sig_not h40] at h; cases h
theorem words_range (k : Int) : 0 ≤ words k ∧ words k ≤ 2 := by unfold words; split <;> (try split) <;> decide
theorem sumW_take (ts : List Ty) : ∀ j, j < ts.length → sumW (ts.take (j + 1)) = sumW (ts.take j) + words (ts.getD j noTy).kind := by
  intro j hj
  rw [List.take_succ_eq_append_getElem hj]
  unfold sumW
  rw [List.map_append, List.sum_append]
  simp [List.getD, hj]
theorem sumW_range (ts : List Ty) : 0 ≤ sumW ts ∧ sumW ts ≤ 2 * ts.length := by
  induction ts with
  | nil => exact ⟨Int.le_refl 0, Int.le_refl 0⟩
  | cons t r ih =>
    have := words_range t.kind
    unfold sumW at ih ⊢
    simp only [List.map_cons, List.sum_cons, List.length_cons]
    omega
theorem RdT.cells4 {w : World} {B : Nat} {A : Option Addr} {n : Nat} {ts : List Ty} (h : RdT w B A n ts) {j : Nat} (hj : j < n) : ∃ g o, A = some ⟨g, o, none⟩ ∧ g < B ∧
    w.cell? ⟨g, o + j * 4, none⟩ = some (.int .u8 (ts.getD j noTy).kind) ∧ w.cell? ⟨g, o + j * 4 + 1, none⟩ = some (.string (strOfNums (ts.getD j noTy).name)) ∧
    w.cell? ⟨g, o + j * 4 + 2, none⟩ = some (.int .i64 (ts.getD j noTy).dims) ∧ w.cell? ⟨g, o + j * 4 + 3, none⟩ = some (.int .u8 (ts.getD j noTy).elem) := by
  obtain ⟨g, o, h1, h2, c0, c1, c2, c3⟩ := h.at hj
  simp only [← Nat.add_assoc, Nat.add_zero] at c0 c1 c2 c3
  exact ⟨g, o, h1, h2, c0, c1, c2, c3⟩

set_option maxHeartbeats 4000000 in
set_option maxRecDepth 100000 in
theorem dargs_any (s : ByteArray) (w : World) (hm : s.size ≤ 1000000) (hw : Maxed w) : Calls Tryz.prog 84 #[.string s] w fun e w' => e = .returned (.int .i64 (argsW (nums s))) ∧ Below w.heap.size w w' := by
  have HM : Hid (Calls Tryz.prog 87 #[.string s] w (SigTold (sig (nums s)) w)) := hide (method4_any s w hm hw)
  have hfacts := fun ts t (h : sig (nums s) = some (ts, t)) => sig_facts h
  rw [nums_len] at hfacts
  have HW : Hid (∀ (t : Ty) (W : World), 0 ≤ t.kind → t.kind < 256 → Calls Tryz.prog 98 #[t.val] W fun e w' => e = .returned (.int .i64 (words t.kind)) ∧ Below W.heap.size W w') := hide words_any
  obtain ⟨D, hD⟩ : ∃ D, argsW (nums s) = D := ⟨_, rfl⟩
  rw [hD]
  unfold argsW at hD
  generalize sig (nums s) = sg at *
  go_enter Tryz.func84, Tryz.ntmps84
  go_wp2_with fail
  refine HM.out.mono ?_
  rintro e w2 ⟨hb2, ⟨rfl, rfl⟩ | ⟨ts, t, A, c, rfl, rfl, hrd, hc1, hc2⟩⟩
  · have HV : Hid (D = -1) := hide hD.symm
    have HB2 := hide hb2
    have hz2 := hb2.size
    clear hb2 hD hfacts
    rw [noTy_val]
    go_wp2_with fail
    go_ret
    refine ⟨ret_int HV.out.symm, ?_⟩
    repeat (first | with_reducible exact HB2.out | with_reducible refine Below.drew ?_ | with_reducible refine below_drewN ?_ _ | ((with_reducible refine Below.setCell ?_ ?hp _); case hp => simp) | ((with_reducible refine Below.alloc ?_ ?hp _); case hp => first | omega | (simp; done) | (simp; omega)))
  · have HV : Hid (D = sumW ts) := hide hD.symm
    obtain ⟨hln, hkd⟩ := hfacts _ _ rfl
    have HK := hide hkd
    have HB2 := hide hb2
    have hz2 := hb2.size
    have HR := hide hrd
    obtain ⟨kk, nm, dd, x⟩ := t
    rw [Ty.val_mk]
    clear hb2 hD hfacts hkd hrd
    unfold maxLen at hc2
    go_wp2_with fail
    go_loopw [6, 19] (fun sv iv wr => ∃ j : Nat, j ≤ ts.length ∧ iv = .int .i64 j ∧ sv = .int .i64 (sumW (ts.take j)) ∧ Below w2.heap.size w2 wr ∧ Below w.heap.size w wr) (fun _ iv _ => ts.length - (intOf iv).toNat)
    case atStart =>
      refine ⟨0, Nat.zero_le _, rfl, rfl, ?_, ?_⟩
      · repeat (first | with_reducible exact Below.refl _ _ | with_reducible refine Below.drew ?_ | with_reducible refine below_drewN ?_ _ | ((with_reducible refine Below.setCell ?_ ?hp _); case hp => simp) | ((with_reducible refine Below.alloc ?_ ?hp _); case hp => first | omega | (simp; done) | (simp; omega)))
      · repeat (first | with_reducible exact HB2.out | with_reducible refine Below.drew ?_ | with_reducible refine below_drewN ?_ _ | ((with_reducible refine Below.setCell ?_ ?hp _); case hp => simp) | ((with_reducible refine Below.alloc ?_ ?hp _); case hp => first | omega | (simp; done) | (simp; omega)))
    case round =>
      obtain ⟨j, hj, rfl, rfl, hb3, hb4⟩ := hrel
      have HB3 := hide hb3
      have HB4 := hide hb4
      have hz3 := hb3.size
      by_cases hlt : j < ts.length
      · obtain ⟨g, o, rfl, hg, c0, c1, c2, c3⟩ := (HR.out.below hb3).cells4 hlt
        have hsum := sumW_range (ts.take j)
        have hl : (ts.take j).length = j := by rw [List.length_take]; omega
        rw [hl] at hsum
        have HS := hide (sumW_take ts j hlt)
        have hkr := HK.out (ts.getD j noTy) (by simp [List.getD, hlt])
        have hwr := words_range (ts.getD j noTy).kind
        generalize ts.getD j noTy = u at *
        obtain ⟨kk2, nm2, dd2, x2⟩ := u
        have HW1 := hide (fun W => HW.out ⟨kk2, nm2, dd2, x2⟩ W hkr.1 hkr.2)
        rw [Ty.val_mk] at HW1
        simp only at c0 c1 c2 c3 hwr HS HW1
        generalize strOfNums nm2 = nq2 at *
        generalize words kk2 = wd at *
        generalize sumW (ts.take j) = sm at *
        clear hb3 hb4 hkr hl
        go_wp2_with fail
        refine (HW1.out _).mono ?_
        rintro e w3 ⟨rfl, hb5⟩
        have HB5 := hide ((HB3.out.alloc (by omega) _).trans (hb5.mono (by simp; omega)))
        have HB6 := hide ((HB4.out.alloc (by omega) _).trans (hb5.mono (by simp; omega)))
        clear hb5
        go_wp2_with fail
        go_roundw
        case rel => exact ⟨j + 1, by omega, by go_num, by rw [HS.out], HB5.out, HB6.out⟩
        case measure => simp [intOf]; omega
      · obtain rfl : j = ts.length := by omega
        have HT : Hid (sumW (ts.take ts.length) = D) := hide (by rw [HV.out, List.take_of_length_le (Nat.le_refl _)])
        clear hb3 hb4
        go_wp2_with fail
        go_ret
        exact ⟨ret_int HT.out, HB4.out⟩

end Go.Proofs.YtbdbcalmjbmflaaGreatDoor
