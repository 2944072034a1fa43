/- Descriptors as plain lists: what the document says of them. Nothing is claimed here. -/
import Derived.Test.YtlgknednfgpgfaaNamesSpec
namespace Go.Proofs.Ytlgknednfgpgfaa
open Go.RowKit

/-- A type: its kind, its name, how many dimensions, what lies behind them. -/
structure Ty where
  kind : Int
  name : List Int
  dims : Nat
  elem : Int
deriving DecidableEq
/-- No type. -/
def noTy : Ty := ⟨0, [], 0, 0⟩
/-- What an array of d dimensions is. -/
def Ty.arr (t : Ty) (d : Nat) : Ty := if d = 0 then t else ⟨91, t.name, d, t.kind⟩

/-- Is it a kind of one char? -/
def baseB (c : Int) : Bool := [66, 67, 73, 74, 83, 90].contains c
/-- The type without dimensions at a text's beginning; how long it is. -/
def single : List Int → Option (Ty × Nat)
  | [] => none
  | c :: r => if baseB c then some (⟨c, [], 0, 0⟩, 1) else if c = 76 ∧ (59 : Int) ∈ r ∧ classB (r.takeWhile (· != 59)) = true then some (⟨76, r.takeWhile (· != 59), 0, 0⟩, (r.takeWhile (· != 59)).length + 2) else none
theorem single_cons (c : Int) (r : List Int) : single (c :: r) = if baseB c then some (⟨c, [], 0, 0⟩, 1) else if c = 76 ∧ (59 : Int) ∈ r ∧ classB (r.takeWhile (· != 59)) = true then some (⟨76, r.takeWhile (· != 59), 0, 0⟩, (r.takeWhile (· != 59)).length + 2) else none := rfl
theorem tw_no (r : List Int) (b : Int) : b ∉ r.takeWhile (· != b) := by
  induction r with
  | nil => simp
  | cons a r ih =>
    by_cases h : a = b
    · simp [h]
    · rw [List.takeWhile_cons]
      simp only [bne_iff_ne, ne_eq, h, not_false_eq_true, if_true, List.mem_cons, not_or]
      exact ⟨fun e => h e.symm, ih⟩
/-- How many brackets open a text. -/
def dimsL (l : List Int) : Nat := (l.takeWhile (· == 91)).length
/-- The type at a text's beginning; how long it is. -/
def front (l : List Int) : Option (Ty × Nat) :=
  if 255 < dimsL l then none else (single (l.drop (dimsL l))).map fun x => (x.1.arr (dimsL l), dimsL l + x.2)
/-- A field's type. -/
def field (l : List Int) : Option Ty :=
  match front l with
  | some (t, n) => if n = l.length then some t else none
  | none => none
/-- A method's arguments, and what stands behind the bracket. -/
def argsF : Nat → List Int → Option (List Ty × List Int)
  | 0, _ => none
  | f + 1, l => if l.head? = some 41 then some ([], l.drop 1) else
    match front l with
    | some (t, n) => (argsF f (l.drop n)).map fun x => (t :: x.1, x.2)
    | none => none
def args (l : List Int) : Option (List Ty × List Int) := argsF (l.length + 1) l
/-- What a method returns. -/
def retL (l : List Int) : Option Ty := if l = [86] then some ⟨86, [], 0, 0⟩ else field l
/-- A method's descriptor. -/
def sig (l : List Int) : Option (List Ty × Ty) :=
  if l.head? = some 40 then
    match args (l.drop 1) with
    | some (ts, r) => (retL r).map fun t => (ts, t)
    | none => none
  else none
/-- How many words a type takes. -/
def words (k : Int) : Int := if k = 74 then 2 else if baseB k = true ∨ k = 76 ∨ k = 91 then 1 else 0
def sumW (ts : List Ty) : Int := (ts.map fun t => words t.kind).sum
def argsW (l : List Int) : Int := match sig l with
  | some (ts, _) => sumW ts
  | none => -1
/-- How a type is written. -/
def putS (k : Int) (n : List Int) : List Int := if baseB k then [k] else if k = 76 ∧ classB n = true then 76 :: (n ++ [59]) else []
def putT (t : Ty) : List Int :=
  if t.kind = 86 then [86] else if t.kind = 91 then
    if putS t.elem t.name = [] ∨ t.dims < 1 ∨ 255 < t.dims then [] else List.replicate t.dims 91 ++ putS t.elem t.name
  else putS t.kind t.name

theorem baseB_cases {c : Int} (h : baseB c = true) : c = 66 ∨ c = 67 ∨ c = 73 ∨ c = 74 ∨ c = 83 ∨ c = 90 := by
  simpa [baseB] using h
theorem baseB_not {c : Int} (h : baseB c = true) : c ≠ 91 ∧ c ≠ 86 ∧ c ≠ 76 ∧ c ≠ 41 := by
  rcases baseB_cases h with h | h | h | h | h | h <;> subst h <;> decide

/-- How long what is found is: at least one, at most all. -/
theorem single_len {l : List Int} {t : Ty} {n : Nat} (h : single l = some (t, n)) : 1 ≤ n ∧ n ≤ l.length := by
  cases l with
  | nil => cases h
  | cons c r =>
    rw [single_cons] at h
    split at h
    · cases h; simp
    · split at h
      · rename_i h2
        cases h
        have h3 : (r.takeWhile (· != 59)).length < r.length := by
          have hle := (List.takeWhile_prefix (l := r) (· != 59)).length_le
          rcases Nat.lt_or_eq_of_le hle with h4 | h4
          · exact h4
          · exfalso
            have h5 : r.takeWhile (· != 59) = r := (List.takeWhile_prefix (l := r) (· != 59)).eq_of_length h4
            have h6 : (59 : Int) ∈ r.takeWhile (· != 59) := by rw [h5]; exact h2.2.1
            exact tw_no _ _ h6
        simp; omega
      · cases h
theorem dimsL_le (l : List Int) : dimsL l ≤ l.length := (List.takeWhile_prefix (l := l) (· == 91)).length_le
theorem front_len {l : List Int} {t : Ty} {n : Nat} (h : front l = some (t, n)) : 1 ≤ n ∧ n ≤ l.length := by
  unfold front at h
  split at h
  · cases h
  · cases hs : single (l.drop (dimsL l)) with
    | none => rw [hs] at h; cases h
    | some x =>
      obtain ⟨u, m⟩ := x
      rw [hs] at h
      simp only [Option.map_some, Option.some.injEq, Prod.mk.injEq] at h
      have := single_len hs
      have := dimsL_le l
      simp at *
      omega
theorem front_dims {l : List Int} (h : 255 < dimsL l) : front l = none := if_pos h
theorem front_none {l : List Int} (h : single (l.drop (dimsL l)) = none) : front l = none := by
  unfold front
  split
  · rfl
  · rw [h]; rfl
theorem front_some {l : List Int} {t : Ty} {n : Nat} (hd : dimsL l ≤ 255) (h : single (l.drop (dimsL l)) = some (t, n)) : front l = some (t.arr (dimsL l), dimsL l + n) := by
  unfold front
  rw [if_neg (by omega), h]; rfl

theorem argsF_more (f : Nat) : ∀ (g : Nat) (l : List Int), l.length < f → l.length < g → argsF f l = argsF g l := by
  induction f with
  | zero => intro g l h; omega
  | succ f ih =>
    intro g l h1 h2
    cases g with
    | zero => omega
    | succ g =>
      unfold argsF
      split
      · rfl
      · cases hf : front l with
        | none => rfl
        | some x =>
          obtain ⟨t, n⟩ := x
          have := front_len hf
          show (argsF f _).map _ = (argsF g _).map _
          rw [ih g (l.drop n) (by simp; omega) (by simp; omega)]
theorem args_stop {l : List Int} (h : l.head? = some 41) : args l = some ([], l.drop 1) := by
  unfold args argsF
  rw [if_pos h]
theorem args_none {l : List Int} (h : l.head? ≠ some 41) (hf : front l = none) : args l = none := by
  unfold args argsF
  rw [if_neg h, hf]
theorem args_some {l : List Int} {t : Ty} {n : Nat} (h : l.head? ≠ some 41) (hf : front l = some (t, n)) : args l = (args (l.drop n)).map fun x => (t :: x.1, x.2) := by
  have := front_len hf
  unfold args
  rw [show argsF (l.length + 1) l = (argsF l.length (l.drop n)).map fun x => (t :: x.1, x.2) by rw [argsF, if_neg h, hf]]
  rw [argsF_more l.length ((l.drop n).length + 1) (l.drop n) (by simp; omega) (by omega)]
theorem args_len (n : Nat) : ∀ (l : List Int) (ts : List Ty) (r : List Int), l.length ≤ n → args l = some (ts, r) → ts.length + r.length < l.length ∧ ∃ k, r = l.drop k := by
  induction n with
  | zero =>
    intro l ts r hl h
    have : l = [] := List.eq_nil_of_length_eq_zero (by omega)
    subst this
    rw [args_none (by simp) (front_none rfl)] at h
    cases h
  | succ n ih =>
    intro l ts r hl h
    by_cases h1 : l.head? = some 41
    · rw [args_stop h1] at h
      cases h
      have : l ≠ [] := fun e => by rw [e] at h1; cases h1
      have : 0 < l.length := List.length_pos_iff.2 this
      refine ⟨by simp; omega, 1, rfl⟩
    · cases hf : front l with
      | none => rw [args_none h1 hf] at h; cases h
      | some x =>
        obtain ⟨t, k⟩ := x
        have := front_len hf
        rw [args_some h1 hf] at h
        cases ha : args (l.drop k) with
        | none => rw [ha] at h; cases h
        | some y =>
          rw [ha] at h
          simp only [Option.map_some, Option.some.injEq, Prod.mk.injEq] at h
          obtain ⟨rfl, rfl⟩ := h
          have := ih (l.drop k) y.1 y.2 (by simp; omega) ha
          obtain ⟨h3, k2, h4⟩ := this
          simp at h3
          refine ⟨by simp; omega, k + k2, ?_⟩
          rw [h4, List.drop_drop]

/-! ### What is printed is read -/
theorem takeWhile_stop {l m : List Int} {b : Int} (h : ∀ x ∈ l, x ≠ b) : (l ++ b :: m).takeWhile (· != b) = l := by
  induction l with
  | nil => simp
  | cons a r ih =>
    have := h a (by simp)
    rw [List.cons_append, List.takeWhile_cons]
    simp [this]
    exact ih fun x hx => h x (by simp [hx])
theorem parts_mem (x : Int) (l : List Int) (hx : x ≠ 47) : x ∈ l → ∃ p ∈ partsL l, x ∈ p := by
  induction l with
  | nil => intro h; cases h
  | cons b t ih =>
    intro h
    unfold partsL
    by_cases hb : b = 47
    · rw [if_pos hb]
      rcases List.mem_cons.1 h with h | h
      · exact absurd (h.trans hb) hx
      · obtain ⟨p, hp, hxp⟩ := ih h
        exact ⟨p, by simp [hp], hxp⟩
    · rw [if_neg hb]
      obtain ⟨p, ps, e⟩ := partsL_ne t
      rw [e]
      rcases List.mem_cons.1 h with h | h
      · exact ⟨b :: p, by simp, by simp [h]⟩
      · obtain ⟨q, hq, hxq⟩ := ih h
        rw [e] at hq
        rcases List.mem_cons.1 hq with h2 | h2
        · subst h2; exact ⟨b :: q, by simp, by simp [hxq]⟩
        · exact ⟨q, by simp [h2], hxq⟩
theorem class_no {l : List Int} (h : classB l = true) (x : Int) (hx : x ≠ 47) (hc : [46, 59, 91, 47].contains x = true) : x ∉ l := by
  intro hm
  obtain ⟨p, hp, hxp⟩ := parts_mem x l hx hm
  unfold classB at h
  simp only [Bool.and_eq_true, List.all_eq_true] at h
  have h2 := plainB_no (h.2 p hp)
  have h3 : hasB [46, 59, 91, 47] p = true := by
    unfold hasB
    rw [List.any_eq_true]
    exact ⟨x, hxp, hc⟩
  rw [h2] at h3
  cases h3
theorem single_put {k : Int} {n : List Int} (m : List Int) (h : putS k n ≠ []) : single (putS k n ++ m) = some (⟨k, if baseB k then [] else n, 0, 0⟩, (putS k n).length) := by
  unfold putS at h ⊢
  by_cases hb : baseB k = true
  · rw [if_pos hb] at h ⊢
    simp [single, hb]
  · rw [if_neg hb] at h ⊢
    by_cases hk : k = 76 ∧ classB n = true
    · rw [if_pos hk] at h ⊢
      obtain ⟨rfl, hc⟩ := hk
      have h59 : ∀ x ∈ n, x ≠ 59 := fun x hx e => class_no hc 59 (by decide) (by decide) (e ▸ hx)
      have ht : (n ++ 59 :: m).takeWhile (· != 59) = n := takeWhile_stop h59
      have : 76 :: (n ++ [59]) ++ m = 76 :: (n ++ 59 :: m) := by simp
      rw [this, single_cons, if_neg hb, ht, if_pos ⟨rfl, by simp, hc⟩]
      simp [hb]
    · rw [if_neg hk] at h; exact absurd rfl h
theorem dimsL_rep (d : Nat) (l : List Int) (h : l.head? ≠ some 91) : dimsL (List.replicate d 91 ++ l) = d := by
  unfold dimsL
  induction d with
  | zero =>
    cases l with
    | nil => rfl
    | cons a r =>
      have : a ≠ 91 := fun e => h (by simp [e])
      simp [this]
  | succ d ih =>
    rw [List.replicate_succ, List.cons_append, List.takeWhile_cons]
    simp at ih ⊢
    exact ih
theorem putS_head {k : Int} {n m : List Int} (h : putS k n ≠ []) : (putS k n ++ m).head? ≠ some 91 ∧ (putS k n ++ m).head? ≠ some 41 := by
  unfold putS at h ⊢
  by_cases hb : baseB k = true
  · rw [if_pos hb]
    have := baseB_not hb
    simp; omega
  · rw [if_neg hb] at h ⊢
    split at h
    · rw [if_pos (by assumption)]; simp
    · exact absurd rfl h
/-- A type as it may be read: its cells that mean nothing are empty. -/
def Ty.good (t : Ty) : Prop :=
  (baseB t.kind = true ∧ t = ⟨t.kind, [], 0, 0⟩) ∨ (t.kind = 76 ∧ classB t.name = true ∧ t = ⟨76, t.name, 0, 0⟩) ∨
  (t.kind = 91 ∧ 1 ≤ t.dims ∧ t.dims ≤ 255 ∧ ((baseB t.elem = true ∧ t.name = []) ∨ (t.elem = 76 ∧ classB t.name = true)))
theorem front_put {t : Ty} (m : List Int) (h : t.good) : front (putT t ++ m) = some (t, (putT t).length) ∧ (putT t ++ m).head? ≠ some 41 := by
  rcases h with ⟨hb, ht⟩ | ⟨hk, hc, ht⟩ | ⟨hk, h1, h2, he⟩
  · have hn := baseB_not hb
    have hp : putS t.kind t.name ≠ [] := by simp [putS, hb]
    have e : putT t = putS t.kind t.name := by unfold putT; rw [if_neg hn.2.1, if_neg hn.1]
    rw [e]
    have hd := dimsL_rep 0 (putS t.kind t.name ++ m) (putS_head hp).1
    simp only [List.replicate_zero, List.nil_append] at hd
    refine ⟨?_, (putS_head hp).2⟩
    rw [front_some (by omega) (by rw [hd, List.drop_zero]; exact single_put m hp), hd, Nat.zero_add]
    rw [ht]; simp [Ty.arr, hb]
  · have hb : baseB t.kind = false := by rw [hk]; decide
    have hp : putS t.kind t.name ≠ [] := by unfold putS; rw [if_neg (by simp [hb]), if_pos ⟨hk, hc⟩]; simp
    have e : putT t = putS t.kind t.name := by unfold putT; rw [if_neg (by omega), if_neg (by omega)]
    rw [e]
    have hd := dimsL_rep 0 (putS t.kind t.name ++ m) (putS_head hp).1
    simp only [List.replicate_zero, List.nil_append] at hd
    refine ⟨?_, (putS_head hp).2⟩
    rw [front_some (by omega) (by rw [hd, List.drop_zero]; exact single_put m hp), hd, Nat.zero_add]
    simp only [hb, Ty.arr, if_pos, Bool.false_eq_true, if_false]
    rw [ht]
  · have hp : putS t.elem t.name ≠ [] := by
      rcases he with ⟨hb, _⟩ | ⟨hk, hc⟩
      · simp [putS, hb]
      · unfold putS; rw [if_neg (by rw [hk]; decide), if_pos ⟨hk, hc⟩]; simp
    have e : putT t = List.replicate t.dims 91 ++ putS t.elem t.name := by
      unfold putT
      rw [if_neg (by omega), if_pos hk, if_neg]
      rintro (h | h | h)
      · exact hp h
      · omega
      · omega
    rw [e, List.append_assoc]
    have hd := dimsL_rep t.dims (putS t.elem t.name ++ m) (putS_head hp).1
    have hdr : (List.replicate t.dims (91 : Int) ++ (putS t.elem t.name ++ m)).drop t.dims = putS t.elem t.name ++ m := by
      rw [List.drop_append_of_le_length (by simp), List.drop_eq_nil_of_le (by simp)]; rfl
    refine ⟨?_, ?_⟩
    · rw [front_some (by omega) (by rw [hd, hdr]; exact single_put m hp), hd]
      have : (⟨t.elem, if baseB t.elem = true then [] else t.name, 0, 0⟩ : Ty).arr t.dims = t := by
        unfold Ty.arr
        rw [if_neg (by omega)]
        cases t with
        | mk k n d x =>
          simp only at *
          rcases he with ⟨hb, hn⟩ | ⟨hx, _⟩
          · simp [hb, hn, hk]
          · subst hx
            simp [hk, baseB]
      rw [this]
      simp
    · obtain ⟨d, hdd⟩ : ∃ d, t.dims = d + 1 := ⟨t.dims - 1, by omega⟩
      rw [hdd, List.replicate_succ]
      simp
/-- What is read is written as it stood. -/
theorem single_good {l : List Int} {t : Ty} {n : Nat} (h : single l = some (t, n)) : putS t.kind t.name = l.take n ∧ putS t.kind t.name ≠ [] ∧ t.dims = 0 ∧ t.elem = 0 ∧ t.kind ≠ 86 ∧ t.kind ≠ 91 := by
  cases l with
  | nil => cases h
  | cons c r =>
    rw [single_cons] at h
    split at h
    · rename_i hb
      cases h
      have := baseB_not hb
      exact ⟨by simp [putS, hb], by simp [putS, hb], rfl, rfl, this.2.1, this.1⟩
    · split at h
      · rename_i h2
        cases h
        obtain ⟨rfl, hm, hc⟩ := h2
        have h3 : r.takeWhile (· != 59) ++ [59] = r.take ((r.takeWhile (· != 59)).length + 1) := by
          clear hc
          induction r with
          | nil => cases hm
          | cons a r ih =>
            by_cases ha : a = 59
            · subst ha; simp
            · have hm2 : (59 : Int) ∈ r := by rcases List.mem_cons.1 hm with h | h; exact absurd h.symm ha; exact h
              rw [List.takeWhile_cons]
              simp only [bne_iff_ne, ne_eq, ha, not_false_eq_true, if_true]
              simp only [List.cons_append, List.length_cons, List.take_succ_cons, List.cons.injEq, true_and]
              exact ih hm2
        refine ⟨?_, ?_, rfl, rfl, show ¬ (76 : Int) = 86 by decide, show ¬ (76 : Int) = 91 by decide⟩
        · show putS 76 _ = _
          unfold putS
          rw [if_neg (by decide), if_pos ⟨rfl, hc⟩, h3]
          simp
        · show putS 76 _ ≠ _
          unfold putS
          rw [if_neg (by decide), if_pos ⟨rfl, hc⟩]
          simp
      · cases h
theorem dims_take (l : List Int) : l.take (dimsL l) = List.replicate (dimsL l) 91 := by
  unfold dimsL
  induction l with
  | nil => rfl
  | cons a r ih =>
    by_cases ha : a = 91
    · subst ha
      simp only [List.takeWhile_cons, beq_self_eq_true, if_true, List.length_cons, List.take_succ_cons, List.replicate_succ, List.cons.injEq, true_and]
      exact ih
    · simp [ha]
theorem put_front {l : List Int} {t : Ty} {n : Nat} (h : front l = some (t, n)) : putT t = l.take n := by
  unfold front at h
  split at h
  · cases h
  · cases hs : single (l.drop (dimsL l)) with
    | none => rw [hs] at h; cases h
    | some x =>
      obtain ⟨u, m⟩ := x
      rw [hs] at h
      simp only [Option.map_some, Option.some.injEq, Prod.mk.injEq] at h
      obtain ⟨rfl, rfl⟩ := h
      obtain ⟨h1, h2, h3, h4, h5, h6⟩ := single_good hs
      unfold Ty.arr
      split
      · rename_i hd
        rw [hd, List.drop_zero] at h1
        unfold putT
        rw [if_neg h5, if_neg h6, h1, hd, Nat.zero_add]
      · unfold putT
        rw [if_neg (show ¬ (91 : Int) = 86 by decide), if_pos rfl]
        simp only
        rw [if_neg (by rintro (h | h | h); exact h2 h; omega; omega), h1, List.take_add, dims_take]
theorem put_field {l : List Int} {t : Ty} (h : field l = some t) : putT t = l := by
  unfold field at h
  cases hf : front l with
  | none => rw [hf] at h; cases h
  | some x =>
    obtain ⟨u, n⟩ := x
    rw [hf] at h
    simp only at h
    split at h
    · cases h
      rw [put_front hf, List.take_of_length_le (by omega)]
    · cases h
theorem args_put (ts : List Ty) (m : List Int) (h : ∀ t ∈ ts, t.good) : args (ts.flatMap putT ++ 41 :: m) = some (ts, m) := by
  induction ts with
  | nil => exact args_stop rfl
  | cons t r ih =>
    have hg := h t (by simp)
    obtain ⟨hf, hh⟩ := front_put (r.flatMap putT ++ 41 :: m) hg
    rw [List.flatMap_cons, List.append_assoc, args_some hh hf, List.drop_append_of_le_length (Nat.le_refl _), List.drop_length, List.nil_append, ih fun t ht => h t (by simp [ht])]
    rfl
theorem field_put {t : Ty} (h : t.good) : field (putT t) = some t := by
  have := (front_put [] h).1
  rw [List.append_nil] at this
  unfold field
  rw [this]
  simp
theorem ret_put {t : Ty} (h : t.good) : retL (putT t) = some t := by
  unfold retL
  split
  · rename_i e
    have := (front_put [] h).1
    rw [List.append_nil, e, front_none (by decide)] at this
    cases this
  · exact field_put h
theorem sig_put (ts : List Ty) (t : Ty) (h : ∀ t ∈ ts, t.good) (ht : t.good) : sig (40 :: (ts.flatMap putT ++ 41 :: putT t)) = some (ts, t) := by
  show (match args (ts.flatMap putT ++ 41 :: putT t) with | some (ts, r) => (retL r).map fun t => (ts, t) | none => none) = _
  rw [args_put ts _ h]
  simp only [ret_put ht, Option.map_some]
theorem sig_putV (ts : List Ty) (h : ∀ t ∈ ts, t.good) : sig (40 :: (ts.flatMap putT ++ 41 :: [86])) = some (ts, ⟨86, [], 0, 0⟩) := by
  show (match args (ts.flatMap putT ++ 41 :: [86]) with | some (ts, r) => (retL r).map fun t => (ts, t) | none => none) = _
  rw [args_put ts _ h]
  rfl
end Go.Proofs.Ytlgknednfgpgfaa
