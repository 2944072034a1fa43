/- The walks of NamesJoin and NamesLong. Nothing is claimed here. -/
import Derived.Test.YtecjbaciiabjeaaDoorNamesLaws
namespace Go.Proofs.YtecjbaciiabjeaaDoor
open Go.RowKit

theorem nums_app (a b : ByteArray) : nums (a ++ b) = nums a ++ nums b := by simp [nums]
theorem byte_at (s : ByteArray) (j : Nat) (hj : j < s.size) : ((s.data[j]!.toNat : Nat) : Int) = (nums s).getD j 0 := by rw [bang s j hj, num_at s j hj]

theorem pkg_join (s t : ByteArray) (ht : (47 : Int) ∉ nums t) : pkgOf (s ++ ⟨#[47]⟩ ++ t) = s := by
  have hn : nums (s ++ ⟨#[47]⟩ ++ t) = nums s ++ 47 :: nums t := by rw [nums_app, nums_app]; simp [nums]
  have hz : (s ++ ⟨#[47]⟩ ++ t).size = s.size + 1 + t.size := by simp [ByteArray.size_append]; rfl
  generalize s ++ ⟨#[47]⟩ ++ t = u at *
  have hat : (nums u).getD s.size 0 = 47 := by rw [hn, ← nums_len s]; simp [List.getD]
  have hidx : Lib.lastIndexByte u 47 = s.size := by
    rcases Lib.lastIdx_spec u 47 u.size with ⟨_, h⟩ | ⟨i, hi, h, hc, ha⟩
    · exact absurd (by rw [byte_at u _ (by omega)]; exact hat) (h s.size (by omega))
    · have h1 : ¬ i < s.size := fun hl => absurd (by rw [byte_at u _ (by omega)]; exact hat) (ha s.size hl (by omega))
      have h2 : ¬ s.size < i := fun hl => by
        rw [byte_at u i hi, hn] at hc
        apply ht
        have hj : i - (s.size + 1) < (nums t).length := by rw [nums_len]; omega
        have : (nums s ++ 47 :: nums t).getD i 0 = (nums t)[i - (s.size + 1)] := by
          simp only [List.getD]
          rw [List.getElem?_append_right (by rw [nums_len]; omega), nums_len, show i - s.size = (i - (s.size + 1)) + 1 by omega, List.getElem?_cons_succ, List.getElem?_eq_getElem hj]
          rfl
        rw [this] at hc
        rw [← hc]
        exact List.getElem_mem hj
      have h3 : i = s.size := by omega
      subst h3
      exact h
  unfold pkgOf
  rw [hidx]
  apply nums_inj
  rw [nums_cut, hn]
  simp [← nums_len s]
theorem dots_join (s t : ByteArray) (ht : (47 : Int) ∉ nums t) : strOfNums (dots (nums (s ++ ⟨#[47]⟩ ++ t))) = strOfNums (dots (nums s)) ++ ⟨#[46]⟩ ++ t := by
  apply nums_inj
  rw [nums_of _ (dots_bytes (nums_bytes _)), nums_app (s ++ _) t, nums_app s, nums_app (strOfNums _ ++ _) t, nums_app (strOfNums _), nums_of _ (dots_bytes (nums_bytes s)), dots_append, dots_append, dots_plain ht]
  rfl

set_option maxHeartbeats 1000000 in
set_option maxRecDepth 100000 in
theorem NamesJoin_walk (s0 s1 : ByteArray) (_h : s0.size ≤ maxLen) (_h1 : s1.size ≤ maxLen) (w : World) (hw : Maxed w) : Calls Tryd.prog 5 #[.string s0, .string s1] w fun e w' => e = .returned (.bool true) ∧ Below w.heap.size w w' := by
  have HC : Hid (∀ W, Calls Tryd.prog 7 #[.string s0, .int .i64 60] W fun e w' => e = .returned (.string (cutOf s0 60)) ∧ W = w') := hide (fun W => cut_any s0 60 W (by decide))
  have HC1 : Hid (∀ W, Calls Tryd.prog 7 #[.string s1, .int .i64 60] W fun e w' => e = .returned (.string (cutOf s1 60)) ∧ W = w') := hide (fun W => cut_any s1 60 W (by decide))
  have hz := cutOf_size s0 60
  have hy := cutOf_size s1 60
  generalize cutOf s0 60 = s at *
  generalize cutOf s1 60 = t at *
  have hjz : (s ++ ⟨#[47]⟩ ++ t).size ≤ 121 := by
    have : (⟨#[47]⟩ : ByteArray).size = 1 := rfl
    simp only [ByteArray.size_append]; omega
  have hjn : nums (s ++ ⟨#[47]⟩ ++ t) = nums s ++ 47 :: nums t := by rw [nums_app, nums_app]; simp [nums]
  have HK := hide (fun W => class_any s W)
  have HP := hide (fun W => plain_any t W (by omega))
  have HJ : Hid (plainB (nums t) = true → ∀ W, Calls Tryd.prog 10 #[.string (s ++ ⟨#[47]⟩ ++ t)] W (Tells (classB (nums s)) W)) := hide fun hb W => by
    have := class_any (s ++ ⟨#[47]⟩ ++ t) W
    rwa [hjn, classB_join (by rw [← hjn, nums_len]; omega) hb] at this
  have HG : Hid (plainB (nums t) = true → ∀ W, Calls Tryd.prog 14 #[.string (s ++ ⟨#[47]⟩ ++ t)] W fun e w' => e = .returned (.string s) ∧ W = w') := hide fun hb W => by
    have := package_any (s ++ ⟨#[47]⟩ ++ t) W (by omega)
    rwa [pkg_join s t (no_stroke hb)] at this
  have HD : Hid (plainB (nums t) = true → ∀ W, Maxed W → Calls Tryd.prog 16 #[.string (s ++ ⟨#[47]⟩ ++ t)] W fun e w' => e = .returned (.string (strOfNums (dots (nums s)) ++ ⟨#[46]⟩ ++ t)) ∧ Below W.heap.size W w') := hide fun hb W hW => by
    have := dots_any (s ++ ⟨#[47]⟩ ++ t) W (by omega) hW
    rwa [dots_join s t (no_stroke hb)] at this
  have HD0 := hide (fun W => dots_any s W (by omega))
  have HW := hide hw
  have hz1 : (s ++ (⟨#[47]⟩ : ByteArray)).size ≤ 61 := by
    have : (⟨#[47]⟩ : ByteArray).size = 1 := rfl
    simp only [ByteArray.size_append]; omega
  have hdz : (strOfNums (dots (nums s))).size ≤ 60 := by rw [← nums_len, nums_of _ (dots_bytes (nums_bytes s)), dots_len, nums_len]; exact hz
  clear hw hjn hjz
  generalize hD : strOfNums (dots (nums s)) = d at *
  have hd1 : (d ++ (⟨#[46]⟩ : ByteArray)).size ≤ 61 := by
    have : (⟨#[46]⟩ : ByteArray).size = 1 := rfl
    simp only [ByteArray.size_append]; omega
  have e4 : (s.toList == s.toList) = true := beq_self_eq_true _
  have e5 : ((d ++ ⟨#[46]⟩ ++ t).toList == (d ++ ⟨#[46]⟩ ++ t).toList) = true := beq_self_eq_true _
  clear hD
  generalize classB (nums s) = c at *
  generalize plainB (nums t) = p at *
  go_enter Tryd.func5, Tryd.ntmps5
  go_wp2_with fail
  refine (nbegun_is w HW.out).mono ?_
  rintro e w1 ⟨rfl, hb1⟩
  have B1 := hide hb1
  clear hb1
  go_wp2_with (first | (go_at_call 7; (with_reducible refine (HC.out _).mono ?_); rintro e w2 ⟨rfl, rfl⟩) | (go_at_call 7; (with_reducible refine (HC1.out _).mono ?_); rintro e w2 ⟨rfl, rfl⟩))
  refine (HK.out _).mono ?_
  rintro e w2 ⟨rfl, hb⟩
  have B2 := hide (B1.out.trans (hb.mono B1.out.size))
  clear hb
  cases c
  · go_wp2_with fail
    refine (HP.out _).mono ?_
    rintro e w3 ⟨rfl, hb⟩
    have B3 := hide (B2.out.trans (hb.mono B2.out.size))
    clear hb
    cases p
    · go_wp2_with fail
      go_ret
      exact ⟨rfl, B3.out⟩
    · go_wp2_with fail
      refine (HJ.out (by trivial) _).mono ?_
      rintro e w4 ⟨rfl, hb⟩
      have B4 := hide (B3.out.trans (hb.mono B3.out.size))
      clear hb
      go_wp2_with fail
      go_ret
      exact ⟨rfl, B4.out⟩
  · go_wp2_with fail
    refine (HP.out _).mono ?_
    rintro e w3 ⟨rfl, hb⟩
    have B3 := hide (B2.out.trans (hb.mono B2.out.size))
    clear hb
    cases p
    · go_wp2_with fail
      refine (HP.out _).mono ?_
      rintro e w4 ⟨rfl, hb⟩
      have B4 := hide (B3.out.trans (hb.mono B3.out.size))
      clear hb
      go_wp2_with fail
      go_ret
      exact ⟨rfl, B4.out⟩
    · go_wp2_with fail
      refine (HP.out _).mono ?_
      rintro e w4 ⟨rfl, hb⟩
      have B4 := hide (B3.out.trans (hb.mono B3.out.size))
      clear hb
      go_wp2_with fail
      refine (HJ.out (by trivial) _).mono ?_
      rintro e w5 ⟨rfl, hb⟩
      have B5 := hide (B4.out.trans (hb.mono B4.out.size))
      clear hb
      go_wp2_with fail
      refine (HG.out (by trivial) _).mono ?_
      rintro e w6 ⟨rfl, rfl⟩
      go_wp2_with fail
      refine (HD.out (by trivial) _ (HW.out.below B5.out)).mono ?_
      rintro e w7 ⟨rfl, hb⟩
      have B7 := hide (B5.out.trans (hb.mono B5.out.size))
      clear hb
      go_wp2_with fail
      refine (HD0.out _ (HW.out.below B7.out)).mono ?_
      rintro e w8 ⟨rfl, hb⟩
      have B8 := hide (B7.out.trans (hb.mono B7.out.size))
      clear hb
      go_wp2_with fail
      go_ret
      exact ⟨rfl, B8.out⟩

/-! ### NamesLong -/
/-- Pieces of 'x', none of them empty. -/
inductive OkL : List Int → Prop
  | one : OkL [120]
  | more {t : List Int} : OkL t → OkL (120 :: t)
  | cut {t : List Int} : OkL t → OkL (120 :: 47 :: t)
theorem okl_parts {l : List Int} (h : OkL l) : ∀ p ∈ partsL l, p ≠ [] ∧ ∀ x ∈ p, x = 120 := by
  induction h with
  | one => intro p hp; simp [partsL] at hp; subst hp; simp
  | @more t h ih =>
    obtain ⟨q, qs, e⟩ := partsL_ne t
    rw [partsL, if_neg (by decide), e]
    rw [e] at ih
    intro p hp
    rcases List.mem_cons.1 hp with rfl | hp
    · refine ⟨by simp, fun x hx => ?_⟩
      rcases List.mem_cons.1 hx with rfl | hx
      · rfl
      · exact (ih q (by simp)).2 x hx
    · exact ih p (by simp [hp])
  | @cut t h ih =>
    have e : partsL (120 :: 47 :: t) = [120] :: partsL t := by simp [partsL]
    rw [e]
    intro p hp
    rcases List.mem_cons.1 hp with rfl | hp
    · simp
    · exact ih p hp
theorem dec_xs : ∀ l : List Int, (∀ x ∈ l, x = 120) → (dec l).isSome = true
  | [], _ => rfl
  | b :: t, h => by
    have hb : b = 120 := h b (by simp)
    subst hb
    have h1 : one (120 :: t) = (120, 1) := by simp [one]
    rw [dec_some (by rw [h1]; decide), h1]
    have := dec_xs t (fun x hx => h x (by simp [hx]))
    simpa using this
theorem plain_xs {l : List Int} (h : l ≠ []) (hx : ∀ x ∈ l, x = 120) : plainB l = true := by
  have h1 : hasB [46, 59, 91, 47] l = false := by
    unfold hasB
    rw [List.any_eq_false]
    intro x hm
    rw [hx x hm]
    decide
  have h2 : l.isEmpty = false := by cases l with
    | nil => exact absurd rfl h
    | cons a t => rfl
  unfold plainB
  rw [h1, h2, dec_xs l hx]
  rfl
/-- What the law lays at a place. -/
def fL (n p i : Nat) : Int := if 0 < i ∧ i + 1 < n ∧ i % p = 1 ∧ 2 < p then 47 else 120
def rowL (n p : Nat) : List Int := (List.range n).map (fL n p)
theorem rowL_drop (n p i : Nat) (h : i < n) : (rowL n p).drop i = fL n p i :: (rowL n p).drop (i + 1) := by
  rw [List.drop_eq_getElem_cons (by simp [rowL]; exact h)]
  simp [rowL]
theorem rowL_ok (n p : Nat) : ∀ d i, d + i + 1 = n → fL n p i = 120 → OkL ((rowL n p).drop i) := by
  intro d
  induction d using Nat.strongRecOn with
  | ind d ih =>
    intro i hd hf
    rw [rowL_drop n p i (by omega), hf]
    by_cases h1 : i + 1 = n
    · rw [List.drop_eq_nil_of_le (by simp [rowL]; omega)]
      exact .one
    · by_cases h2 : fL n p (i + 1) = 120
      · exact .more (ih (d - 1) (by omega) (i + 1) (by omega) h2)
      · have h3 : 0 < i + 1 ∧ i + 1 + 1 < n ∧ (i + 1) % p = 1 ∧ 2 < p := by
          unfold fL at h2
          split at h2
          · assumption
          · exact absurd rfl h2
        have h4 : fL n p (i + 1) = 47 := by unfold fL; rw [if_pos h3]
        have h5 : fL n p (i + 1 + 1) = 120 := by
          unfold fL
          rw [if_neg]
          intro h
          have := Nat.add_mod (i + 1) 1 p
          rw [h3.2.2.1, Nat.mod_eq_of_lt (by omega : 1 < p), Nat.mod_eq_of_lt (by omega : 1 + 1 < p), h.2.2.1] at this
          omega
        rw [rowL_drop n p (i + 1) (by omega), h4]
        exact .cut (ih (d - 2) (by omega) (i + 1 + 1) (by omega) h5)
theorem rowL_class (n p : Nat) (hn : 1 ≤ n) : classB (rowL n p) = decide (n ≤ 255) := by
  have hl : (rowL n p).length = n := by simp [rowL]
  by_cases h : n ≤ 255
  · rw [classB_short (by omega), decide_eq_true h, List.all_eq_true]
    intro q hq
    have h0 : fL n p 0 = 120 := by unfold fL; rw [if_neg (by omega)]
    have := okl_parts (rowL_ok n p (n - 1) 0 (by omega) h0) q (by simpa using hq)
    exact plain_xs this.1 this.2
  · rw [classB_long (by omega)]
    simp; omega
theorem rowL_bytes (n p : Nat) : IsBytes (rowL n p) := by
  intro x hx
  simp only [rowL, List.mem_map] at hx
  obtain ⟨i, _, rfl⟩ := hx
  unfold fL
  split <;> omega
/-- The row when k places are laid. -/
def midL (n p k : Nat) : List Int := (rowL n p).take k ++ List.replicate (n - k) 0
theorem midL_set (n p k : Nat) (h : k < n) (x : Int) : (cells .u8 (midL n p k)).set k (.int .u8 x) = cells .u8 ((rowL n p).take k ++ x :: List.replicate (n - (k + 1)) 0) := by
  unfold midL
  rw [show n - k = (n - (k + 1)) + 1 by omega, List.replicate_succ]
  simp only [cells, List.map_append, List.map_cons]
  rw [List.set_append, if_neg (by simp [rowL]; omega)]
  simp [rowL, Nat.min_eq_left (Nat.le_of_lt h)]
theorem midL_set2 (n p k : Nat) (h : k < n) (x y : Int) : (cells .u8 ((rowL n p).take k ++ x :: List.replicate (n - (k + 1)) 0)).set k (.int .u8 y) = cells .u8 ((rowL n p).take k ++ y :: List.replicate (n - (k + 1)) 0) := by
  simp only [cells, List.map_append, List.map_cons]
  rw [List.set_append, if_neg (by simp [rowL]; omega)]
  simp [rowL, Nat.min_eq_left (Nat.le_of_lt h)]
theorem midL_next (n p k : Nat) (h : k < n) : (rowL n p).take k ++ fL n p k :: List.replicate (n - (k + 1)) 0 = midL n p (k + 1) := by
  unfold midL
  have : (rowL n p).take (k + 1) = (rowL n p).take k ++ [fL n p k] := by
    rw [List.take_succ_eq_append_getElem (by simp [rowL]; exact h)]
    simp [rowL]
  rw [this]
  simp
theorem u8info : (Tryd.prog.info? 5).map (fun i => (i.zero, i.size, i.bytes)) = some (some (.int .u8 0), 1, 1) := by kernel_rfl
end Go.Proofs.YtecjbaciiabjeaaDoor
