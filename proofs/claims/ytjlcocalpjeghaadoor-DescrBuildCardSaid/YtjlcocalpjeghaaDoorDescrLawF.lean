/- The walk of DescrField. Nothing is claimed here. -/
import Derived.Test.YtjlcocalpjeghaaDoorDescrBegun
import Derived.Test.YtjlcocalpjeghaaDoorRegions
namespace Go.Proofs.YtjlcocalpjeghaaDoor
open Go.RowKit

/-- What a type that was read may hold. -/
def Ty.wf (t : Ty) (n : Nat) : Prop := IsBytes t.name ∧ t.name.length ≤ n ∧ (0 ≤ t.elem ∧ t.elem < 256) ∧ (0 ≤ t.kind ∧ t.kind < 256)
theorem single_wf {l : List Int} {t : Ty} {n : Nat} (hl : IsBytes l) (h : single l = some (t, n)) : t.wf l.length := by
  cases l with
  | nil => cases h
  | cons c r =>
    rw [single_cons] at h
    have hc := hl c (by simp)
    split at h
    · cases h
      exact ⟨fun x hx => (by cases hx), Nat.zero_le _, ⟨by show (0 : Int) ≤ 0; decide, by show (0 : Int) < 256; decide⟩, hc⟩
    · split at h
      · rename_i h2
        cases h
        have hp := List.takeWhile_prefix (l := r) (· != 59)
        refine ⟨fun x hx => hl x (by simp [hp.subset hx]), ?_, ⟨by show (0 : Int) ≤ 0; decide, by show (0 : Int) < 256; decide⟩, ⟨by show (0 : Int) ≤ 76; decide, by show (76 : Int) < 256; decide⟩⟩
        have := hp.length_le
        simp; omega
      · cases h
theorem front_wf {l : List Int} {t : Ty} {n : Nat} (hl : IsBytes l) (h : front l = some (t, n)) : t.wf l.length := by
  have hk := front_kind h
  unfold front at h
  split at h
  · cases h
  · cases hs : single (l.drop (dimsL l)) with
    | none => rw [hs] at h; cases h
    | some x =>
      obtain ⟨u, m⟩ := x
      rw [hs] at h
      simp only [Option.map_some, Option.some.injEq, Prod.mk.injEq] at h
      obtain ⟨rfl, rfl⟩ := h
      obtain ⟨h1, h2, h3, h4⟩ := single_wf (hl.drop _) hs
      rw [List.length_drop] at h2
      unfold Ty.arr at hk ⊢
      split
      · exact ⟨h1, by omega, h3, h4⟩
      · rename_i hd
        rw [if_neg hd] at hk
        exact ⟨h1, by show u.name.length ≤ _; omega, h4, hk⟩
theorem field_wf {l : List Int} {t : Ty} (hl : IsBytes l) (h : field l = some t) : t.wf l.length := by
  unfold field at h
  cases hf : front l with
  | none => rw [hf] at h; cases h
  | some x =>
    obtain ⟨u, n⟩ := x
    rw [hf] at h
    simp only at h
    split at h
    · cases h; exact front_wf hl hf
    · cases h

/-- Two blocks hold one type. -/
abbrev Held (w : World) (g1 g2 : Nat) (a b c d : Value) (W : World) : Prop :=
  W.cell? ⟨g1, 0, none⟩ = some a ∧ W.cell? ⟨g1, 1, none⟩ = some b ∧ W.cell? ⟨g1, 2, none⟩ = some c ∧ W.cell? ⟨g1, 3, none⟩ = some d ∧
  W.cell? ⟨g2, 0, none⟩ = some a ∧ W.cell? ⟨g2, 1, none⟩ = some b ∧ W.cell? ⟨g2, 2, none⟩ = some c ∧ W.cell? ⟨g2, 3, none⟩ = some d ∧
  Below w.heap.size w W ∧ g1 < W.heap.size ∧ g2 < W.heap.size
section
variable {w W w' : World} {g1 g2 : Nat} {a b c d : Value}
theorem held_below (h : Held w g1 g2 a b c d W) (hb : Below W.heap.size W w') : Held w g1 g2 a b c d w' := by
  obtain ⟨a0, a1, a2, a3, b0, b1, b2, b3, hw, h1, h2⟩ := h
  have e : ∀ g i, g < W.heap.size → w'.cell? ⟨g, i, none⟩ = W.cell? ⟨g, i, none⟩ := fun g i hg => hb.cell (p := ⟨g, i, none⟩) hg
  have := hb.size
  exact ⟨by rw [e _ _ h1]; exact a0, by rw [e _ _ h1]; exact a1, by rw [e _ _ h1]; exact a2, by rw [e _ _ h1]; exact a3, by rw [e _ _ h2]; exact b0, by rw [e _ _ h2]; exact b1, by rw [e _ _ h2]; exact b2, by rw [e _ _ h2]; exact b3,
    hw.trans (hb.mono hw.size), by omega, by omega⟩
theorem held_drew (h : Held w g1 g2 a b c d W) : Held w g1 g2 a b c d W.drew := by
  obtain ⟨a0, a1, a2, a3, b0, b1, b2, b3, hw, h1, h2⟩ := h
  exact ⟨a0, a1, a2, a3, b0, b1, b2, b3, hw.drew, h1, h2⟩
theorem held_at (ha : At W g1 25 [a, b, c, d]) (hb : At W g2 25 [a, b, c, d]) (hw : Below w.heap.size w W) : Held w g1 g2 a b c d W :=
  ⟨ha.cell 0, ha.cell 1, ha.cell 2, ha.cell 3, hb.cell 0, hb.cell 1, hb.cell 2, hb.cell 3, hw, ha.lt, hb.lt⟩
end

set_option maxHeartbeats 4000000 in
set_option maxRecDepth 100000 in
theorem DescrField_walk (s0 : ByteArray) (_h : s0.size ≤ maxLen) (w : World) (hw : Maxed w) : Calls Tryd.prog 3 #[.string s0] w fun e w' => e = .returned (.bool true) ∧ Below w.heap.size w w' := by
  have HC := hide (fun W => cut_any s0 600 W (by decide))
  have hz := cutOf_size s0 600
  generalize cutOf s0 600 = s at *
  have HW := hide hw
  clear hw
  have HF1 : Hid (∀ W, Maxed W → Calls Tryd.prog 9 #[.string s] W fun e w' => e = .returned (fieldV (field (nums s))) ∧ Below W.heap.size W w') := hide fun W hW => field_any s W (by omega) hW
  have HF2 : Hid (∀ W, Calls Tryd.prog 10 #[.string s] W fun e w' => e = .returned (fieldV (field (nums s))) ∧ Below W.heap.size W w') := hide fun W => rfield_any s W (by omega)
  have hwf := fun t (h : field (nums s) = some t) => field_wf (nums_bytes s) h
  have hput := fun t (h : field (nums s) = some t) => put_field h
  rw [nums_len] at hwf
  have e2 : (s.toList == s.toList) = true := beq_self_eq_true _
  generalize field (nums s) = f at *
  cases f with
  | none =>
    have hfv : fieldV none = .tuple #[.agg #[.int .u8 0, .string ⟨#[]⟩, .int .i64 0, .int .u8 0], .bool false] := rfl
    rw [hfv] at HF1 HF2
    have HE : Hid (∀ g1 g2 W, Held w g1 g2 (.int .u8 0) (.string ⟨#[]⟩) (.int .i64 0) (.int .u8 0) W → Calls Tryd.prog 11 #[.agg #[.int .u8 0, .string ⟨#[]⟩, .int .i64 0, .int .u8 0], .agg #[.int .u8 0, .string ⟨#[]⟩, .int .i64 0, .int .u8 0]] W fun e w' => e = .returned (.bool true) ∧ Held w g1 g2 (.int .u8 0) (.string ⟨#[]⟩) (.int .i64 0) (.int .u8 0) w') := hide fun g1 g2 W h =>
      (eqtype_same noTy W).mono fun e w' ⟨he, hb⟩ => ⟨he, held_below h hb⟩
    have HW1 : Hid (∀ g1 g2 W, Held w g1 g2 (.int .u8 0) (.string ⟨#[]⟩) (.int .i64 0) (.int .u8 0) W → Calls Tryd.prog 12 #[.agg #[.int .u8 0, .string ⟨#[]⟩, .int .i64 0, .int .u8 0]] W fun e w' => e = .returned (.int .i64 0) ∧ Held w g1 g2 (.int .u8 0) (.string ⟨#[]⟩) (.int .i64 0) (.int .u8 0) w') := hide fun g1 g2 W h =>
      (words_any noTy W (by decide) (by decide)).mono fun e w' ⟨he, hb⟩ => ⟨he, held_below h hb⟩
    have HW2 : Hid (∀ g1 g2 W, Held w g1 g2 (.int .u8 0) (.string ⟨#[]⟩) (.int .i64 0) (.int .u8 0) W → Calls Tryd.prog 13 #[.agg #[.int .u8 0, .string ⟨#[]⟩, .int .i64 0, .int .u8 0]] W fun e w' => e = .returned (.int .i64 0) ∧ Held w g1 g2 (.int .u8 0) (.string ⟨#[]⟩) (.int .i64 0) (.int .u8 0) w') := hide fun g1 g2 W h =>
      (rwords_any noTy W).mono fun e w' ⟨he, hb⟩ => ⟨he, held_below h hb⟩
    clear hfv hwf hput hz
    go_enter Tryd.func3, Tryd.ntmps3
    go_wp2_with fail
    refine (dbegun_is w HW.out).mono ?_
    rintro e w1 ⟨rfl, hb1⟩
    have B1 := hide hb1
    clear hb1
    go_wp2_with fail
    refine (HC.out _).mono ?_
    rintro e w2 ⟨rfl, rfl⟩
    go_wp2_with fail
    refine (HF1.out _ (HW.out.below B1.out)).mono ?_
    rintro e w3 ⟨rfl, hb3⟩
    have B3 := hide ((B1.out.trans (hb3.mono B1.out.size)).alloc (by have := hb3.size; have := B1.out.size; omega) (.cells #[.int .u8 0, .string ⟨#[]⟩, .int .i64 0, .int .u8 0] 25))
    have A3 := hide (At.new w3 25 [.int .u8 0, .string ⟨#[]⟩, .int .i64 0, .int .u8 0])
    clear hb3
    go_wp2_with fail
    refine (HF2.out _).mono ?_
    rintro e w4 ⟨rfl, hb4⟩
    have a4 := A3.out.below hb4 A3.out.lt
    have A4 := hide (a4.alloc (.cells #[.int .u8 0, .string ⟨#[]⟩, .int .i64 0, .int .u8 0] 25))
    have B4 := hide ((B3.out.trans (hb4.mono B3.out.size)).alloc (by have := hb4.size; have := B3.out.size; omega) (.cells #[.int .u8 0, .string ⟨#[]⟩, .int .i64 0, .int .u8 0] 25))
    have hH := held_drew (held_at A4.out (At.new w4 25 [.int .u8 0, .string ⟨#[]⟩, .int .i64 0, .int .u8 0]) B4.out)
    clear hb4 A3 A4 B3 B4 a4
    go_wp2_with fail
    refine wp_region_text (fun W => Held w w3.heap.size w4.heap.size (.int .u8 0) (.string ⟨#[]⟩) (.int .i64 0) (.int .u8 0) W) (by kernel_rfl) (by kernel_rfl) (by kernel_rfl) hH ?_
    repeat (first
      | (refine text_skip (by rfl) ?_
         simp only [Act.put, List.setIfInBounds_toArray, List.set_cons_zero, List.set_cons_succ])
      | (refine text_value (v := ?_) (by rfl) ?_ ?_
         rotate_left
         · (intro w hSw; (try dsimp only at hSw); go_simp; try with_reducible rfl)
         simp only [Act.put, List.setIfInBounds_toArray, List.set_cons_zero, List.set_cons_succ])
      | (refine text_call (v := ?_) (f := ?_) (args := ?_) (by rfl) ?_ ?_ ?_
         rotate_left 3
         · (intro w hSw; (try dsimp only at hSw); go_simp; refine And.intro ?_ ?_ <;> with_reducible rfl)
         · (intro w hSw; first | exact HE.out _ _ _ hSw | exact HW1.out _ _ _ hSw | exact HW2.out _ _ _ hSw | fail)
         simp only [Act.put, List.setIfInBounds_toArray, List.set_cons_zero, List.set_cons_succ])
      | fail)
    refine text_end ?_
    intro W hSw
    obtain ⟨_, _, _, _, _, _, _, _, hB, _, _⟩ := hSw
    go_wp2_with fail
    go_ret
    exact ⟨rfl, hB⟩
  | some t =>
    have hwt := hwf t rfl
    have hpt := hput t rfl
    obtain ⟨kk, nm, dd, x⟩ := t
    obtain ⟨q1, q2, ⟨q3, q4⟩, ⟨q5, q6⟩⟩ := hwt
    simp only at q1 q2 q3 q4 q5 q6
    have hfv : fieldV (some ⟨kk, nm, dd, x⟩) = .tuple #[.agg #[.int .u8 kk, .string (strOfNums nm), .int .i64 dd, .int .u8 x], .bool true] := rfl
    rw [hfv] at HF1 HF2
    have hE := eqtype_same ⟨kk, nm, dd, x⟩
    have hW1 := fun W => words_any ⟨kk, nm, dd, x⟩ W q5 q6
    have hW2 := rwords_any ⟨kk, nm, dd, x⟩
    have hP := fun W => print_any ⟨kk, nm, dd, x⟩ W q1 (by show nm.length ≤ _; omega) q3 q4 q5 q6
    rw [hpt] at hP
    simp only [Ty.val] at hE hW1 hW2 hP
    generalize strOfNums nm = nq at *
    generalize words kk = wd at *
    have HE : Hid (∀ g1 g2 W, Held w g1 g2 (.int .u8 kk) (.string nq) (.int .i64 dd) (.int .u8 x) W → Calls Tryd.prog 11 #[.agg #[.int .u8 kk, .string nq, .int .i64 dd, .int .u8 x], .agg #[.int .u8 kk, .string nq, .int .i64 dd, .int .u8 x]] W fun e w' => e = .returned (.bool true) ∧ Held w g1 g2 (.int .u8 kk) (.string nq) (.int .i64 dd) (.int .u8 x) w') := hide fun g1 g2 W h =>
      (hE W).mono fun e w' ⟨he, hb⟩ => ⟨he, held_below h hb⟩
    have HW1 : Hid (∀ g1 g2 W, Held w g1 g2 (.int .u8 kk) (.string nq) (.int .i64 dd) (.int .u8 x) W → Calls Tryd.prog 12 #[.agg #[.int .u8 kk, .string nq, .int .i64 dd, .int .u8 x]] W fun e w' => e = .returned (.int .i64 wd) ∧ Held w g1 g2 (.int .u8 kk) (.string nq) (.int .i64 dd) (.int .u8 x) w') := hide fun g1 g2 W h =>
      (hW1 W).mono fun e w' ⟨he, hb⟩ => ⟨he, held_below h hb⟩
    have HW2 : Hid (∀ g1 g2 W, Held w g1 g2 (.int .u8 kk) (.string nq) (.int .i64 dd) (.int .u8 x) W → Calls Tryd.prog 13 #[.agg #[.int .u8 kk, .string nq, .int .i64 dd, .int .u8 x]] W fun e w' => e = .returned (.int .i64 wd) ∧ Held w g1 g2 (.int .u8 kk) (.string nq) (.int .i64 dd) (.int .u8 x) w') := hide fun g1 g2 W h =>
      (hW2 W).mono fun e w' ⟨he, hb⟩ => ⟨he, held_below h hb⟩
    have HP : Hid (∀ g1 g2 W, Held w g1 g2 (.int .u8 kk) (.string nq) (.int .i64 dd) (.int .u8 x) W → Calls Tryd.prog 14 #[.agg #[.int .u8 kk, .string nq, .int .i64 dd, .int .u8 x]] W fun e w' => e = .returned (.string s) ∧ Held w g1 g2 (.int .u8 kk) (.string nq) (.int .i64 dd) (.int .u8 x) w') := hide fun g1 g2 W h =>
      (hP W).mono fun e w' ⟨p, he, hn, hb⟩ => ⟨by rw [he, nums_inj hn], held_below h hb⟩
    have e3 : (wd == wd) = true := beq_self_eq_true _
    clear hfv hwf hput hz hE hW1 hW2 hP hpt q1 q2 q3 q4 q5 q6
    go_enter Tryd.func3, Tryd.ntmps3
    go_wp2_with fail
    refine (dbegun_is w HW.out).mono ?_
    rintro e w1 ⟨rfl, hb1⟩
    have B1 := hide hb1
    clear hb1
    go_wp2_with fail
    refine (HC.out _).mono ?_
    rintro e w2 ⟨rfl, rfl⟩
    go_wp2_with fail
    refine (HF1.out _ (HW.out.below B1.out)).mono ?_
    rintro e w3 ⟨rfl, hb3⟩
    have B3 := hide ((B1.out.trans (hb3.mono B1.out.size)).alloc (by have := hb3.size; have := B1.out.size; omega) (.cells #[.int .u8 kk, .string nq, .int .i64 dd, .int .u8 x] 25))
    have A3 := hide (At.new w3 25 [.int .u8 kk, .string nq, .int .i64 dd, .int .u8 x])
    clear hb3
    go_wp2_with fail
    refine (HF2.out _).mono ?_
    rintro e w4 ⟨rfl, hb4⟩
    have a4 := A3.out.below hb4 A3.out.lt
    have A4 := hide (a4.alloc (.cells #[.int .u8 kk, .string nq, .int .i64 dd, .int .u8 x] 25))
    have B4 := hide ((B3.out.trans (hb4.mono B3.out.size)).alloc (by have := hb4.size; have := B3.out.size; omega) (.cells #[.int .u8 kk, .string nq, .int .i64 dd, .int .u8 x] 25))
    have hH := held_drew (held_at A4.out (At.new w4 25 [.int .u8 kk, .string nq, .int .i64 dd, .int .u8 x]) B4.out)
    clear hb4 A3 A4 B3 B4 a4
    go_wp2_with fail
    refine wp_region_text (fun W => Held w w3.heap.size w4.heap.size (.int .u8 kk) (.string nq) (.int .i64 dd) (.int .u8 x) W) (by kernel_rfl) (by kernel_rfl) (by kernel_rfl) hH ?_
    repeat (first
      | (refine text_skip (by rfl) ?_
         simp only [Act.put, List.setIfInBounds_toArray, List.set_cons_zero, List.set_cons_succ])
      | (refine text_value (v := ?_) (by rfl) ?_ ?_
         rotate_left
         · (intro w hSw; (try dsimp only at hSw); go_simp; try with_reducible rfl)
         simp only [Act.put, List.setIfInBounds_toArray, List.set_cons_zero, List.set_cons_succ])
      | (refine text_call (v := ?_) (f := ?_) (args := ?_) (by rfl) ?_ ?_ ?_
         rotate_left 3
         · (intro w hSw; (try dsimp only at hSw); go_simp; refine And.intro ?_ ?_ <;> with_reducible rfl)
         · (intro w hSw; first | exact HE.out _ _ _ hSw | exact HW1.out _ _ _ hSw | exact HW2.out _ _ _ hSw | exact HP.out _ _ _ hSw | fail)
         simp only [Act.put, List.setIfInBounds_toArray, List.set_cons_zero, List.set_cons_succ])
      | fail)
    refine text_end ?_
    intro W hSw
    obtain ⟨_, _, _, _, _, _, _, _, hB, _, _⟩ := hSw
    go_wp2_with fail
    go_ret
    exact ⟨rfl, hB⟩
end Go.Proofs.YtjlcocalpjeghaaDoor
