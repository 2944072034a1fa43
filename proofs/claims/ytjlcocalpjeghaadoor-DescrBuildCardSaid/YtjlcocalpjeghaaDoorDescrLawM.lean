/- The walk of DescrMethod. Nothing is claimed here. -/
import Derived.Test.YtjlcocalpjeghaaDoorDescrLawF
namespace Go.Proofs.YtjlcocalpjeghaaDoor
open Go.RowKit

/-- Two places hold one type; what stood ahead of two worlds stands. -/
abbrev Held2 (w w4 : World) (g1 o1 g2 o2 : Nat) (a b c d : Value) (W : World) : Prop :=
  W.cell? ⟨g1, o1, none⟩ = some a ∧ W.cell? ⟨g1, o1 + 1, none⟩ = some b ∧ W.cell? ⟨g1, o1 + 2, none⟩ = some c ∧ W.cell? ⟨g1, o1 + 3, none⟩ = some d ∧
  W.cell? ⟨g2, o2, none⟩ = some a ∧ W.cell? ⟨g2, o2 + 1, none⟩ = some b ∧ W.cell? ⟨g2, o2 + 2, none⟩ = some c ∧ W.cell? ⟨g2, o2 + 3, none⟩ = some d ∧
  Below w.heap.size w W ∧ Below w4.heap.size w4 W ∧ g1 < W.heap.size ∧ g2 < W.heap.size
section
variable {w w4 W w' : World} {g1 o1 g2 o2 : Nat} {a b c d : Value}
theorem held2_below (h : Held2 w w4 g1 o1 g2 o2 a b c d W) (hb : Below W.heap.size W w') : Held2 w w4 g1 o1 g2 o2 a b c d w' := by
  obtain ⟨a0, a1, a2, a3, b0, b1, b2, b3, hw, hw4, h1, h2⟩ := h
  have e : ∀ g i, g < W.heap.size → w'.cell? ⟨g, i, none⟩ = W.cell? ⟨g, i, none⟩ := fun g i hg => hb.cell (p := ⟨g, i, none⟩) hg
  have := hb.size
  exact ⟨by rw [e _ _ h1]; exact a0, by rw [e _ _ h1]; exact a1, by rw [e _ _ h1]; exact a2, by rw [e _ _ h1]; exact a3, by rw [e _ _ h2]; exact b0, by rw [e _ _ h2]; exact b1, by rw [e _ _ h2]; exact b2, by rw [e _ _ h2]; exact b3,
    hw.trans (hb.mono hw.size), hw4.trans (hb.mono hw4.size), by omega, by omega⟩
theorem held2_drew (h : Held2 w w4 g1 o1 g2 o2 a b c d W) : Held2 w w4 g1 o1 g2 o2 a b c d W.drew := by
  obtain ⟨a0, a1, a2, a3, b0, b1, b2, b3, hw, hw4, h1, h2⟩ := h
  exact ⟨a0, a1, a2, a3, b0, b1, b2, b3, hw.drew, hw4.drew, h1, h2⟩
end

set_option maxHeartbeats 4000000 in
set_option maxRecDepth 100000 in
theorem DescrMethod_walk (s0 : ByteArray) (_h : s0.size ≤ maxLen) (w : World) (hw : Maxed w) : Calls Tryd.prog 4 #[.string s0] w fun e w' => e = .returned (.bool true) ∧ Below w.heap.size w w' := by
  have HC := hide (fun W => cut_any s0 600 W (by decide))
  have hz := cutOf_size s0 600
  generalize cutOf s0 600 = s at *
  have HW := hide hw
  clear hw
  have HM1 : Hid (∀ W, Maxed W → Calls Tryd.prog 15 #[.string s] W (SigTold (sig (nums s)) W)) := hide fun W hW => method4_any s W (by omega) hW
  have HM2 : Hid (∀ W, Calls Tryd.prog 16 #[.string s] W (SigTold (sig (nums s)) W)) := hide fun W => rsig_any s W (by omega)
  have HA1 : Hid (∀ W, Maxed W → Calls Tryd.prog 17 #[.string s] W fun e w' => e = .returned (.int .i64 (argsW (nums s))) ∧ Below W.heap.size W w') := hide fun W hW => dargs_any s W (by omega) hW
  have HA2 : Hid (∀ W, Calls Tryd.prog 18 #[.string s] W fun e w' => e = .returned (.int .i64 (argsW (nums s))) ∧ Below W.heap.size W w') := hide fun W => rargs_any s W (by omega)
  have e1 : (argsW (nums s) != argsW (nums s)) = false := by simp
  generalize argsW (nums s) = aw at *
  generalize sig (nums s) = sg at *
  clear hz
  go_enter Tryd.func4, Tryd.ntmps4
  go_wp2_with fail
  refine (dbegun_is w HW.out).mono ?_
  rintro e w1 ⟨rfl, hb1⟩
  have B1 := hide hb1
  clear hb1
  go_wp2_with fail
  refine (HC.out _).mono ?_
  rintro e w2 ⟨rfl, rfl⟩
  go_wp2_with fail
  refine (HM1.out _ (HW.out.below B1.out)).mono ?_
  rintro e w3 ⟨hb3, ⟨h, rfl⟩ | ⟨ts, t, A, c, h, rfl, hrd, hc1, hc2⟩⟩
  · subst h
    have hE := eqtype_same noTy
    rw [noTy_val] at hE ⊢
    have HE := hide hE
    have B3 := hide ((B1.out.trans (hb3.mono B1.out.size)).alloc (by have := hb3.size; have := B1.out.size; omega) (.cells #[.int .u8 0, .string ⟨#[]⟩, .int .i64 0, .int .u8 0] 25))
    have A3 := hide (At.new w3 25 [.int .u8 0, .string ⟨#[]⟩, .int .i64 0, .int .u8 0])
    clear hb3 hE
    go_wp2_with fail
    refine (HM2.out _).mono ?_
    rintro e w4 ⟨hb4, ⟨_, rfl⟩ | ⟨ts, t, A, c, h, _⟩⟩
    · rw [noTy_val]
      have a4 := A3.out.below hb4 A3.out.lt
      have hz4 : w3.heap.size < w4.heap.size := a4.lt
      obtain ⟨z0, z1, z2, z3⟩ := c4_of a4
      have B4 := hide ((B3.out.trans (hb4.mono B3.out.size)).alloc (by have := hb4.size; have := B3.out.size; omega) (.cells #[.int .u8 0, .string ⟨#[]⟩, .int .i64 0, .int .u8 0] 25))
      clear hb4 a4 A3 B3
      go_wp2_with fail
      refine (HE.out _).mono ?_
      rintro e w5 ⟨rfl, hb5⟩
      have B5 := hide (B4.out.trans (hb5.mono B4.out.size))
      clear hb5
      go_wp2_with fail
      refine (HA1.out _ (HW.out.below B5.out)).mono ?_
      rintro e w6 ⟨rfl, hb6⟩
      have B6 := hide (B5.out.trans (hb6.mono B5.out.size))
      clear hb6
      go_wp2_with fail
      refine (HA2.out _).mono ?_
      rintro e w7 ⟨rfl, hb7⟩
      have B7 := hide (B6.out.trans (hb7.mono B6.out.size))
      clear hb7
      go_wp2_with fail
      go_loopw [10] (fun iv wr => iv = .int .i64 0 ∧ wr = w7) (fun _ _ => 0)
      case atStart => exact ⟨rfl, rfl⟩
      case round =>
        obtain ⟨rfl, rfl⟩ := hrel
        go_wp2_with fail
        go_ret
        exact ⟨rfl, B7.out⟩
    · cases h
  · subst h
    have hE := eqtype_same t
    have HE1 := hide (fun u => eqtype_same u)
    obtain ⟨kk, nm, dd, x⟩ := t
    obtain ⟨nq, hnq⟩ : ∃ nq, strOfNums nm = nq := ⟨_, rfl⟩
    rw [Ty.val_mk, hnq] at hE ⊢
    have HN := hide hnq
    clear hnq
    have HE := hide hE
    have R3 := hide hrd
    have B3 := hide ((B1.out.trans (hb3.mono B1.out.size)).alloc (by have := hb3.size; have := B1.out.size; omega) (.cells #[.int .u8 kk, .string nq, .int .i64 dd, .int .u8 x] 25))
    have A3 := hide (At.new w3 25 [.int .u8 kk, .string nq, .int .i64 dd, .int .u8 x])
    clear hb3 hE hrd
    unfold maxLen at hc2
    go_wp2_with fail
    refine (HM2.out _).mono ?_
    rintro e w4 ⟨hb4, ⟨h, _⟩ | ⟨ts2, t2, A2, c2, h, rfl, hrd4, hc3, hc4⟩⟩
    · cases h
    · cases h
      rw [Ty.val_mk, HN.out]
      have a4 := A3.out.below hb4 A3.out.lt
      have hz4 : w3.heap.size < w4.heap.size := a4.lt
      obtain ⟨z0, z1, z2, z3⟩ := c4_of a4
      have B4 := hide ((B3.out.trans (hb4.mono B3.out.size)).alloc (by have := hb4.size; have := B3.out.size; omega) (.cells #[.int .u8 kk, .string nq, .int .i64 dd, .int .u8 x] 25))
      have R3' : Hid (RdT w4 w4.heap.size A ts.length ts) := hide (((R3.out.below ((Below.refl _ w3).alloc (Nat.le_refl _) (.cells #[.int .u8 kk, .string nq, .int .i64 dd, .int .u8 x] 25))).below (hb4.mono (by simp))).mono (by omega))
      have R4 := hide hrd4
      clear hb4 a4 A3 B3 hrd4
      have el : ((ts.length : Int) != (ts.length : Int)) = false := by simp
      go_wp2_with fail
      refine (HE.out _).mono ?_
      rintro e w5 ⟨rfl, hb5⟩
      have B5 := hide (B4.out.trans (hb5.mono B4.out.size))
      have C5 := hide (((Below.refl w4.heap.size w4).alloc (Nat.le_refl _) (.cells #[.int .u8 kk, .string nq, .int .i64 dd, .int .u8 x] 25)).trans (hb5.mono (by simp)))
      clear hb5
      go_wp2_with fail
      refine (HA1.out _ (HW.out.below B5.out)).mono ?_
      rintro e w6 ⟨rfl, hb6⟩
      have B6 := hide (B5.out.trans (hb6.mono B5.out.size))
      have C6 := hide (C5.out.trans (hb6.mono C5.out.size))
      clear hb6
      go_wp2_with fail
      refine (HA2.out _).mono ?_
      rintro e w7 ⟨rfl, hb7⟩
      have B7 := hide (B6.out.trans (hb7.mono B6.out.size))
      have C7 := hide (C6.out.trans (hb7.mono C6.out.size))
      clear hb7 B4 B5 B6 C5 C6 z0 z1 z2 z3
      unfold maxLen at hc4
      go_wp2_with fail
      go_loopw [10] (fun iv wr => ∃ j : Nat, j ≤ ts.length ∧ iv = .int .i64 j ∧ Below w.heap.size w wr ∧ Below w4.heap.size w4 wr) (fun iv _ => ts.length - (intOf iv).toNat)
      case atStart => exact ⟨0, Nat.zero_le _, rfl, B7.out, C7.out⟩
      case round =>
        obtain ⟨j, hj, rfl, hb, hc⟩ := hrel
        by_cases hlt : j < ts.length
        · obtain ⟨g, o, rfl, hg, c0, c1, d2, d3⟩ := (R3'.out.below hc).cells4 hlt
          obtain ⟨g2, o2, rfl, hg2, k0, k1, k2, k3⟩ := (R4.out.below hc).cells4 hlt
          generalize ts.getD j noTy = u at *
          obtain ⟨uk, un, ud, ux⟩ := u
          have hE1 := HE1.out ⟨uk, un, ud, ux⟩
          rw [Ty.val_mk] at hE1
          simp only at c0 c1 d2 d3 k0 k1 k2 k3
          generalize strOfNums un = uq at *
          have hsz := hc.size
          have hH := held2_drew (⟨c0, c1, d2, d3, k0, k1, k2, k3, hb, hc, by omega, by omega⟩ : Held2 w w4 g (o + j * 4) g2 (o2 + j * 4) (.int .u8 uk) (.string uq) (.int .i64 ud) (.int .u8 ux) wr)
          have HE2 : Hid (∀ W, Held2 w w4 g (o + j * 4) g2 (o2 + j * 4) (.int .u8 uk) (.string uq) (.int .i64 ud) (.int .u8 ux) W → Calls Tryd.prog 11 #[.agg #[.int .u8 uk, .string uq, .int .i64 ud, .int .u8 ux], .agg #[.int .u8 uk, .string uq, .int .i64 ud, .int .u8 ux]] W fun e w' => e = .returned (.bool true) ∧ Held2 w w4 g (o + j * 4) g2 (o2 + j * 4) (.int .u8 uk) (.string uq) (.int .i64 ud) (.int .u8 ux) w') := hide fun W h =>
            (hE1 W).mono fun e w' ⟨he, hb⟩ => ⟨he, held2_below h hb⟩
          have hj0 : (0 : Int) ≤ (j : Int) := by omega
          have hj1 : (j : Int) < (ts.length : Int) := by omega
          clear hE1 c0 c1 d2 d3 k0 k1 k2 k3 hb hc hsz HE1 HE HA1 HA2 HM1 HM2 HC
          go_wp2_with fail
          refine wp_region_text (fun W => Held2 w w4 g (o + j * 4) g2 (o2 + j * 4) (.int .u8 uk) (.string uq) (.int .i64 ud) (.int .u8 ux) W) (by kernel_rfl) (by kernel_rfl) (by kernel_rfl) hH ?_
          repeat (first
            | (refine text_skip (by rfl) ?_
               simp only [Act.put, List.setIfInBounds_toArray, List.set_cons_zero, List.set_cons_succ])
            | (refine text_value (v := ?_) (by rfl) ?_ ?_
               rotate_left
               · (intro w hSw; (try dsimp only at hSw); go_simp; try with_reducible rfl)
               simp only [Act.put, List.setIfInBounds_toArray, List.set_cons_zero, List.set_cons_succ])
            | (refine text_call (v := ?_) (f := ?_) (args := ?_) (by rfl) ?_ ?_ ?_
               rotate_left 3
               · (intro w hSw; (try dsimp only at hSw); go_simp; refine And.intro ?_ ?_ <;> with_reducible rfl)
               · (intro w hSw; first | exact HE2.out _ hSw | fail)
               simp only [Act.put, List.setIfInBounds_toArray, List.set_cons_zero, List.set_cons_succ])
            | fail)
          refine text_end ?_
          intro W hSw
          obtain ⟨_, _, _, _, _, _, _, _, hB, hC, _, _⟩ := hSw
          clear hH
          go_wp2_with fail
          go_roundw
          case rel => exact ⟨j + 1, by omega, by go_num, hB, hC⟩
          case measure => simp [intOf]; omega
        · obtain rfl : j = ts.length := by omega
          go_wp2_with fail
          go_ret
          exact ⟨rfl, hb⟩
end Go.Proofs.YtjlcocalpjeghaaDoor
