/- The walks of names' laws. Nothing is claimed here. -/
import Derived.Test.YtecjbaciiabjeaaDoorNamesClass
import Derived.Test.YtecjbaciiabjeaaDoorCut
namespace Go.Proofs.YtecjbaciiabjeaaDoor
open Go.RowKit

theorem Maxed.run {w w' : World} (h : Maxed w) (hb : Below w.heap.size w w') : Maxed w' := h.below hb
set_option maxRecDepth 100000 in
theorem nbegun_is (w : World) (hw : Maxed w) : Calls Tryd.prog 6 #[] w (Tells true w) := by
  have H0 : Hid (∀ W, Calls Tryd.prog 8 #[.string ⟨#[97]⟩] W (Tells true W)) := hide fun W => by
    have := plain_any ⟨#[97]⟩ W (by decide)
    rwa [show plainB (nums ⟨#[97]⟩) = true by decide +kernel] at this
  have H1 : Hid (∀ W, Calls Tryd.prog 8 #[.string ⟨#[97, 46, 98]⟩] W (Tells false W)) := hide fun W => by
    have := plain_any ⟨#[97, 46, 98]⟩ W (by decide)
    rwa [show plainB (nums ⟨#[97, 46, 98]⟩) = false by decide +kernel] at this
  have H2 : Hid (∀ W, Calls Tryd.prog 10 #[.string ⟨#[97, 47, 98]⟩] W (Tells true W)) := hide fun W => by
    have := class_any ⟨#[97, 47, 98]⟩ W
    rwa [show classB (nums ⟨#[97, 47, 98]⟩) = true by decide +kernel] at this
  have H3 : Hid (∀ W, Calls Tryd.prog 10 #[.string ⟨#[97, 47, 47, 98]⟩] W (Tells false W)) := hide fun W => by
    have := class_any ⟨#[97, 47, 47, 98]⟩ W
    rwa [show classB (nums ⟨#[97, 47, 47, 98]⟩) = false by decide +kernel] at this
  have H4 : Hid (∀ W, Calls Tryd.prog 12 #[.string ⟨#[60, 105, 110, 105, 116, 62]⟩] W (Tells true W)) := hide fun W => by
    have := method_any ⟨#[60, 105, 110, 105, 116, 62]⟩ W (by decide)
    rwa [show methodB (nums ⟨#[60, 105, 110, 105, 116, 62]⟩) = true by decide +kernel] at this
  have H5 : Hid (∀ W, Calls Tryd.prog 12 #[.string ⟨#[60, 120, 62]⟩] W (Tells false W)) := hide fun W => by
    have := method_any ⟨#[60, 120, 62]⟩ W (by decide)
    rwa [show methodB (nums ⟨#[60, 120, 62]⟩) = false by decide +kernel] at this
  have H6 : Hid (∀ W, Calls Tryd.prog 14 #[.string ⟨#[97, 47, 98, 47, 99]⟩] W fun e w' => e = .returned (.string ⟨#[97, 47, 98]⟩) ∧ W = w') := hide fun W => by
    have := package_any ⟨#[97, 47, 98, 47, 99]⟩ W (by decide)
    rwa [show pkgOf ⟨#[97, 47, 98, 47, 99]⟩ = ⟨#[97, 47, 98]⟩ by decide +kernel] at this
  have H7 : Hid (∀ W, Maxed W → Calls Tryd.prog 16 #[.string ⟨#[97, 47, 98]⟩] W fun e w' => e = .returned (.string ⟨#[97, 46, 98]⟩) ∧ Below W.heap.size W w') := hide fun W hW => by
    have := dots_any ⟨#[97, 47, 98]⟩ W (by decide) hW
    rwa [show strOfNums (dots (nums ⟨#[97, 47, 98]⟩)) = ⟨#[97, 46, 98]⟩ by decide +kernel] at this
  have HW := hide hw
  clear hw
  go_enter Tryd.func6, Tryd.ntmps6
  go_wp2_with fail
  refine (H0.out _).mono ?_
  rintro e w0 ⟨rfl, hb0⟩
  have B0 := hide hb0
  clear hb0
  go_wp2_with fail
  refine (H1.out _).mono ?_
  rintro e w1 ⟨rfl, hb1⟩
  have B1 := hide (B0.out.trans (hb1.mono B0.out.size))
  clear hb1
  go_wp2_with fail
  refine (H2.out _).mono ?_
  rintro e w2 ⟨rfl, hb2⟩
  have B2 := hide (B1.out.trans (hb2.mono B1.out.size))
  clear hb2
  go_wp2_with fail
  refine (H3.out _).mono ?_
  rintro e w3 ⟨rfl, hb3⟩
  have B3 := hide (B2.out.trans (hb3.mono B2.out.size))
  clear hb3
  go_wp2_with fail
  refine (H4.out _).mono ?_
  rintro e w4 ⟨rfl, hb4⟩
  have B4 := hide (B3.out.trans (hb4.mono B3.out.size))
  clear hb4
  go_wp2_with fail
  refine (H5.out _).mono ?_
  rintro e w5 ⟨rfl, hb5⟩
  have B5 := hide (B4.out.trans (hb5.mono B4.out.size))
  clear hb5
  go_wp2_with fail
  refine (H6.out _).mono ?_
  rintro e w6 ⟨rfl, rfl⟩
  go_wp2_with fail
  refine (H7.out _ (HW.out.below B5.out)).mono ?_
  rintro e w7 ⟨rfl, hb7⟩
  have B7 := hide (B5.out.trans (hb7.mono B5.out.size))
  clear hb7
  go_wp2_with fail
  go_ret
  exact ⟨rfl, B7.out⟩

set_option maxRecDepth 100000 in
theorem NamesAll_walk (s0 : ByteArray) (_h : s0.size ≤ maxLen) (w : World) (hw : Maxed w) : Calls Tryd.prog 3 #[.string s0] w fun e w' => e = .returned (.bool true) ∧ Below w.heap.size w w' := by
  have HC := hide (fun W => cut_any s0 300 W (by decide))
  have hz := cutOf_size s0 300
  generalize cutOf s0 300 = s at *
  have HP1 := hide (fun W => plain_any s W (by omega))
  have HP2 := hide (fun W => rplain_any s W (by omega))
  have HC1 := hide (fun W => class_any s W)
  have HC2 := hide (fun W => rclass_any s W (by omega))
  have HM1 := hide (fun W => method_any s W (by omega))
  have HM2 := hide (fun W => rmethod_any s W (by omega))
  have HG1 := hide (fun W => package_any s W (by omega))
  have HG2 := hide (fun W => rpackage_any s W (by omega))
  have HD1 := hide (fun W => dots_any s W (by omega))
  have HD2 := hide (fun W => rdots_any s W (by omega))
  have HW := hide hw
  clear hw hz
  generalize plainB (nums s) = p at *
  generalize classB (nums s) = c at *
  generalize methodB (nums s) = m at *
  generalize pkgOf s = g at *
  generalize strOfNums (dots (nums s)) = d at *
  have e1 : (p == p) = true := beq_self_eq_true p
  have e2 : (c == c) = true := beq_self_eq_true c
  have e3 : (m == m) = true := beq_self_eq_true m
  have e4 : (g.toList == g.toList) = true := beq_self_eq_true _
  have e5 : (d.toList == d.toList) = true := beq_self_eq_true _
  go_enter Tryd.func3, Tryd.ntmps3
  go_wp2_with fail
  refine (nbegun_is w HW.out).mono ?_
  rintro e w1 ⟨rfl, hb1⟩
  have B1 := hide hb1
  clear hb1
  go_wp2_with fail
  refine (HC.out _).mono ?_
  rintro e w2 ⟨rfl, rfl⟩
  go_wp2_with fail
  refine (HP1.out _).mono ?_
  rintro e v0 ⟨rfl, hb⟩
  have C0 := hide (B1.out.trans (hb.mono B1.out.size))
  clear hb
  go_wp2_with fail
  refine (HP2.out _).mono ?_
  rintro e v1 ⟨rfl, hb⟩
  have C1 := hide (C0.out.trans (hb.mono C0.out.size))
  clear hb
  go_wp2_with fail
  refine (HC1.out _).mono ?_
  rintro e v2 ⟨rfl, hb⟩
  have C2 := hide (C1.out.trans (hb.mono C1.out.size))
  clear hb
  go_wp2_with fail
  refine (HC2.out _).mono ?_
  rintro e v3 ⟨rfl, hb⟩
  have C3 := hide (C2.out.trans (hb.mono C2.out.size))
  clear hb
  go_wp2_with fail
  refine (HM1.out _).mono ?_
  rintro e v4 ⟨rfl, hb⟩
  have C4 := hide (C3.out.trans (hb.mono C3.out.size))
  clear hb
  go_wp2_with fail
  refine (HM2.out _).mono ?_
  rintro e v5 ⟨rfl, hb⟩
  have C5 := hide (C4.out.trans (hb.mono C4.out.size))
  clear hb
  go_wp2_with fail
  refine (HG1.out _).mono ?_
  rintro e v6 ⟨rfl, rfl⟩
  go_wp2_with fail
  refine (HG2.out _).mono ?_
  rintro e v7 ⟨rfl, rfl⟩
  go_wp2_with fail
  refine (HD1.out _ (HW.out.below C5.out)).mono ?_
  rintro e v8 ⟨rfl, hb⟩
  have C8 := hide (C5.out.trans (hb.mono C5.out.size))
  clear hb
  go_wp2_with fail
  refine (HD2.out _).mono ?_
  rintro e v9 ⟨rfl, hb⟩
  have C9 := hide (C8.out.trans (hb.mono C8.out.size))
  clear hb
  go_wp2_with fail
  go_ret
  exact ⟨rfl, C9.out⟩
end Go.Proofs.YtecjbaciiabjeaaDoor
