/- Texts of one stage, merged. Nothing is claimed here. -/
import Derived.Test.YtbdbcalmjbmflaaGreatDoorPackQ
import Derived.Test.YtbdbcalmjbmflaaGreatDoorRows
import Derived.ProofKit
import Derived.OpenShut
import Derived.ShutString
import Derived.ChangeOld
import Derived.Shelf.Vars
namespace Go.Proofs.YtbdbcalmjbmflaaGreatDoor
open Go.RowKit

theorem cmaxed_of {W : World} (h : W.ShapedOpen Tryz.prog) : Maxed W := Go.Proofs.cell_of_shapedOpen_int (zero := #[.int .i64 0]) (t := 3) h (of_decide_eq_true (by kernel_rfl)) (by kernel_rfl) rfl (by kernel_rfl) (by kernel_rfl) Tryz.underlying3
set_option maxRecDepth 100000 in
theorem find_nil (a d : ByteArray) (w : World) : Calls Tryz.prog 8 #[.pointer none, .string a, .string d] w fun e w' => e = .returned (.int .i64 (-1)) ∧ Below w.heap.size w w' := by
  go_enter Tryz.func8, Tryz.ntmps8
  go_wp2_with fail
  go_ret
  exact ⟨rfl, by repeat (first | with_reducible exact Below.refl _ _ | with_reducible refine Below.drew ?_ | with_reducible refine below_drewN ?_ _ | ((with_reducible refine Below.setCell ?_ ?hp _); case hp => simp) | ((with_reducible refine Below.alloc ?_ ?hp _); case hp => first | omega | (simp; done) | (simp; omega)))⟩
set_option maxRecDepth 100000 in
theorem findField_nil (a d : ByteArray) (w : World) : Calls Tryz.prog 9 #[.pointer none, .string a, .string d] w fun e w' => e = .returned (.int .i64 (-1)) ∧ Below w.heap.size w w' := by
  go_enter Tryz.func9, Tryz.ntmps9
  go_wp2_with fail
  go_ret
  exact ⟨rfl, by repeat (first | with_reducible exact Below.refl _ _ | with_reducible refine Below.drew ?_ | with_reducible refine below_drewN ?_ _ | ((with_reducible refine Below.setCell ?_ ?hp _); case hp => simp) | ((with_reducible refine Below.alloc ?_ ?hp _); case hp => first | omega | (simp; done) | (simp; omega)))⟩
set_option maxRecDepth 100000 in
theorem find_0 (q : Nat) (a d : ByteArray) (mj fl : Int) (P I F : Value) (s1 s2 : ByteArray) (w : World) (h : At w q 40 [.int .i64 mj, P, .int .i64 fl, .string s1, .string s2, I, F, .slice none 0 0]) :
    Calls Tryz.prog 8 #[.pointer (some ⟨q, 0, none⟩), .string a, .string d] w fun e w' => e = .returned (.int .i64 (-1)) ∧ Below w.heap.size w w' := by
  have h7 : w.cell? ⟨q, 7, none⟩ = some (.slice none 0 0) := h.cell 7
  have h0 : w.cell? ⟨q, 0, none⟩ = some (.int .i64 mj) := h.cell 0
  have hq := h.lt
  have H := hide idxM_0
  go_enter Tryz.func8, Tryz.ntmps8
  go_wp2_with fail
  refine (H.out _ _ _ _).mono ?_
  rintro e w1 ⟨rfl, rfl⟩
  go_wp2_with fail
  go_ret
  exact ⟨rfl, by repeat (first | with_reducible exact Below.refl _ _ | with_reducible refine Below.drew ?_ | with_reducible refine below_drewN ?_ _ | ((with_reducible refine Below.setCell ?_ ?hp _); case hp => simp) | ((with_reducible refine Below.alloc ?_ ?hp _); case hp => first | omega | (simp; done) | (simp; omega)))⟩
def psA : List Cst := [noC, ⟨1, [97], 0, 0, 0⟩, ⟨7, [], 0, 1, 0⟩, ⟨1, [98], 0, 0, 0⟩, ⟨7, [], 0, 3, 0⟩]
def xsA : List Int := [0, 5, 1, 0, 1, 97, 7, 0, 1, 1, 0, 1, 98, 7, 0, 3, 0, 0, 0, 2, 0, 4, 0, 0, 0, 0, 0, 0, 0, 0]
theorem pool_A : pool xsA = some (psA, 16) := by kernel_rfl
def L1 : List Int := [202, 254, 186, 190, 0, 0, 0, 99]
def L3 : List Int := [202, 254, 186, 190, 0, 0, 0, 52] ++ xsA
set_option maxHeartbeats 2000000 in
set_option maxRecDepth 100000 in
theorem read_3 (g : Nat) (w : World) (hw : Maxed w) (h : At w g 5 (bys L3)) : Calls Tryz.prog 11 #[.slice (some ⟨g, 0, none⟩) 38 38] w (FileTold 52 0 ⟨#[97]⟩ ⟨#[98]⟩ (fun V => V = .slice none 0 0) true w) := by
  have hr : Rd w w.heap.size (some ⟨g, 0, none⟩) 38 (bys L3) := h.rd 0 38 (by decide)
  have hx : IsBytes L3 := (show ∀ x ∈ L3, 0 ≤ x ∧ x < 256 by decide)
  refine cfRead_good g 0 38 38 L3 w hr hx (by omega) (by omega) (by omega) (by decide) 52 0 (by decide) (by decide) (by omega) (by omega) _ _ _ _ ?_
  refine hide fun W g2 gb2 q hb hcu hq hg hq0 => ?_
  exact parts_0 w g2 gb2 q xsA psA 16 52 W hb hw hcu hq hg hq0 pool_A (by decide) (by decide) 0 (by decide) [97] [98] (by rfl) (by rfl) (show ∀ x ∈ ([97] : List Int), 0 ≤ x ∧ x < 256 by decide) (show ∀ x ∈ ([98] : List Int), 0 ≤ x ∧ x < 256 by decide)
    (by decide +kernel) (by decide +kernel) ⟨#[97]⟩ ⟨#[98]⟩ rfl rfl (by decide) (by decide) (by decide) (by decide) (by decide)
set_option maxHeartbeats 2000000 in
set_option maxRecDepth 100000 in
theorem clbegun_is (w : World) (hw : Maxed w) : Calls Tryz.prog 7 #[] w fun e w' => e = .returned (.bool true) ∧ Below w.heap.size w w' := by
  have H1 : Hid (Calls Tryz.prog 11 #[.slice (some ⟨w.heap.size, 0, none⟩) 8 8] (w.alloc (.cells (bys L1).toArray 5)) fun e w' => e = .returned (.tuple #[.pointer none, .int .i64 2]) ∧ Below w.heap.size w w') := hide (by
    have hA := At.new w 5 (bys L1)
    have hr : Rd (w.alloc (.cells (bys L1).toArray 5)) (w.alloc (.cells (bys L1).toArray 5)).heap.size (some ⟨w.heap.size, 0, none⟩) 8 (bys L1) := hA.rd 0 8 (by decide)
    have := cfRead_bad w.heap.size 0 8 8 L1 _ _ hr (Nat.le_refl _) (show ∀ x ∈ L1, 0 ≤ x ∧ x < 256 by decide) (by omega) (by omega) (by omega) (by decide) 0 99 (by decide) (by decide) (by decide)
    refine this.mono fun e w' ⟨he, hb⟩ => ⟨he, ?_⟩
    have hb1 := (Below.refl w.heap.size w).alloc (Nat.le_refl _) (.cells (bys L1).toArray 5)
    exact hb1.trans (hb.mono hb1.size))
  have H2 := hide cfRead_nil
  have H3 := hide (fun W (hW : Maxed W) => read_3 W.heap.size (W.alloc (.cells (bys L3).toArray 5)) (hW.below ((Below.refl W.heap.size W).alloc (Nat.le_refl _) _)) (At.new W 5 (bys L3)))
  have HW := hide hw
  have HF := hide find_0
  clear hw
  go_enter Tryz.func7, Tryz.ntmps7
  go_wp2_with fail
  refine H1.out.mono ?_
  rintro e w1 ⟨rfl, hb1⟩
  have HB1 := hide hb1
  clear hb1 H1
  go_wp2_with fail
  refine (H2.out _).mono ?_
  rintro e w2 ⟨rfl, hb2⟩
  have HB2 := hide (HB1.out.trans (hb2.mono HB1.out.size))
  clear hb2 HB1 H2
  go_wp2_with fail
  refine (H3.out w2 (HW.out.below HB2.out)).mono ?_
  rintro e w3 ⟨hb3, hy, _⟩
  obtain ⟨q, P, I, F, V, rfl, rfl, hq⟩ := hy rfl
  have hbb := (Below.refl w2.heap.size w2).alloc (Nat.le_refl _) (.cells (bys L3).toArray 5)
  have HB3 := hide (HB2.out.trans ((hbb.trans (hb3.mono hbb.size)).mono HB2.out.size))
  have HQ := hide hq
  have q0 : w3.cell? ⟨q, 0, none⟩ = some (.int .i64 52) := hq.cell 0
  have q3 : w3.cell? ⟨q, 3, none⟩ = some (.string ⟨#[97]⟩) := hq.cell 3
  have q4 : w3.cell? ⟨q, 4, none⟩ = some (.string ⟨#[98]⟩) := hq.cell 4
  clear hb3 hy hq hbb HB2 H3
  go_wp2_with fail
  refine (HF.out q _ _ _ _ _ _ _ _ _ _ HQ.out).mono ?_
  rintro e w4 ⟨rfl, hb4⟩
  have HB4 := hide (HB3.out.trans (hb4.mono HB3.out.size))
  clear hb4
  go_wp2_with fail
  go_ret
  exact ⟨rfl, HB4.out⟩
set_option maxRecDepth 100000 in
theorem ClassNone_walk (w : World) (hw : Maxed w) : Calls Tryz.prog 3 #[] w fun e w' => e = .returned (.bool true) ∧ Below w.heap.size w w' := by
  have HG := hide (clbegun_is w hw)
  have HF := hide find_nil
  have HD := hide findField_nil
  clear hw
  go_enter Tryz.func3, Tryz.ntmps3
  go_wp2_with fail
  refine HG.out.mono ?_
  rintro e w1 ⟨rfl, hb1⟩
  have HB1 := hide hb1
  clear hb1 HG
  go_wp2_with fail
  refine (HF.out _ _ _).mono ?_
  rintro e w2 ⟨rfl, hb2⟩
  have HB2 := hide (HB1.out.trans (hb2.mono HB1.out.size))
  clear hb2 HB1
  go_wp2_with fail
  refine (HD.out _ _ _).mono ?_
  rintro e w3 ⟨rfl, hb3⟩
  have HB3 := hide (HB2.out.trans (hb3.mono HB2.out.size))
  clear hb3 HB2
  go_wp2_with fail
  go_ret
  exact ⟨rfl, HB3.out⟩
end Go.Proofs.YtbdbcalmjbmflaaGreatDoor
