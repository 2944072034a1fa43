/- CursorNone: a nil cursor reads nothing; and the first reads that each law of the cursor makes. -/
import Derived.Test.YteikjaeplaedhaaReads
import Derived.Test.YteikjaeplaedhaaRows
import Derived.ProofKit
import Derived.OpenShut
import Derived.ShutString
import Derived.ChangeOld
namespace Go.Proofs.Yteikjaeplaedhaa
open Go.RowKit

set_option maxRecDepth 100000 in
theorem begun_is (w : World) : Calls Try.prog 6 #[] w fun e w' => e = .returned (.bool true) ∧ Below w.heap.size w w' := by
  have hN : ∀ W : World, At W w.heap.size 5 (bys [1, 2, 3, 4, 5, 6, 7]) → W.heap.size = w.heap.size + 1 → Calls Try.prog 8 #[.slice (some ⟨w.heap.size, 0, none⟩) 7 7] W (Made W [1, 2, 3, 4, 5, 6, 7]) := fun W h hz =>
    new_any (some ⟨w.heap.size, 0, none⟩) 7 7 [1, 2, 3, 4, 5, 6, 7] W W.heap.size (h.rd 0 7 (by decide)) (Nat.le_refl _) (by decide) (by intro x hx; simp at hx; omega)
  have HN := hide hN
  clear hN
  go_enter Try.func6, Try.ntmps6
  go_wp2_with fail
  refine (HN.out _ (At.new w 5 _) (by simp)).mono ?_
  rintro e w1 ⟨g, gb, rfl, hc1, hg, hgb, hb1⟩
  have hg0 : w.heap.size ≤ g := by simp at hg; omega
  have hb1' : Below w.heap.size w w1 := ((Below.refl w.heap.size w).alloc (Nat.le_refl _) _).trans (hb1.mono (by simp))
  clear hb1 hg hgb
  go_wp2_with fail
  refine (u1_any g gb _ 0 false w1 hc1 1 1 false rfl rfl rfl).mono ?_
  rintro e w2 ⟨rfl, hc2, hg2⟩
  go_wp2_with fail
  refine (u2_any g gb _ 1 false w2 hc2 515 3 false rfl rfl rfl).mono ?_
  rintro e w3 ⟨rfl, hc3, hg3⟩
  go_wp2_with fail
  refine (u4_any g gb _ 3 false w3 hc3 67438087 7 false rfl rfl rfl).mono ?_
  rintro e w4 ⟨rfl, hc4, hg4⟩
  go_wp2_with fail
  refine (ok_any g gb _ 7 false w4 hc4).mono ?_
  rintro e w5 ⟨rfl, rfl⟩
  go_wp2_with fail
  refine (left_any g gb _ 7 false w4 hc4).mono ?_
  rintro e w5 ⟨rfl, m, rfl⟩
  go_wp2_with fail
  refine (u1_any g gb _ 7 false (w4.drewN m) hc4 0 7 true rfl rfl rfl).mono ?_
  rintro e w5 ⟨rfl, hc5, hg5⟩
  go_wp2_with fail
  refine (ok_any g gb _ 7 true w5 hc5).mono ?_
  rintro e w6 ⟨rfl, rfl⟩
  go_wp2_with fail
  go_ret
  refine ⟨rfl, ?_⟩
  have G := grown_trans (grown_trans (grown_trans hg2 hg3) hg4) (grown_trans (grown_drewN (grown_refl w4 _) m) hg5)
  exact hb1'.grown G hb1'.size (by intro k hk; cases hk; exact hg0)

/-! ### no cursor -/
theorem ok_nil (w : World) : Calls Try.prog 18 #[.pointer none] w fun e w' => e = .returned (.bool false) ∧ w = w' := by
  go_enter Try.func18, Try.ntmps18
  go_wp2
  go_ret
  exact ⟨rfl, rfl⟩
theorem at_nil (w : World) : Calls Try.prog 15 #[.pointer none] w fun e w' => e = .returned (.int .i64 0) ∧ w = w' := by
  go_enter Try.func15, Try.ntmps15
  go_wp2
  go_ret
  exact ⟨rfl, rfl⟩
theorem left_nil (w : World) : Calls Try.prog 16 #[.pointer none] w fun e w' => e = .returned (.int .i64 0) ∧ w = w' := by
  go_enter Try.func16, Try.ntmps16
  go_wp2
  go_ret
  exact ⟨rfl, rfl⟩
theorem take_nil (n : Int) (w : World) : Calls Try.prog 21 #[.pointer none, .int .i64 n] w fun e w' => e = .returned (.slice none 0 0) ∧ w = w' := by
  go_enter Try.func21, Try.ntmps21
  go_wp2_with (go_at_call 18; refine (ok_nil _).mono ?_; rintro e w1 ⟨rfl, rfl⟩)
  go_ret
  exact ⟨rfl, rfl⟩
theorem number_nil (n : Int) (w : World) : Calls Try.prog 20 #[.pointer none, .int .i64 n] w fun e w' => e = .returned (.int .i64 0) ∧ w = w' := by
  go_enter Try.func20, Try.ntmps20
  go_wp2_with (go_at_call 21; refine (take_nil _ _).mono ?_; rintro e w1 ⟨rfl, rfl⟩)
  go_loop [5, 12] (fun v i => v = .int .i64 0 ∧ i = .int .i64 0) (fun _ _ => 0)
  case atStart => exact ⟨rfl, rfl⟩
  case round =>
    obtain ⟨rfl, rfl⟩ := hrel
    go_wp2
    go_ret
    exact ⟨rfl, rfl⟩
theorem u1_nil (w : World) : Calls Try.prog 9 #[.pointer none] w fun e w' => e = .returned (.int .i64 0) ∧ w = w' := by
  go_enter Try.func9, Try.ntmps9
  go_wp2_with (go_at_call 20; refine (number_nil _ _).mono ?_; rintro e w1 ⟨rfl, rfl⟩)
  go_ret
  exact ⟨rfl, rfl⟩
theorem u2_nil (w : World) : Calls Try.prog 11 #[.pointer none] w fun e w' => e = .returned (.int .i64 0) ∧ w = w' := by
  go_enter Try.func11, Try.ntmps11
  go_wp2_with (go_at_call 20; refine (number_nil _ _).mono ?_; rintro e w1 ⟨rfl, rfl⟩)
  go_ret
  exact ⟨rfl, rfl⟩
theorem u4_nil (w : World) : Calls Try.prog 12 #[.pointer none] w fun e w' => e = .returned (.int .i64 0) ∧ w = w' := by
  go_enter Try.func12, Try.ntmps12
  go_wp2_with (go_at_call 20; refine (number_nil _ _).mono ?_; rintro e w1 ⟨rfl, rfl⟩)
  go_ret
  exact ⟨rfl, rfl⟩
theorem bytes_nil (n : Int) (w : World) : Calls Try.prog 13 #[.pointer none, .int .i64 n] w fun e w' => e = .returned (.slice (some ⟨w.heap.size, 0, none⟩) 0 0) ∧ Below w.heap.size w w' := by
  go_enter Try.func13, Try.ntmps13
  go_wp2_with (first
    | (go_at_call 21; refine (take_nil _ _).mono ?_; rintro e w1 ⟨rfl, rfl⟩)
    | (go_at_call 19; refine (copied_any none 0 0 [] w 0 (Rd.nil _ _ _) (Nat.zero_le _) (by omega)).mono ?_; rintro e w2 ⟨rfl, hat2, hb2⟩))
  go_ret
  exact ⟨rfl, hb2⟩

theorem CursorNone_walk (w : World) : Calls Try.prog 4 #[] w fun e w' => e = .returned (.bool true) ∧ Below w.heap.size w w' := by
  go_enter Try.func4, Try.ntmps4
  go_wp2_with (first
    | (go_at_call 6; refine (begun_is w).mono ?_; rintro e w1 ⟨rfl, hb1⟩)
    | (go_at_call 9; refine (u1_nil _).mono ?_; rintro e w2 ⟨rfl, rfl⟩)
    | (go_at_call 11; refine (u2_nil _).mono ?_; rintro e w2 ⟨rfl, rfl⟩)
    | (go_at_call 12; refine (u4_nil _).mono ?_; rintro e w2 ⟨rfl, rfl⟩)
    | (go_at_call 13; refine (bytes_nil _ _).mono ?_; rintro e w3 ⟨rfl, hb3⟩)
    | (go_at_call 15; refine (at_nil _).mono ?_; rintro e w4 ⟨rfl, rfl⟩)
    | (go_at_call 16; refine (left_nil _).mono ?_; rintro e w4 ⟨rfl, rfl⟩)
    | (go_at_call 18; refine (ok_nil _).mono ?_; rintro e w4 ⟨rfl, rfl⟩))
  go_ret
  exact ⟨rfl, hb1.trans (hb3.mono hb1.size)⟩
end Go.Proofs.Yteikjaeplaedhaa
