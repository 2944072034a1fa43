/- How many opcodes the document keeps, as the statement counts them. Nothing is claimed here. -/
import Derived.Test.YtllbbmofinminaaInstrRef2
namespace Go.Proofs.Ytllbbmofinminaa
open Go.RowKit

/-- How many of the first j numbers are kept. -/
def keptTo : Nat → Nat
  | 0 => 0
  | j + 1 => keptTo j + if kept j then 1 else 0
theorem keptTo_le (j : Nat) : keptTo j ≤ j := by
  induction j with
  | zero => exact Nat.le_refl _
  | succ j ih => unfold keptTo; split <;> omega

set_option maxRecDepth 100000 in
theorem ikept_any (w : World) :
    Calls Try.prog 12 #[] w fun e w' => e = .returned (.int .i64 (keptTo 256 : Nat)) ∧ Below w.heap.size w w' := by
  have HK := hide rkept_any
  obtain ⟨N, hN⟩ : ∃ N, keptTo 256 = N := ⟨_, rfl⟩
  rw [hN]
  have HN := hide hN
  clear hN
  go_enter Try.func12, Try.ntmps12
  go_wp2_with fail
  go_loopw [1, 2] (fun nv iv wr => ∃ j : Nat, j ≤ 256 ∧ iv = .int .i64 j ∧ nv = .int .i64 (keptTo j : Nat) ∧ Below w.heap.size w wr) (fun _ iv _ => 256 - (intOf iv).toNat)
  case atStart => exact ⟨0, by omega, rfl, rfl, Below.refl _ _⟩
  case round =>
    obtain ⟨j, hj, rfl, rfl, hb⟩ := hrel
    have HB := hide hb
    clear hb
    have hle := keptTo_le j
    have Hs : Hid (keptTo (j + 1) = keptTo j + if kept j then 1 else 0) := rfl
    by_cases hlt : j < 256
    · generalize keptTo j = n at *
      have C := hide (HK.out (j : Int))
      generalize kept (j : Int) = t at *
      cases t
      · go_wp2_with fail
        refine (C.out _).mono ?_
        rintro e w2 ⟨rfl, hb2⟩
        have HB2 := hide (HB.out.trans (hb2.mono HB.out.size))
        clear hb2
        go_wp2_with fail
        go_roundw
        case rel => exact ⟨j + 1, by omega, by go_num, int_eq6 (by rw [Hs.out]; simp), HB2.out⟩
        case measure => simp [intOf]; omega
      · go_wp2_with fail
        refine (C.out _).mono ?_
        rintro e w2 ⟨rfl, hb2⟩
        have HB2 := hide (HB.out.trans (hb2.mono HB.out.size))
        clear hb2
        go_wp2_with fail
        go_roundw
        case rel => exact ⟨j + 1, by omega, by go_num, int_eq6 (by rw [Hs.out]; simp), HB2.out⟩
        case measure => simp [intOf]; omega
    · obtain rfl : j = 256 := by omega
      go_wp2_with fail
      go_ret
      exact ⟨by rw [← HN.out]; rfl, HB.out⟩
end Go.Proofs.Ytllbbmofinminaa
