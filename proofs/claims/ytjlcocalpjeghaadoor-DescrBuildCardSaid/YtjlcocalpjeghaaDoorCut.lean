/- Cut of the first laws' package. Nothing is claimed here. -/
import Derived.Test.YtjlcocalpjeghaaDoorStr
import Derived.Test.YtjlcocalpjeghaaDoorProg
namespace Go.Proofs.YtjlcocalpjeghaaDoor
open Go.RowKit

/-- The first n bytes. -/
def cutOf (s : ByteArray) (n : Nat) : ByteArray := if n < s.size then s.extract 0 n else s
theorem cutOf_size (s : ByteArray) (n : Nat) : (cutOf s n).size ≤ n := by
  unfold cutOf
  split
  · rw [← nums_len, nums_cut, List.length_take, List.length_drop, nums_len]; omega
  · omega
theorem cut_any (s : ByteArray) (n : Nat) (w : World) (hn : n ≤ 1000000) : Calls Tryd.prog 8 #[.string s, .int .i64 n] w fun e w' => e = .returned (.string (cutOf s n)) ∧ w = w' := by
  have HC := hide (show cutOf s n = if n < s.size then s.extract 0 n else s from rfl)
  by_cases h : n < s.size
  · rw [if_pos h] at HC
    go_enter Tryd.func8, Tryd.ntmps8
    go_wp2
    go_ret
    exact ⟨by rw [HC.out]; rfl, rfl⟩
  · rw [if_neg h] at HC
    go_enter Tryd.func8, Tryd.ntmps8
    go_wp2
    go_ret
    exact ⟨by rw [HC.out]; rfl, rfl⟩
end Go.Proofs.YtjlcocalpjeghaaDoor
