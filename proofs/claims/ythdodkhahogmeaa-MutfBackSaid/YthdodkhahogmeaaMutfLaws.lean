/- The small functions of mutf's laws. Nothing is claimed here. -/
import Derived.Test.YthdodkhahogmeaaMutfROut
import Derived.Test.YthdodkhahogmeaaMutfRDecode
namespace Go.Proofs.Ythdodkhahogmeaa
open Go.RowKit

/-- The first n bytes. -/
def cutOf (s : ByteArray) (n : Nat) : ByteArray := if n < s.size then s.extract 0 n else s
theorem cutOf_size (s : ByteArray) (n : Nat) : (cutOf s n).size ≤ n := by
  unfold cutOf
  split
  · rw [← nums_len, nums_cut, List.length_take, List.length_drop, nums_len]; omega
  · omega
theorem cut_any (s : ByteArray) (n : Nat) (w : World) (hn : n ≤ 1000000) : Calls Try.prog 8 #[.string s, .int .i64 n] w fun e w' => e = .returned (.string (cutOf s n)) ∧ w = w' := by
  have HC := hide (show cutOf s n = if n < s.size then s.extract 0 n else s from rfl)
  by_cases h : n < s.size
  · rw [if_pos h] at HC
    go_enter Try.func8, Try.ntmps8
    go_wp2
    go_ret
    exact ⟨by rw [HC.out]; rfl, rfl⟩
  · rw [if_neg h] at HC
    go_enter Try.func8, Try.ntmps8
    go_wp2
    go_ret
    exact ⟨by rw [HC.out]; rfl, rfl⟩

theorem same_yes (A A' : Option Addr) (n c c' : Nat) (us : List Int) (w : World) (B B' : Nat) (hr : Rd w B A n (cells .u16 us)) (hr' : Rd w B' A' n (cells .u16 us)) (hn : n ≤ 1000000) :
    Calls Try.prog 11 #[.slice A n c, .slice A' n c'] w fun e w' => e = .returned (.bool true) ∧ ∃ m, w' = w.drewN m := by
  have Hr := hide hr
  have Hr' := hide hr'
  clear hr hr'
  go_enter Try.func11, Try.ntmps11
  go_wp2_with fail
  go_loopw [5] (fun iv wr => ∃ k m : Nat, k ≤ n ∧ iv = .int .i64 k ∧ wr = w.drewN m) (fun iv _ => n - (intOf iv).toNat)
  case atStart => exact ⟨0, 0, Nat.zero_le _, rfl, rfl⟩
  case round =>
    obtain ⟨k, m, hk, rfl, rfl⟩ := hrel
    by_cases hlt : k < n
    · obtain ⟨g, o, rfl, _, hc0⟩ := cells_at Hr.out hlt
      obtain ⟨g', o', rfl, _, hc1⟩ := cells_at Hr'.out hlt
      generalize us.getD k 0 = x at *
      have hlt' : (k : Int) < (n : Int) := by omega
      go_wp2
      go_quiet (fail)
      go_wp2
      go_roundw
      case rel => exact ⟨k + 1, _, by omega, by go_num, rfl⟩
      case measure => simp [intOf]; omega
    · obtain rfl : k = n := by omega
      go_wp2
      go_ret
      exact ⟨rfl, m, rfl⟩

set_option maxRecDepth 100000 in
theorem mbegun_is (w : World) : Calls Try.prog 7 #[] w fun e w' => e = .returned (.bool true) ∧ Below w.heap.size w w' := by
  have HD : Hid (∀ W, Calls Try.prog 9 #[.string ⟨#[97, 192, 128]⟩] W (Decoded (some [97, 0]) W)) := hide fun W => decode_any ⟨#[97, 192, 128]⟩ W (by decide)
  go_enter Try.func7, Try.ntmps7
  go_wp2_with fail
  refine (HD.out w).mono ?_
  rintro e w1 ⟨hb1, ⟨h, _⟩ | ⟨u, v, h, rfl, hown⟩⟩
  · cases h
  · cases h
    obtain ⟨A, c, rfl, hs, _⟩ := own_src hown
    have hrd := hs.rd
    obtain ⟨g, o, rfl, _, hcell⟩ := cells_at hrd (j := 1) (by decide)
    have HE := hide (encode_any _ _ c [97, 0] w1 _ hrd (Nat.le_refl _) (by intro x hx; simp at hx; omega) (by decide))
    go_wp2_with fail
    refine HE.out.mono ?_
    rintro e w2 ⟨rfl, hb2⟩
    have hes : strOfNums (enc [97, 0]) = ⟨#[97, 192, 128]⟩ := by decide
    rw [hes]
    have HO := hide (out_any (some ⟨w2.heap.size, 0, none⟩) 2 2 [55357, 56832] (w2.alloc (.cells #[.int .u16 55357, .int .u16 56832] 35)) (w2.heap.size + 1) (Rd.made w2 35 [.int .u16 55357, .int .u16 56832]) (by simp) (by intro x hx; simp at hx; omega) (by decide))
    have hb := hb1.trans (hb2.mono hb1.size)
    have hb' := hb.alloc hb.size (.cells #[.int .u16 55357, .int .u16 56832] 35)
    clear hes hb1 hb2 hown hs hrd hcell
    go_wp2_with fail
    refine HO.out.mono ?_
    rintro e w3 ⟨v, rfl, hown3, hb3⟩
    rw [show outs [55357, 56832] = [240, 159, 152, 128] by decide] at hown3
    have hown4 : w3.ownsRow (w2.alloc (.cells #[.int .u16 55357, .int .u16 56832] 35)).heap.size 5 1 v 4 (cells .u8 [240, 159, 152, 128]) := hown3
    obtain ⟨A3, c3, rfl, hs3, _⟩ := own_src hown4
    have hstr := str_of (c := c3) hs3.rd
    rw [show strOfNums [240, 159, 152, 128] = ⟨#[240, 159, 152, 128]⟩ by decide] at hstr
    have Hb := hide (hb'.trans (hb3.mono hb'.size))
    clear hown3 hown4 hs3 hb hb' hb3
    go_wp2
    go_ret
    exact ⟨rfl, Hb.out⟩
end Go.Proofs.Ythdodkhahogmeaa
