/- What the documents' writer of texts gives. Nothing is claimed here. -/
import Derived.Test.YthdodkhahogmeaaMutfEncode
namespace Go.Proofs.Ythdodkhahogmeaa
open Go.RowKit

theorem and63_u16 (x : Int) (h0 : 0 ≤ x) (h1 : x < 65536) : bits .and .u16 x 63 = x % 64 := bits_mask .u16 16 (by decide) wraps_u16 6 (by decide) x h0 h1
theorem and63_u32 (x : Int) (h0 : 0 ≤ x) (h1 : x < 4294967296) : bits .and .u32 x 63 = x % 64 := bits_mask .u32 32 (by decide) wraps_u32 6 (by decide) x h0 h1

set_option maxHeartbeats 1000000 in
set_option maxRecDepth 100000 in
theorem rencode_any (A : Option Addr) (n c : Nat) (us : List Int) (w : World) (B : Nat) (hr : Rd w B A n (cells .u16 us)) (hB : B ≤ w.heap.size) (hu : IsChars us) (hn : n ≤ 1000000) :
    Calls Try.prog 13 #[.slice A n c] w fun e w' => e = .returned (.string (strOfNums (enc us))) ∧ Below w.heap.size w w' := by
  obtain ⟨i0, hi0, hz0, hz1, hz2⟩ := info_parts u8info
  have hlen := hr.1
  rw [cells_len] at hlen
  have Hr := hide hr
  have Hu := hide hu
  have Hlen := hide hlen
  clear hr hu hlen
  go_enter Try.func13, Try.ntmps13
  go_wp2_with fail
  go_loopw [3, 4] (fun ov iv wr => ∃ k : Nat, k ≤ n ∧ iv = .int .i64 k ∧ wr.ownsRow w.heap.size 5 1 ov (enc (us.take k)).length (cells .u8 (enc (us.take k))) ∧ Below w.heap.size w wr) (fun _ iv _ => n - (intOf iv).toNat)
  case atStart => exact ⟨0, Nat.zero_le _, rfl, World.ownsRow_nil _ _ _ _, Below.refl _ _⟩
  case round =>
    obtain ⟨k, hk, rfl, hown, hb⟩ := hrel
    have Hown := hide hown
    have Hb := hide hb
    have Hel := enc_take_len us k
    rw [Hlen.out] at Hel
    clear hown hb
    by_cases hlt : k < n
    · obtain ⟨g, o, rfl, hg, hc0⟩ := cells_at Hr.out hlt
      have hcell : wr.cell? ⟨g, o + k, none⟩ = some (.int .u16 (us.getD k 0)) := by rw [← hc0]; exact Hb.out.cell (p := ⟨g, o + k, none⟩) (by show g < _; omega)
      have hch := chars_at Hu.out k
      have Hst := hide (show enc (us.take (k + 1)) = enc (us.take k) ++ enc1 (us.getD k 0) by rw [take_next us k (by rw [Hlen.out]; exact hlt), enc_snoc])
      clear hc0
      generalize us.getD k 0 = x at *
      have e1 := and63_u16 x hch.1 hch.2
      have e2 := and63_u16 (x / 64) (by omega) (by omega)
      by_cases h0 : x = 0
      · subst h0
        clear e1 e2
        have e1 : bits .and .u16 0 63 = 0 := by decide
        go_wp2_with (at_builtin; go_loud (refine wpList_append_lits _ rfl (.tmp 47) (.tmp 56) 30 rfl w.heap.size 5 i0 _ 1 Try.underlying30 hi0 hz0 hz1 hz2 rfl _ _ _ rfl Hown.out _ 2 rfl rfl rfl (by unfold maxLen; omega) (by omega) Hb.out.size ?_); intro v2 w2 hown2 hg2)
        have Hown2 := hide hown2
        have Hb2 := hide (below_own Hb.out Hown.out hg2 Hb.out.size)
        clear hown2 hg2
        go_roundw
        case rel => exact ⟨k + 1, by omega, by go_num, by rw [Hst.out]; simpa [cells, enc1] using Hown2.out, Hb2.out⟩
        case measure => simp [intOf]; omega
      · have hx1 : 1 ≤ x := by omega
        have He : Hid (enc1 x = put x) := hide (if_neg h0)
        clear h0
        by_cases h1 : x ≤ 127
        · have Hp : Hid (put x = [x]) := hide (by unfold put; rw [if_pos (by omega)])
          clear e1 e2
          go_wp2_with (at_builtin; go_loud (refine wpList_append_lits _ rfl (.tmp 39) (.tmp 42) 30 rfl w.heap.size 5 i0 _ 1 Try.underlying30 hi0 hz0 hz1 hz2 rfl _ _ _ rfl Hown.out _ 1 rfl rfl rfl (by unfold maxLen; omega) (by omega) Hb.out.size ?_); intro v2 w2 hown2 hg2)
          have Hown2 := hide hown2
          have Hb2 := hide (below_own Hb.out Hown.out hg2 Hb.out.size)
          clear hown2 hg2
          go_roundw
          case rel => exact ⟨k + 1, by omega, by go_num, by rw [Hst.out, He.out, Hp.out]; simpa [cells] using Hown2.out, Hb2.out⟩
          case measure => simp [intOf]; omega
        · by_cases h2 : x ≤ 2047
          · have Hp : Hid (put x = [192 + x / 64, 128 + x % 64]) := hide (by unfold put; rw [if_neg (by omega), if_pos (by omega)])
            clear e2
            go_wp2_with (at_builtin; go_loud (refine wpList_append_lits _ rfl (.tmp 47) (.tmp 56) 30 rfl w.heap.size 5 i0 _ 1 Try.underlying30 hi0 hz0 hz1 hz2 rfl _ _ _ rfl Hown.out _ 2 rfl rfl rfl (by unfold maxLen; omega) (by omega) Hb.out.size ?_); intro v2 w2 hown2 hg2)
            have Hown2 := hide hown2
            have Hb2 := hide (below_own Hb.out Hown.out hg2 Hb.out.size)
            clear hown2 hg2
            go_roundw
            case rel => exact ⟨k + 1, by omega, by go_num, by rw [Hst.out, He.out, Hp.out]; simpa [cells] using Hown2.out, Hb2.out⟩
            case measure => simp [intOf]; omega
          · have Hp : Hid (put x = [224 + x / 4096, 128 + x / 64 % 64, 128 + x % 64]) := hide (by unfold put; rw [if_neg (by omega), if_neg (by omega)])
            go_wp2_with (at_builtin; go_loud (refine wpList_append_lits _ rfl (.tmp 16) (.tmp 30) 30 rfl w.heap.size 5 i0 _ 1 Try.underlying30 hi0 hz0 hz1 hz2 rfl _ _ _ rfl Hown.out _ 3 rfl rfl rfl (by unfold maxLen; omega) (by omega) Hb.out.size ?_); intro v2 w2 hown2 hg2)
            have Hown2 := hide hown2
            have Hb2 := hide (below_own Hb.out Hown.out hg2 Hb.out.size)
            clear hown2 hg2
            go_roundw
            case rel => exact ⟨k + 1, by omega, by go_num, by rw [Hst.out, He.out, Hp.out]; simpa [cells] using Hown2.out, Hb2.out⟩
            case measure => simp [intOf]; omega
    · obtain rfl : k = n := by omega
      obtain ⟨A2, c2, rfl, hs, _⟩ := own_src Hown.out
      have hs2 := str_of (c := c2) hs.rd
      rw [List.take_of_length_le (Nat.le_of_eq Hlen.out)] at hs2
      have Hst := hide (show enc (us.take k) = enc us by rw [List.take_of_length_le (Nat.le_of_eq Hlen.out)])
      rw [Hst.out] at Hown hs
      clear hs
      rw [Hst.out] at Hel ⊢
      obtain ⟨es, hes⟩ : ∃ es, enc us = es := ⟨_, rfl⟩
      rw [hes] at hs2 Hel Hown ⊢
      have HE2 := hide hes
      clear hes
      go_wp2
      go_ret
      exact ⟨by rw [HE2.out]; rfl, Hb.out⟩
end Go.Proofs.Ythdodkhahogmeaa
