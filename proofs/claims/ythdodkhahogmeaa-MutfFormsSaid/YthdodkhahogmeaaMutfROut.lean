/- What the documents' writer of UTF-8 gives. Nothing is claimed here. -/
import Derived.Test.YthdodkhahogmeaaMutfOut
import Derived.Test.YthdodkhahogmeaaMutfREncode
namespace Go.Proofs.Ythdodkhahogmeaa
open Go.RowKit

set_option maxHeartbeats 4000000 in
set_option maxRecDepth 100000 in
theorem rout_any (A : Option Addr) (n c : Nat) (us : List Int) (w : World) (B : Nat) (hr : Rd w B A n (cells .u16 us)) (hB : B ≤ w.heap.size) (hu : IsChars us) (hn : n ≤ 1000000) :
    Calls Try.prog 15 #[.slice A n c] w (Made8 w (outs us)) := by
  obtain ⟨i0, hi0, hz0, hz1, hz2⟩ := info_parts u8info
  have hlen := hr.1
  rw [cells_len] at hlen
  have Hr := hide hr
  have Hu := hide hu
  have Hlen := hide hlen
  clear hr hu hlen
  go_enter Try.func15, Try.ntmps15
  go_wp2_with fail
  go_loopw [3, 4] (fun ov iv wr => ∃ (k : Nat) (ys : List Int), k ≤ n ∧ iv = .int .i64 k ∧ ys.length ≤ 4 * k ∧ outs us = ys ++ outs (us.drop k) ∧ wr.ownsRow w.heap.size 5 1 ov ys.length (cells .u8 ys) ∧ Below w.heap.size w wr) (fun _ iv _ => n - (intOf iv).toNat)
  case atStart => exact ⟨0, [], Nat.zero_le _, rfl, by simp, by simp, World.ownsRow_nil _ _ _ _, Below.refl _ _⟩
  case round =>
    obtain ⟨k, ys, hk, rfl, hyl, ho, hown, hb⟩ := hrel
    have Hown := hide hown
    have Hb := hide hb
    have Ho := hide ho
    clear hown hb ho
    by_cases hlt : k < n
    · obtain ⟨g, o, rfl, hg, hc0⟩ := cells_at Hr.out hlt
      have hcell : wr.cell? ⟨g, o + k, none⟩ = some (.int .u16 (us.getD k 0)) := by rw [← hc0]; exact Hb.out.cell (p := ⟨g, o + k, none⟩) (by show g < _; omega)
      have hch := chars_at Hu.out k
      clear hc0
      by_cases hp : k + 1 < us.length ∧ isHi (us.getD k 0) = true ∧ isLo (us.getD (k + 1) 0) = true
      · have Hst := hide (outs_pair us k hp.1 hp.2.1 hp.2.2)
        have hk1 : k + 1 < n := by rw [← Hlen.out]; exact hp.1
        have h1 := (isHi_iff _).1 hp.2.1
        have h2 := (isLo_iff _).1 hp.2.2
        obtain ⟨g', o', e', _, hc1⟩ := cells_at Hr.out hk1
        cases e'
        have hcell1 : wr.cell? ⟨g, o + (k + 1), none⟩ = some (.int .u16 (us.getD (k + 1) 0)) := by rw [← hc1]; exact Hb.out.cell (p := ⟨g, o + (k + 1), none⟩) (by show g < _; omega)
        have hch1 := chars_at Hu.out (k + 1)
        clear hc1 hp
        generalize us.getD k 0 = x at *
        generalize us.getD (k + 1) 0 = y at *
        obtain ⟨p, hp⟩ : ∃ p, pairOf x y = p := ⟨_, rfl⟩
        have hp2 : p = 65536 + (x - 55296) * 1024 + (y - 56320) := hp.symm
        have f1 : 65536 + (x - 55296) * 1024 + y - 56320 = p := by omega
        have hp3 : 65536 ≤ p ∧ p < 1114112 := by omega
        have e1 := and63_u32 p (by omega) (by omega)
        have e2 := and63_u32 (p / 64) (by omega) (by omega)
        have e3 := and63_u32 (p / 4096) (by omega) (by omega)
        have Hpp := hide hp
        clear hp2 hp
        go_wp2_with (at_builtin; go_loud (refine wpList_append_lits _ rfl (.tmp 62) (.tmp 81) 30 rfl w.heap.size 5 i0 _ 1 Try.underlying30 hi0 hz0 hz1 hz2 rfl _ _ _ rfl Hown.out _ 4 rfl rfl rfl (by unfold maxLen; omega) (by omega) Hb.out.size ?_); intro v2 w2 hown2 hg2)
        have Hown2 := hide hown2
        have Hb2 := hide (below_own Hb.out Hown.out hg2 Hb.out.size)
        clear hown2 hg2
        go_roundw
        case rel => exact ⟨k + 2, ys ++ four p, by omega, by go_num, by simp [four_len]; omega, by rw [Ho.out, Hst.out, Hpp.out, List.append_assoc], by simpa [cells, four] using Hown2.out, Hb2.out⟩
        case measure => simp [intOf]; omega
      · have hn0 : k + 1 < us.length → isHi (us.getD k 0) = true → isLo (us.getD (k + 1) 0) = false := fun a b => by
          cases e : isLo (us.getD (k + 1) 0)
          · rfl
          · exact absurd ⟨a, b, e⟩ hp
        have Hst := hide (outs_alone us k (by rw [Hlen.out]; exact hlt) hn0)
        clear hp
        by_cases hs : 55296 ≤ us.getD k 0 ∧ us.getD k 0 ≤ 57343
        · have Hal : Hid (alone (us.getD k 0) = [63]) := hide (by
            unfold alone
            rw [if_pos]
            have : us.getD k 0 ≤ 56319 ∨ 56320 ≤ us.getD k 0 := by omega
            rcases this with a | a
            · simp only [Bool.or_eq_true, isHi_iff, isLo_iff]; omega
            · simp only [Bool.or_eq_true, isHi_iff, isLo_iff]; omega)
          obtain ⟨hs1, hs2⟩ := hs
          by_cases hlo : us.getD k 0 < 56320
          · have q1 : isHi (us.getD k 0) = true := (isHi_iff _).2 (by omega)
            by_cases hk1 : k + 1 < n
            · obtain ⟨g', o', e', _, hc1⟩ := cells_at Hr.out hk1
              cases e'
              have hcell1 : wr.cell? ⟨g, o + (k + 1), none⟩ = some (.int .u16 (us.getD (k + 1) 0)) := by rw [← hc1]; exact Hb.out.cell (p := ⟨g, o + (k + 1), none⟩) (by show g < _; omega)
              have q2 := hn0 (by rw [Hlen.out]; exact hk1) q1
              have q3 : us.getD (k + 1) 0 < 56320 ∨ 57343 < us.getD (k + 1) 0 := by
                have : ¬ (56320 ≤ us.getD (k + 1) 0 ∧ us.getD (k + 1) 0 ≤ 57343) := fun c => by rw [(isLo_iff _).2 c] at q2; cases q2
                omega
              have hch1 := chars_at Hu.out (k + 1)
              clear hc1 hn0 q1 q2
              generalize us.getD k 0 = x at *
              generalize us.getD (k + 1) 0 = y at *
              rcases q3 with q3 | q3
              all_goals
                go_wp2_with (at_builtin; go_loud (refine wpList_append_lits _ rfl (.tmp 83) (.tmp 84) 30 rfl w.heap.size 5 i0 _ 1 Try.underlying30 hi0 hz0 hz1 hz2 rfl _ _ _ rfl Hown.out _ 1 rfl rfl rfl (by unfold maxLen; omega) (by omega) Hb.out.size ?_); intro v2 w2 hown2 hg2)
                have Hown2 := hide hown2
                have Hb2 := hide (below_own Hb.out Hown.out hg2 Hb.out.size)
                clear hown2 hg2
                go_roundw
                case rel => exact ⟨k + 1, ys ++ [63], by omega, by go_num, by simp; omega, by rw [Ho.out, Hst.out, Hal.out, List.append_assoc], by simpa [cells] using Hown2.out, Hb2.out⟩
                case measure => simp [intOf]; omega
            · clear hn0 q1
              generalize us.getD k 0 = x at *
              go_wp2_with (at_builtin; go_loud (refine wpList_append_lits _ rfl (.tmp 83) (.tmp 84) 30 rfl w.heap.size 5 i0 _ 1 Try.underlying30 hi0 hz0 hz1 hz2 rfl _ _ _ rfl Hown.out _ 1 rfl rfl rfl (by unfold maxLen; omega) (by omega) Hb.out.size ?_); intro v2 w2 hown2 hg2)
              have Hown2 := hide hown2
              have Hb2 := hide (below_own Hb.out Hown.out hg2 Hb.out.size)
              clear hown2 hg2
              go_roundw
              case rel => exact ⟨k + 1, ys ++ [63], by omega, by go_num, by simp; omega, by rw [Ho.out, Hst.out, Hal.out, List.append_assoc], by simpa [cells] using Hown2.out, Hb2.out⟩
              case measure => simp [intOf]; omega
          · clear hn0
            generalize us.getD k 0 = x at *
            go_wp2_with (at_builtin; go_loud (refine wpList_append_lits _ rfl (.tmp 83) (.tmp 84) 30 rfl w.heap.size 5 i0 _ 1 Try.underlying30 hi0 hz0 hz1 hz2 rfl _ _ _ rfl Hown.out _ 1 rfl rfl rfl (by unfold maxLen; omega) (by omega) Hb.out.size ?_); intro v2 w2 hown2 hg2)
            have Hown2 := hide hown2
            have Hb2 := hide (below_own Hb.out Hown.out hg2 Hb.out.size)
            clear hown2 hg2
            go_roundw
            case rel => exact ⟨k + 1, ys ++ [63], by omega, by go_num, by simp; omega, by rw [Ho.out, Hst.out, Hal.out, List.append_assoc], by simpa [cells] using Hown2.out, Hb2.out⟩
            case measure => simp [intOf]; omega
        · have Hal : Hid (alone (us.getD k 0) = put (us.getD k 0)) := hide (by
            unfold alone
            rw [if_neg]
            simp only [Bool.or_eq_true, isHi_iff, isLo_iff]; omega)
          clear hn0
          generalize us.getD k 0 = x at *
          have e1 := and63_u32 x (by omega) (by omega)
          have e2 := and63_u32 (x / 64) (by omega) (by omega)
          have hs' : x < 55296 ∨ 57343 < x := by omega
          clear hs
          by_cases h1 : x ≤ 127
          · have Hp : Hid (put x = [x]) := hide (by unfold put; rw [if_pos (by omega)])
            clear e1 e2 hs'
            go_wp2_with (at_builtin; go_loud (refine wpList_append_lits _ rfl (.tmp 105) (.tmp 108) 30 rfl w.heap.size 5 i0 _ 1 Try.underlying30 hi0 hz0 hz1 hz2 rfl _ _ _ rfl Hown.out _ 1 rfl rfl rfl (by unfold maxLen; omega) (by omega) Hb.out.size ?_); intro v2 w2 hown2 hg2)
            have Hown2 := hide hown2
            have Hb2 := hide (below_own Hb.out Hown.out hg2 Hb.out.size)
            clear hown2 hg2
            go_roundw
            case rel => exact ⟨k + 1, ys ++ [x], by omega, by go_num, by simp; omega, by rw [Ho.out, Hst.out, Hal.out, Hp.out, List.append_assoc], by simpa [cells] using Hown2.out, Hb2.out⟩
            case measure => simp [intOf]; omega
          · by_cases h2 : x ≤ 2047
            · have Hp : Hid (put x = [192 + x / 64, 128 + x % 64]) := hide (by unfold put; rw [if_neg (by omega), if_pos (by omega)])
              clear e2 hs'
              go_wp2_with (at_builtin; go_loud (refine wpList_append_lits _ rfl (.tmp 113) (.tmp 122) 30 rfl w.heap.size 5 i0 _ 1 Try.underlying30 hi0 hz0 hz1 hz2 rfl _ _ _ rfl Hown.out _ 2 rfl rfl rfl (by unfold maxLen; omega) (by omega) Hb.out.size ?_); intro v2 w2 hown2 hg2)
              have Hown2 := hide hown2
              have Hb2 := hide (below_own Hb.out Hown.out hg2 Hb.out.size)
              clear hown2 hg2
              go_roundw
              case rel => exact ⟨k + 1, ys ++ [192 + x / 64, 128 + x % 64], by omega, by go_num, by simp; omega, by rw [Ho.out, Hst.out, Hal.out, Hp.out, List.append_assoc], by simpa [cells] using Hown2.out, Hb2.out⟩
              case measure => simp [intOf]; omega
            · have Hp : Hid (put x = [224 + x / 4096, 128 + x / 64 % 64, 128 + x % 64]) := hide (by unfold put; rw [if_neg (by omega), if_neg (by omega)])
              rcases hs' with hs' | hs'
              all_goals
                go_wp2_with (at_builtin; go_loud (refine wpList_append_lits _ rfl (.tmp 86) (.tmp 100) 30 rfl w.heap.size 5 i0 _ 1 Try.underlying30 hi0 hz0 hz1 hz2 rfl _ _ _ rfl Hown.out _ 3 rfl rfl rfl (by unfold maxLen; omega) (by omega) Hb.out.size ?_); intro v2 w2 hown2 hg2)
                have Hown2 := hide hown2
                have Hb2 := hide (below_own Hb.out Hown.out hg2 Hb.out.size)
                clear hown2 hg2
                go_roundw
                case rel => exact ⟨k + 1, ys ++ [224 + x / 4096, 128 + x / 64 % 64, 128 + x % 64], by omega, by go_num, by simp; omega, by rw [Ho.out, Hst.out, Hal.out, Hp.out, List.append_assoc], by simpa [cells] using Hown2.out, Hb2.out⟩
                case measure => simp [intOf]; omega
    · obtain rfl : k = n := by omega
      have Hst := hide (show outs (us.drop k) = [] by rw [List.drop_eq_nil_of_le (Nat.le_of_eq Hlen.out)]; rfl)
      go_wp2
      go_ret
      refine ⟨u3, rfl, ?_, Hb.out⟩
      rw [Ho.out, Hst.out, List.append_nil]
      exact Hown.out
end Go.Proofs.Ythdodkhahogmeaa
