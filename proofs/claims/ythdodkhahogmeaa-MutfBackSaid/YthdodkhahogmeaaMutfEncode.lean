/- What Encode of package mutf gives. Nothing is claimed here. -/
import Derived.Test.YthdodkhahogmeaaMutfEnc
import Derived.Test.YthdodkhahogmeaaArgs
namespace Go.Proofs.Ythdodkhahogmeaa
open Go.RowKit

theorem chars_at {us : List Int} (h : IsChars us) (k : Nat) : 0 ≤ us.getD k 0 ∧ us.getD k 0 < 65536 := by
  rcases Nat.lt_or_ge k us.length with hk | hk
  · rw [List.getD, List.getElem?_eq_getElem hk]; exact h _ (List.getElem_mem _)
  · rw [List.getD, List.getElem?_eq_none hk]; simp
theorem take_next (us : List Int) (k : Nat) (h : k < us.length) : us.take (k + 1) = us.take k ++ [us.getD k 0] := by
  rw [List.take_succ_eq_append_getElem h]; simp [List.getD, h]
theorem enc_take_len (us : List Int) (k : Nat) : (enc (us.take k)).length ≤ 3 * us.length := by
  have := enc_len (us.take k)
  have : (us.take k).length ≤ us.length := List.length_take_le' _ _
  omega

set_option maxRecDepth 100000 in
theorem encode_any (A : Option Addr) (n c : Nat) (us : List Int) (w : World) (B : Nat) (hr : Rd w B A n (cells .u16 us)) (hB : B ≤ w.heap.size) (hu : IsChars us) (hn : n ≤ 1000000) :
    Calls Try.prog 12 #[.slice A n c] w fun e w' => e = .returned (.string (strOfNums (enc us))) ∧ Below w.heap.size w w' := by
  obtain ⟨i0, hi0, hz0, hz1, hz2⟩ := info_parts u8info
  have hlen := hr.1
  rw [cells_len] at hlen
  have Hr := hide hr
  have Hu := hide hu
  have Hlen := hide hlen
  clear hr hu hlen
  go_enter Try.func12, Try.ntmps12
  go_wp2_with (at_make; refine wpList_make_own _ rfl _ _ 30 rfl w.heap.size 5 i0 _ 1 Try.underlying30 hi0 hz0 hz1 .i64 .i64 _ n rfl rfl rfl (by rw [hz2]; omega) (by unfold maxLen; omega) (Nat.le_refl _) ?_; intro w1 hown1 hg1)
  have Hb1 := hide (below_grown hg1)
  have Hown1 := hide hown1
  clear hg1 hown1
  go_loopw [3, 11] (fun ov iv wr => ∃ k : Nat, k ≤ n ∧ iv = .int .i64 k ∧ wr.ownsRow w.heap.size 5 1 ov (enc (us.take k)).length (cells .u8 (enc (us.take k))) ∧ Below w.heap.size w wr) (fun _ iv _ => n - (intOf iv).toNat)
  case atStart => exact ⟨0, Nat.zero_le _, rfl, Hown1.out, Hb1.out⟩
  case round =>
    obtain ⟨k, hk, rfl, hown, hb⟩ := hrel
    have Hown := hide hown
    have Hb := hide hb
    have Hel := enc_take_len us k
    rw [Hlen.out] at Hel
    clear hown hb Hown1 Hb1
    by_cases hlt : k < n
    · obtain ⟨g, o, rfl, hg, hc0⟩ := cells_at Hr.out hlt
      have hcell : wr.cell? ⟨g, o + k, none⟩ = some (.int .u16 (us.getD k 0)) := by rw [← hc0]; exact Hb.out.cell (p := ⟨g, o + k, none⟩) (by show g < _; omega)
      have hch := chars_at Hu.out k
      have Hst := hide (show enc (us.take (k + 1)) = enc (us.take k) ++ enc1 (us.getD k 0) by rw [take_next us k (by rw [Hlen.out]; exact hlt), enc_snoc])
      clear hc0
      generalize us.getD k 0 = x at *
      by_cases h0 : x = 0
      · subst h0
        go_wp2_with (at_builtin; go_loud (refine wpList_append_lits _ rfl (.tmp 17) (.tmp 18) 30 rfl w.heap.size 5 i0 _ 1 Try.underlying30 hi0 hz0 hz1 hz2 rfl _ _ _ rfl Hown.out _ 2 rfl rfl rfl (by unfold maxLen; omega) (by omega) Hb.out.size ?_); intro v2 w2 hown2 hg2)
        have Hown2 := hide hown2
        have Hb2 := hide (below_own Hb.out Hown.out hg2 Hb.out.size)
        clear hown2 hg2
        go_roundw
        case rel => exact ⟨k + 1, by omega, by go_num, by rw [Hst.out]; simpa [cells, enc1] using Hown2.out, Hb2.out⟩
        case measure => simp [intOf]; omega
      · have hx0 : ((x : Int) == 0) = false := by simp; omega
        have HA := hide (appendChar_any w.heap.size u3 (enc (us.take k)) x hch wr Hown.out (by omega) Hb.out.size)
        have He : Hid (enc1 x = put x) := hide (if_neg h0)
        clear h0
        go_wp2_with (go_at_call 18; refine HA.out.mono ?_; rintro e w2 ⟨v2, rfl, hown2, hg2⟩)
        have Hown2 := hide hown2
        have Hb2 := hide (below_own Hb.out Hown.out hg2 Hb.out.size)
        clear hown2 hg2
        go_roundw
        case rel => exact ⟨k + 1, by omega, by go_num, by rw [Hst.out, He.out]; exact Hown2.out, Hb2.out⟩
        case measure => simp [intOf]; omega
    · obtain rfl : k = n := by omega
      obtain ⟨A2, c2, rfl, hs, _⟩ := own_src Hown.out
      have hs2 := str_of (c := c2) hs.rd
      rw [List.take_of_length_le (Nat.le_of_eq Hlen.out)] at hs2
      have Hst := hide (show enc (us.take k) = enc us by rw [List.take_of_length_le (Nat.le_of_eq Hlen.out)])
      rw [Hst.out] at Hown hs
      clear hs
      rw [Hst.out] at Hel ⊢
      obtain ⟨es, hes⟩ : ∃ es, enc us = es := ⟨_, rfl⟩
      rw [hes] at hs2 Hel Hown ⊢
      have HE2 := hide hes
      clear hes
      go_wp2
      go_ret
      exact ⟨by rw [HE2.out]; rfl, Hb.out⟩
end Go.Proofs.Ythdodkhahogmeaa
