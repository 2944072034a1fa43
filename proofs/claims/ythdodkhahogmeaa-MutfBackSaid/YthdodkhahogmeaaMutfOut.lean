/- What Out of package mutf gives. Nothing is claimed here. -/
import Derived.Test.YthdodkhahogmeaaMutfEncode
import Derived.StillTailTactics
namespace Go.Proofs.Ythdodkhahogmeaa
open Go.RowKit

theorem drop_next (us : List Int) (k : Nat) (h : k < us.length) : us.drop k = us.getD k 0 :: us.drop (k + 1) := by
  rw [List.drop_eq_getElem_cons h]; simp [List.getD, h]
theorem outs_pair (us : List Int) (k : Nat) (h : k + 1 < us.length) (h1 : isHi (us.getD k 0) = true) (h2 : isLo (us.getD (k + 1) 0) = true) :
    outs (us.drop k) = four (pairOf (us.getD k 0) (us.getD (k + 1) 0)) ++ outs (us.drop (k + 2)) := by
  rw [drop_next us k (by omega), drop_next us (k + 1) h, outs, h1, h2]
  simp
theorem outs_alone (us : List Int) (k : Nat) (h : k < us.length) (hn : k + 1 < us.length → isHi (us.getD k 0) = true → isLo (us.getD (k + 1) 0) = false) :
    outs (us.drop k) = alone (us.getD k 0) ++ outs (us.drop (k + 1)) := by
  rw [drop_next us k h]
  by_cases h1 : k + 1 < us.length
  · rw [drop_next us (k + 1) h1, outs]
    cases e : isHi (us.getD k 0)
    · simp
    · rw [hn h1 e]; simp
  · have : us.drop (k + 1) = [] := List.drop_eq_nil_of_le (by omega)
    rw [this]
    simp [outs]
theorem alone_len (c : Int) : (alone c).length ≤ 3 := by
  unfold alone
  split
  · simp
  · exact (put_len c).2
theorem four_len (v : Int) : (four v).length = 4 := rfl
theorem isHi_iff (c : Int) : isHi c = true ↔ 55296 ≤ c ∧ c ≤ 56319 := by simp [isHi]
theorem isLo_iff (c : Int) : isLo c = true ↔ 56320 ≤ c ∧ c ≤ 57343 := by simp [isLo]

/-- A slice of bytes of the call's own. -/
def Made8 (w : World) (ys : List Int) (e : Ending) (w' : World) : Prop :=
  ∃ v, e = .returned v ∧ w'.ownsRow w.heap.size 5 1 v ys.length (cells .u8 ys) ∧ Below w.heap.size w w'

set_option maxHeartbeats 2000000 in
set_option maxRecDepth 100000 in
theorem out_any (A : Option Addr) (n c : Nat) (us : List Int) (w : World) (B : Nat) (hr : Rd w B A n (cells .u16 us)) (hB : B ≤ w.heap.size) (hu : IsChars us) (hn : n ≤ 1000000) :
    Calls Try.prog 14 #[.slice A n c] w (Made8 w (outs us)) := by
  obtain ⟨i0, hi0, hz0, hz1, hz2⟩ := info_parts u8info
  have hlen := hr.1
  rw [cells_len] at hlen
  have Hr := hide hr
  have Hu := hide hu
  have Hlen := hide hlen
  clear hr hu hlen
  go_enter Try.func14, Try.ntmps14
  go_wp2_with (at_make; refine wpList_make_own _ rfl _ _ 30 rfl w.heap.size 5 i0 _ 1 Try.underlying30 hi0 hz0 hz1 .i64 .i64 _ n rfl rfl rfl (by rw [hz2]; omega) (by unfold maxLen; omega) (Nat.le_refl _) ?_; intro w1 hown1 hg1)
  have Hb1 := hide (below_grown hg1)
  have Hown1 := hide hown1
  clear hg1 hown1
  go_loopw [3, 4] (fun ov iv wr => ∃ (k : Nat) (ys : List Int), k ≤ n ∧ iv = .int .i64 k ∧ ys.length ≤ 4 * k ∧ outs us = ys ++ outs (us.drop k) ∧ wr.ownsRow w.heap.size 5 1 ov ys.length (cells .u8 ys) ∧ Below w.heap.size w wr) (fun _ iv _ => n - (intOf iv).toNat)
  case atStart => exact ⟨0, [], Nat.zero_le _, rfl, by simp, by simp, Hown1.out, Hb1.out⟩
  case round =>
    obtain ⟨k, ys, hk, rfl, hyl, ho, hown, hb⟩ := hrel
    have Hown := hide hown
    have Hb := hide hb
    have Ho := hide ho
    clear hown hb ho Hown1 Hb1
    by_cases hlt : k < n
    · obtain ⟨g, o, rfl, hg, hc0⟩ := cells_at Hr.out hlt
      have hcell : wr.cell? ⟨g, o + k, none⟩ = some (.int .u16 (us.getD k 0)) := by rw [← hc0]; exact Hb.out.cell (p := ⟨g, o + k, none⟩) (by show g < _; omega)
      have hch := chars_at Hu.out k
      clear hc0
      by_cases hp : k + 1 < us.length ∧ isHi (us.getD k 0) = true ∧ isLo (us.getD (k + 1) 0) = true
      · have Hst := hide (outs_pair us k hp.1 hp.2.1 hp.2.2)
        have hk1 : k + 1 < n := by rw [← Hlen.out]; exact hp.1
        have h1 := (isHi_iff _).1 hp.2.1
        have h2 := (isLo_iff _).1 hp.2.2
        obtain ⟨g', o', e', _, hc1⟩ := cells_at Hr.out hk1
        cases e'
        have hcell1 : wr.cell? ⟨g, o + (k + 1), none⟩ = some (.int .u16 (us.getD (k + 1) 0)) := by rw [← hc1]; exact Hb.out.cell (p := ⟨g, o + (k + 1), none⟩) (by show g < _; omega)
        have q1 := hp.2.1
        have q2 := hp.2.2
        have hch1 := chars_at Hu.out (k + 1)
        clear hc1 hp
        generalize us.getD k 0 = x at *
        generalize us.getD (k + 1) 0 = y at *
        have HA : Hid (∀ m, Calls Try.prog 21 #[u3, .int .u16 x, .int .u16 y] (wr.drewN m) (Appended (wr.drewN m) w.heap.size u3 (ys ++ four (pairOf x y)))) := hide fun m => appendPair_any w.heap.size u3 ys x y h1.1 h1.2 h2.1 h2.2 (wr.drewN m) Hown.out (by omega) Hb.out.size
        go_wp2_with (first
          | (go_at_call 19; refine (high_any _ (by omega) _).mono ?_; rintro e w1 ⟨rfl, rfl⟩)
          | (go_at_call 20; refine (low_any _ (by omega) _).mono ?_; rintro e w1 ⟨rfl, rfl⟩))
        have hwrap : IntKind.i64.wrap ((k : Int) + 1) = (k : Int) + 1 := IntWalk.i64_in _ (by omega)
        have hpos : (0 : Int) ≤ (k : Int) + 1 := by omega
        have hnat : ((k : Int) + 1).toNat = k + 1 := by omega
        have hlt1 : ((k : Int) + 1) < (n : Int) := by omega
        have hltk : ((k : Int)) < (n : Int) := by omega
        go_still_tail 10, (by kernel_rfl)
        clear hwrap hpos hnat hlt1 hltk
        change wpList _ _ _ _ _ (wr.drewN 1)
        go_wp2_with (go_at_call 21; go_loud (refine (HA.out 1).mono ?_); rintro e w2 ⟨v2, rfl, hown2, hg2⟩)
        have Hown2 := hide hown2
        have Hb2 := hide (below_own (below_drewN Hb.out 1) (w := wr.drewN 1) Hown.out hg2 Hb.out.size)
        clear hown2 hg2
        go_roundw
        case rel => exact ⟨k + 2, ys ++ four (pairOf x y), by omega, by go_num, by simp [four_len]; omega, by rw [Ho.out, Hst.out, List.append_assoc], Hown2.out, Hb2.out⟩
        case measure => simp [intOf]; omega
      · have hn0 : k + 1 < us.length → isHi (us.getD k 0) = true → isLo (us.getD (k + 1) 0) = false := fun a b => by
          cases e : isLo (us.getD (k + 1) 0)
          · rfl
          · exact absurd ⟨a, b, e⟩ hp
        have Hst := hide (outs_alone us k (by rw [Hlen.out]; exact hlt) hn0)
        clear hp
        cases q1 : isHi (us.getD k 0)
        · cases q2 : isLo (us.getD k 0)
          · have Hal : Hid (alone (us.getD k 0) = put (us.getD k 0)) := hide (by unfold alone; rw [q1, q2]; rfl)
            have Hpl := put_len (us.getD k 0)
            clear hn0
            generalize us.getD k 0 = x at *
            have HA := hide (appendChar_any w.heap.size u3 ys x hch wr Hown.out (by omega) Hb.out.size)
            go_wp2_with (first
              | (go_at_call 19; refine (high_any _ (by omega) _).mono ?_; rintro e w1 ⟨rfl, rfl⟩)
              | (go_at_call 20; refine (low_any _ (by omega) _).mono ?_; rintro e w1 ⟨rfl, rfl⟩)
              | (go_at_call 18; go_loud (refine HA.out.mono ?_); rintro e w2 ⟨v2, rfl, hown2, hg2⟩))
            have Hown2 := hide hown2
            have Hb2 := hide (below_own Hb.out Hown.out hg2 Hb.out.size)
            clear hown2 hg2
            go_roundw
            case rel => exact ⟨k + 1, ys ++ put x, by omega, by go_num, by rw [List.length_append]; omega, by rw [Ho.out, Hst.out, Hal.out, List.append_assoc], Hown2.out, Hb2.out⟩
            case measure => simp [intOf]; omega
          · have Hal : Hid (alone (us.getD k 0) = [63]) := hide (by unfold alone; rw [q1, q2]; rfl)
            clear hn0
            generalize us.getD k 0 = x at *
            go_wp2_with (first
              | (go_at_call 19; refine (high_any _ (by omega) _).mono ?_; rintro e w1 ⟨rfl, rfl⟩)
              | (go_at_call 20; refine (low_any _ (by omega) _).mono ?_; rintro e w1 ⟨rfl, rfl⟩)
              | (at_builtin; go_loud (refine wpList_append_lits _ rfl (.tmp 67) (.tmp 68) 30 rfl w.heap.size 5 i0 _ 1 Try.underlying30 hi0 hz0 hz1 hz2 rfl _ _ _ rfl Hown.out _ 1 rfl rfl rfl (by unfold maxLen; omega) (by omega) Hb.out.size ?_); intro v2 w2 hown2 hg2))
            have Hown2 := hide hown2
            have Hb2 := hide (below_own Hb.out Hown.out hg2 Hb.out.size)
            clear hown2 hg2
            go_roundw
            case rel => exact ⟨k + 1, ys ++ [63], by omega, by go_num, by simp; omega, by rw [Ho.out, Hst.out, Hal.out, List.append_assoc], by simpa [cells] using Hown2.out, Hb2.out⟩
            case measure => simp [intOf]; omega
        · have Hal : Hid (alone (us.getD k 0) = [63]) := hide (by unfold alone; rw [q1]; rfl)
          by_cases hk1 : k + 1 < n
          · obtain ⟨g', o', e', _, hc1⟩ := cells_at Hr.out hk1
            cases e'
            have hcell1 : wr.cell? ⟨g, o + (k + 1), none⟩ = some (.int .u16 (us.getD (k + 1) 0)) := by rw [← hc1]; exact Hb.out.cell (p := ⟨g, o + (k + 1), none⟩) (by show g < _; omega)
            have q2 := hn0 (by rw [Hlen.out]; exact hk1) q1
            have hch1 := chars_at Hu.out (k + 1)
            clear hc1 hn0
            generalize us.getD k 0 = x at *
            generalize us.getD (k + 1) 0 = y at *
            go_wp2_with (first
              | (go_at_call 19; refine (high_any _ (by omega) _).mono ?_; rintro e w1 ⟨rfl, rfl⟩)
              | (go_at_call 20; refine (low_any _ (by omega) _).mono ?_; rintro e w1 ⟨rfl, rfl⟩)
              | (at_builtin; go_loud (refine wpList_append_lits _ rfl (.tmp 67) (.tmp 68) 30 rfl w.heap.size 5 i0 _ 1 Try.underlying30 hi0 hz0 hz1 hz2 rfl _ _ _ rfl Hown.out _ 1 rfl rfl rfl (by unfold maxLen; omega) (by omega) Hb.out.size ?_); intro v2 w2 hown2 hg2))
            have Hown2 := hide hown2
            have Hb2 := hide (below_own Hb.out Hown.out hg2 Hb.out.size)
            clear hown2 hg2
            go_roundw
            case rel => exact ⟨k + 1, ys ++ [63], by omega, by go_num, by simp; omega, by rw [Ho.out, Hst.out, Hal.out, List.append_assoc], by simpa [cells] using Hown2.out, Hb2.out⟩
            case measure => simp [intOf]; omega
          · clear hn0
            generalize us.getD k 0 = x at *
            go_wp2_with (first
              | (go_at_call 19; refine (high_any _ (by omega) _).mono ?_; rintro e w1 ⟨rfl, rfl⟩)
              | (go_at_call 20; refine (low_any _ (by omega) _).mono ?_; rintro e w1 ⟨rfl, rfl⟩)
              | (at_builtin; go_loud (refine wpList_append_lits _ rfl (.tmp 67) (.tmp 68) 30 rfl w.heap.size 5 i0 _ 1 Try.underlying30 hi0 hz0 hz1 hz2 rfl _ _ _ rfl Hown.out _ 1 rfl rfl rfl (by unfold maxLen; omega) (by omega) Hb.out.size ?_); intro v2 w2 hown2 hg2))
            have Hown2 := hide hown2
            have Hb2 := hide (below_own Hb.out Hown.out hg2 Hb.out.size)
            clear hown2 hg2
            go_roundw
            case rel => exact ⟨k + 1, ys ++ [63], by omega, by go_num, by simp; omega, by rw [Ho.out, Hst.out, Hal.out, List.append_assoc], by simpa [cells] using Hown2.out, Hb2.out⟩
            case measure => simp [intOf]; omega
    · obtain rfl : k = n := by omega
      have Hst := hide (show outs (us.drop k) = [] by rw [List.drop_eq_nil_of_le (Nat.le_of_eq Hlen.out)]; rfl)
      go_wp2
      go_ret
      refine ⟨u3, rfl, ?_, Hb.out⟩
      rw [Ho.out, Hst.out, List.append_nil]
      exact Hown.out
end Go.Proofs.Ythdodkhahogmeaa
