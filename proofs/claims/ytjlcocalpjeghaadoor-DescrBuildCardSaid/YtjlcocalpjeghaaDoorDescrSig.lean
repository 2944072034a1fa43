/- A method's descriptor, by the document. Nothing is claimed here. -/
import Derived.Test.YtjlcocalpjeghaaDoorDescrMethod
namespace Go.Proofs.YtjlcocalpjeghaaDoor
open Go.RowKit

theorem drop_head (s : ByteArray) (k : Nat) (h : k < s.size) : ((nums s).drop k).head? = some (s[k].toNat : Int) := by
  have hl : k < (nums s).length := by rw [nums_len]; exact h
  rw [List.head?_drop, List.getElem?_eq_getElem hl, ← num_at s k h]
  simp [List.getD, hl]
theorem sig_not {l : List Int} (h : l.head? ≠ some 40) : sig l = none := by unfold sig; rw [if_neg h]
theorem ret_V {l : List Int} (h : l = [86]) : retL l = some ⟨86, [], 0, 0⟩ := if_pos h
theorem ret_F {l : List Int} (h : l ≠ [86]) : retL l = field l := if_neg h

set_option maxHeartbeats 4000000 in
set_option maxRecDepth 100000 in
theorem rsig_any (s : ByteArray) (w : World) (hm : s.size ≤ 1000000) : Calls Tryd.prog 16 #[.string s] w (SigTold (sig (nums s)) w) := by
  obtain ⟨i0, hi0, iz0, iz1, iz2⟩ := info_parts typeinfo
  obtain ⟨D, hD⟩ : ∃ D, sig (nums s) = D := ⟨_, rfl⟩
  rw [hD]
  have HF : Hid (∀ (x : ByteArray) (W : World), x.size ≤ 1000000 → Calls Tryd.prog 20 #[.string x] W fun e w' => e = .returned (frontV (front (nums x))) ∧ Below W.heap.size W w') := hide fun x W hx => rfront_any x W hx
  have HR : Hid (∀ (x : ByteArray) (W : World), x.size ≤ 1000000 → Calls Tryd.prog 10 #[.string x] W fun e w' => e = .returned (fieldV (field (nums x))) ∧ Below W.heap.size W w') := hide fun x W hx => rfield_any x W hx
  by_cases hs0 : 0 < s.size
  · have he := nonempty hs0
    have hs1 : (0 : Int) < (s.size : Int) := by omega
    by_cases h40 : (s[0].toNat : Int) = 40
    · have h40' : ((s[0].toNat : Int) != 40) = false := by simpa using h40
      have hh : (nums s).head? = some 40 := by rw [nums_at hs0]; simp [h40]
      have HD : Hid (D = (args ((nums s).drop 1)).bind fun x => (retL x.2).map fun t => (x.1, t)) := hide (by rw [← hD, sig_open hh])
      clear hD hh h40
      go_enter Tryd.func16, Tryd.ntmps16
      go_wp2_with fail
      go_loopw [5, 6] (fun av iv wr => ∃ (k : Nat) (acc : List Ty), k ≤ s.size ∧ 1 ≤ k ∧ iv = .int .i64 k ∧ acc.length ≤ k ∧ wr.ownsRow (w.heap.size + 1) 25 4 av acc.length (tcells acc) ∧
        At wr w.heap.size 25 [.int .u8 0, .string ⟨#[]⟩, .int .i64 0, .int .u8 0] ∧ Below w.heap.size w wr ∧ w.heap.size < wr.heap.size ∧
        args ((nums s).drop 1) = (args ((nums s).drop k)).map fun x => (acc ++ x.1, x.2)) (fun _ iv _ => s.size - (intOf iv).toNat)
      case atStart =>
        exact ⟨1, [], by omega, Nat.le_refl _, rfl, Nat.zero_le _, World.ownsRow_nil _ _ _ _, At.new _ _ _, (Below.refl _ w).alloc (Nat.le_refl _) _, by simp, by cases args ((nums s).drop 1) <;> rfl⟩
      case round =>
        obtain ⟨k, acc, hk, hk1, rfl, hal, hown, hat, hb, hlt, hargs⟩ := hrel
        have Hown := hide hown
        have HA := hide hat
        have HB := hide hb
        have HG := hide hargs
        clear hown hat hb hargs
        by_cases hks : k < s.size
        · have hhd := drop_head s k hks
          by_cases h41 : (s[k].toNat : Int) = 41
          · have h41' : ((s[k].toNat : Int) != 41) = false := by simpa using h41
            rw [h41] at hhd
            have HD2 : Hid (D = (retL (nums (s.extract (k + 1) s.size))).map fun t => (acc, t)) := hide (by
              rw [HD.out, HG.out, args_stop hhd, nums_from, List.drop_drop]
              simp)
            have hqz : (s.extract (k + 1) s.size).size ≤ 1000000 := by rw [← nums_len, nums_from, List.length_drop, nums_len]; omega
            have HR1 := hide (fun W => HR.out (s.extract (k + 1) s.size) W hqz)
            clear HG HD hhd h41 hqz
            by_cases hv : s.extract (k + 1) s.size = ⟨#[86]⟩
            · have HV : Hid (D = some (acc, ⟨86, [], 0, 0⟩)) := hide (by rw [HD2.out, ret_V (by rw [hv]; rfl)]; rfl)
              have v1 : (s.extract (k + 1) s.size).toList = [86] := by rw [hv, Lib.toList_data]
              have v2 : ((s.extract (k + 1) s.size).toList == [86]) = true := by rw [v1]; rfl
              obtain ⟨z0, z1, z2, z3, g0, g1, g2, g3⟩ := HA.out.c4
              obtain ⟨A, c, rfl, _, hc1, hc2, _⟩ := own_rd Hown.out
              clear hv HD2 HR1
              go_wp2_with fail
              try go_region
              all_goals go_wp2_with fail
              all_goals
                refine bodyPost_ret (v := .tuple #[.slice A acc.length c, .agg #[.int .u8 86, .string ⟨#[]⟩, .int .i64 0, .int .u8 0], .bool true]) ?_ rfl ⟨?_, .inr ⟨acc, ⟨86, [], 0, 0⟩, A, c, HV.out, rfl, own_rd' (base := w.heap.size + 1) (e := 25) (c := c) ?_, hc1, hc2⟩⟩
                · simp [results, Tryd.results16, go_sem, World.cell?_setCell_other, z0, z1, z2, z3]
                · repeat (first | with_reducible exact HB.out | with_reducible refine Below.drew ?_ | with_reducible refine below_drewN ?_ _ | ((with_reducible refine Below.setCell ?_ ?hp _); case hp => simp) | ((with_reducible refine Below.alloc ?_ ?hp _); case hp => first | omega | (simp; done) | (simp; omega)))
                · repeat (first | with_reducible exact Hown.out | with_reducible refine World.ownsRow.drew ?_ | with_reducible refine World.ownsRow.alloc ?_ _ | ((with_reducible refine ownsRow_setCell_below ?_ ?hp _); case hp => simp))
            · obtain ⟨v1, v2⟩ := toList_no (l := [86]) hv
              have hrf : retL (nums (s.extract (k + 1) s.size)) = field (nums (s.extract (k + 1) s.size)) := ret_F fun h => hv (nums_inj (by rw [h]; rfl))
              rw [hrf] at HD2
              clear hv hrf
              go_wp2_with fail
              refine (HR1.out _).mono ?_
              rintro e w2 ⟨rfl, hb2⟩
              have ha := HA.out.below hb2 (by omega)
              have HO2 := hide (own_below Hown.out hb2)
              have HB2 := hide (HB.out.trans (hb2.mono (by omega)))
              have hz2 : w.heap.size < w2.heap.size := by have := hb2.size; omega
              obtain ⟨z0, z1, z2, z3, g0, g1, g2, g3⟩ := ha.c4
              clear hb2 ha HA Hown HB
              generalize field (nums (s.extract (k + 1) s.size)) = rt at *
              cases rt with
              | none =>
                have HV : Hid (D = none) := hide (by rw [HD2.out]; rfl)
                have hfv : fieldV none = .tuple #[.agg #[.int .u8 0, .string ⟨#[]⟩, .int .i64 0, .int .u8 0], .bool false] := rfl
                rw [hfv]
                clear HD2 hfv
                go_wp2_with fail
                refine bodyPost_ret (v := .tuple #[.slice none 0 0, .agg #[.int .u8 0, .string ⟨#[]⟩, .int .i64 0, .int .u8 0], .bool false]) ?_ rfl (SigTold.no HV.out rfl ?_)
                · simp [results, Tryd.results16, go_sem, World.cell?_setCell_other, hz2, z0, z1, z2, z3]
                · repeat (first | with_reducible exact HB2.out | with_reducible refine Below.drew ?_ | with_reducible refine below_drewN ?_ _ | ((with_reducible refine Below.setCell ?_ ?hp _); case hp => simp) | ((with_reducible refine Below.alloc ?_ ?hp _); case hp => first | omega | (simp; done) | (simp; omega)))
              | some t =>
                obtain ⟨kk, nm, dd, x⟩ := t
                have HV : Hid (D = some (acc, ⟨kk, nm, dd, x⟩)) := hide (by rw [HD2.out]; rfl)
                have hfv : fieldV (some ⟨kk, nm, dd, x⟩) = .tuple #[.agg #[.int .u8 kk, .string (strOfNums nm), .int .i64 dd, .int .u8 x], .bool true] := rfl
                rw [hfv]
                clear HD2 hfv
                obtain ⟨nq, hnq⟩ : ∃ nq, strOfNums nm = nq := ⟨_, rfl⟩
                have HN := hide hnq
                rw [hnq]
                clear hnq
                obtain ⟨A, c, rfl, _, hc1, hc2, _⟩ := own_rd HO2.out
                go_wp2_with fail
                try go_region
                all_goals go_wp2_with fail
                all_goals
                  refine bodyPost_ret (v := .tuple #[.slice A acc.length c, .agg #[.int .u8 kk, .string nq, .int .i64 dd, .int .u8 x], .bool true]) ?_ rfl ⟨?_, .inr ⟨acc, ⟨kk, nm, dd, x⟩, A, c, HV.out, by rw [Ty.val_mk, HN.out], own_rd' (base := w.heap.size + 1) (e := 25) (c := c) ?_, hc1, hc2⟩⟩
                  · simp [results, Tryd.results16, go_sem, World.cell?_setCell_other, hz2, z0, z1, z2, z3]
                  · repeat (first | with_reducible exact HB2.out | with_reducible refine Below.drew ?_ | with_reducible refine below_drewN ?_ _ | ((with_reducible refine Below.setCell ?_ ?hp _); case hp => simp) | ((with_reducible refine Below.alloc ?_ ?hp _); case hp => first | omega | (simp; done) | (simp; omega)))
                  · repeat (first | with_reducible exact HO2.out | with_reducible refine World.ownsRow.drew ?_ | with_reducible refine World.ownsRow.alloc ?_ _ | ((with_reducible refine ownsRow_setCell_below ?_ ?hp _); case hp => simp))
          · have h41' : ((s[k].toNat : Int) != 41) = true := by simpa using h41
            have hn41 : ((nums s).drop k).head? ≠ some 41 := by rw [hhd]; simpa using h41
            have hqe : nums (s.extract k s.size) = (nums s).drop k := nums_from s k
            have hqz : (s.extract k s.size).size = s.size - k := by rw [← nums_len, nums_from, List.length_drop, nums_len]
            have HF1 := hide (fun W => HF.out (s.extract k s.size) W (by omega))
            rw [hqe] at HF1
            have hlen := fun t n (h : front ((nums s).drop k) = some (t, n)) => front_len h
            rw [← hqe, nums_len, hqz, hqe] at hlen
            have hstep := fun t n (h : front ((nums s).drop k) = some (t, n)) => args_some hn41 h
            have hnone := fun (h : front ((nums s).drop k) = none) => args_none hn41 h
            clear h41 hhd hn41 hqe hqz
            generalize front ((nums s).drop k) = sg at *
            cases sg with
            | none =>
              have HV : Hid (D = none) := hide (by rw [HD.out, HG.out, hnone rfl]; rfl)
              have hfv : frontV none = .tuple #[.agg #[.int .u8 0, .string ⟨#[]⟩, .int .i64 0, .int .u8 0], .int .i64 0] := rfl
              rw [hfv] at HF1
              clear hlen hstep hnone hfv HG HD
              go_wp2_with fail
              refine (HF1.out _).mono ?_
              rintro e w2 ⟨rfl, hb2⟩
              have ha := HA.out.below hb2 (by omega)
              have HB2 := hide (HB.out.trans (hb2.mono (by omega)))
              have hz2 : w.heap.size < w2.heap.size := by have := hb2.size; omega
              obtain ⟨z0, z1, z2, z3, g0, g1, g2, g3⟩ := ha.c4
              clear hb2 ha HA Hown HB
              go_wp2_with fail
              refine bodyPost_ret (v := .tuple #[.slice none 0 0, .agg #[.int .u8 0, .string ⟨#[]⟩, .int .i64 0, .int .u8 0], .bool false]) ?_ rfl (SigTold.no HV.out rfl ?_)
              · simp [results, Tryd.results16, go_sem, World.cell?_setCell_other, hz2, z0, z1, z2, z3]
              · repeat (first | with_reducible exact HB2.out | with_reducible refine Below.drew ?_ | with_reducible refine below_drewN ?_ _ | ((with_reducible refine Below.setCell ?_ ?hp _); case hp => simp) | ((with_reducible refine Below.alloc ?_ ?hp _); case hp => first | omega | (simp; done) | (simp; omega)))
            | some y =>
              obtain ⟨⟨kk, nm, dd, x⟩, n⟩ := y
              have hn := hlen _ _ rfl
              have HS := hide (hstep _ _ rfl)
              have hr : frontV (some (⟨kk, nm, dd, x⟩, n)) = .tuple #[.agg #[.int .u8 kk, .string (strOfNums nm), .int .i64 dd, .int .u8 x], .int .i64 n] := rfl
              rw [hr] at HF1
              have hn0 : ((n : Int) == 0) = false := by simp; omega
              obtain ⟨nq, hnq⟩ : ∃ nq, strOfNums nm = nq := ⟨_, rfl⟩
              have HN := hide hnq
              rw [hnq] at HF1
              clear hlen hstep hnone hnq hr
              go_wp2_with fail
              refine (HF1.out _).mono ?_
              rintro e w2 ⟨rfl, hb2⟩
              have HA2 := hide (HA.out.below hb2 (by omega))
              have HO2 := hide (World.ownsRow.alloc (own_below Hown.out hb2) (.cells #[.int .u8 kk, .string nq, .int .i64 dd, .int .u8 x] 25))
              have HB2 := hide (HB.out.trans (hb2.mono (by omega)))
              have hz2 : w.heap.size < w2.heap.size := by have := hb2.size; omega
              clear hb2 HA Hown HB
              go_wp2_with (at_builtin; go_loud (refine wpList_append_four _ rfl (.tmp 39) (.tmp 41) 32 rfl (w.heap.size + 1) 25 i0 _ 40 Tryd.underlying32 hi0 iz0 iz1 iz2 rfl _ _ _ rfl HO2.out [.int .u8 kk, .string nq, .int .i64 dd, .int .u8 x] rfl _ (by simp) rfl rfl (by unfold maxLen; omega) (by omega) (by simp; omega) ?_); intro v2 w3 hown3 hg3)
              have HA3 := hide ((HA2.out.alloc (.cells #[.int .u8 kk, .string nq, .int .i64 dd, .int .u8 x] 25)).grown hg3 (own_far HO2.out (by omega)))
              have HB3 := hide (below_own4 (B := w.heap.size) (HB2.out.alloc (by omega) (.cells #[.int .u8 kk, .string nq, .int .i64 dd, .int .u8 x] 25)) HO2.out hg3 (by simp; omega) (by omega))
              have HO3 := hide hown3
              have hz3 : w.heap.size < w3.heap.size := by have := hg3.size; simp at this; omega
              have HG3 : Hid (args ((nums s).drop 1) = (args ((nums s).drop (k + n))).map fun x' => ((acc ++ [⟨kk, nm, dd, x⟩]) ++ x'.1, x'.2)) := hide (by
                rw [HG.out, HS.out, List.drop_drop, Option.map_map]
                congr 1
                funext y
                simp)
              have HT : Hid (tcells (acc ++ [⟨kk, nm, dd, x⟩]) = tcells acc ++ [.int .u8 kk, .string nq, .int .i64 dd, .int .u8 x]) := hide (by
                rw [tcells_snoc, Ty.cells, HN.out])
              clear hown3 hg3 HA2 HB2 HO2 HS HG
              go_wp2_with fail
              go_roundw
              case rel =>
                refine ⟨k + n, acc ++ [⟨kk, nm, dd, x⟩], by omega, by omega, by go_num, by simp; omega, ?_, HA3.out, HB3.out, hz3, HG3.out⟩
                rw [HT.out, List.length_append]
                exact HO3.out
              case measure => simp [intOf]; omega
        · obtain rfl : k = s.size := by omega
          have HV : Hid (D = none) := hide (by
            rw [HD.out, HG.out, List.drop_eq_nil_of_le (by rw [nums_len]; omega), args_none (by simp) (front_none rfl)]; rfl)
          obtain ⟨z0, z1, z2, z3, g0, g1, g2, g3⟩ := HA.out.c4
          clear HG HD HA Hown
          go_wp2_with fail
          refine bodyPost_ret (v := .tuple #[.slice none 0 0, .agg #[.int .u8 0, .string ⟨#[]⟩, .int .i64 0, .int .u8 0], .bool false]) ?_ rfl (SigTold.no HV.out rfl ?_)
          · simp [results, Tryd.results16, go_sem, World.cell?_setCell_other, z0, z1, z2, z3]
          · repeat (first | with_reducible exact HB.out | with_reducible refine Below.drew ?_ | with_reducible refine below_drewN ?_ _ | ((with_reducible refine Below.setCell ?_ ?hp _); case hp => simp) | ((with_reducible refine Below.alloc ?_ ?hp _); case hp => first | omega | (simp; done) | (simp; omega)))
    · have h40' : ((s[0].toNat : Int) != 40) = true := by simpa using h40
      have HV : Hid (D = none) := hide (by
        rw [← hD, sig_not]
        rw [nums_at hs0]; simpa using h40)
      clear hD h40 HF HR
      go_enter Tryd.func16, Tryd.ntmps16
      go_wp2_with fail
      refine bodyPost_ret (v := .tuple #[.slice none 0 0, .agg #[.int .u8 0, .string ⟨#[]⟩, .int .i64 0, .int .u8 0], .bool false]) ?_ rfl (SigTold.no HV.out rfl ?_)
      · simp [results, Tryd.results16, go_sem]
      · repeat (first | with_reducible exact Below.refl _ _ | with_reducible refine Below.drew ?_ | with_reducible refine below_drewN ?_ _ | ((with_reducible refine Below.setCell ?_ ?hp _); case hp => simp) | ((with_reducible refine Below.alloc ?_ ?hp _); case hp => first | omega | (simp; done) | (simp; omega)))
  · have h0 : nums s = [] := List.eq_nil_of_length_eq_zero (by rw [nums_len]; omega)
    have he : s.toList.isEmpty = true := by rw [Lib.toList_data, (str_empty s).2 h0]; rfl
    have HV : Hid (D = none) := hide (by rw [← hD, h0]; rfl)
    clear hD h0 hs0 HF HR
    go_enter Tryd.func16, Tryd.ntmps16
    go_wp2_with fail
    refine bodyPost_ret (v := .tuple #[.slice none 0 0, .agg #[.int .u8 0, .string ⟨#[]⟩, .int .i64 0, .int .u8 0], .bool false]) ?_ rfl (SigTold.no HV.out rfl ?_)
    · simp [results, Tryd.results16, go_sem]
    · repeat (first | with_reducible exact Below.refl _ _ | with_reducible refine Below.drew ?_ | with_reducible refine below_drewN ?_ _ | ((with_reducible refine Below.setCell ?_ ?hp _); case hp => simp) | ((with_reducible refine Below.alloc ?_ ?hp _); case hp => first | omega | (simp; done) | (simp; omega)))
end Go.Proofs.YtjlcocalpjeghaaDoor
