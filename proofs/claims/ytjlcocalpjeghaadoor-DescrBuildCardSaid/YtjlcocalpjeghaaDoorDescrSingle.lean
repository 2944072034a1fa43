/- The code's type without dimensions at a text's beginning. Nothing is claimed here. -/
import Derived.Test.YtjlcocalpjeghaaDoorDescrOne
import Derived.Test.YtjlcocalpjeghaaDoorDescrFront
namespace Go.Proofs.YtjlcocalpjeghaaDoor
open Go.RowKit

/-- What a type at the beginning is told as, with what stands behind it. -/
def restV (s : ByteArray) : Option (Ty × Nat) → Value
  | some (t, n) => .tuple #[t.val, .string (s.extract n s.size), .bool true]
  | none => .tuple #[noTy.val, .string ⟨#[]⟩, .bool false]
theorem restV_none (s : ByteArray) : restV s none = .tuple #[.agg #[.int .u8 0, .string ⟨#[]⟩, .int .i64 0, .int .u8 0], .string ⟨#[]⟩, .bool false] := rfl
theorem nums_at {s : ByteArray} (h : 0 < s.size) : nums s = (s[0].toNat : Int) :: (nums s).drop 1 := by
  have hl : 0 < (nums s).length := by rw [nums_len]; exact h
  have : (nums s)[0]'hl = (s[0].toNat : Int) := by rw [← num_at s 0 h]; simp [List.getD, hl]
  rw [← this]
  exact (List.drop_eq_getElem_cons hl)
theorem nonempty {s : ByteArray} (h : 0 < s.size) : s.toList.isEmpty = false := by
  rw [Lib.toList_data]
  cases hd : s.data.toList with
  | nil => have := Lib.size_eq s; rw [hd] at this; simp only [List.length_nil] at this; omega
  | cons a r => rfl

set_option maxHeartbeats 2000000 in
set_option maxRecDepth 100000 in
theorem single_any (s : ByteArray) (w : World) (hm : s.size ≤ 1000000) (hw : Maxed w) : Calls Tryd.prog 28 #[.string s] w fun e w' => e = .returned (restV s (single (nums s))) ∧ Below w.heap.size w w' := by
  by_cases hz : 0 < s.size
  · have he := nonempty hz
    have hN := nums_at hz
    have hr := byte_range s[0]
    obtain ⟨r, hrd⟩ : ∃ r, r = nums (s.extract 1 s.size) := ⟨_, rfl⟩
    have hrd2 : r = (nums s).drop 1 := by rw [hrd, nums_from]
    rw [← hrd2] at hN
    have HI : Hid (∀ W, Calls Tryd.prog 21 #[.int .u8 s[0].toNat] W fun e w' => e = .returned (.bool (baseB s[0].toNat)) ∧ W = w') := hide fun W => isbase_any _ W hr.1 hr.2
    obtain ⟨D, hD⟩ : ∃ D, restV s (single (nums s)) = D := ⟨_, rfl⟩
    rw [hD]
    rw [hN, single_cons] at hD
    have hz1 : (1 : Int) ≤ (s.size : Int) := by omega
    have hz2 : (0 : Int) < (s.size : Int) := by omega
    by_cases hb : baseB (s[0].toNat : Int) = true
    · have HV : Hid (D = .tuple #[.agg #[.int .u8 s[0].toNat, .string ⟨#[]⟩, .int .i64 0, .int .u8 0], .string (s.extract 1 s.size), .bool true]) := hide (by rw [← hD, if_pos hb]; rfl)
      rw [hb] at HI
      clear hD hN hb hr hrd hrd2 hw
      go_enter Tryd.func28, Tryd.ntmps28
      go_wp2_with fail
      refine (HI.out _).mono ?_
      rintro e w1 ⟨rfl, rfl⟩
      go_wp2_with fail
      go_region
      all_goals
        go_wp2_with fail
        refine bodyPost_ret (v := .tuple #[.agg #[.int .u8 s[0].toNat, .string ⟨#[]⟩, .int .i64 0, .int .u8 0], .string (s.extract 1 s.size), .bool true]) ?_ rfl ⟨by rw [HV.out], ?_⟩
        · simp [results, Tryd.results28, go_sem]
        · repeat (first | with_reducible exact Below.refl _ _ | with_reducible refine Below.drew ?_ | with_reducible refine below_drewN ?_ _ | ((with_reducible refine Below.setCell ?_ ?hp _); case hp => simp) | ((with_reducible refine Below.alloc ?_ ?hp _); case hp => first | omega | (simp; done) | (simp; omega)))
    · rw [if_neg hb] at hD
      by_cases h76 : (s[0].toNat : Int) = 76
      · have b76 : ((s[0].toNat : Int) != 76) = false := by simpa using h76
        have HW : Hid (∀ o, Maxed (w.alloc o)) := hide fun o => hw.below ((Below.refl _ w).alloc (Nat.le_refl _) o)
        have hzs : (s.extract 1 s.size).size = s.size - 1 := by rw [← nums_len, nums_from, List.length_drop, nums_len]
        have HC : Hid (∀ W, Maxed W → Calls Tryd.prog 39 #[.string (s.extract 1 s.size), .string ⟨#[59]⟩] W fun e w' => e = .returned (semiV (s.extract 1 s.size)) ∧ ∃ n, w' = W.drewN n) := hide fun W hW => cutsemi_any _ W (by omega) hW
        have hbf : baseB (s[0].toNat : Int) = false := by simpa using hb
        rw [hbf] at HI
        by_cases h59 : (59 : Int) ∈ r
        · have hv : semiV (s.extract 1 s.size) = .tuple #[.string ((s.extract 1 s.size).extract 0 (r.takeWhile (· != 59)).length), .string ((s.extract 1 s.size).extract ((r.takeWhile (· != 59)).length + 1) (s.extract 1 s.size).size), .bool true] := by
            unfold semiV; rw [← hrd, if_pos h59]
          have e1 : nums ((s.extract 1 s.size).extract 0 (r.takeWhile (· != 59)).length) = r.takeWhile (· != 59) := by
            rw [nums_cut, ← hrd]
            exact (List.prefix_iff_eq_take.1 (List.takeWhile_prefix _)).symm
          have e2 : (s.extract 1 s.size).extract ((r.takeWhile (· != 59)).length + 1) (s.extract 1 s.size).size = s.extract ((r.takeWhile (· != 59)).length + 2) s.size := by
            apply nums_inj
            rw [nums_from, nums_from, nums_from, List.drop_drop, show 1 + ((r.takeWhile (· != 59)).length + 1) = (r.takeWhile (· != 59)).length + 2 by omega]
          rw [e2] at hv
          rw [hv] at HC
          obtain ⟨q, hq⟩ : ∃ q, q = (s.extract 1 s.size).extract 0 (r.takeWhile (· != 59)).length := ⟨_, rfl⟩
          rw [← hq] at e1 HC
          have HS : Hid (strOfNums (r.takeWhile (· != 59)) = q) := hide (by rw [← e1, of_nums])
          have HK : Hid (∀ W, Calls Tryd.prog 32 #[.string q] W (Tells (classB (r.takeWhile (· != 59))) W)) := hide fun W => by
            have := class_any q W
            rwa [e1] at this
          cases hcl : classB (r.takeWhile (· != 59))
          · rw [hcl] at HK
            have HV : Hid (D = .tuple #[.agg #[.int .u8 0, .string ⟨#[]⟩, .int .i64 0, .int .u8 0], .string ⟨#[]⟩, .bool false]) := hide (by rw [← hD, if_neg (by rw [hcl]; simp)]; rfl)
            clear hD hN hb hr hrd hrd2 hw hv e1 e2 hq HS hcl h59 hbf h76 hzs
            go_enter Tryd.func28, Tryd.ntmps28
            go_wp2_with fail
            refine (HI.out _).mono ?_
            rintro e w1 ⟨rfl, rfl⟩
            go_wp2_with fail
            refine (HC.out _ (HW.out _)).mono ?_
            rintro e w1 ⟨rfl, n, rfl⟩
            go_wp2_with fail
            refine (HK.out _).mono ?_
            rintro e w2 ⟨rfl, hb2⟩
            have ha := (((At.new w 25 [.int .u8 0, .string ⟨#[]⟩, .int .i64 0, .int .u8 0]).drewN n).below hb2 (by simp))
            have HB2 : Hid (Below w.heap.size w w2) := hide ((below_drewN ((Below.refl _ w).alloc (Nat.le_refl _) _) n).trans (hb2.mono (by simp)))
            obtain ⟨z0, z1, z2, z3, g0, g1, g2, g3⟩ := ha.c4
            clear hb2 ha
            go_wp2_with fail
            refine bodyPost_ret (v := .tuple #[.agg #[.int .u8 0, .string ⟨#[]⟩, .int .i64 0, .int .u8 0], .string ⟨#[]⟩, .bool false]) ?_ rfl ⟨by rw [HV.out], ?_⟩
            · simp [results, Tryd.results28, go_sem, World.cell?_setCell_other, z0, z1, z2, z3]
            · repeat (first | with_reducible exact HB2.out | with_reducible refine Below.drew ?_ | with_reducible refine below_drewN ?_ _ | ((with_reducible refine Below.setCell ?_ ?hp _); case hp => simp) | ((with_reducible refine Below.alloc ?_ ?hp _); case hp => first | omega | (simp; done) | (simp; omega)))
          · rw [hcl] at HK
            have HV : Hid (D = .tuple #[.agg #[.int .u8 76, .string q, .int .i64 0, .int .u8 0], .string (s.extract ((r.takeWhile (· != 59)).length + 2) s.size), .bool true]) := hide (by rw [← hD, if_pos ⟨h76, h59, hcl⟩, restV, Ty.val, HS.out]; rfl)
            generalize s.extract ((r.takeWhile (· != 59)).length + 2) s.size = q2 at *
            clear hD hN hb hr hrd hrd2 hw hv e1 e2 hq HS hcl h59 hbf h76 hzs
            go_enter Tryd.func28, Tryd.ntmps28
            go_wp2_with fail
            refine (HI.out _).mono ?_
            rintro e w1 ⟨rfl, rfl⟩
            go_wp2_with fail
            refine (HC.out _ (HW.out _)).mono ?_
            rintro e w1 ⟨rfl, n, rfl⟩
            go_wp2_with fail
            refine (HK.out _).mono ?_
            rintro e w2 ⟨rfl, hb2⟩
            have ha := (((At.new w 25 [.int .u8 0, .string ⟨#[]⟩, .int .i64 0, .int .u8 0]).drewN n).below hb2 (by simp))
            have HB2 : Hid (Below w.heap.size w w2) := hide ((below_drewN ((Below.refl _ w).alloc (Nat.le_refl _) _) n).trans (hb2.mono (by simp)))
            obtain ⟨z0, z1, z2, z3, g0, g1, g2, g3⟩ := ha.c4
            clear hb2 ha
            go_wp2_with fail
            try go_region
            all_goals go_wp2_with fail
            all_goals
              refine bodyPost_ret (v := .tuple #[.agg #[.int .u8 76, .string q, .int .i64 0, .int .u8 0], .string q2, .bool true]) ?_ rfl ⟨by rw [HV.out], ?_⟩
              · simp [results, Tryd.results28, go_sem, World.cell?_setCell_other, z0, z1, z2, z3]
              · repeat (first | with_reducible exact HB2.out | with_reducible refine Below.drew ?_ | with_reducible refine below_drewN ?_ _ | ((with_reducible refine Below.setCell ?_ ?hp _); case hp => simp) | ((with_reducible refine Below.alloc ?_ ?hp _); case hp => first | omega | (simp; done) | (simp; omega)))
        · have hv : semiV (s.extract 1 s.size) = .tuple #[.string (s.extract 1 s.size), .string ⟨#[]⟩, .bool false] := by
            unfold semiV; rw [← hrd, if_neg h59]
          rw [hv] at HC
          have HV : Hid (D = .tuple #[.agg #[.int .u8 0, .string ⟨#[]⟩, .int .i64 0, .int .u8 0], .string ⟨#[]⟩, .bool false]) := hide (by rw [← hD, if_neg (fun h => h59 h.2.1)]; rfl)
          clear hD hN hb hr hrd hrd2 hw hv h59 hbf h76 hzs
          go_enter Tryd.func28, Tryd.ntmps28
          go_wp2_with fail
          refine (HI.out _).mono ?_
          rintro e w1 ⟨rfl, rfl⟩
          go_wp2_with fail
          refine (HC.out _ (HW.out _)).mono ?_
          rintro e w1 ⟨rfl, n, rfl⟩
          go_wp2_with fail
          refine bodyPost_ret (v := .tuple #[.agg #[.int .u8 0, .string ⟨#[]⟩, .int .i64 0, .int .u8 0], .string ⟨#[]⟩, .bool false]) ?_ rfl ⟨by rw [HV.out], ?_⟩
          · simp [results, Tryd.results28, go_sem]
          · repeat (first | with_reducible exact Below.refl _ _ | with_reducible refine Below.drew ?_ | with_reducible refine below_drewN ?_ _ | ((with_reducible refine Below.setCell ?_ ?hp _); case hp => simp) | ((with_reducible refine Below.alloc ?_ ?hp _); case hp => first | omega | (simp; done) | (simp; omega)))
      · have b76 : ((s[0].toNat : Int) != 76) = true := by simpa using h76
        have hbf : baseB (s[0].toNat : Int) = false := by simpa using hb
        rw [hbf] at HI
        have HV : Hid (D = .tuple #[.agg #[.int .u8 0, .string ⟨#[]⟩, .int .i64 0, .int .u8 0], .string ⟨#[]⟩, .bool false]) := hide (by rw [← hD, if_neg (fun h => h76 h.1)]; rfl)
        clear hD hN hb hr hrd hrd2 hw hbf h76
        go_enter Tryd.func28, Tryd.ntmps28
        go_wp2_with fail
        refine (HI.out _).mono ?_
        rintro e w1 ⟨rfl, rfl⟩
        go_wp2_with fail
        refine bodyPost_ret (v := .tuple #[.agg #[.int .u8 0, .string ⟨#[]⟩, .int .i64 0, .int .u8 0], .string ⟨#[]⟩, .bool false]) ?_ rfl ⟨by rw [HV.out], ?_⟩
        · simp [results, Tryd.results28, go_sem]
        · repeat (first | with_reducible exact Below.refl _ _ | with_reducible refine Below.drew ?_ | with_reducible refine below_drewN ?_ _ | ((with_reducible refine Below.setCell ?_ ?hp _); case hp => simp) | ((with_reducible refine Below.alloc ?_ ?hp _); case hp => first | omega | (simp; done) | (simp; omega)))
  · have h0 : nums s = [] := List.eq_nil_of_length_eq_zero (by rw [nums_len]; omega)
    have he : s.toList.isEmpty = true := by rw [Lib.toList_data, (str_empty s).2 h0]; rfl
    rw [h0]
    clear hw hz h0
    go_enter Tryd.func28, Tryd.ntmps28
    go_wp2_with fail
    refine bodyPost_ret (v := .tuple #[.agg #[.int .u8 0, .string ⟨#[]⟩, .int .i64 0, .int .u8 0], .string ⟨#[]⟩, .bool false]) ?_ rfl ⟨rfl, ?_⟩
    · simp [results, Tryd.results28, go_sem]
    · repeat (first | with_reducible exact Below.refl _ _ | with_reducible refine Below.drew ?_ | with_reducible refine below_drewN ?_ _ | ((with_reducible refine Below.setCell ?_ ?hp _); case hp => simp) | ((with_reducible refine Below.alloc ?_ ?hp _); case hp => first | omega | (simp; done) | (simp; omega)))
end Go.Proofs.YtjlcocalpjeghaaDoor
