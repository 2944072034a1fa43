/- The code's type at a text's beginning, and a field's type. Nothing is claimed here. -/
import Derived.Test.YtjlcocalpjeghaaDoorDescrSingle
namespace Go.Proofs.YtjlcocalpjeghaaDoor
open Go.RowKit

theorem Ty.val_mk (k : Int) (n : List Int) (d : Nat) (x : Int) : (⟨k, n, d, x⟩ : Ty).val = .agg #[.int .u8 k, .string (strOfNums n), .int .i64 d, .int .u8 x] := rfl
theorem noTy_val : noTy.val = .agg #[.int .u8 0, .string ⟨#[]⟩, .int .i64 0, .int .u8 0] := rfl

set_option maxHeartbeats 2000000 in
set_option maxRecDepth 100000 in
theorem dfirst_any (s : ByteArray) (w : World) (hm : s.size ≤ 1000000) (hw : Maxed w) : Calls Tryd.prog 19 #[.string s] w fun e w' => e = .returned (restV s (front (nums s))) ∧ Below w.heap.size w w' := by
  obtain ⟨d, hd⟩ : ∃ d, d = dimsL (nums s) := ⟨_, rfl⟩
  have hdl : d ≤ s.size := by rw [hd, ← nums_len]; exact dimsL_le _
  obtain ⟨q, hq⟩ : ∃ q, q = s.extract d s.size := ⟨_, rfl⟩
  have hqn : nums q = (nums s).drop d := by rw [hq, nums_from]
  have hqs : q.size = s.size - d := by rw [← nums_len, hqn, List.length_drop, nums_len]
  have hsub : (s.size : Int) - (q.size : Int) = (d : Int) := by omega
  have HT : Hid (∀ W, Calls Tryd.prog 27 #[.string s, .string ⟨#[91]⟩] W fun e w' => e = .returned (.string q) ∧ w' = W) := hide fun W => by
    have := Tryd.strings_TrimLeft_one s 91 (by decide) W
    rwa [trim_drop, ← hd, ← hq] at this
  have HS : Hid (∀ W, Maxed W → Calls Tryd.prog 28 #[.string q] W fun e w' => e = .returned (restV q (single ((nums s).drop d))) ∧ Below W.heap.size W w') := hide fun W hW => by
    have := single_any q W (by omega) hW
    rwa [hqn] at this
  have HW : Hid (∀ o, Maxed (w.alloc o)) := hide fun o => hw.below ((Below.refl _ w).alloc (Nat.le_refl _) o)
  have hf : front (nums s) = if 255 < d then none else (single ((nums s).drop d)).map fun x => (x.1.arr d, d + x.2) := by
    rw [hd]; rfl
  have hrest : ∀ n, q.extract n q.size = s.extract (d + n) s.size := fun n => by
    apply nums_inj
    rw [nums_from, hqn, nums_from, List.drop_drop]
  obtain ⟨D, hD⟩ : ∃ D, restV s (front (nums s)) = D := ⟨_, rfl⟩
  rw [hD]
  rw [hf] at hD
  generalize hsg : single ((nums s).drop d) = sg at *
  clear hf hq hqn hqs hd hw
  cases sg with
  | none =>
    have HV : Hid (D = .tuple #[.agg #[.int .u8 0, .string ⟨#[]⟩, .int .i64 0, .int .u8 0], .string ⟨#[]⟩, .bool false]) := hide (by
      rw [← hD]; split <;> rfl)
    rw [restV_none] at HS
    clear hD hrest hsg
    go_enter Tryd.func19, Tryd.ntmps19
    go_wp2_with fail
    refine (HT.out _).mono ?_
    rintro e w1 ⟨rfl, rfl⟩
    go_wp2_with fail
    refine (HS.out _ (HW.out _)).mono ?_
    rintro e w2 ⟨rfl, hb2⟩
    have ha := ((At.new w 25 [.int .u8 0, .string ⟨#[]⟩, .int .i64 0, .int .u8 0]).below hb2 (by simp))
    have HB2 : Hid (Below w.heap.size w w2) := hide (((Below.refl _ w).alloc (Nat.le_refl _) _).trans (hb2.mono (by simp)))
    have hz2 : w.heap.size < w2.heap.size := by have := hb2.size; simp at this; omega
    obtain ⟨z0, z1, z2, z3, g0, g1, g2, g3⟩ := ha.c4
    clear hb2 ha
    go_wp2_with fail
    refine bodyPost_ret (v := .tuple #[.agg #[.int .u8 0, .string ⟨#[]⟩, .int .i64 0, .int .u8 0], .string ⟨#[]⟩, .bool false]) ?_ rfl ⟨by rw [HV.out], ?_⟩
    · simp [results, Tryd.results19, go_sem, World.cell?_setCell_other, hz2, z0, z1, z2, z3]
    · repeat (first | with_reducible exact HB2.out | with_reducible refine Below.drew ?_ | with_reducible refine below_drewN ?_ _ | ((with_reducible refine Below.setCell ?_ ?hp _); case hp => simp) | ((with_reducible refine Below.alloc ?_ ?hp _); case hp => first | omega | (simp; done) | (simp; omega)))
  | some x =>
    obtain ⟨⟨k, nm, dd, x⟩, n⟩ := x
    have hr : restV q (some (⟨k, nm, dd, x⟩, n)) = .tuple #[.agg #[.int .u8 k, .string (strOfNums nm), .int .i64 dd, .int .u8 x], .string (q.extract n q.size), .bool true] := rfl
    rw [hr, hrest] at HS
    clear hrest hr
    by_cases h255 : 255 < d
    · have HV : Hid (D = .tuple #[.agg #[.int .u8 0, .string ⟨#[]⟩, .int .i64 0, .int .u8 0], .string ⟨#[]⟩, .bool false]) := hide (by
        rw [← hD, if_pos h255]; rfl)
      generalize s.extract (d + n) s.size = q2 at *
      generalize strOfNums nm = nq at *
      clear hD hsg
      go_enter Tryd.func19, Tryd.ntmps19
      go_wp2_with fail
      refine (HT.out _).mono ?_
      rintro e w1 ⟨rfl, rfl⟩
      go_wp2_with fail
      refine (HS.out _ (HW.out _)).mono ?_
      rintro e w2 ⟨rfl, hb2⟩
      have ha := ((At.new w 25 [.int .u8 0, .string ⟨#[]⟩, .int .i64 0, .int .u8 0]).below hb2 (by simp))
      have HB2 : Hid (Below w.heap.size w w2) := hide (((Below.refl _ w).alloc (Nat.le_refl _) _).trans (hb2.mono (by simp)))
      have hz2 : w.heap.size < w2.heap.size := by have := hb2.size; simp at this; omega
      obtain ⟨z0, z1, z2, z3, g0, g1, g2, g3⟩ := ha.c4
      clear hb2 ha
      go_wp2_with fail
      refine bodyPost_ret (v := .tuple #[.agg #[.int .u8 0, .string ⟨#[]⟩, .int .i64 0, .int .u8 0], .string ⟨#[]⟩, .bool false]) ?_ rfl ⟨by rw [HV.out], ?_⟩
      · simp [results, Tryd.results19, go_sem, World.cell?_setCell_other, hz2, z0, z1, z2, z3]
      · repeat (first | with_reducible exact HB2.out | with_reducible refine Below.drew ?_ | with_reducible refine below_drewN ?_ _ | ((with_reducible refine Below.setCell ?_ ?hp _); case hp => simp) | ((with_reducible refine Below.alloc ?_ ?hp _); case hp => first | omega | (simp; done) | (simp; omega)))
    · by_cases h0 : 0 < d
      · have HV : Hid (D = .tuple #[.agg #[.int .u8 91, .string (strOfNums nm), .int .i64 d, .int .u8 k], .string (s.extract (d + n) s.size), .bool true]) := hide (by
          rw [← hD, if_neg h255, Option.map_some, Ty.arr, if_neg (by omega)]; rfl)
        generalize s.extract (d + n) s.size = q2 at *
        generalize strOfNums nm = nq at *
        clear hD hsg
        go_enter Tryd.func19, Tryd.ntmps19
        go_wp2_with fail
        refine (HT.out _).mono ?_
        rintro e w1 ⟨rfl, rfl⟩
        go_wp2_with fail
        refine (HS.out _ (HW.out _)).mono ?_
        rintro e w2 ⟨rfl, hb2⟩
        have ha := ((At.new w 25 [.int .u8 0, .string ⟨#[]⟩, .int .i64 0, .int .u8 0]).below hb2 (by simp))
        have HB2 : Hid (Below w.heap.size w w2) := hide (((Below.refl _ w).alloc (Nat.le_refl _) _).trans (hb2.mono (by simp)))
        have hz2 : w.heap.size < w2.heap.size := by have := hb2.size; simp at this; omega
        obtain ⟨z0, z1, z2, z3, g0, g1, g2, g3⟩ := ha.c4
        clear hb2 ha
        go_wp2_with fail
        try go_region
        all_goals go_wp2_with fail
        all_goals
          refine bodyPost_ret (v := .tuple #[.agg #[.int .u8 91, .string nq, .int .i64 d, .int .u8 k], .string q2, .bool true]) ?_ rfl ⟨by rw [HV.out], ?_⟩
          · simp [results, Tryd.results19, go_sem, World.cell?_setCell_other, hz2, z0, z1, z2, z3]
          · repeat (first | with_reducible exact HB2.out | with_reducible refine Below.drew ?_ | with_reducible refine below_drewN ?_ _ | ((with_reducible refine Below.setCell ?_ ?hp _); case hp => simp) | ((with_reducible refine Below.alloc ?_ ?hp _); case hp => first | omega | (simp; done) | (simp; omega)))
      · have HV : Hid (D = .tuple #[.agg #[.int .u8 k, .string (strOfNums nm), .int .i64 dd, .int .u8 x], .string (s.extract (d + n) s.size), .bool true]) := hide (by
          rw [← hD, if_neg h255, Option.map_some, Ty.arr, if_pos (by omega)]; rfl)
        generalize s.extract (d + n) s.size = q2 at *
        generalize strOfNums nm = nq at *
        clear hD hsg
        go_enter Tryd.func19, Tryd.ntmps19
        go_wp2_with fail
        refine (HT.out _).mono ?_
        rintro e w1 ⟨rfl, rfl⟩
        go_wp2_with fail
        refine (HS.out _ (HW.out _)).mono ?_
        rintro e w2 ⟨rfl, hb2⟩
        have ha := ((At.new w 25 [.int .u8 0, .string ⟨#[]⟩, .int .i64 0, .int .u8 0]).below hb2 (by simp))
        have HB2 : Hid (Below w.heap.size w w2) := hide (((Below.refl _ w).alloc (Nat.le_refl _) _).trans (hb2.mono (by simp)))
        have hz2 : w.heap.size < w2.heap.size := by have := hb2.size; simp at this; omega
        obtain ⟨z0, z1, z2, z3, g0, g1, g2, g3⟩ := ha.c4
        clear hb2 ha
        go_wp2_with fail
        try go_region
        all_goals go_wp2_with fail
        all_goals
          refine bodyPost_ret (v := .tuple #[.agg #[.int .u8 k, .string nq, .int .i64 dd, .int .u8 x], .string q2, .bool true]) ?_ rfl ⟨by rw [HV.out], ?_⟩
          · simp [results, Tryd.results19, go_sem, World.cell?_setCell_other, hz2, z0, z1, z2, z3]
          · repeat (first | with_reducible exact HB2.out | with_reducible refine Below.drew ?_ | with_reducible refine below_drewN ?_ _ | ((with_reducible refine Below.setCell ?_ ?hp _); case hp => simp) | ((with_reducible refine Below.alloc ?_ ?hp _); case hp => first | omega | (simp; done) | (simp; omega)))

/-- What a field's type is told as. -/
def fieldV : Option Ty → Value
  | some t => .tuple #[t.val, .bool true]
  | none => .tuple #[noTy.val, .bool false]
end Go.Proofs.YtjlcocalpjeghaaDoor
