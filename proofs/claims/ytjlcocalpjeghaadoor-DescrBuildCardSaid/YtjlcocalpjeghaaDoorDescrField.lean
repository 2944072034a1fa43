/- A field's type, by the code and by the document. Nothing is claimed here. -/
import Derived.Test.YtjlcocalpjeghaaDoorDescrFirst
namespace Go.Proofs.YtjlcocalpjeghaaDoor
open Go.RowKit

theorem rest_empty (s : ByteArray) (n : Nat) (h : n = s.size) : (s.extract n s.size).toList.isEmpty = true := by
  have : nums (s.extract n s.size) = [] := by rw [nums_from, List.drop_eq_nil_of_le (by rw [nums_len]; omega)]
  rw [Lib.toList_data, (str_empty _).2 this]; rfl
theorem rest_some (s : ByteArray) (n : Nat) (h : n < s.size) : (s.extract n s.size).toList.isEmpty = false := by
  refine nonempty ?_
  rw [← nums_len, nums_from, List.length_drop, nums_len]; omega

theorem field_len (s : ByteArray) : field (nums s) = match front (nums s) with
    | some (t, n) => if n = s.size then some t else none
    | none => none := by
  unfold field; rw [nums_len]
  cases front (nums s) with
  | none => rfl
  | some x => rfl

set_option maxHeartbeats 2000000 in
set_option maxRecDepth 100000 in
theorem field_any (s : ByteArray) (w : World) (hm : s.size ≤ 1000000) (hw : Maxed w) : Calls Tryd.prog 9 #[.string s] w fun e w' => e = .returned (fieldV (field (nums s))) ∧ Below w.heap.size w w' := by
  have HS : Hid (∀ W, Maxed W → Calls Tryd.prog 19 #[.string s] W fun e w' => e = .returned (restV s (front (nums s))) ∧ Below W.heap.size W w') := hide fun W hW => dfirst_any s W hm hW
  have HW : Hid (∀ o, Maxed (w.alloc o)) := hide fun o => hw.below ((Below.refl _ w).alloc (Nat.le_refl _) o)
  have hf : field (nums s) = match front (nums s) with
    | some (t, n) => if n = s.size then some t else none
    | none => none := field_len s
  have hlen := fun t n (h : front (nums s) = some (t, n)) => front_len h
  rw [nums_len] at hlen
  obtain ⟨D, hD⟩ : ∃ D, fieldV (field (nums s)) = D := ⟨_, rfl⟩
  rw [hD]
  rw [hf] at hD
  clear hw hf
  generalize front (nums s) = sg at *
  cases sg with
  | none =>
    have HV : Hid (D = .tuple #[.agg #[.int .u8 0, .string ⟨#[]⟩, .int .i64 0, .int .u8 0], .bool false]) := hide (by rw [← hD]; rfl)
    rw [restV_none] at HS
    clear hD hlen
    go_enter Tryd.func9, Tryd.ntmps9
    go_wp2_with fail
    refine (HS.out _ (HW.out _)).mono ?_
    rintro e w2 ⟨rfl, hb2⟩
    have ha := ((At.new w 25 [.int .u8 0, .string ⟨#[]⟩, .int .i64 0, .int .u8 0]).below hb2 (by simp))
    have HB2 : Hid (Below w.heap.size w w2) := hide (((Below.refl _ w).alloc (Nat.le_refl _) _).trans (hb2.mono (by simp)))
    have hz2 : w.heap.size < w2.heap.size := by have := hb2.size; simp at this; omega
    obtain ⟨z0, z1, z2, z3, g0, g1, g2, g3⟩ := ha.c4
    clear hb2 ha
    go_wp2_with fail
    refine bodyPost_ret (v := .tuple #[.agg #[.int .u8 0, .string ⟨#[]⟩, .int .i64 0, .int .u8 0], .bool false]) ?_ rfl ⟨by rw [HV.out], ?_⟩
    · simp [results, Tryd.results9, go_sem, World.cell?_setCell_other, hz2, z0, z1, z2, z3]
    · repeat (first | with_reducible exact HB2.out | with_reducible refine Below.drew ?_ | with_reducible refine below_drewN ?_ _ | ((with_reducible refine Below.setCell ?_ ?hp _); case hp => simp) | ((with_reducible refine Below.alloc ?_ ?hp _); case hp => first | omega | (simp; done) | (simp; omega)))
  | some x =>
    obtain ⟨⟨k, nm, dd, x⟩, n⟩ := x
    have hn := hlen _ _ rfl
    have hr : restV s (some (⟨k, nm, dd, x⟩, n)) = .tuple #[.agg #[.int .u8 k, .string (strOfNums nm), .int .i64 dd, .int .u8 x], .string (s.extract n s.size), .bool true] := rfl
    rw [hr] at HS
    clear hr hlen
    by_cases hns : n = s.size
    · have HV : Hid (D = .tuple #[.agg #[.int .u8 k, .string (strOfNums nm), .int .i64 dd, .int .u8 x], .bool true]) := hide (by rw [← hD]; simp only; rw [if_pos hns]; rfl)
      have he := rest_empty s n hns
      generalize s.extract n s.size = q2 at *
      generalize strOfNums nm = nq at *
      clear hD hn hns
      go_enter Tryd.func9, Tryd.ntmps9
      go_wp2_with fail
      refine (HS.out _ (HW.out _)).mono ?_
      rintro e w2 ⟨rfl, hb2⟩
      have ha := ((At.new w 25 [.int .u8 0, .string ⟨#[]⟩, .int .i64 0, .int .u8 0]).below hb2 (by simp))
      have HB2 : Hid (Below w.heap.size w w2) := hide (((Below.refl _ w).alloc (Nat.le_refl _) _).trans (hb2.mono (by simp)))
      have hz2 : w.heap.size < w2.heap.size := by have := hb2.size; simp at this; omega
      obtain ⟨z0, z1, z2, z3, g0, g1, g2, g3⟩ := ha.c4
      clear hb2 ha
      go_wp2_with fail
      refine bodyPost_ret (v := .tuple #[.agg #[.int .u8 k, .string nq, .int .i64 dd, .int .u8 x], .bool true]) ?_ rfl ⟨by rw [HV.out], ?_⟩
      · simp [results, Tryd.results9, go_sem, World.cell?_setCell_other, hz2, z0, z1, z2, z3]
      · repeat (first | with_reducible exact HB2.out | with_reducible refine Below.drew ?_ | with_reducible refine below_drewN ?_ _ | ((with_reducible refine Below.setCell ?_ ?hp _); case hp => simp) | ((with_reducible refine Below.alloc ?_ ?hp _); case hp => first | omega | (simp; done) | (simp; omega)))
    · have HV : Hid (D = .tuple #[.agg #[.int .u8 0, .string ⟨#[]⟩, .int .i64 0, .int .u8 0], .bool false]) := hide (by rw [← hD]; simp only; rw [if_neg hns]; rfl)
      have he := rest_some s n (by omega)
      generalize s.extract n s.size = q2 at *
      generalize strOfNums nm = nq at *
      clear hD hn hns
      go_enter Tryd.func9, Tryd.ntmps9
      go_wp2_with fail
      refine (HS.out _ (HW.out _)).mono ?_
      rintro e w2 ⟨rfl, hb2⟩
      have ha := ((At.new w 25 [.int .u8 0, .string ⟨#[]⟩, .int .i64 0, .int .u8 0]).below hb2 (by simp))
      have HB2 : Hid (Below w.heap.size w w2) := hide (((Below.refl _ w).alloc (Nat.le_refl _) _).trans (hb2.mono (by simp)))
      have hz2 : w.heap.size < w2.heap.size := by have := hb2.size; simp at this; omega
      obtain ⟨z0, z1, z2, z3, g0, g1, g2, g3⟩ := ha.c4
      clear hb2 ha
      go_wp2_with fail
      refine bodyPost_ret (v := .tuple #[.agg #[.int .u8 0, .string ⟨#[]⟩, .int .i64 0, .int .u8 0], .bool false]) ?_ rfl ⟨by rw [HV.out], ?_⟩
      · simp [results, Tryd.results9, go_sem, World.cell?_setCell_other, hz2, z0, z1, z2, z3]
      · repeat (first | with_reducible exact HB2.out | with_reducible refine Below.drew ?_ | with_reducible refine below_drewN ?_ _ | ((with_reducible refine Below.setCell ?_ ?hp _); case hp => simp) | ((with_reducible refine Below.alloc ?_ ?hp _); case hp => first | omega | (simp; done) | (simp; omega)))

set_option maxHeartbeats 2000000 in
set_option maxRecDepth 100000 in
theorem rfield_any (s : ByteArray) (w : World) (hm : s.size ≤ 1000000) : Calls Tryd.prog 10 #[.string s] w fun e w' => e = .returned (fieldV (field (nums s))) ∧ Below w.heap.size w w' := by
  have HS : Hid (∀ W, Calls Tryd.prog 20 #[.string s] W fun e w' => e = .returned (frontV (front (nums s))) ∧ Below W.heap.size W w') := hide fun W => rfront_any s W hm
  have hf : field (nums s) = match front (nums s) with
    | some (t, n) => if n = s.size then some t else none
    | none => none := field_len s
  have hlen := fun t n (h : front (nums s) = some (t, n)) => front_len h
  rw [nums_len] at hlen
  obtain ⟨D, hD⟩ : ∃ D, fieldV (field (nums s)) = D := ⟨_, rfl⟩
  rw [hD]
  rw [hf] at hD
  clear hf
  generalize front (nums s) = sg at *
  cases sg with
  | none =>
    have HV : Hid (D = .tuple #[.agg #[.int .u8 0, .string ⟨#[]⟩, .int .i64 0, .int .u8 0], .bool false]) := hide (by rw [← hD]; rfl)
    have hr : frontV none = .tuple #[.agg #[.int .u8 0, .string ⟨#[]⟩, .int .i64 0, .int .u8 0], .int .i64 0] := rfl
    rw [hr] at HS
    clear hD hlen hr
    go_enter Tryd.func10, Tryd.ntmps10
    go_wp2_with fail
    refine (HS.out _).mono ?_
    rintro e w2 ⟨rfl, hb2⟩
    have ha := ((At.new w 25 [.int .u8 0, .string ⟨#[]⟩, .int .i64 0, .int .u8 0]).below hb2 (by simp))
    have HB2 : Hid (Below w.heap.size w w2) := hide (((Below.refl _ w).alloc (Nat.le_refl _) _).trans (hb2.mono (by simp)))
    have hz2 : w.heap.size < w2.heap.size := by have := hb2.size; simp at this; omega
    obtain ⟨z0, z1, z2, z3, g0, g1, g2, g3⟩ := ha.c4
    clear hb2 ha
    go_wp2_with fail
    refine bodyPost_ret (v := .tuple #[.agg #[.int .u8 0, .string ⟨#[]⟩, .int .i64 0, .int .u8 0], .bool false]) ?_ rfl ⟨by rw [HV.out], ?_⟩
    · simp [results, Tryd.results10, go_sem, World.cell?_setCell_other, hz2, z0, z1, z2, z3]
    · repeat (first | with_reducible exact HB2.out | with_reducible refine Below.drew ?_ | with_reducible refine below_drewN ?_ _ | ((with_reducible refine Below.setCell ?_ ?hp _); case hp => simp) | ((with_reducible refine Below.alloc ?_ ?hp _); case hp => first | omega | (simp; done) | (simp; omega)))
  | some x =>
    obtain ⟨⟨k, nm, dd, x⟩, n⟩ := x
    have hn := hlen _ _ rfl
    have hr : frontV (some (⟨k, nm, dd, x⟩, n)) = .tuple #[.agg #[.int .u8 k, .string (strOfNums nm), .int .i64 dd, .int .u8 x], .int .i64 n] := rfl
    rw [hr] at HS
    have hn0 : ((n : Int) == 0) = false := by simp; omega
    clear hr hlen
    by_cases hns : n = s.size
    · have HV : Hid (D = .tuple #[.agg #[.int .u8 k, .string (strOfNums nm), .int .i64 dd, .int .u8 x], .bool true]) := hide (by rw [← hD]; simp only; rw [if_pos hns]; rfl)
      have he : ((n : Int) != (s.size : Int)) = false := by simp; omega
      generalize strOfNums nm = nq at *
      clear hD hn hns
      go_enter Tryd.func10, Tryd.ntmps10
      go_wp2_with fail
      refine (HS.out _).mono ?_
      rintro e w2 ⟨rfl, hb2⟩
      have ha := ((At.new w 25 [.int .u8 0, .string ⟨#[]⟩, .int .i64 0, .int .u8 0]).below hb2 (by simp))
      have HB2 : Hid (Below w.heap.size w w2) := hide (((Below.refl _ w).alloc (Nat.le_refl _) _).trans (hb2.mono (by simp)))
      have hz2 : w.heap.size < w2.heap.size := by have := hb2.size; simp at this; omega
      obtain ⟨z0, z1, z2, z3, g0, g1, g2, g3⟩ := ha.c4
      clear hb2 ha
      go_wp2_with fail
      refine bodyPost_ret (v := .tuple #[.agg #[.int .u8 k, .string nq, .int .i64 dd, .int .u8 x], .bool true]) ?_ rfl ⟨by rw [HV.out], ?_⟩
      · simp [results, Tryd.results10, go_sem, World.cell?_setCell_other, hz2, z0, z1, z2, z3]
      · repeat (first | with_reducible exact HB2.out | with_reducible refine Below.drew ?_ | with_reducible refine below_drewN ?_ _ | ((with_reducible refine Below.setCell ?_ ?hp _); case hp => simp) | ((with_reducible refine Below.alloc ?_ ?hp _); case hp => first | omega | (simp; done) | (simp; omega)))
    · have HV : Hid (D = .tuple #[.agg #[.int .u8 0, .string ⟨#[]⟩, .int .i64 0, .int .u8 0], .bool false]) := hide (by rw [← hD]; simp only; rw [if_neg hns]; rfl)
      have he : ((n : Int) != (s.size : Int)) = true := by simp; omega
      generalize strOfNums nm = nq at *
      clear hD hn hns
      go_enter Tryd.func10, Tryd.ntmps10
      go_wp2_with fail
      refine (HS.out _).mono ?_
      rintro e w2 ⟨rfl, hb2⟩
      have ha := ((At.new w 25 [.int .u8 0, .string ⟨#[]⟩, .int .i64 0, .int .u8 0]).below hb2 (by simp))
      have HB2 : Hid (Below w.heap.size w w2) := hide (((Below.refl _ w).alloc (Nat.le_refl _) _).trans (hb2.mono (by simp)))
      have hz2 : w.heap.size < w2.heap.size := by have := hb2.size; simp at this; omega
      obtain ⟨z0, z1, z2, z3, g0, g1, g2, g3⟩ := ha.c4
      clear hb2 ha
      go_wp2_with fail
      refine bodyPost_ret (v := .tuple #[.agg #[.int .u8 0, .string ⟨#[]⟩, .int .i64 0, .int .u8 0], .bool false]) ?_ rfl ⟨by rw [HV.out], ?_⟩
      · simp [results, Tryd.results10, go_sem, World.cell?_setCell_other, hz2, z0, z1, z2, z3]
      · repeat (first | with_reducible exact HB2.out | with_reducible refine Below.drew ?_ | with_reducible refine below_drewN ?_ _ | ((with_reducible refine Below.setCell ?_ ?hp _); case hp => simp) | ((with_reducible refine Below.alloc ?_ ?hp _); case hp => first | omega | (simp; done) | (simp; omega)))
end Go.Proofs.YtjlcocalpjeghaaDoor
