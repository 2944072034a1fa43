/- The walk of DescrDims. Nothing is claimed here. -/
import Derived.Test.YtjlcocalpjeghaaDoorDescrBegun
namespace Go.Proofs.YtjlcocalpjeghaaDoor
open Go.RowKit

theorem field_rep (n : Nat) (m : List Int) (hh : m.head? ≠ some 91) :
    field (List.replicate n 91 ++ m) = if 255 < n then none else (single m).bind fun x => if x.2 = m.length then some (x.1.arr n) else none := by
  have hd := dimsL_rep n m hh
  have hdr : (List.replicate n (91 : Int) ++ m).drop n = m := by
    rw [List.drop_append_of_le_length (by simp), List.drop_eq_nil_of_le (by simp)]; rfl
  have hf : front (List.replicate n 91 ++ m) = if 255 < n then none else (single m).map fun x => (x.1.arr n, n + x.2) := by
    unfold front
    rw [hd, hdr]
  unfold field
  rw [hf]
  by_cases h : 255 < n
  · rw [if_pos h, if_pos h]
  · rw [if_neg h, if_neg h]
    cases single m with
    | none => rfl
    | some x =>
      simp only [Option.map_some, Option.bind_some, List.length_append, List.length_replicate]
      by_cases hx : x.2 = m.length
      · rw [if_pos (by omega), if_pos hx]
      · rw [if_neg (by omega), if_neg hx]
/-- What a text of n brackets and a rest is as a field's type. -/
theorem dims_some (n : Nat) (q lit : ByteArray) (hq : nums q = List.replicate n 91) (hn : n ≤ 255) (t : Ty) (ht : single (nums lit) = some (t, (nums lit).length)) (h0 : t.dims = 0) (hh : (nums lit).head? ≠ some 91) :
    ∃ k nm x, fieldV (field (nums (q ++ lit))) = .tuple #[.agg #[.int .u8 k, .string nm, .int .i64 n, .int .u8 x], .bool true] := by
  rw [nums_app, hq, field_rep n _ hh, if_neg (by omega), ht, Option.bind_some, if_pos rfl]
  unfold Ty.arr
  by_cases h : n = 0
  · rw [if_pos h]; exact ⟨t.kind, _, t.elem, by rw [fieldV, Ty.val, h0, h]⟩
  · rw [if_neg h]; exact ⟨91, _, t.kind, rfl⟩
theorem dims_many (n : Nat) (q lit : ByteArray) (hq : nums q = List.replicate n 91) (hn : 255 < n) (hh : (nums lit).head? ≠ some 91) :
    fieldV (field (nums (q ++ lit))) = .tuple #[.agg #[.int .u8 0, .string ⟨#[]⟩, .int .i64 0, .int .u8 0], .bool false] := by
  rw [nums_app, hq, field_rep n _ hh, if_pos hn]; rfl
theorem dims_none (n : Nat) (q lit : ByteArray) (hq : nums q = List.replicate n 91) (hs : single (nums lit) = none) (hh : (nums lit).head? ≠ some 91) :
    fieldV (field (nums (q ++ lit))) = .tuple #[.agg #[.int .u8 0, .string ⟨#[]⟩, .int .i64 0, .int .u8 0], .bool false] := by
  rw [nums_app, hq, field_rep n _ hh, hs]
  split <;> rfl

set_option maxHeartbeats 4000000 in
set_option maxRecDepth 100000 in
theorem dims_in (n : Nat) (x : Int) (hn : n ≤ 300) (w : World) (hw : Maxed w) : Calls Tryd.prog 5 #[.int .i64 n, .int .i64 x] w fun e w' => e = .returned (.bool true) ∧ Below w.heap.size w w' := by
  have HW := hide hw
  obtain ⟨t, ht⟩ : ∃ t, x.tmod 5 = t := ⟨_, rfl⟩
  have ht1 : -4 ≤ t ∧ t ≤ 4 := by
    have := Int.natAbs_tmod x 5
    have h2 : (x.tmod 5).natAbs < 5 := by rw [this]; exact Nat.mod_lt _ (by decide)
    rw [ht] at h2
    omega
  obtain ⟨m, hm, hm5⟩ : ∃ m : Nat, (t + 5) % 5 = (m : Int) ∧ m < 5 := ⟨((t + 5) % 5).toNat, by omega, by omega⟩
  have ht2 := ht1.1
  have ht3 := ht1.2
  clear ht1
  have HF : Hid (∀ (s : ByteArray) (W : World), s.size ≤ 1000000 → Maxed W → Calls Tryd.prog 9 #[.string s] W fun e w' => e = .returned (fieldV (field (nums s))) ∧ Below W.heap.size W w') := hide field_any
  clear hw
  go_enter Tryd.func5, Tryd.ntmps5
  go_wp2_with fail
  refine (dbegun_is w HW.out).mono ?_
  rintro e w1 ⟨rfl, hb1⟩
  have B1 := hide hb1
  clear hb1
  go_wp2_with fail
  go_loopw [6, 7] (fun sv iv wr => ∃ (k : Nat) (q : ByteArray), k ≤ n ∧ iv = .int .i64 k ∧ sv = .string q ∧ nums q = List.replicate k 91 ∧ wr = w1) (fun _ iv _ => n - (intOf iv).toNat)
  case atStart => exact ⟨0, ⟨#[]⟩, Nat.zero_le _, rfl, rfl, rfl, rfl⟩
  case round =>
    obtain ⟨k, q, hk, rfl, rfl, hq, rfl⟩ := hrel
    have hqz : q.size = k := by rw [← nums_len, hq, List.length_replicate]
    have HQ := hide hq
    clear hq
    by_cases hlt : k < n
    · go_wp2_with fail
      go_roundw
      case rel => exact ⟨k + 1, q ++ ⟨#[91]⟩, by omega, by go_num, rfl, by rw [nums_app, HQ.out, List.replicate_succ']; rfl, by trivial⟩
      case measure => simp [intOf]; omega
    · obtain rfl : k = n := by omega
      obtain rfl | rfl | rfl | rfl | rfl : m = 0 ∨ m = 1 ∨ m = 2 ∨ m = 3 ∨ m = 4 := by omega
      · have hl0 : (q ++ ⟨#[73]⟩).size ≤ 1000000 := by rw [ByteArray.size_append, hqz]; show k + 1 ≤ _; omega
        have hl1 : (q ++ ⟨#[73]⟩).size = k + 1 := by rw [ByteArray.size_append, hqz]; rfl
        by_cases h255 : k ≤ 255
        · obtain ⟨kk, nm, xx, hv⟩ := dims_some k q ⟨#[73]⟩ HQ.out h255 ⟨73, [], 0, 0⟩ (by decide +kernel) rfl (by decide +kernel)
          have HF1 := hide (fun W hW => HF.out (q ++ ⟨#[73]⟩) W hl0 hW)
          rw [hv] at HF1
          clear hv HF hl0
          have hk2 : (k : Int) ≤ 255 := by omega
          have hkk : ((k : Int) == (k : Int)) = true := beq_self_eq_true _
          go_wp2_with fail
          refine (HF1.out _ (HW.out.below (B1.out.alloc B1.out.size _))).mono ?_
          rintro e w2 ⟨rfl, hb2⟩
          have B2 := hide ((B1.out.alloc B1.out.size _).trans (hb2.mono (by have := B1.out.size; simp; omega)))
          clear hb2
          go_wp2_with fail
          go_ret
          refine ⟨rfl, ?_⟩
          exact B2.out.alloc B2.out.size _
        · have hv := dims_many k q ⟨#[73]⟩ HQ.out (by omega) (by decide +kernel)
          have HF1 := hide (fun W hW => HF.out (q ++ ⟨#[73]⟩) W hl0 hW)
          rw [hv] at HF1
          clear hv HF hl0
          have hk2 : ¬ (k : Int) ≤ 255 := by omega
          go_wp2_with fail
          refine (HF1.out _ (HW.out.below (B1.out.alloc B1.out.size _))).mono ?_
          rintro e w2 ⟨rfl, hb2⟩
          have B2 := hide ((B1.out.alloc B1.out.size _).trans (hb2.mono (by have := B1.out.size; simp; omega)))
          clear hb2
          go_wp2_with fail
          go_ret
          refine ⟨rfl, ?_⟩
          exact B2.out.alloc B2.out.size _
      · have hl0 : (q ++ ⟨#[74]⟩).size ≤ 1000000 := by rw [ByteArray.size_append, hqz]; show k + 1 ≤ _; omega
        have hl1 : (q ++ ⟨#[74]⟩).size = k + 1 := by rw [ByteArray.size_append, hqz]; rfl
        by_cases h255 : k ≤ 255
        · obtain ⟨kk, nm, xx, hv⟩ := dims_some k q ⟨#[74]⟩ HQ.out h255 ⟨74, [], 0, 0⟩ (by decide +kernel) rfl (by decide +kernel)
          have HF1 := hide (fun W hW => HF.out (q ++ ⟨#[74]⟩) W hl0 hW)
          rw [hv] at HF1
          clear hv HF hl0
          have hk2 : (k : Int) ≤ 255 := by omega
          have hkk : ((k : Int) == (k : Int)) = true := beq_self_eq_true _
          go_wp2_with fail
          refine (HF1.out _ (HW.out.below (B1.out.alloc B1.out.size _))).mono ?_
          rintro e w2 ⟨rfl, hb2⟩
          have B2 := hide ((B1.out.alloc B1.out.size _).trans (hb2.mono (by have := B1.out.size; simp; omega)))
          clear hb2
          go_wp2_with fail
          go_ret
          refine ⟨rfl, ?_⟩
          exact B2.out.alloc B2.out.size _
        · have hv := dims_many k q ⟨#[74]⟩ HQ.out (by omega) (by decide +kernel)
          have HF1 := hide (fun W hW => HF.out (q ++ ⟨#[74]⟩) W hl0 hW)
          rw [hv] at HF1
          clear hv HF hl0
          have hk2 : ¬ (k : Int) ≤ 255 := by omega
          go_wp2_with fail
          refine (HF1.out _ (HW.out.below (B1.out.alloc B1.out.size _))).mono ?_
          rintro e w2 ⟨rfl, hb2⟩
          have B2 := hide ((B1.out.alloc B1.out.size _).trans (hb2.mono (by have := B1.out.size; simp; omega)))
          clear hb2
          go_wp2_with fail
          go_ret
          refine ⟨rfl, ?_⟩
          exact B2.out.alloc B2.out.size _
      · have hl0 : (q ++ ⟨#[76, 120, 59]⟩).size ≤ 1000000 := by rw [ByteArray.size_append, hqz]; show k + 3 ≤ _; omega
        have hl1 : (q ++ ⟨#[76, 120, 59]⟩).size = k + 3 := by rw [ByteArray.size_append, hqz]; rfl
        by_cases h255 : k ≤ 255
        · obtain ⟨kk, nm, xx, hv⟩ := dims_some k q ⟨#[76, 120, 59]⟩ HQ.out h255 ⟨76, [120], 0, 0⟩ (by decide +kernel) rfl (by decide +kernel)
          have HF1 := hide (fun W hW => HF.out (q ++ ⟨#[76, 120, 59]⟩) W hl0 hW)
          rw [hv] at HF1
          clear hv HF hl0
          have hk2 : (k : Int) ≤ 255 := by omega
          have hkk : ((k : Int) == (k : Int)) = true := beq_self_eq_true _
          go_wp2_with fail
          refine (HF1.out _ (HW.out.below (B1.out.alloc B1.out.size _))).mono ?_
          rintro e w2 ⟨rfl, hb2⟩
          have B2 := hide ((B1.out.alloc B1.out.size _).trans (hb2.mono (by have := B1.out.size; simp; omega)))
          clear hb2
          go_wp2_with fail
          go_ret
          refine ⟨rfl, ?_⟩
          exact B2.out.alloc B2.out.size _
        · have hv := dims_many k q ⟨#[76, 120, 59]⟩ HQ.out (by omega) (by decide +kernel)
          have HF1 := hide (fun W hW => HF.out (q ++ ⟨#[76, 120, 59]⟩) W hl0 hW)
          rw [hv] at HF1
          clear hv HF hl0
          have hk2 : ¬ (k : Int) ≤ 255 := by omega
          go_wp2_with fail
          refine (HF1.out _ (HW.out.below (B1.out.alloc B1.out.size _))).mono ?_
          rintro e w2 ⟨rfl, hb2⟩
          have B2 := hide ((B1.out.alloc B1.out.size _).trans (hb2.mono (by have := B1.out.size; simp; omega)))
          clear hb2
          go_wp2_with fail
          go_ret
          refine ⟨rfl, ?_⟩
          exact B2.out.alloc B2.out.size _
      · have hl0 : (q ++ ⟨#[70]⟩).size ≤ 1000000 := by rw [ByteArray.size_append, hqz]; show k + 1 ≤ _; omega
        have hl1 : (q ++ ⟨#[70]⟩).size = k + 1 := by rw [ByteArray.size_append, hqz]; rfl
        have hv := dims_none k q ⟨#[70]⟩ HQ.out (by decide +kernel) (by decide +kernel)
        have HF1 := hide (fun W hW => HF.out (q ++ ⟨#[70]⟩) W hl0 hW)
        rw [hv] at HF1
        clear hv HF hl0
        by_cases h255 : k ≤ 255
        · have hk2 : (k : Int) ≤ 255 := by omega
          go_wp2_with fail
          refine (HF1.out _ (HW.out.below (B1.out.alloc B1.out.size _))).mono ?_
          rintro e w2 ⟨rfl, hb2⟩
          have B2 := hide ((B1.out.alloc B1.out.size _).trans (hb2.mono (by have := B1.out.size; simp; omega)))
          clear hb2
          go_wp2_with fail
          go_ret
          refine ⟨rfl, ?_⟩
          exact B2.out.alloc B2.out.size _
        · have hk2 : ¬ (k : Int) ≤ 255 := by omega
          go_wp2_with fail
          refine (HF1.out _ (HW.out.below (B1.out.alloc B1.out.size _))).mono ?_
          rintro e w2 ⟨rfl, hb2⟩
          have B2 := hide ((B1.out.alloc B1.out.size _).trans (hb2.mono (by have := B1.out.size; simp; omega)))
          clear hb2
          go_wp2_with fail
          go_ret
          refine ⟨rfl, ?_⟩
          exact B2.out.alloc B2.out.size _
      · have hl0 : (q ++ ⟨#[86]⟩).size ≤ 1000000 := by rw [ByteArray.size_append, hqz]; show k + 1 ≤ _; omega
        have hl1 : (q ++ ⟨#[86]⟩).size = k + 1 := by rw [ByteArray.size_append, hqz]; rfl
        have hv := dims_none k q ⟨#[86]⟩ HQ.out (by decide +kernel) (by decide +kernel)
        have HF1 := hide (fun W hW => HF.out (q ++ ⟨#[86]⟩) W hl0 hW)
        rw [hv] at HF1
        clear hv HF hl0
        by_cases h255 : k ≤ 255
        · have hk2 : (k : Int) ≤ 255 := by omega
          go_wp2_with fail
          refine (HF1.out _ (HW.out.below (B1.out.alloc B1.out.size _))).mono ?_
          rintro e w2 ⟨rfl, hb2⟩
          have B2 := hide ((B1.out.alloc B1.out.size _).trans (hb2.mono (by have := B1.out.size; simp; omega)))
          clear hb2
          go_wp2_with fail
          go_ret
          refine ⟨rfl, ?_⟩
          exact B2.out.alloc B2.out.size _
        · have hk2 : ¬ (k : Int) ≤ 255 := by omega
          go_wp2_with fail
          refine (HF1.out _ (HW.out.below (B1.out.alloc B1.out.size _))).mono ?_
          rintro e w2 ⟨rfl, hb2⟩
          have B2 := hide ((B1.out.alloc B1.out.size _).trans (hb2.mono (by have := B1.out.size; simp; omega)))
          clear hb2
          go_wp2_with fail
          go_ret
          refine ⟨rfl, ?_⟩
          exact B2.out.alloc B2.out.size _

theorem DescrDims_walk (x0 x1 : Int) (_h : (Lit.int .i64 x0).wf = true) (_h1 : (Lit.int .i64 x1).wf = true) (w : World) (hw : Maxed w) : Calls Tryd.prog 5 #[.int .i64 x0, .int .i64 x1] w fun e w' => e = .returned (.bool true) ∧ Below w.heap.size w w' := by
  by_cases h : 0 ≤ x0 ∧ x0 ≤ 300
  · obtain ⟨n, rfl⟩ : ∃ n : Nat, x0 = n := ⟨x0.toNat, by omega⟩
    exact dims_in n x1 (by omega) w hw
  · have HW := hide hw
    clear hw
    rcases (by omega : x0 < 0 ∨ (0 ≤ x0 ∧ 300 < x0)) with h1 | ⟨h1, h2⟩
    all_goals
      clear h
      go_enter Tryd.func5, Tryd.ntmps5
      go_wp2_with fail
      refine (dbegun_is w HW.out).mono ?_
      rintro e w1 ⟨rfl, hb1⟩
      have B1 := hide hb1
      clear hb1
      go_wp2_with fail
      go_ret
      exact ⟨rfl, B1.out⟩
end Go.Proofs.YtjlcocalpjeghaaDoor
