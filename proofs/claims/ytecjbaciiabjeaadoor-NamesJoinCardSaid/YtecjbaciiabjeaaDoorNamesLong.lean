/- The walk of NamesLong. Nothing is claimed here. -/
import Derived.Test.YtecjbaciiabjeaaDoorNamesJoin
import Derived.Laws.MakeOwn
namespace Go.Proofs.YtecjbaciiabjeaaDoor
open Go.RowKit

theorem made_u8 (n : Nat) : madeCells (Value.int .u8 0).cells (n * 1) = (cells .u8 (List.replicate n 0)).toArray := by
  apply Array.toList_inj.1
  unfold madeCells
  rw [Nat.mul_one]
  apply List.ext_getElem?
  intro i
  simp only [Array.toList_map, cells]
  by_cases h : i < n
  · simp [h, Value.cells, Nat.mod_one]
  · simp [h]

theorem midL_zero (n p : Nat) : midL n p 0 = List.replicate n 0 := by simp [midL]
theorem midL_full (n p : Nat) : midL n p n = rowL n p := by
  unfold midL
  rw [List.take_of_length_le (by simp [rowL])]
  simp

set_option maxHeartbeats 2000000 in
set_option maxRecDepth 100000 in
theorem long_in (n p : Nat) (hn : 1 ≤ n) (hn2 : n ≤ 300) (hp : 1 ≤ p) (hp2 : p ≤ 20) (w : World) (hw : Maxed w) : Calls Tryd.prog 4 #[.int .i64 n, .int .i64 p] w fun e w' => e = .returned (.bool true) ∧ Below w.heap.size w w' := by
  obtain ⟨i0, hi0, hz0, hz1, hz2⟩ := info_parts u8info
  have hmk : ∀ W : World, (Instr.makeSlice 26 (.int .i64 (n : Int)) (.int .i64 (n : Int))).run Tryd.prog W = .ok (.slice (some ⟨W.heap.size, 0, none⟩) n n) (W.alloc (.cells (cells .u8 (List.replicate n 0)).toArray 5)) := fun W => by
    have := run_make (P := Tryd.prog) W 26 5 i0 _ Tryd.underlying26 hi0 hz0 .i64 .i64 (n : Int) (n : Int) (by omega) (by omega) (by rw [hz2]; omega) (by omega)
    rw [this, hz1]
    simp only [Int.toNat_natCast]
    rw [made_u8]
  have HS : Hid (∀ W, Calls Tryd.prog 10 #[.string (strOfNums (rowL n p))] W (Tells (decide (n ≤ 255)) W)) := hide fun W => by
    have := class_any (strOfNums (rowL n p)) W
    rwa [nums_of _ (rowL_bytes n p), rowL_class n p hn] at this
  have HW := hide hw
  clear hw hi0 hz0 hz1 hz2
  have g1 : (1 : Int) ≤ (n : Int) := by omega
  have g2 : (n : Int) ≤ (300 : Int) := by omega
  have g3 : (1 : Int) ≤ (p : Int) := by omega
  have g4 : (p : Int) ≤ (20 : Int) := by omega
  go_enter Tryd.func4, Tryd.ntmps4
  go_wp2_with fail
  refine (nbegun_is w HW.out).mono ?_
  rintro e w1 ⟨rfl, hb1⟩
  have B1 := hide hb1
  clear hb1
  go_wp2_with fail
  clear hmk
  have hat : At (w1.alloc (.cells (cells .u8 (List.replicate n 0)).toArray 5)) w1.heap.size 5 (cells .u8 (midL n p 0)) := by rw [midL_zero]; exact At.new _ _ _
  have hb : Below w.heap.size w (w1.alloc (.cells (cells .u8 (List.replicate n 0)).toArray 5)) := B1.out.alloc B1.out.size _
  go_loopw [7] (fun iv wr => ∃ k : Nat, k ≤ n ∧ iv = .int .i64 k ∧ At wr w1.heap.size 5 (cells .u8 (midL n p k)) ∧ Below w.heap.size w wr) (fun iv _ => n - (intOf iv).toNat)
  case atStart => exact ⟨0, Nat.zero_le _, rfl, hat, hb⟩
  case round =>
    clear hat hb
    obtain ⟨k, hk, rfl, hat, hb⟩ := hrel
    have Hb := hide hb
    have Hat := hide hat
    clear hb
    by_cases hlt : k < n
    · have hlt' : (k : Int) < (n : Int) := by omega
      have hcell : ∃ u, wr.cell? ⟨w1.heap.size, k, none⟩ = some u := by
        rw [hat.cell]
        exact ⟨_, List.getElem?_eq_getElem (by simp [cells, midL, rowL]; omega)⟩
      obtain ⟨u, hcell⟩ := hcell
      have hfr := hat.free k
      have h1 := hat.set k (.int .u8 120)
      rw [midL_set n p k hlt] at h1
      have hc1 := h1.cell k
      have hf1 := h1.free k
      have h2 := h1.set k (.int .u8 47)
      rw [midL_set2 n p k hlt] at h2
      have H1 := hide h1
      have H2 := hide h2
      have Hb1 := hide (Hb.out.setCell (p := ⟨w1.heap.size, k, none⟩) B1.out.size (.int .u8 120))
      have Hb2 := hide (Hb1.out.setCell (p := ⟨w1.heap.size, k, none⟩) B1.out.size (.int .u8 47))
      have HN := hide (midL_next n p k hlt)
      have HF := hide (show fL n p k = if 0 < k ∧ k + 1 < n ∧ k % p = 1 ∧ 2 < p then 47 else 120 from rfl)
      clear h1 h2 hat hc1 hf1
      have hmod : ((k : Int) % (p : Int)) = ((k % p : Nat) : Int) := by omega
      by_cases c1 : 0 < k
      · have c1' : (0 : Int) < (k : Int) := by omega
        by_cases c2 : k + 1 < n
        · have c2' : (k : Int) < (n : Int) - (1 : Int) := by omega
          by_cases c3 : k % p = 1
          · have c3' : (((k : Int) % (p : Int)) == 1) = true := by rw [hmod, c3]; rfl
            by_cases c4 : 2 < p
            · have c4' : (2 : Int) < (p : Int) := by omega
              have HE := hide (HF.out.trans (if_pos ⟨c1, c2, c3, c4⟩))
              clear hmod c3
              go_wp2_with fail
              go_roundw
              case rel => exact ⟨k + 1, by omega, by go_num, by rw [← HN.out, HE.out]; exact H2.out, Hb2.out⟩
              case measure => simp [intOf]; omega
            · have c4' : (p : Int) ≤ (2 : Int) := by omega
              have HE := hide (HF.out.trans (if_neg (fun h => c4 h.2.2.2)))
              clear hmod c3
              go_wp2_with fail
              go_roundw
              case rel => exact ⟨k + 1, by omega, by go_num, by rw [← HN.out, HE.out]; exact H1.out, Hb1.out⟩
              case measure => simp [intOf]; omega
          · have c3' : (((k : Int) % (p : Int)) == 1) = false := by rw [hmod]; simp; omega
            have HE := hide (HF.out.trans (if_neg (fun h => c3 h.2.2.1)))
            clear hmod c3
            go_wp2_with fail
            go_roundw
            case rel => exact ⟨k + 1, by omega, by go_num, by rw [← HN.out, HE.out]; exact H1.out, Hb1.out⟩
            case measure => simp [intOf]; omega
        · have c2' : (n : Int) - (1 : Int) ≤ (k : Int) := by omega
          have HE := hide (HF.out.trans (if_neg (fun h => c2 h.2.1)))
          clear hmod
          go_wp2_with fail
          go_roundw
          case rel => exact ⟨k + 1, by omega, by go_num, by rw [← HN.out, HE.out]; exact H1.out, Hb1.out⟩
          case measure => simp [intOf]; omega
      · have c1' : (k : Int) ≤ (0 : Int) := by omega
        have HE := hide (HF.out.trans (if_neg (fun h => c1 h.1)))
        clear hmod
        go_wp2_with fail
        go_roundw
        case rel => exact ⟨k + 1, by omega, by go_num, by rw [← HN.out, HE.out]; exact H1.out, Hb1.out⟩
        case measure => simp [intOf]; omega
    · obtain rfl : k = n := by omega
      rw [midL_full] at hat
      have hrd : Rd wr wr.heap.size (some ⟨w1.heap.size, 0, none⟩) k (cells .u8 (rowL k p)) := by
        have := hat.rd 0 k (by simp [cells, rowL])
        rwa [List.drop_zero, List.take_of_length_le (by simp [cells, rowL])] at this
      have hst := str_of (c := k) hrd
      have hdec : ((decide (k ≤ 255)) == decide ((k : Int) ≤ 255)) = true := by
        rw [beq_iff_eq, decide_eq_decide]; omega
      clear hrd hat
      go_wp2_with fail
      refine (HS.out _).mono ?_
      rintro e w5 ⟨rfl, hb5⟩
      have Hb5 := hide (Hb.out.trans (hb5.mono Hb.out.size))
      clear hb5 hst
      go_wp2_with fail
      go_ret
      exact ⟨rfl, Hb5.out⟩

theorem NamesLong_walk (x0 x1 : Int) (_h : (Lit.int .i64 x0).wf = true) (_h1 : (Lit.int .i64 x1).wf = true) (w : World) (hw : Maxed w) : Calls Tryd.prog 4 #[.int .i64 x0, .int .i64 x1] w fun e w' => e = .returned (.bool true) ∧ Below w.heap.size w w' := by
  by_cases h : 1 ≤ x0 ∧ x0 ≤ 300 ∧ 1 ≤ x1 ∧ x1 ≤ 20
  · obtain ⟨n, rfl⟩ : ∃ n : Nat, x0 = n := ⟨x0.toNat, by omega⟩
    obtain ⟨p, rfl⟩ : ∃ p : Nat, x1 = p := ⟨x1.toNat, by omega⟩
    exact long_in n p (by omega) (by omega) (by omega) (by omega) w hw
  · have HW := hide hw
    clear hw
    rcases (by omega : x0 < 1 ∨ (1 ≤ x0 ∧ 300 < x0) ∨ (1 ≤ x0 ∧ x0 ≤ 300 ∧ x1 < 1) ∨ (1 ≤ x0 ∧ x0 ≤ 300 ∧ 1 ≤ x1 ∧ 20 < x1)) with h1 | ⟨h1, h2⟩ | ⟨h1, h2, h3⟩ | ⟨h1, h2, h3, h4⟩
    all_goals
      clear h
      go_enter Tryd.func4, Tryd.ntmps4
      go_wp2_with fail
      refine (nbegun_is w HW.out).mono ?_
      rintro e w1 ⟨rfl, hb1⟩
      have B1 := hide hb1
      clear hb1
      go_wp2_with fail
      go_ret
      exact ⟨rfl, B1.out⟩

theorem maxed_of {W : World} (h : W.ShapedOpen Tryd.prog) : Maxed W := Tryd.laysM155.s1_3 W h
end Go.Proofs.YtecjbaciiabjeaaDoor
