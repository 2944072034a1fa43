/- What U1, U2, U4 and Bytes give, over a cursor in memory. Nothing is claimed here. -/
import Derived.Test.YtlgknednfgpgfaaCursor
namespace Go.Proofs.Ytlgknednfgpgfaa
open Go.RowKit

theorem or_byte (x y : Int) (h0 : 0 ≤ x) (h1 : x < 1099511627776) (h2 : 0 ≤ y) (h3 : y < 256) : bits .or .i64 (x * 256) y = x * 256 + y :=
  bits_join .i64 63 (by decide) (fun n _ _ => IntWalk.i64_in _ (by omega)) 8 _ _ (by omega) (by omega) (by omega) h2 (by omega) (by omega)

theorem rd_cell {w : World} {B : Nat} {A : Option Addr} {n : Nat} {ys : List Int} (h : Rd w B A n (bys ys)) {j : Nat} (hj : j < ys.length) :
    ∃ g o, A = some ⟨g, o, none⟩ ∧ w.cell? ⟨g, o + j, none⟩ = some (.int .u8 (ys.getD j 0)) := by
  have hl := h.1
  rw [bys_len] at hl
  obtain ⟨g, o, rfl, _, hc⟩ := h.2 (by omega)
  exact ⟨g, o, rfl, hc j _ (by simp [bys, List.getD, hj])⟩

theorem number_some (g gb : Nat) (xs : List Int) (k : Nat) (n : Int) (w : World) (h : Cur w g gb xs k false) (h0 : 0 ≤ n) (hn : n ≤ (xs.length : Int) - k) (h4 : n ≤ 4) :
    Calls Try.prog 32 #[.pointer (some ⟨g, 0, none⟩), .int .i64 n] w fun e w' => e = .returned (.int .i64 (be ((xs.drop k).take n.toNat))) ∧ Cur w' g gb xs (k + n.toNat) false ∧ w.grownBy w' (some g) := by
  obtain ⟨n, rfl⟩ := Int.eq_ofNat_of_zero_le h0
  have hc0 := take_yes g gb xs k n w h h0 hn
  rw [Int.toNat_natCast] at hc0 ⊢
  have HC := hide hc0
  obtain ⟨ys, hys⟩ : ∃ ys, ys = (xs.drop k).take n := ⟨_, rfl⟩
  have hyl : ys.length = n := by rw [hys]; simp; omega
  have hb : IsBytes ys := by rw [hys]; exact (h.2.2.2.1.drop k).take _
  unfold Taken at HC
  rw [← hys] at HC ⊢
  have Hb := hide hb
  have Hyl := hide hyl
  clear hb hyl hys h hn hc0 h0
  go_enter Try.func32, Try.ntmps32
  go_wp2_with (go_at_call 44; refine HC.out.mono ?_; rintro e w1 ⟨A, c, rfl, hr1, hc1, hg1⟩)
  have Hr1 := hide hr1
  clear hr1
  go_loop [5, 12] (fun v i => ∃ j : Nat, j ≤ n ∧ i = .int .i64 j ∧ v = .int .i64 (be (ys.take j))) (fun _ i => n - (intOf i).toNat)
  case atStart => exact ⟨0, Nat.zero_le _, rfl, rfl⟩
  case round =>
    obtain ⟨j, hj, rfl, rfl⟩ := hrel
    have hbd := be_bound (ys.take j) (Hb.out.take j) (by simp; omega)
    by_cases hlt : j < n
    · have hjl : j < ys.length := by rw [Hyl.out]; exact hlt
      have hy := Hb.out (ys.getD j 0) (by simp [List.getD, hjl])
      obtain ⟨gA, oA, rfl, hcell⟩ := rd_cell Hr1.out hjl
      have hst := take_step ys j hjl
      have Hst := hide hst
      have Hor := hide (or_byte (be (ys.take j)) (ys.getD j 0) hbd.1 (by omega) hy.1 hy.2)
      clear hst
      generalize ys.getD j 0 = y at *
      generalize be (ys.take j) = v at *
      go_wp2
      go_round
      case rel => exact ⟨j + 1, by omega, by go_num, by rw [Hst.out, Hor.out]⟩
      case measure => simp [intOf]; omega
    · obtain rfl : j = n := by omega
      have Hfull := hide (List.take_of_length_le (Nat.le_of_eq Hyl.out))
      go_wp2
      go_ret
      refine ⟨?_, hc1, hg1⟩
      rw [Hfull.out]
      rfl

/-- Is a read of n bytes not refused? -/
def okd (xs : List Int) (k : Nat) (bad : Bool) (n : Int) : Bool := !bad && decide (0 ≤ n) && decide (n ≤ (xs.length : Int) - k)
/-- The bytes that a read of n gives. -/
def got (xs : List Int) (k : Nat) (bad : Bool) (n : Int) : List Int := if okd xs k bad n then (xs.drop k).take n.toNat else []
/-- Where the cursor stands behind it. -/
def went (xs : List Int) (k : Nat) (bad : Bool) (n : Int) : Nat := if okd xs k bad n then k + n.toNat else k

theorem okd_false {xs : List Int} {k : Nat} {bad : Bool} {n : Int} (h : okd xs k bad n = false) : bad = true ∨ n < 0 ∨ (xs.length : Int) - k < n := by
  cases bad
  · simp [okd] at h; right; rcases Int.lt_or_le n 0 with a | a
    · exact .inl a
    · exact .inr (h a)
  · exact .inl rfl
theorem okd_true {xs : List Int} {k : Nat} {bad : Bool} {n : Int} (h : okd xs k bad n = true) : bad = false ∧ 0 ≤ n ∧ n ≤ (xs.length : Int) - k := by
  cases bad
  · simp [okd] at h; exact ⟨rfl, h.1, h.2⟩
  · simp [okd] at h

theorem number_is (g gb : Nat) (xs : List Int) (k : Nat) (n : Int) (bad : Bool) (w : World) (h : Cur w g gb xs k bad) (h4 : n ≤ 4) :
    Calls Try.prog 32 #[.pointer (some ⟨g, 0, none⟩), .int .i64 n] w fun e w' => e = .returned (.int .i64 (be (got xs k bad n))) ∧ Cur w' g gb xs (went xs k bad n) (!okd xs k bad n) ∧ w.grownBy w' (some g) := by
  unfold got went
  cases ho : okd xs k bad n
  · exact number_none g gb xs k n bad w h (okd_false ho)
  · obtain ⟨rfl, h0, hn⟩ := okd_true ho
    exact number_some g gb xs k n w h h0 hn h4

theorem u1_any (g gb : Nat) (xs : List Int) (k : Nat) (bad : Bool) (w : World) (h : Cur w g gb xs k bad) (v : Int) (k' : Nat) (bad' : Bool)
    (hv : be (got xs k bad 1) = v) (hk : went xs k bad 1 = k') (hb : (!okd xs k bad 1) = bad') :
    Calls Try.prog 33 #[.pointer (some ⟨g, 0, none⟩)] w fun e w' => e = .returned (.int .i64 v) ∧ Cur w' g gb xs k' bad' ∧ w.grownBy w' (some g) := by
  have HC := hide (number_is g gb xs k 1 bad w h (by omega))
  rw [hv, hk, hb] at HC
  clear hv hk hb
  go_enter Try.func33, Try.ntmps33
  go_wp2_with (go_at_call 32; refine HC.out.mono ?_; rintro e w1 ⟨rfl, hc1, hg1⟩)
  go_ret
  exact ⟨rfl, hc1, hg1⟩
theorem u2_any (g gb : Nat) (xs : List Int) (k : Nat) (bad : Bool) (w : World) (h : Cur w g gb xs k bad) (v : Int) (k' : Nat) (bad' : Bool)
    (hv : be (got xs k bad 2) = v) (hk : went xs k bad 2 = k') (hb : (!okd xs k bad 2) = bad') :
    Calls Try.prog 15 #[.pointer (some ⟨g, 0, none⟩)] w fun e w' => e = .returned (.int .i64 v) ∧ Cur w' g gb xs k' bad' ∧ w.grownBy w' (some g) := by
  have HC := hide (number_is g gb xs k 2 bad w h (by omega))
  rw [hv, hk, hb] at HC
  clear hv hk hb
  go_enter Try.func15, Try.ntmps15
  go_wp2_with (go_at_call 32; refine HC.out.mono ?_; rintro e w1 ⟨rfl, hc1, hg1⟩)
  go_ret
  exact ⟨rfl, hc1, hg1⟩
/-- What Bytes gives: a copy, in a new block, of the bytes that were read. -/
def Copied (w : World) (g gb : Nat) (xs : List Int) (k : Nat) (bad : Bool) (n : Int) (e : Ending) (w' : World) : Prop :=
  ∃ q, e = .returned (.slice (some ⟨q, 0, none⟩) (got xs k bad n).length (got xs k bad n).length) ∧ w.heap.size ≤ q ∧ At w' q 5 (bys (got xs k bad n)) ∧
    Cur w' g gb xs (went xs k bad n) (!okd xs k bad n) ∧ w.grownBy w' (some g)

theorem took (g gb : Nat) (xs : List Int) (k : Nat) (n : Int) (bad : Bool) (w : World) (h : Cur w g gb xs k bad) :
    Calls Try.prog 44 #[.pointer (some ⟨g, 0, none⟩), .int .i64 n] w fun e w' => ∃ A c, e = .returned (.slice A (got xs k bad n).length c) ∧ Rd w' w'.heap.size A (got xs k bad n).length (bys (got xs k bad n)) ∧
      Cur w' g gb xs (went xs k bad n) (!okd xs k bad n) ∧ w.grownBy w' (some g) := by
  unfold got went
  cases ho : okd xs k bad n
  · rcases bad with _ | _
    · exact (take_no g gb xs k n w h (by simpa using okd_false ho)).mono fun e w' ⟨a, b, d⟩ => ⟨none, 0, a, Rd.nil _ _ _, b, d⟩
    · exact (take_bad g gb xs k n w h).mono fun e w' ⟨a, b⟩ => ⟨none, 0, a, Rd.nil _ _ _, b ▸ h, b ▸ grown_refl w _⟩
  · obtain ⟨rfl, h0, hn⟩ := okd_true ho
    refine (take_yes g gb xs k n w h h0 hn).mono fun e w' ⟨A, c, he, hr, hc, hg⟩ => ⟨A, c, ?_, ?_, hc, hg⟩
    · have : ((xs.drop k).take n.toNat).length = n.toNat := by simp; omega
      simp only [if_true, this]; exact he
    · have : ((xs.drop k).take n.toNat).length = n.toNat := by simp; omega
      simp only [if_true, this]; exact hr

theorem got_len (xs : List Int) (k : Nat) (bad : Bool) (n : Int) : (got xs k bad n).length ≤ xs.length := by
  unfold got; split
  · simp; omega
  · simp
theorem got_bytes {xs : List Int} (h : IsBytes xs) (k : Nat) (bad : Bool) (n : Int) : IsBytes (got xs k bad n) := by
  unfold got; split
  · exact (h.drop k).take _
  · intro x hx; cases hx

end Go.Proofs.Ytlgknednfgpgfaa
