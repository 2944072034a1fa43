/- A tableswitch that is one: the walk. Nothing is claimed here. -/
import Derived.Test.YtllbbmofinminaaInstrTab2
namespace Go.Proofs.Ytllbbmofinminaa
open Go.RowKit

set_option maxHeartbeats 2000000 in
set_option maxRecDepth 100000 in
theorem tab_yes (A : Option Addr) (n c p m : Nat) (xs : List Int) (w : World) (B : Nat) (h : Rd w B A n (bys xs)) (hB : B ≤ w.heap.size) (hb : IsBytes xs) (hp : p < n) (hc : n ≤ c) (hn : n ≤ 140737488355328) (hyes : (n < padE p + 12 || !padZ xs p) = false)
    (hm : s4 xs (padE p + 8) - s4 xs (padE p + 4) + 1 = m) (hm1 : 1 ≤ m) (hm2 : m < 1000) (hl : 12 + 4 * m ≤ n - padE p) :
    Calls Try.prog 17 #[.slice A n c, .int .i64 p] w fun e w' => InsR w w' e (some ⟨p, padE p - p + 12 + 4 * m, b1 xs p, false, 0, 0, tabTo xs p (padE p) m, [s4 xs (padE p + 4), s4 xs (padE p + 8)]⟩) := by
  have hfb := padE_bd p
  have HP : Hid (∀ W, Below w.heap.size w W → Calls Try.prog 30 #[.slice A n c, .int .i64 p, .int .i64 12] W fun e w' => e = .returned (.tuple #[.slice (subA c (padE p) A) (n - padE p) (c - padE p), .bool true]) ∧ W = w') := hide fun W hW => by
    have := padded_any B A n c p 12 xs W (h.below (hW.mono hB)) hb hp hc hn (by omega)
    rwa [show padR A n c xs p 12 = .tuple #[.slice (subA c (padE p) A) (n - padE p) (c - padE p), .bool true] by unfold padR; rw [if_neg (by simp [hyes])]] at this
  have hlen : padE p + 12 ≤ n := by simp at hyes; omega
  have hsub := h.from (c := c) (i := padE p) (by omega) hc
  obtain ⟨gA, oA, rfl, hgA, _⟩ := h.2 (by omega)
  obtain ⟨_, _, he, c0⟩ := rd_b1 h hp
  cases he
  have Ca : Hid (∀ W, Below w.heap.size w W → W.cell? ⟨gA, oA + p, none⟩ = some (.int .u8 (b1 xs p))) := hide fun W hW => by rw [← c0]; exact hW.cell (p := ⟨gA, oA + p, none⟩) (by show gA < _; omega)
  obtain ⟨gs, os, hsA, hgs, _⟩ := hsub.2 (by omega)
  rw [hsA] at HP hsub
  have hC : n - padE p ≤ c - padE p := by omega
  have h4 : ∀ k W w0 q, k + 4 ≤ n - padE p → Below w.heap.size w w0 → W = w0.drewN q → Calls Try.prog 31 #[.slice (subA (c - padE p) k (some ⟨gs, os, none⟩)) (n - padE p - k) (c - padE p - k)] W fun e w' => e = .returned (.int .i64 (s4 xs (padE p + k))) ∧ ∃ q, w' = w0.drewN q := fun k W w0 q hk hW hq => by
    subst hq
    have h2 := (hsub.below ((below_drewN hW q).mono hB)).from (c := c - padE p) (i := k) (by omega) hC
    have h3 := is4_any B _ (n - padE p - k) (c - padE p - k) _ _ h2 (by omega) (by omega) ((hb.drop _).drop k)
    rw [b4_drop, b4_drop] at h3
    refine h3.mono fun e w' hh => ?_
    obtain ⟨rfl, b, rfl⟩ := hh
    exact ⟨rfl, q + b, by rw [World.drewN_drewN]⟩
  have hs0 : ∀ k, k < c - padE p → subA (c - padE p) k (some ⟨gs, os, none⟩) = some ⟨gs, os + k, none⟩ := fun k hk => by unfold subA; rw [if_neg (by omega)]; simp [add_none]
  have C1 : Hid (∀ w0, Below w.heap.size w w0 → ∀ q, Calls Try.prog 31 #[.slice (some ⟨gs, os + 4, none⟩) (n - padE p - 4) (c - padE p - 4)] (w0.drewN q) fun e w' => e = .returned (.int .i64 (s4 xs (padE p + 4))) ∧ ∃ q, w' = w0.drewN q) := hide fun w0 hw0 q => by
    have := h4 4 _ w0 q (by omega) hw0 rfl
    rwa [hs0 4 (by omega)] at this
  have C2 : Hid (∀ w0, Below w.heap.size w w0 → ∀ q, Calls Try.prog 31 #[.slice (some ⟨gs, os + 8, none⟩) (n - padE p - 8) (c - padE p - 8)] (w0.drewN q) fun e w' => e = .returned (.int .i64 (s4 xs (padE p + 8))) ∧ ∃ q, w' = w0.drewN q) := hide fun w0 hw0 q => by
    have := h4 8 _ w0 q (by omega) hw0 rfl
    rwa [hs0 8 (by omega)] at this
  obtain ⟨L, hL⟩ : ∃ L, L = tabTo xs p (padE p) m := ⟨_, rfl⟩
  have hLl : L.length = m + 1 := by rw [hL, tabTo_len]
  have C0 : Hid (∀ cs W, TS w W cs → Calls Try.prog 31 #[.slice (some ⟨gs, os, none⟩) (n - padE p) (c - padE p)] W fun e w' => e = .returned (.int .i64 (s4 xs (padE p))) ∧ TS w w' cs) := hide fun cs W hW => by
    have := h4 0 W W 0 (by omega) hW.1 rfl
    rw [hs0 0 (by omega)] at this
    refine this.mono fun e w' hh => ?_
    obtain ⟨rfl, b, rfl⟩ := hh
    exact ⟨rfl, hW.drewN b⟩
  have C3 : Hid (∀ j cs W, j < m → TS w W cs → Calls Try.prog 31 #[.slice (some ⟨gs, os + (12 + 4 * j), none⟩) (n - padE p - (12 + 4 * j)) (c - padE p - (12 + 4 * j))] W fun e w' => e = .returned (.int .i64 (s4 xs (padE p + (12 + 4 * j)))) ∧ TS w w' cs) := hide fun j cs W hj hW => by
    have := h4 (12 + 4 * j) W W 0 (by omega) hW.1 rfl
    rw [hs0 (12 + 4 * j) (by omega)] at this
    refine this.mono fun e w' hh => ?_
    obtain ⟨rfl, b, rfl⟩ := hh
    exact ⟨rfl, hW.drewN b⟩
  have HSl : Hid (∀ j, j < m → ∀ W, (Instr.slice 22 (.slice (some ⟨gs, os, none⟩) (n - padE p) (c - padE p)) (some (.int .i64 (12 + 4 * (j : Int)))) none none).run Try.prog W = .ok (.slice (some ⟨gs, os + (12 + 4 * j), none⟩) (n - padE p - (12 + 4 * j)) (c - padE p - (12 + 4 * j))) W) := hide fun j hj W => by
    have := slice_from (some ⟨gs, os, none⟩) (n - padE p) (c - padE p) (12 + 4 * j) (by omega) W
    rw [hs0 (12 + 4 * j) (by omega)] at this
    rw [← this, show ((12 + 4 * j : Nat) : Int) = 12 + 4 * (j : Int) by omega]
  have HL0 : Hid (L.getD 0 0 = p + s4 xs (padE p)) := hide (by rw [hL]; rfl)
  have HL1 : Hid (∀ j, j < m → L.getD (1 + j) 0 = p + s4 xs (padE p + (12 + 4 * j))) := hide fun j hj => by rw [hL]; exact tabTo_next xs p _ m j hj
  have HB4 : Hid (∀ k, -2147483648 ≤ s4 xs k ∧ s4 xs k < 2147483648) := hide fun k => s4_bd hb k
  have hb0 := s4_bd hb (padE p)
  have hb1 := s4_bd hb (padE p + 4)
  have hb2 := s4_bd hb (padE p + 8)
  have hx := b1_bd hb p
  have hmk := make_ints (m + 1) (by omega)
  rw [show ((m + 1 : Nat) : Int) = 1 + (m : Int) by omega] at hmk
  have hN : (n : Int) - ((n - padE p : Nat) : Int) = padE p := by omega
  rw [← hL]
  have HN := hide hN
  generalize s4 xs (padE p + 4) = lo at *
  generalize s4 xs (padE p + 8) = hi at *
  generalize s4 xs (padE p) = df at *
  generalize b1 xs p = x at *
  have hN2 : n - padE p ≤ 140737488355328 := by omega
  have hN0 : 12 + 4 * m ≤ n - padE p := by omega
  generalize n - padE p = N at *
  generalize c - padE p = C at *
  have hC4 : C ≠ 4 := by omega
  have hC8 : C ≠ 8 := by omega
  have hN4 : (4 : Int) ≤ N := by omega
  have hN8 : (8 : Int) ≤ N := by omega
  have hlh : ¬ (hi < lo) := by omega
  have hmm : ¬ ((1000 : Int) ≤ m) := by omega
  have hNN : ¬ ((N : Int) < 12 + 4 * (m : Int)) := by omega
  clear h hb hsA hsub h4 hyes hlen hN hs0 c0 hL
  go_enter Try.func17, Try.ntmps17
  go_wp2_with fail
  refine (HP.out _ ?_).mono ?_
  · repeat (first | with_reducible exact Below.refl _ _ | with_reducible refine Below.drew ?_ | with_reducible refine below_drewN ?_ _ | ((with_reducible refine Below.setCell ?_ ?hp _); case hp => simp) | ((with_reducible refine Below.alloc ?_ ?hp _); case hp => first | omega | (simp; done) | (simp; omega)))
  rintro e w1 ⟨rfl, rfl⟩
  go_wp2_with fail
  go_quiet ((first | (go_at_call 31; with_reducible refine C1.out _ ?_ _; (repeat (first | with_reducible exact Below.refl _ _ | with_reducible refine Below.drew ?_ | with_reducible refine below_drewN ?_ _ | ((with_reducible refine Below.setCell ?_ ?hp _); case hp => simp) | ((with_reducible refine Below.alloc ?_ ?hp _); case hp => first | omega | (simp; done) | (simp; omega))))) | (go_at_call 31; with_reducible refine C2.out _ ?_ _; (repeat (first | with_reducible exact Below.refl _ _ | with_reducible refine Below.drew ?_ | with_reducible refine below_drewN ?_ _ | ((with_reducible refine Below.setCell ?_ ?hp _); case hp => simp) | ((with_reducible refine Below.alloc ?_ ?hp _); case hp => first | omega | (simp; done) | (simp; omega)))))))
  go_wp2_with fail
  refine (C0.out (fillL L 0) _ ?_).mono ?_
  · refine ⟨?_, ?_, ?_⟩
    · repeat (first | with_reducible exact Below.refl _ _ | with_reducible refine Below.drew ?_ | with_reducible refine below_drewN ?_ _ | ((with_reducible refine Below.setCell ?_ ?hp _); case hp => simp) | ((with_reducible refine Below.alloc ?_ ?hp _); case hp => first | omega | (simp; done) | (simp; omega)))
    · exact (At.new _ _ _).alloc _
    · rw [fill_zero, hLl]; exact At.newR _ _ _ (by simp)
  rintro e w2 ⟨rfl, hT⟩
  have z0 := hT.2.2.fill_cell (show 0 < L.length by omega)
  have f0 := hT.2.2.free 0
  have HT := hide hT
  have hz1 : (0 : Int) < (m : Int) + 1 := by omega
  clear hT hmk C0 C1 C2 HP
  go_wp2_with fail
  have T1 : Hid (TS w (w2.setCell ⟨w.heap.size + 1, 0, none⟩ (.int .i64 (p + df))) (fillL L 1)) := hide (by
    have := HT.out.put (j := 0) (by omega)
    rwa [HL0.out] at this)
  clear HT z0 f0 HL0
  generalize w2.setCell ⟨w.heap.size + 1, 0, none⟩ (.int .i64 (p + df)) = w3 at *
  go_loopw [59, 12] (fun iv _ wr => ∃ j : Nat, j ≤ m ∧ iv = .int .i64 j ∧ TS w wr (fillL L (1 + j))) (fun iv _ _ => m - (intOf iv).toNat)
  case atStart => exact ⟨0, Nat.zero_le _, rfl, T1.out⟩
  case round =>
    obtain ⟨j, hj, rfl, hT⟩ := hrel
    have HT := hide hT
    clear hT
    by_cases hlt : j < m
    · have hlt' : (j : Int) < (m : Int) := by omega
      have hi1 : (1 : Int) + (j : Int) < (m : Int) + 1 := by omega
      have hi0 : (0 : Int) ≤ (1 : Int) + (j : Int) := by omega
      have hnt : ((1 : Int) + (j : Int)).toNat = 1 + j := by omega
      have hS := HSl.out j hlt
      have C := hide (C3.out j (fillL L (1 + j)) wr hlt HT.out)
      have hbd := HB4.out (padE p + (12 + 4 * j))
      have HLj := hide (HL1.out j hlt)
      generalize s4 xs (padE p + (12 + 4 * j)) = y at *
      go_wp2_with fail
      refine C.out.mono ?_
      rintro e w4 ⟨rfl, hT⟩
      have z1 := hT.2.2.fill_cell (show 1 + j < L.length by omega)
      have f1 := hT.2.2.free (1 + j)
      have T4 := hide (hT.put (show 1 + j < L.length by omega))
      rw [HLj.out] at T4
      clear hT C HT
      go_wp2_with fail
      go_roundw
      case rel => exact ⟨j + 1, by omega, by go_num, T4.out⟩
      case measure => simp [intOf]; omega
    · obtain rfl : j = m := by omega
      have HTL : Hid (TS w wr L) := hide (by have := HT.out; rwa [show 1 + j = L.length by omega, fill_all] at this)
      clear HT
      have hcx := Ca.out wr HTL.out.1
      obtain ⟨⟨d0, d1, d2, d3, d4, d5, d6, d7⟩, e0, e1, e2, e3, e4, e5, e6, e7⟩ := (HTL.out.2.1.alloc (.cells #[.int .i64 lo, .int .i64 hi] 2)).c8
      have hlt' : ¬ ((j : Int) < (j : Int)) := by omega
      have hpn : (p : Int) < n := by omega
      have hle : (n : Int) - p - N = padE p - p := by have := HN.out; omega
      go_wp2_with fail
      have hsz := HTL.out.2.1.lt
      have hsz2 := HTL.out.2.2.lt
      have hbel : Below w.heap.size w wr := HTL.out.1
      obtain ⟨⟨b0, b1, b2, b3, b4, b5, b6, b7⟩, -⟩ := HTL.out.2.1.c8
      refine bodyPost_ret (v := .tuple #[.agg #[.int .i64 p, .int .i64 (padE p - p + 12 + 4 * (j : Int)), .int .i64 x, .bool false, .int .i64 0, .int .i64 0, .slice (some ⟨w.heap.size + 1, 0, none⟩) (j + 1) (j + 1), .slice (some ⟨wr.heap.size, 0, none⟩) 2 2], .bool true]) ?_ rfl ⟨⟨_, rfl, _, _, rfl, .inr ⟨w.heap.size + 1, by omega, by rw [hLl], ?_⟩, .inr ⟨wr.heap.size, by omega, rfl, ?_⟩⟩, ?_⟩
      · simp [results, Try.results17, go_sem, World.cell?_setCell_other, hsz, b0, b1, b2, b3, b4, b5, b6, b7]
      · have := HTL.out.2.2.alloc (.cells #[.int .i64 lo, .int .i64 hi] 2)
        repeat (first | with_reducible exact this | (with_reducible refine At.far ?_ ?hp _; case hp => simp))
      · show At _ _ _ [.int .i64 lo, .int .i64 hi]
        have := At.new wr 2 [.int .i64 lo, .int .i64 hi]
        repeat (first | with_reducible exact this | (with_reducible refine At.far ?_ ?hp _; case hp => simp; omega))
      · repeat (first | with_reducible exact hbel | with_reducible refine Below.drew ?_ | with_reducible refine below_drewN ?_ _ | ((with_reducible refine Below.setCell ?_ ?hp _); case hp => simp) | ((with_reducible refine Below.alloc ?_ ?hp _); case hp => first | omega | (simp; done) | (simp; omega)))

theorem tab_any (A : Option Addr) (n c p : Nat) (xs : List Int) (w : World) (B : Nat) (h : Rd w B A n (bys xs)) (hB : B ≤ w.heap.size) (hb : IsBytes xs) (hp : p < n) (hc : n ≤ c) (hn : n ≤ 140737488355328) :
    Calls Try.prog 17 #[.slice A n c, .int .i64 p] w fun e w' => InsR w w' e (tabI xs p) := by
  have hxl : xs.length = n := by have := h.1; rwa [bys_len] at this
  unfold tabI
  dsimp only
  rw [hxl]
  cases hno : (n < padE p + 12 || !padZ xs p : Bool) with
  | true =>
    rw [if_pos rfl]
    exact tab_no A n c p xs w B h hB hb hp hc hn hno
  | false =>
    rw [if_neg (by simp)]
    have hbad := tab_bad A n c p xs w B h hB hb hp hc hn hno
    have hyes := fun m hm hm1 hm2 hl => tab_yes A n c p m xs w B h hB hb hp hc hn hno hm hm1 hm2 hl
    have hlen : padE p + 12 ≤ n := by simp at hno; omega
    by_cases h1 : s4 xs (padE p + 8) < s4 xs (padE p + 4)
    · rw [if_pos h1]
      exact hbad (.inl h1)
    · rw [if_neg h1]
      by_cases h2 : 1000 ≤ (s4 xs (padE p + 8) - s4 xs (padE p + 4) + 1).toNat
      · rw [if_pos h2]
        exact hbad (.inr (.inl ⟨by omega, by omega⟩))
      · rw [if_neg h2]
        by_cases h3 : n - padE p < 12 + 4 * (s4 xs (padE p + 8) - s4 xs (padE p + 4) + 1).toNat
        · rw [if_pos h3]
          exact hbad (.inr (.inr ⟨by omega, by omega, by omega⟩))
        · rw [if_neg h3]
          have := hyes (s4 xs (padE p + 8) - s4 xs (padE p + 4) + 1).toNat (by omega) (by omega) (by omega) (by omega)
          exact this
end Go.Proofs.Ytllbbmofinminaa
