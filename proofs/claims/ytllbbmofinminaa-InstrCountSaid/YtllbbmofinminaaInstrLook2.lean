/- A lookupswitch: the walk. Nothing is claimed here. -/
import Derived.Test.YtllbbmofinminaaInstrLook
namespace Go.Proofs.Ytllbbmofinminaa
open Go.RowKit

set_option maxHeartbeats 2000000 in
set_option maxRecDepth 100000 in
theorem look_yes (A : Option Addr) (n c p m : Nat) (xs : List Int) (w : World) (B : Nat) (h : Rd w B A n (bys xs)) (hB : B ≤ w.heap.size) (hb : IsBytes xs) (hp : p < n) (hc : n ≤ c) (hn : n ≤ 140737488355328) (hyes : (n < padE p + 8 || !padZ xs p) = false)
    (hm : s4 xs (padE p + 4) = m) (hm2 : m < 1000) (hl : 8 + 8 * m ≤ n - padE p) :
    Calls Try.prog 18 #[.slice A n c, .int .i64 p] w fun e w' => InsR w w' e (if rises (lookKeys xs (padE p) m) then some ⟨p, padE p - p + 8 + 8 * m, b1 xs p, false, 0, 0, lookTo xs p (padE p) m, lookKeys xs (padE p) m⟩ else none) := by
  have hfb := padE_bd p
  have HP : Hid (∀ W, Below w.heap.size w W → Calls Try.prog 30 #[.slice A n c, .int .i64 p, .int .i64 8] W fun e w' => e = .returned (.tuple #[.slice (subA c (padE p) A) (n - padE p) (c - padE p), .bool true]) ∧ W = w') := hide fun W hW => by
    have := padded_any B A n c p 8 xs W (h.below (hW.mono hB)) hb hp hc hn (by omega)
    rwa [show padR A n c xs p 8 = .tuple #[.slice (subA c (padE p) A) (n - padE p) (c - padE p), .bool true] by unfold padR; rw [if_neg (by simp [hyes])]] at this
  have hlen : padE p + 8 ≤ n := by simp at hyes; omega
  have hsub := h.from (c := c) (i := padE p) (by omega) hc
  obtain ⟨gA, oA, rfl, hgA, _⟩ := h.2 (by omega)
  obtain ⟨_, _, he, c0⟩ := rd_b1 h hp
  cases he
  have Ca : Hid (∀ W, Below w.heap.size w W → W.cell? ⟨gA, oA + p, none⟩ = some (.int .u8 (b1 xs p))) := hide fun W hW => by rw [← c0]; exact hW.cell (p := ⟨gA, oA + p, none⟩) (by show gA < _; omega)
  obtain ⟨gs, os, hsA, hgs, _⟩ := hsub.2 (by omega)
  rw [hsA] at HP hsub
  have hC : n - padE p ≤ c - padE p := by omega
  have h4 : ∀ k W w0 q, k + 4 ≤ n - padE p → Below w.heap.size w w0 → W = w0.drewN q → Calls Try.prog 31 #[.slice (subA (c - padE p) k (some ⟨gs, os, none⟩)) (n - padE p - k) (c - padE p - k)] W fun e w' => e = .returned (.int .i64 (s4 xs (padE p + k))) ∧ ∃ q, w' = w0.drewN q := fun k W w0 q hk hW hq => by
    subst hq
    have h2 := (hsub.below ((below_drewN hW q).mono hB)).from (c := c - padE p) (i := k) (by omega) hC
    have h3 := is4_any B _ (n - padE p - k) (c - padE p - k) _ _ h2 (by omega) (by omega) ((hb.drop _).drop k)
    rw [b4_drop, b4_drop] at h3
    refine h3.mono fun e w' hh => ?_
    obtain ⟨rfl, b, rfl⟩ := hh
    exact ⟨rfl, q + b, by rw [World.drewN_drewN]⟩
  have hs0 : ∀ k, k < c - padE p → subA (c - padE p) k (some ⟨gs, os, none⟩) = some ⟨gs, os + k, none⟩ := fun k hk => by unfold subA; rw [if_neg (by omega)]; simp [add_none]
  have C1 : Hid (∀ W, Below w.heap.size w W → Calls Try.prog 31 #[.slice (some ⟨gs, os + 4, none⟩) (n - padE p - 4) (c - padE p - 4)] W fun e w' => e = .returned (.int .i64 m) ∧ ∃ q, w' = W.drewN q) := hide fun W hW => by
    have := h4 4 W W 0 (by omega) hW rfl
    rwa [hs0 4 (by omega), hm] at this
  obtain ⟨L, hL⟩ : ∃ L, L = lookTo xs p (padE p) m := ⟨_, rfl⟩
  have hLl : L.length = m + 1 := by rw [hL, lookTo_len]
  obtain ⟨K, hK⟩ : ∃ K, K = lookKeys xs (padE p) m := ⟨_, rfl⟩
  have hKl : K.length = m := by rw [hK, lookKeys_len]
  have C0 : Hid (∀ gt gk ts ks W, LS w gt gk W ts ks → Calls Try.prog 31 #[.slice (some ⟨gs, os, none⟩) (n - padE p) (c - padE p)] W fun e w' => e = .returned (.int .i64 (s4 xs (padE p))) ∧ LS w gt gk w' ts ks) := hide fun gt gk ts ks W hW => by
    have := h4 0 W W 0 (by omega) hW.1 rfl
    rw [hs0 0 (by omega)] at this
    refine this.mono fun e w' hh => ?_
    obtain ⟨rfl, b, rfl⟩ := hh
    exact ⟨rfl, hW.drewN b⟩
  have C3 : Hid (∀ gt gk ts ks j i W, j < m → i = 8 ∨ i = 12 → LS w gt gk W ts ks → Calls Try.prog 31 #[.slice (some ⟨gs, os + (i + 8 * j), none⟩) (n - padE p - (i + 8 * j)) (c - padE p - (i + 8 * j))] W fun e w' => e = .returned (.int .i64 (s4 xs (padE p + (i + 8 * j)))) ∧ LS w gt gk w' ts ks) := hide fun gt gk ts ks j i W hj hi hW => by
    have := h4 (i + 8 * j) W W 0 (by omega) hW.1 rfl
    rw [hs0 (i + 8 * j) (by omega)] at this
    refine this.mono fun e w' hh => ?_
    obtain ⟨rfl, b, rfl⟩ := hh
    exact ⟨rfl, hW.drewN b⟩
  have HS8 : Hid (∀ j : Nat, j < m → ∀ W, (Instr.slice 22 (.slice (some ⟨gs, os, none⟩) (n - padE p) (c - padE p)) (some (.int .i64 (8 + 8 * (j : Int)))) none none).run Try.prog W = .ok (.slice (some ⟨gs, os + (8 + 8 * j), none⟩) (n - padE p - (8 + 8 * j)) (c - padE p - (8 + 8 * j))) W) := hide fun j hj W => by
    have := slice_from (some ⟨gs, os, none⟩) (n - padE p) (c - padE p) (8 + 8 * j) (by omega) W
    rw [hs0 (8 + 8 * j) (by omega)] at this
    rw [← this, show ((8 + 8 * j : Nat) : Int) = 8 + 8 * (j : Int) by omega]
  have HS12 : Hid (∀ j : Nat, j < m → ∀ W, (Instr.slice 22 (.slice (some ⟨gs, os, none⟩) (n - padE p) (c - padE p)) (some (.int .i64 (12 + 8 * (j : Int)))) none none).run Try.prog W = .ok (.slice (some ⟨gs, os + (12 + 8 * j), none⟩) (n - padE p - (12 + 8 * j)) (c - padE p - (12 + 8 * j))) W) := hide fun j hj W => by
    have := slice_from (some ⟨gs, os, none⟩) (n - padE p) (c - padE p) (12 + 8 * j) (by omega) W
    rw [hs0 (12 + 8 * j) (by omega)] at this
    rw [← this, show ((12 + 8 * j : Nat) : Int) = 12 + 8 * (j : Int) by omega]
  have HL0 : Hid (L.getD 0 0 = p + s4 xs (padE p)) := hide (by rw [hL]; rfl)
  have HL1 : Hid (∀ j, j < m → L.getD (1 + j) 0 = p + s4 xs (padE p + (12 + 8 * j))) := hide fun j hj => by rw [hL]; exact lookTo_next xs p _ m j hj
  have HK1 : Hid (∀ j, j < m → K.getD j 0 = s4 xs (padE p + (8 + 8 * j))) := hide fun j hj => by rw [hK]; exact lookKeys_at xs _ m j hj
  have HB4 : Hid (∀ k, -2147483648 ≤ s4 xs k ∧ s4 xs k < 2147483648) := hide fun k => s4_bd hb k
  have hb0 := s4_bd hb (padE p)
  have hx := b1_bd hb p
  have hmk := make_ints (m + 1) (by omega)
  rw [show ((m + 1 : Nat) : Int) = 1 + (m : Int) by omega] at hmk
  have hw1 : IntKind.i64.wrap (1 + (m : Int)) = 1 + (m : Int) := IntWalk.i64_in _ (by omega)
  have hmk2 := make_i64s m (by omega)
  have hN : (n : Int) - ((n - padE p : Nat) : Int) = padE p := by omega
  rw [← hL, ← hK]
  have HN := hide hN
  generalize s4 xs (padE p) = df at *
  generalize b1 xs p = x at *
  have hN2 : n - padE p ≤ 140737488355328 := by omega
  have hN0 : 8 + 8 * m ≤ n - padE p := by omega
  generalize n - padE p = N at *
  generalize c - padE p = C at *
  have hC4 : C ≠ 4 := by omega
  have hN4 : (4 : Int) ≤ N := by omega
  have hlh : ¬ ((m : Int) < 0) := by omega
  have hmm : ¬ ((1000 : Int) ≤ m) := by omega
  have hNN : ¬ ((N : Int) < 8 + 8 * (m : Int)) := by omega
  clear h hb hsA hsub h4 hyes hlen hN hs0 c0 hL hK hm
  obtain ⟨R, hR⟩ : ∃ R, (if rises K then some (⟨p, padE p - p + 8 + 8 * m, x, false, 0, 0, L, K⟩ : Ins) else none) = R := ⟨_, rfl⟩
  rw [hR]
  have HR := hide hR
  clear hR
  go_enter Try.func18, Try.ntmps18
  go_wp2_with fail
  refine (HP.out _ ?_).mono ?_
  · repeat (first | with_reducible exact Below.refl _ _ | with_reducible refine Below.drew ?_ | with_reducible refine below_drewN ?_ _ | ((with_reducible refine Below.setCell ?_ ?hp _); case hp => simp) | ((with_reducible refine Below.alloc ?_ ?hp _); case hp => first | omega | (simp; done) | (simp; omega)))
  rintro e w1 ⟨rfl, rfl⟩
  go_wp2_with fail
  refine (C1.out _ ?_).mono ?_
  · repeat (first | with_reducible exact Below.refl _ _ | with_reducible refine Below.drew ?_ | with_reducible refine below_drewN ?_ _ | ((with_reducible refine Below.setCell ?_ ?hp _); case hp => simp) | ((with_reducible refine Below.alloc ?_ ?hp _); case hp => first | omega | (simp; done) | (simp; omega)))
  rintro e w1 ⟨rfl, q, rfl⟩
  go_wp2_with fail
  go_region_with (fail)
  · go_wp2_with fail
    refine (C0.out (w.heap.size + 1) (w.heap.size + 1 + 1) (fillL L 0) (fillL K 0) _ ?_).mono ?_
    · refine ⟨?_, ?_, ?_, ?_, by omega, by omega, by omega⟩
      · repeat (first | with_reducible exact Below.refl _ _ | with_reducible refine Below.drew ?_ | with_reducible refine below_drewN ?_ _ | ((with_reducible refine Below.setCell ?_ ?hp _); case hp => simp) | ((with_reducible refine Below.alloc ?_ ?hp _); case hp => first | omega | (simp; done) | (simp; omega)))
      · exact ((At.new _ _ _).alloc _).alloc _
      · rw [fill_zero, hLl]; exact (At.newR _ _ _ (by simp)).alloc _
      · rw [fill_zero, hKl]; exact At.newR _ _ _ (by simp)
    rintro e w2 ⟨rfl, hT⟩
    generalize w.heap.size + 1 + 1 = gk at *
    generalize w.heap.size + 1 = gt at *
    have z0 := hT.2.2.1.fill_cell (show 0 < L.length by omega)
    have f0 := hT.2.2.1.free 0
    have HT := hide hT
    have hz1 : (0 : Int) < (m : Int) + 1 := by omega
    clear hT hmk hmk2 C0 C1 HP
    go_wp2_with fail
    have T1 : Hid (LS w gt gk (w2.setCell ⟨gt, 0, none⟩ (.int .i64 (p + df))) (fillL L 1) (fillL K 0)) := hide (by
      have := HT.out.putT (j := 0) (by omega)
      rwa [HL0.out] at this)
    clear HT z0 f0 HL0
    generalize w2.setCell ⟨gt, 0, none⟩ (.int .i64 (p + df)) = w3 at *
    go_loopw [52, 11] (fun iv _ wr => ∃ j : Nat, j ≤ m ∧ iv = .int .i64 j ∧ LS w gt gk wr (fillL L (1 + j)) (fillL K j) ∧ ∀ i, i + 1 < j → K.getD i 0 < K.getD (i + 1) 0) (fun iv _ _ => m - (intOf iv).toNat)
    case atStart => exact ⟨0, Nat.zero_le _, rfl, T1.out, fun i hi => absurd hi (by omega)⟩
    case round =>
      obtain ⟨j, hj, rfl, hT, hr⟩ := hrel
      have HT := hide hT
      have Hr := hide hr
      clear hT hr T1
      by_cases hlt : j < m
      · have hlt' : (j : Int) < (m : Int) := by omega
        have hi1 : (1 : Int) + (j : Int) < (m : Int) + 1 := by omega
        have hi0 : (0 : Int) ≤ (1 : Int) + (j : Int) := by omega
        have hnt : ((1 : Int) + (j : Int)).toNat = 1 + j := by omega
        have hS1 := HS8.out j hlt
        have hS2 := HS12.out j hlt
        have D1 := hide (C3.out gt gk (fillL L (1 + j)) (fillL K j) j 8 wr hlt (.inl rfl) HT.out)
        have D2 := hide (fun W hW => C3.out gt gk (fillL L (1 + j)) (fillL K (j + 1)) j 12 W hlt (.inr rfl) hW)
        have hbd := HB4.out (padE p + (12 + 8 * j))
        have hbd2 := HB4.out (padE p + (8 + 8 * j))
        have HLj := hide (HL1.out j hlt)
        have HKj := hide (HK1.out j hlt)
        generalize s4 xs (padE p + (12 + 8 * j)) = y at *
        generalize s4 xs (padE p + (8 + 8 * j)) = z at *
        go_wp2_with fail
        refine D1.out.mono ?_
        rintro e w4 ⟨rfl, hT⟩
        have z1 := hT.2.2.2.1.fill_cell (show j < K.length by omega)
        have f1 := hT.2.2.2.1.free j
        have T4 := hide (hT.putK (show j < K.length by omega))
        rw [HKj.out] at T4
        clear hT D1 HT
        go_wp2_with fail
        refine (D2.out _ T4.out).mono ?_
        rintro e w5 ⟨rfl, hT⟩
        have z2 := hT.2.2.1.fill_cell (show 1 + j < L.length by omega)
        have f2 := hT.2.2.1.free (1 + j)
        have T5 := hide (hT.putT (show 1 + j < L.length by omega))
        rw [HLj.out] at T5
        clear hT D2 T4 z1 f1 hS1 hS2
        by_cases hj0 : j = 0
        · have hd : decide ((0 : Int) < (j : Int)) = false := by simp; omega
          have hdN : ¬ (0 < j) := by omega
          have hdI : ¬ ((0 : Int) < (j : Int)) := by omega
          clear hj0
          go_wp2_with fail
          clear z2 f2
          generalize w5.setCell ⟨gt, 1 + j, none⟩ (.int .i64 (p + y)) = w6 at *
          go_quiet (fail)
          go_wp2_with fail
          go_roundw
          case rel => exact ⟨j + 1, by omega, by go_num, T5.out.drewN _, fun i hi => absurd hi (by omega)⟩
          case measure => simp [intOf]; omega
        · have hd : decide ((0 : Int) < (j : Int)) = true := by simp; omega
          have hdN : 0 < j := by omega
          have hdI : (0 : Int) < (j : Int) := by omega
          obtain ⟨kz, hkz⟩ : ∃ kz, K.getD (j - 1) 0 = kz := ⟨_, rfl⟩
          have x0 := T5.out.2.2.2.1.fill_got (show j < j + 1 by omega) (by omega)
          have x1 := T5.out.2.2.2.1.fill_got (show j - 1 < j + 1 by omega) (by omega)
          rw [HKj.out] at x0
          rw [hkz] at x1
          have hz0 : (0 : Int) ≤ (j : Int) - 1 := by omega
          have hz3 : ((j : Int) - 1).toNat = j - 1 := by omega
          have hz4 : (j : Int) - 1 < (m : Int) := by omega
          have Hkz := hide hkz
          clear hkz
          by_cases hle : z ≤ kz
          · have HRf : Hid (rises K = false) := hide (rises_false (i := j - 1) (by omega) (by rw [show j - 1 + 1 = j by omega, HKj.out, Hkz.out]; exact hle))
            obtain ⟨⟨b0, b1, b2, b3, b4, b5, b6, b7⟩, e0, e1, e2, e3, e4, e5, e6, e7⟩ := T5.out.2.1.c8
            have hbel : Below w.heap.size w (w5.setCell ⟨gt, 1 + j, none⟩ (.int .i64 (p + y))) := T5.out.1
            have hsz := T5.out.2.1.lt
            go_wp2_with fail
            clear z2 f2
            generalize w5.setCell ⟨gt, 1 + j, none⟩ (.int .i64 (p + y)) = w6 at *
            go_quiet (fail)
            go_wp2_with fail
            refine bodyPost_ret (v := noV) ?_ rfl ⟨by rw [← HR.out, HRf.out]; rfl, ?_⟩
            · simp [results, Try.results18, go_sem, World.cell?_setCell_other, b0, b1, b2, b3, b4, b5, b6, b7]
              rfl
            · repeat (first | with_reducible exact hbel | with_reducible refine Below.drew ?_ | with_reducible refine below_drewN ?_ _ | ((with_reducible refine Below.setCell ?_ ?hp _); case hp => simp) | ((with_reducible refine Below.alloc ?_ ?hp _); case hp => first | omega | (simp; done) | (simp; omega)))
          · go_wp2_with fail
            clear z2 f2
            generalize w5.setCell ⟨gt, 1 + j, none⟩ (.int .i64 (p + y)) = w6 at *
            go_quiet (fail)
            go_wp2_with fail
            go_roundw
            case rel =>
              refine ⟨j + 1, by omega, by go_num, T5.out.drewN _, fun i hi => ?_⟩
              by_cases hij : i + 1 < j
              · exact Hr.out i hij
              · obtain rfl : i = j - 1 := by omega
                rw [show j - 1 + 1 = j by omega, HKj.out, Hkz.out]
                omega
            case measure => simp [intOf]; omega
      · obtain rfl : j = m := by omega
        have HTL : Hid (LS w gt gk wr L K) := hide (by have := HT.out; rwa [show 1 + j = L.length by omega, fill_all, show fillL K j = fillL K K.length by rw [hKl], fill_all] at this)
        have HRt : Hid (rises K = true) := hide (rises_true fun i hi => Hr.out i (by omega))
        clear HT Hr
        have hcx := Ca.out wr HTL.out.1
        obtain ⟨⟨b0, b1, b2, b3, b4, b5, b6, b7⟩, e0, e1, e2, e3, e4, e5, e6, e7⟩ := HTL.out.2.1.c8
        have hlt' : ¬ ((j : Int) < (j : Int)) := by omega
        have hpn : (p : Int) < n := by omega
        have hle : (n : Int) - p - N = padE p - p := by have := HN.out; omega
        have hbel : Below w.heap.size w wr := HTL.out.1
        have hsz := HTL.out.2.1.lt
        have hgt : w.heap.size < gt := HTL.out.2.2.2.2.1
        have hgk : w.heap.size < gk := HTL.out.2.2.2.2.2.1
        go_wp2_with fail
        refine bodyPost_ret (v := .tuple #[.agg #[.int .i64 p, .int .i64 (padE p - p + 8 + 8 * (j : Int)), .int .i64 x, .bool false, .int .i64 0, .int .i64 0, .slice (some ⟨gt, 0, none⟩) (j + 1) (j + 1), .slice (some ⟨gk, 0, none⟩) j j], .bool true]) ?_ rfl ?_
        · simp [results, Try.results18, go_sem, World.cell?_setCell_other, b0, b1, b2, b3, b4, b5, b6, b7]
        · rw [← HR.out, if_pos HRt.out]
          refine ⟨⟨_, rfl, _, _, rfl, .inr ⟨gt, by omega, by rw [hLl], ?_⟩, .inr ⟨gk, by omega, by rw [hKl], ?_⟩⟩, ?_⟩
          · have : At wr gt 3 (L.map (.int .i64)) := HTL.out.2.2.1
            repeat (first | with_reducible exact this | (with_reducible refine At.far ?_ ?hp _; case hp => simp; omega))
          · have : At wr gk 2 (K.map (.int .i64)) := HTL.out.2.2.2.1
            show At _ _ _ (K.map (.int .i64))
            repeat (first | with_reducible exact this | (with_reducible refine At.far ?_ ?hp _; case hp => simp; omega))
          · repeat (first | with_reducible exact hbel | with_reducible refine Below.drew ?_ | with_reducible refine below_drewN ?_ _ | ((with_reducible refine Below.setCell ?_ ?hp _); case hp => simp) | ((with_reducible refine Below.alloc ?_ ?hp _); case hp => first | omega | (simp; done) | (simp; omega)))
  · go_wp2_with fail
    refine (C0.out (w.heap.size + 1 + 1) (w.heap.size + 1) (fillL L 0) (fillL K 0) _ ?_).mono ?_
    · refine ⟨?_, ?_, ?_, ?_, by omega, by omega, by omega⟩
      · repeat (first | with_reducible exact Below.refl _ _ | with_reducible refine Below.drew ?_ | with_reducible refine below_drewN ?_ _ | ((with_reducible refine Below.setCell ?_ ?hp _); case hp => simp) | ((with_reducible refine Below.alloc ?_ ?hp _); case hp => first | omega | (simp; done) | (simp; omega)))
      · exact ((At.new _ _ _).alloc _).alloc _
      · rw [fill_zero, hLl]; exact At.newR _ _ _ (by simp)
      · rw [fill_zero, hKl]; exact (At.newR _ _ _ (by simp)).alloc _
    rintro e w2 ⟨rfl, hT⟩
    generalize w.heap.size + 1 + 1 = gt at *
    generalize w.heap.size + 1 = gk at *
    have z0 := hT.2.2.1.fill_cell (show 0 < L.length by omega)
    have f0 := hT.2.2.1.free 0
    have HT := hide hT
    have hz1 : (0 : Int) < (m : Int) + 1 := by omega
    clear hT hmk hmk2 C0 C1 HP
    go_wp2_with fail
    have T1 : Hid (LS w gt gk (w2.setCell ⟨gt, 0, none⟩ (.int .i64 (p + df))) (fillL L 1) (fillL K 0)) := hide (by
      have := HT.out.putT (j := 0) (by omega)
      rwa [HL0.out] at this)
    clear HT z0 f0 HL0
    generalize w2.setCell ⟨gt, 0, none⟩ (.int .i64 (p + df)) = w3 at *
    go_loopw [52, 11] (fun iv _ wr => ∃ j : Nat, j ≤ m ∧ iv = .int .i64 j ∧ LS w gt gk wr (fillL L (1 + j)) (fillL K j) ∧ ∀ i, i + 1 < j → K.getD i 0 < K.getD (i + 1) 0) (fun iv _ _ => m - (intOf iv).toNat)
    case atStart => exact ⟨0, Nat.zero_le _, rfl, T1.out, fun i hi => absurd hi (by omega)⟩
    case round =>
      obtain ⟨j, hj, rfl, hT, hr⟩ := hrel
      have HT := hide hT
      have Hr := hide hr
      clear hT hr T1
      by_cases hlt : j < m
      · have hlt' : (j : Int) < (m : Int) := by omega
        have hi1 : (1 : Int) + (j : Int) < (m : Int) + 1 := by omega
        have hi0 : (0 : Int) ≤ (1 : Int) + (j : Int) := by omega
        have hnt : ((1 : Int) + (j : Int)).toNat = 1 + j := by omega
        have hS1 := HS8.out j hlt
        have hS2 := HS12.out j hlt
        have D1 := hide (C3.out gt gk (fillL L (1 + j)) (fillL K j) j 8 wr hlt (.inl rfl) HT.out)
        have D2 := hide (fun W hW => C3.out gt gk (fillL L (1 + j)) (fillL K (j + 1)) j 12 W hlt (.inr rfl) hW)
        have hbd := HB4.out (padE p + (12 + 8 * j))
        have hbd2 := HB4.out (padE p + (8 + 8 * j))
        have HLj := hide (HL1.out j hlt)
        have HKj := hide (HK1.out j hlt)
        generalize s4 xs (padE p + (12 + 8 * j)) = y at *
        generalize s4 xs (padE p + (8 + 8 * j)) = z at *
        go_wp2_with fail
        refine D1.out.mono ?_
        rintro e w4 ⟨rfl, hT⟩
        have z1 := hT.2.2.2.1.fill_cell (show j < K.length by omega)
        have f1 := hT.2.2.2.1.free j
        have T4 := hide (hT.putK (show j < K.length by omega))
        rw [HKj.out] at T4
        clear hT D1 HT
        go_wp2_with fail
        refine (D2.out _ T4.out).mono ?_
        rintro e w5 ⟨rfl, hT⟩
        have z2 := hT.2.2.1.fill_cell (show 1 + j < L.length by omega)
        have f2 := hT.2.2.1.free (1 + j)
        have T5 := hide (hT.putT (show 1 + j < L.length by omega))
        rw [HLj.out] at T5
        clear hT D2 T4 z1 f1 hS1 hS2
        by_cases hj0 : j = 0
        · have hd : decide ((0 : Int) < (j : Int)) = false := by simp; omega
          have hdN : ¬ (0 < j) := by omega
          have hdI : ¬ ((0 : Int) < (j : Int)) := by omega
          clear hj0
          go_wp2_with fail
          clear z2 f2
          generalize w5.setCell ⟨gt, 1 + j, none⟩ (.int .i64 (p + y)) = w6 at *
          go_quiet (fail)
          go_wp2_with fail
          go_roundw
          case rel => exact ⟨j + 1, by omega, by go_num, T5.out.drewN _, fun i hi => absurd hi (by omega)⟩
          case measure => simp [intOf]; omega
        · have hd : decide ((0 : Int) < (j : Int)) = true := by simp; omega
          have hdN : 0 < j := by omega
          have hdI : (0 : Int) < (j : Int) := by omega
          obtain ⟨kz, hkz⟩ : ∃ kz, K.getD (j - 1) 0 = kz := ⟨_, rfl⟩
          have x0 := T5.out.2.2.2.1.fill_got (show j < j + 1 by omega) (by omega)
          have x1 := T5.out.2.2.2.1.fill_got (show j - 1 < j + 1 by omega) (by omega)
          rw [HKj.out] at x0
          rw [hkz] at x1
          have hz0 : (0 : Int) ≤ (j : Int) - 1 := by omega
          have hz3 : ((j : Int) - 1).toNat = j - 1 := by omega
          have hz4 : (j : Int) - 1 < (m : Int) := by omega
          have Hkz := hide hkz
          clear hkz
          by_cases hle : z ≤ kz
          · have HRf : Hid (rises K = false) := hide (rises_false (i := j - 1) (by omega) (by rw [show j - 1 + 1 = j by omega, HKj.out, Hkz.out]; exact hle))
            obtain ⟨⟨b0, b1, b2, b3, b4, b5, b6, b7⟩, e0, e1, e2, e3, e4, e5, e6, e7⟩ := T5.out.2.1.c8
            have hbel : Below w.heap.size w (w5.setCell ⟨gt, 1 + j, none⟩ (.int .i64 (p + y))) := T5.out.1
            have hsz := T5.out.2.1.lt
            go_wp2_with fail
            clear z2 f2
            generalize w5.setCell ⟨gt, 1 + j, none⟩ (.int .i64 (p + y)) = w6 at *
            go_quiet (fail)
            go_wp2_with fail
            refine bodyPost_ret (v := noV) ?_ rfl ⟨by rw [← HR.out, HRf.out]; rfl, ?_⟩
            · simp [results, Try.results18, go_sem, World.cell?_setCell_other, b0, b1, b2, b3, b4, b5, b6, b7]
              rfl
            · repeat (first | with_reducible exact hbel | with_reducible refine Below.drew ?_ | with_reducible refine below_drewN ?_ _ | ((with_reducible refine Below.setCell ?_ ?hp _); case hp => simp) | ((with_reducible refine Below.alloc ?_ ?hp _); case hp => first | omega | (simp; done) | (simp; omega)))
          · go_wp2_with fail
            clear z2 f2
            generalize w5.setCell ⟨gt, 1 + j, none⟩ (.int .i64 (p + y)) = w6 at *
            go_quiet (fail)
            go_wp2_with fail
            go_roundw
            case rel =>
              refine ⟨j + 1, by omega, by go_num, T5.out.drewN _, fun i hi => ?_⟩
              by_cases hij : i + 1 < j
              · exact Hr.out i hij
              · obtain rfl : i = j - 1 := by omega
                rw [show j - 1 + 1 = j by omega, HKj.out, Hkz.out]
                omega
            case measure => simp [intOf]; omega
      · obtain rfl : j = m := by omega
        have HTL : Hid (LS w gt gk wr L K) := hide (by have := HT.out; rwa [show 1 + j = L.length by omega, fill_all, show fillL K j = fillL K K.length by rw [hKl], fill_all] at this)
        have HRt : Hid (rises K = true) := hide (rises_true fun i hi => Hr.out i (by omega))
        clear HT Hr
        have hcx := Ca.out wr HTL.out.1
        obtain ⟨⟨b0, b1, b2, b3, b4, b5, b6, b7⟩, e0, e1, e2, e3, e4, e5, e6, e7⟩ := HTL.out.2.1.c8
        have hlt' : ¬ ((j : Int) < (j : Int)) := by omega
        have hpn : (p : Int) < n := by omega
        have hle : (n : Int) - p - N = padE p - p := by have := HN.out; omega
        have hbel : Below w.heap.size w wr := HTL.out.1
        have hsz := HTL.out.2.1.lt
        have hgt : w.heap.size < gt := HTL.out.2.2.2.2.1
        have hgk : w.heap.size < gk := HTL.out.2.2.2.2.2.1
        go_wp2_with fail
        refine bodyPost_ret (v := .tuple #[.agg #[.int .i64 p, .int .i64 (padE p - p + 8 + 8 * (j : Int)), .int .i64 x, .bool false, .int .i64 0, .int .i64 0, .slice (some ⟨gt, 0, none⟩) (j + 1) (j + 1), .slice (some ⟨gk, 0, none⟩) j j], .bool true]) ?_ rfl ?_
        · simp [results, Try.results18, go_sem, World.cell?_setCell_other, b0, b1, b2, b3, b4, b5, b6, b7]
        · rw [← HR.out, if_pos HRt.out]
          refine ⟨⟨_, rfl, _, _, rfl, .inr ⟨gt, by omega, by rw [hLl], ?_⟩, .inr ⟨gk, by omega, by rw [hKl], ?_⟩⟩, ?_⟩
          · have : At wr gt 3 (L.map (.int .i64)) := HTL.out.2.2.1
            repeat (first | with_reducible exact this | (with_reducible refine At.far ?_ ?hp _; case hp => simp; omega))
          · have : At wr gk 2 (K.map (.int .i64)) := HTL.out.2.2.2.1
            show At _ _ _ (K.map (.int .i64))
            repeat (first | with_reducible exact this | (with_reducible refine At.far ?_ ?hp _; case hp => simp; omega))
          · repeat (first | with_reducible exact hbel | with_reducible refine Below.drew ?_ | with_reducible refine below_drewN ?_ _ | ((with_reducible refine Below.setCell ?_ ?hp _); case hp => simp) | ((with_reducible refine Below.alloc ?_ ?hp _); case hp => first | omega | (simp; done) | (simp; omega)))

theorem look_any (A : Option Addr) (n c p : Nat) (xs : List Int) (w : World) (B : Nat) (h : Rd w B A n (bys xs)) (hB : B ≤ w.heap.size) (hb : IsBytes xs) (hp : p < n) (hc : n ≤ c) (hn : n ≤ 140737488355328) :
    Calls Try.prog 18 #[.slice A n c, .int .i64 p] w fun e w' => InsR w w' e (lookI xs p) := by
  have hxl : xs.length = n := by have := h.1; rwa [bys_len] at this
  unfold lookI
  dsimp only
  rw [hxl]
  cases hno : (n < padE p + 8 || !padZ xs p : Bool) with
  | true =>
    rw [if_pos rfl]
    exact look_no A n c p xs w B h hB hb hp hc hn hno
  | false =>
    rw [if_neg (by simp)]
    have hbad := look_bad A n c p xs w B h hB hb hp hc hn hno
    have hyes := fun m hm hm2 hl => look_yes A n c p m xs w B h hB hb hp hc hn hno hm hm2 hl
    have hlen : padE p + 8 ≤ n := by simp at hno; omega
    by_cases h1 : s4 xs (padE p + 4) < 0
    · rw [if_pos h1]
      exact hbad (.inl h1)
    · rw [if_neg h1]
      by_cases h2 : 1000 ≤ (s4 xs (padE p + 4)).toNat
      · rw [if_pos h2]
        exact hbad (.inr (.inl ⟨by omega, by omega⟩))
      · rw [if_neg h2]
        by_cases h3 : n - padE p < 8 + 8 * (s4 xs (padE p + 4)).toNat
        · rw [if_pos h3]
          exact hbad (.inr (.inr ⟨by omega, by omega, by omega⟩))
        · rw [if_neg h3]
          exact hyes (s4 xs (padE p + 4)).toNat (by omega) (by omega) (by omega)
end Go.Proofs.Ytllbbmofinminaa
