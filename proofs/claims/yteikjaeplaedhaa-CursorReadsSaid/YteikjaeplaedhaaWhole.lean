/- CursorWhole: bytes read one by one, in twos, in fours, or at once are the same bytes. -/
import Derived.Test.YteikjaeplaedhaaNone
namespace Go.Proofs.Yteikjaeplaedhaa
open Go.RowKit

/-- A slice of integers that came in: nil, or a row of cap cells, the first len of them its elements. -/
def Came (k : IntKind) (w : World) (a : Option Addr) (len cap : Nat) (zs : List Int) : Prop :=
  (a = none ∧ len = 0 ∧ cap = 0 ∧ zs = []) ∨
  ∃ x, a = some x ∧ len ≤ cap ∧ cap ≤ maxLen ∧ zs.length = cap ∧ (∀ i, i < zs.length → w.cell? (x.add i) = some (.int k (zs.getD i 0))) ∧ ∀ n ∈ zs, (Lit.int k n).wf = true

theorem came_rd {w : World} {a : Option Addr} {len cap : Nat} {zs : List Int} {k : IntKind} (h : Came k w a len cap zs) (m : Nat) (hm : m ≤ len) :
    Rd w w.heap.size a m ((zs.take m).map (.int k)) := by
  rcases h with ⟨rfl, rfl, rfl, rfl⟩ | ⟨x, rfl, hl, _, hz, hc, _⟩
  · obtain rfl : m = 0 := by omega
    exact Rd.nil _ _ _
  · refine ⟨by simp; omega, fun hp => ?_⟩
    obtain ⟨g, o, spot⟩ := x
    have h0 := hc 0 (by omega)
    have hs : spot = none := by simpa [Addr.add] using World.cell?_spot h0
    subst hs
    refine ⟨g, o, rfl, World.block_lt_of_cell? w _ (by simpa [add_none] using h0), fun j u hu => ?_⟩
    have hj : j < m := by
      have := (List.getElem?_eq_some_iff.1 hu).1
      simp at this; omega
    have := hc j (by omega)
    rw [add_none] at this
    rw [this]
    simp only [List.getElem?_map, List.getElem?_take, if_pos hj] at hu
    rw [← hu]
    simp [List.getD, show j < zs.length by omega]
theorem came_bytes {w : World} {a : Option Addr} {len cap : Nat} {zs : List Int} (h : Came .u8 w a len cap zs) : IsBytes zs := by
  rcases h with ⟨_, _, _, rfl⟩ | ⟨x, _, _, _, _, _, hw⟩
  · intro x hx; cases hx
  · intro x hx
    have := hw x hx
    have h2 : 0 ≤ x ∧ x ≤ 255 := by simpa [Lit.wf, IntKind.min, IntKind.max, IntKind.signed, IntKind.bits] using this
    omega

theorem short_any (a : Option Addr) (len cap : Nat) (n : Int) (w : World) (hl : len ≤ cap) (ha : a = none → len = 0) (h0 : 0 ≤ n) (_hm : cap ≤ maxLen) :
    Calls Try.prog 7 #[.slice a len cap, .int .i64 n] w fun e w' => e = .returned (.slice a (min len n.toNat) cap) ∧ w = w' := by
  obtain ⟨n, rfl⟩ := Int.eq_ofNat_of_zero_le h0
  rw [Int.toNat_natCast]
  unfold maxLen at _hm
  by_cases hlt : n < len
  · have hne : a ≠ none := fun e => by have := ha e; omega
    obtain ⟨x, rfl⟩ : ∃ x, a = some x := by cases a with | none => exact absurd rfl hne | some x => exact ⟨x, rfl⟩
    clear ha hne
    have Hmin := hide (show min len n = n by omega)
    go_enter Try.func7, Try.ntmps7
    go_wp2
    go_ret
    exact ⟨by rw [Hmin.out]; rfl, rfl⟩
  · have Hmin := hide (show min len n = len by omega)
    clear ha
    go_enter Try.func7, Try.ntmps7
    go_wp2
    go_ret
    exact ⟨by rw [Hmin.out]; rfl, rfl⟩
theorem str_rd {w : World} {B : Nat} {A : Option Addr} {n c : Nat} {xs : List Int} (h : Rd w B A n (bys xs)) :
    (convert 22 9 (.slice A n c)).run Try.prog w = .ok (.string (strOfNums xs)) w := by
  have hl := h.1
  rw [bys_len] at hl
  rcases Nat.eq_zero_or_pos n with h0 | h0
  · subst h0
    obtain rfl : xs = [] := List.eq_nil_of_length_eq_zero hl
    rw [run_convert_bytes_string w 22 9 5 A 0 c Try.underlying22 Try.underlying5 Try.underlying9]
    rcases A with _ | x
    · simp [Conv.bytesToString, strOfNums]; rfl
    · rw [run_bytesToString w x 0 c [] (by simp [loadCells, loadCellsFrom])]
      rfl
  · obtain ⟨g, o, rfl, _, hc⟩ := h.2 h0
    exact run_convert_bytes_arg w 22 5 Try.underlying22 Try.underlying5 g o n c xs hl (fun i hi => by
      rw [hc i _ (by simp [bys, show i < xs.length by omega]; rfl)]; simp [List.getD, show i < xs.length by omega]) 9 Try.underlying9

theorem okd_of {xs : List Int} {k n : Nat} (h : k + n ≤ xs.length) : okd xs k false (n : Int) = true := by simp [okd]; omega
theorem got_of {xs : List Int} {k n : Nat} (h : k + n ≤ xs.length) : got xs k false (n : Int) = (xs.drop k).take n := by simp [got, okd_of h]
theorem went_of {xs : List Int} {k n : Nat} (h : k + n ≤ xs.length) : went xs k false (n : Int) = k + n := by simp [went, okd_of h]

theorem be_one (l : List Int) (h : 0 < l.length) : be (l.take 1) = l.getD 0 0 := by
  cases l with
  | nil => simp at h
  | cons a t => simp [be]
theorem be_four (l : List Int) (h : 4 ≤ l.length) : be (l.take 2) * 65536 + be ((l.drop 2).take 2) = be (l.take 4) := by
  match l, h with
  | a :: b :: c :: d :: t, _ => simp [be]; omega

theorem step_one (xs : List Int) (k c : Nat) (h : k + c < xs.length) : be ((xs.drop (k + c)).take 1) = (xs.drop k).getD c 0 := by
  rw [be_one _ (by simp; omega)]
  simp [List.getD]
theorem int_eq {k : IntKind} {a b : Int} (h : a = b) : Value.int k a = Value.int k b := by rw [h]

/-- Three cursors over the same bytes, each in blocks of its own from B on. -/
structure Three (B : Nat) (w : World) (g1 b1 g2 b2 g3 b3 : Nat) (xs : List Int) (k1 k2 k3 : Nat) : Prop where
  c1 : Cur w g1 b1 xs k1 false
  c2 : Cur w g2 b2 xs k2 false
  c3 : Cur w g3 b3 xs k3 false
  l1 : B ≤ g1
  l2 : B ≤ g2
  l3 : B ≤ g3
  n12 : g1 ≠ g2
  n13 : g1 ≠ g3
  n23 : g2 ≠ g3

theorem Cur.other {w w' : World} {g gb : Nat} {xs : List Int} {k : Nat} {bad : Bool} {g' gb' : Nat} {xs' : List Int} {k' : Nat} {bad' : Bool} (h : Cur w g gb xs k bad) (h' : Cur w g' gb' xs' k' bad') (hb : w.grownBy w' (some g')) (hn : g ≠ g') : Cur w' g gb xs k bad :=
  h.grown hb (by simpa using hn) (by simpa using (h'.1.ne h.2.1 (by decide)).symm)

section
variable {B : Nat} {w w' : World} {g1 b1 g2 b2 g3 b3 : Nat} {xs : List Int} {k1 k2 k3 k' : Nat}
theorem Three.turn1 (h : Three B w g1 b1 g2 b2 g3 b3 xs k1 k2 k3) (hc : Cur w' g1 b1 xs k' false) (hg : w.grownBy w' (some g1)) : Three B w' g1 b1 g2 b2 g3 b3 xs k' k2 k3 :=
  ⟨hc, h.c2.other h.c1 hg h.n12.symm, h.c3.other h.c1 hg h.n13.symm, h.l1, h.l2, h.l3, h.n12, h.n13, h.n23⟩
theorem Three.turn2 (h : Three B w g1 b1 g2 b2 g3 b3 xs k1 k2 k3) (hc : Cur w' g2 b2 xs k' false) (hg : w.grownBy w' (some g2)) : Three B w' g1 b1 g2 b2 g3 b3 xs k1 k' k3 :=
  ⟨h.c1.other h.c2 hg h.n12, hc, h.c3.other h.c2 hg h.n23.symm, h.l1, h.l2, h.l3, h.n12, h.n13, h.n23⟩
theorem Three.turn3 (h : Three B w g1 b1 g2 b2 g3 b3 xs k1 k2 k3) (hc : Cur w' g3 b3 xs k' false) (hg : w.grownBy w' (some g3)) : Three B w' g1 b1 g2 b2 g3 b3 xs k1 k2 k' :=
  ⟨h.c1.other h.c3 hg h.n13, h.c2.other h.c3 hg h.n23, hc, h.l1, h.l2, h.l3, h.n12, h.n13, h.n23⟩
theorem Three.keep (h : Three B w g1 b1 g2 b2 g3 b3 xs k1 k2 k3) (hg : w.grownBy w' none) : Three B w' g1 b1 g2 b2 g3 b3 xs k1 k2 k3 :=
  ⟨h.c1.grown hg (by simp) (by simp), h.c2.grown hg (by simp) (by simp), h.c3.grown hg (by simp) (by simp), h.l1, h.l2, h.l3, h.n12, h.n13, h.n23⟩
end

theorem u1_yes (g gb : Nat) (xs : List Int) (k : Nat) (w : World) (h : Cur w g gb xs k false) (v : Int) (hk : k + 1 ≤ xs.length) (hv : be ((xs.drop k).take 1) = v) :
    Calls Try.prog 9 #[.pointer (some ⟨g, 0, none⟩)] w fun e w' => e = .returned (.int .i64 v) ∧ Cur w' g gb xs (k + 1) false ∧ w.grownBy w' (some g) :=
  u1_any g gb xs k false w h v (k + 1) false ((congrArg be (got_of hk)).trans hv) (went_of hk) (by rw [show (1 : Int) = ((1 : Nat) : Int) from rfl, okd_of hk]; rfl)
theorem u2_yes (g gb : Nat) (xs : List Int) (k : Nat) (w : World) (h : Cur w g gb xs k false) (v : Int) (hk : k + 2 ≤ xs.length) (hv : be ((xs.drop k).take 2) = v) :
    Calls Try.prog 11 #[.pointer (some ⟨g, 0, none⟩)] w fun e w' => e = .returned (.int .i64 v) ∧ Cur w' g gb xs (k + 2) false ∧ w.grownBy w' (some g) :=
  u2_any g gb xs k false w h v (k + 2) false ((congrArg be (got_of hk)).trans hv) (went_of hk) (by rw [show (2 : Int) = ((2 : Nat) : Int) from rfl, okd_of hk]; rfl)
theorem u4_yes (g gb : Nat) (xs : List Int) (k : Nat) (w : World) (h : Cur w g gb xs k false) (v : Int) (hk : k + 4 ≤ xs.length) (hv : be ((xs.drop k).take 4) = v) :
    Calls Try.prog 12 #[.pointer (some ⟨g, 0, none⟩)] w fun e w' => e = .returned (.int .i64 v) ∧ Cur w' g gb xs (k + 4) false ∧ w.grownBy w' (some g) :=
  u4_any g gb xs k false w h v (k + 4) false ((congrArg be (got_of hk)).trans hv) (went_of hk) (by rw [show (4 : Int) = ((4 : Nat) : Int) from rfl, okd_of hk]; rfl)
theorem bytes_all (g gb : Nat) (xs : List Int) (w : World) (h : Cur w g gb xs 0 false) (n : Int) (m : Nat) (hm : xs.length = m) (hn : n = (m : Int)) :
    Calls Try.prog 13 #[.pointer (some ⟨g, 0, none⟩), .int .i64 n] w fun e w' => ∃ q, e = .returned (.slice (some ⟨q, 0, none⟩) m m) ∧ w.heap.size ≤ q ∧ At w' q 5 (bys xs) ∧ w.grownBy w' (some g) := by
  subst hn
  subst hm
  have hg : got xs 0 false xs.length = xs := by rw [got_of (by omega)]; simp
  refine (bytes_any g gb xs 0 xs.length false w h).mono fun e w' ⟨q, he, hq, ha, _, hgr⟩ => ⟨q, ?_, hq, ?_, hgr⟩
  · rw [he, hg]
  · rwa [hg] at ha

set_option maxRecDepth 100000 in
theorem CursorWhole_walk (a0 : Option Addr) (len0 cap0 : Nat) (z0 : List Int) (w : World) (w0 : Came .u8 w a0 len0 cap0 z0) :
    Calls Try.prog 5 #[.slice a0 len0 cap0] w fun e w' => e = .returned (.bool true) ∧ Below w.heap.size w w' := by
  have hlc : len0 ≤ cap0 := by rcases w0 with ⟨_, h, _⟩ | ⟨_, _, h, _⟩ <;> omega
  have hcm : cap0 ≤ maxLen := by rcases w0 with ⟨_, _, h, _⟩ | ⟨_, _, _, h, _⟩; (subst h; exact Nat.zero_le _); exact h
  have hnil : a0 = none → len0 = 0 := by rcases w0 with ⟨_, h, _⟩ | ⟨x, h, _⟩; (intro _; exact h); (intro h2; rw [h] at h2; cases h2)
  have W0 := hide w0
  clear w0
  obtain ⟨L, hL⟩ : ∃ L, L = min len0 64 := ⟨_, rfl⟩
  have hL1 : L ≤ 64 := by omega
  have hL2 : L ≤ len0 := by omega
  have HS : Hid (∀ W, Calls Try.prog 7 #[.slice a0 len0 cap0, .int .i64 64] W fun e w' => e = .returned (.slice a0 L cap0) ∧ W = w') := hide fun W => by
    have := short_any a0 len0 cap0 64 W hlc hnil (by omega) hcm
    rwa [show min len0 (Int.toNat 64) = L from hL.symm] at this
  have hm := hcm
  unfold maxLen at hm
  clear hL hcm
  obtain ⟨xs, hxs⟩ : ∃ xs, xs = z0.take (L / 4 * 4) := ⟨_, rfl⟩
  have Hrd : Hid (Rd w w.heap.size a0 (L / 4 * 4) (bys xs)) := by rw [hxs]; exact came_rd W0.out (L / 4 * 4) (by omega)
  have HX : Hid (IsBytes xs) := by rw [hxs]; exact (came_bytes W0.out).take _
  have Hlen : Hid (xs.length = L / 4 * 4) := by have := Hrd.out.1; rw [bys_len] at this; exact this
  clear hxs W0
  go_enter Try.func5, Try.ntmps5
  go_wp2_with fail
  refine (begun_is w).mono ?_
  rintro e w1 ⟨rfl, hb1⟩
  go_wp2_with fail
  refine (HS.out _).mono ?_
  rintro e w2 ⟨rfl, rfl⟩
  have HN : Hid (∀ W, Below w.heap.size w W → Calls Try.prog 8 #[.slice a0 (L / 4 * 4) cap0] W (Made W xs)) := hide fun W hb =>
    new_any a0 (L / 4 * 4) cap0 xs W w.heap.size (Hrd.out.below hb) hb.size (by omega) HX.out
  go_wp2_with fail
  refine (HN.out _ hb1).mono ?_
  rintro e w2 ⟨g1, b1, rfl, hc1, hl1, hm1, hb2⟩
  have hb2' := hb1.trans (hb2.mono hb1.size)
  go_wp2_with fail
  refine (HN.out _ hb2').mono ?_
  rintro e w3 ⟨g2, b2, rfl, hc2, hl2, hm2, hb3⟩
  have hb3' := hb2'.trans (hb3.mono hb2'.size)
  go_wp2_with fail
  refine (HN.out _ hb3').mono ?_
  rintro e w4 ⟨g3, b3, rfl, hc3, hl3, hm3, hb4⟩
  have hb4' := hb3'.trans (hb4.mono hb3'.size)
  go_wp2_with fail
  refine (HN.out _ hb4').mono ?_
  rintro e w5 ⟨g4, b4, rfl, hc4, hl4, hm4, hb5⟩
  have hb5' := hb4'.trans (hb5.mono hb4'.size)
  go_wp2_with fail
  refine (bytes_all g4 b4 xs w5 hc4 _ (L / 4 * 4) Hlen.out (by omega)).mono ?_
  rintro e w6 ⟨q, rfl, hq, hat, hg6⟩
  have hT : Three w.heap.size w6 g1 b1 g2 b2 g3 b3 xs 0 0 0 := by
    have z1 := hb1.size
    have z2 := hb2.size
    have z3 := hb3.size
    have z4 := hb4.size
    have z5 := hb5.size
    have y1 := hc1.1.lt
    have y1' := hc1.2.1.lt
    have y2 := hc2.1.lt
    have y2' := hc2.2.1.lt
    have y3 := hc3.1.lt
    have y3' := hc3.2.1.lt
    exact ⟨(((hc1.grown (grown_below hb3 none) (by simp) (by simp)).grown (grown_below hb4 none) (by simp) (by simp)).grown (grown_below hb5 none) (by simp) (by simp)).other hc4 hg6 (by omega),
      ((hc2.grown (grown_below hb4 none) (by simp) (by simp)).grown (grown_below hb5 none) (by simp) (by simp)).other hc4 hg6 (by omega),
      (hc3.grown (grown_below hb5 none) (by simp) (by simp)).other hc4 hg6 (by omega),
      by omega, by omega, by omega, by omega, by omega, by omega⟩
  have hB : Below w.heap.size w w6 := hb5'.grown hg6 hb5'.size (by intro k hk; cases hk; have := hb4'.size; omega)
  have hq' : w.heap.size ≤ q := Nat.le_trans hb5'.size hq
  have HT := hide hT
  have HB := hide hB
  have HA := hide hat
  clear hT hB hat hc1 hc2 hc3 hc4 hl1 hl2 hl3 hl4 hm1 hm2 hm3 hm4 hb1 hb2 hb3 hb4 hb5 hb2' hb3' hb4' hb5' hq hg6 HN HS hnil
  go_wp2_with fail
  obtain ⟨N, hN⟩ : ∃ N, N = L / 4 := ⟨_, rfl⟩
  have hN16 : N ≤ 16 := by omega
  have hLN : L / 4 = N := hN.symm
  rw [hLN] at Hlen Hrd ⊢
  have hLi : ((L : Int) / 4) = (N : Int) := by omega
  rw [hLi]
  clear hN hLN hLi
  go_loopw [8] (fun i wr => ∃ j : Nat, j ≤ N ∧ i = .int .i64 (4 * (j : Int)) ∧ Three w.heap.size wr g1 b1 g2 b2 g3 b3 xs (4 * j) (4 * j) (4 * j) ∧ At wr q 5 (bys xs) ∧ Below w.heap.size w wr) (fun i _ => (4 * N - (intOf i).toNat))
  case atStart => exact ⟨0, Nat.zero_le _, rfl, HT.out, HA.out, HB.out⟩
  case round =>
    obtain ⟨j, hj, rfl, ht, ha, hb⟩ := hrel
    obtain ⟨wo, rfl⟩ : ∃ wo : World, wo = wr := ⟨_, rfl⟩
    by_cases hlt : j < N
    · have hd : decide (4 * (j : Int) < (N : Int) * 4) = true := by simp; omega
      have hj4 : 4 * j + 4 ≤ xs.length := by rw [Hlen.out]; omega
      go_wp2_with fail
      go_loopw [9, 10] (fun n k wi => ∃ c : Nat, c ≤ 4 ∧ k = .int .i64 c ∧ n = .int .i64 (be ((xs.drop (4 * j)).take c)) ∧ Three w.heap.size wi g1 b1 g2 b2 g3 b3 xs (4 * j + c) (4 * j) (4 * j) ∧ At wi q 5 (bys xs) ∧ Below w.heap.size w wi) (fun _ k _ => 4 - (intOf k).toNat)
      case atStart => exact ⟨0, Nat.zero_le _, rfl, rfl, ht, ha, hb⟩
      case round =>
        obtain ⟨c, hc, rfl, rfl, ht, ha, hb⟩ := hrel
        have hbd := be_bound ((xs.drop (4 * j)).take c) ((HX.out.drop _).take _) (by simp; omega)
        have Ht := hide ht
        have Ha := hide ha
        have Hb := hide hb
        clear ht ha hb
        by_cases hc4 : c < 4
        · have hy := HX.out.drop (4 * j) ((xs.drop (4 * j)).getD c 0) (by rw [List.getD, List.getElem?_eq_getElem (by simp; omega)]; exact List.getElem_mem _)
          have Hst := hide (take_step (xs.drop (4 * j)) c (by simp; omega))
          have Hu := hide (u1_yes g1 b1 xs (4 * j + c) wr Ht.out.c1 _ (by omega) (step_one xs (4 * j) c (by omega)))
          generalize (xs.drop (4 * j)).getD c 0 = y at *
          generalize be ((xs.drop (4 * j)).take c) = v at *
          go_wp2_with (go_at_call 9; refine Hu.out.mono ?_; rintro e w7 ⟨rfl, hc7, hg7⟩)
          go_roundw
          case rel => exact ⟨c + 1, by omega, by go_num, int_eq Hst.out.symm, Ht.out.turn1 hc7 hg7, Ha.out.grown hg7 (by simpa using (Ht.out.c1.1.ne Ha.out (by decide)).symm), Hb.out.grown hg7 Hb.out.size (by intro k hk; cases hk; exact Ht.out.l1)⟩
          case measure => simp [intOf]; omega
        · obtain rfl : c = 4 := by omega
          have hV : be ((xs.drop (4 * j)).take 4) = be ((xs.drop (4 * j)).take 2) * 65536 + be ((xs.drop (4 * j + 2)).take 2) := by
            rw [← be_four _ (by simp; omega), List.drop_drop]
          have hp := be_bound ((xs.drop (4 * j)).take 2) ((HX.out.drop _).take _) (by simp; omega)
          have hr := be_bound ((xs.drop (4 * j + 2)).take 2) ((HX.out.drop _).take _) (by simp; omega)
          rw [hV]
          have HV := hide hV
          clear hV hbd
          obtain ⟨p, Hp⟩ : ∃ p, Hid (be ((xs.drop (4 * j)).take 2) = p) := ⟨_, rfl⟩
          obtain ⟨r, Hr⟩ : ∃ r, Hid (be ((xs.drop (4 * j + 2)).take 2) = r) := ⟨_, rfl⟩
          rw [Hp.out] at hp HV ⊢
          rw [Hr.out] at hr HV ⊢
          go_wp2_with fail
          refine (u2_yes g2 b2 xs (4 * j) _ Ht.out.c2 p (by omega) Hp.out).mono ?_
          rintro e w7 ⟨rfl, hc7, hg7⟩
          have Ht7 := hide (Ht.out.turn2 hc7 hg7)
          have Ha7 := hide (Ha.out.grown hg7 (by simpa using (Ht.out.c2.1.ne Ha.out (by decide)).symm))
          have Hb7 := hide (Hb.out.grown hg7 Hb.out.size (by intro k hk; cases hk; exact Ht.out.l2))
          clear hc7 hg7 Ht Ha Hb
          go_wp2_with fail
          refine (u2_yes g2 b2 xs (4 * j + 2) _ Ht7.out.c2 r (by omega) Hr.out).mono ?_
          rintro e w8 ⟨rfl, hc8, hg8⟩
          have Ht8 := hide (Ht7.out.turn2 hc8 hg8)
          have Ha8 := hide (Ha7.out.grown hg8 (by simpa using (Ht7.out.c2.1.ne Ha7.out (by decide)).symm))
          have Hb8 := hide (Hb7.out.grown hg8 Hb7.out.size (by intro k hk; cases hk; exact Ht7.out.l2))
          clear hc8 hg8 Ht7 Ha7 Hb7
          go_wp2_with fail
          refine (u4_yes g3 b3 xs (4 * j) _ Ht8.out.c3 (p * 65536 + r) (by omega) HV.out).mono ?_
          rintro e w9 ⟨rfl, hc9, hg9⟩
          have Ht9 := hide (Ht8.out.turn3 hc9 hg9)
          have Ha9 := hide (Ha8.out.grown hg9 (by simpa using (Ht8.out.c3.1.ne Ha8.out (by decide)).symm))
          have Hb9 := hide (Hb8.out.grown hg9 Hb8.out.size (by intro k hk; cases hk; exact Ht8.out.l3))
          clear hc9 hg9 Ht8 Ha8 Hb8
          go_wp2_with fail
          go_roundw
          case rel => exact ⟨j + 1, by omega, int_eq (by omega), Ht9.out, Ha9.out, Hb9.out⟩
          case measure => simp [intOf]; omega
    · obtain rfl : j = N := by omega
      have hd : decide (4 * (j : Int) < (j : Int) * 4) = false := by simp; omega
      have hs1 := str_rd (n := j * 4) (c := j * 4) (show Rd wo wo.heap.size (some ⟨q, 0, none⟩) (j * 4) (bys xs) by
        have := ha.rd 0 (j * 4) (by rw [bys_len, Hlen.out]; omega)
        simpa [List.take_of_length_le (show (bys xs).length ≤ j * 4 by rw [bys_len, Hlen.out]; omega)] using this)
      have hs2 := str_rd (c := cap0) (Hrd.out.below hb)
      generalize strOfNums xs = S at *
      have Ht := hide ht
      have Hb := hide hb
      clear ht hb ha
      go_wp2_with fail
      refine (ok_any g1 b1 xs (4 * j) false _ Ht.out.c1).mono ?_
      rintro e w7 ⟨rfl, rfl⟩
      go_wp2_with fail
      refine (ok_any g2 b2 xs (4 * j) false _ Ht.out.c2).mono ?_
      rintro e w7 ⟨rfl, rfl⟩
      go_wp2_with fail
      refine (ok_any g3 b3 xs (4 * j) false _ Ht.out.c3).mono ?_
      rintro e w7 ⟨rfl, rfl⟩
      go_wp2_with fail
      have HL := left_any g1 b1 xs (4 * j) false wo Ht.out.c1
      rw [show (xs.length : Int) - ((4 * j : Nat) : Int) = 0 by rw [Hlen.out]; omega] at HL
      refine HL.mono ?_
      rintro e w7 ⟨rfl, m, rfl⟩
      clear HL
      go_wp2_with fail
      go_ret
      exact ⟨rfl, below_drewN Hb.out m⟩
end Go.Proofs.Yteikjaeplaedhaa
