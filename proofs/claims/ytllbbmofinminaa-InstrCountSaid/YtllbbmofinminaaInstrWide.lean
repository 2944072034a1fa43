/- What package instr reads behind the prefix wide. Nothing is claimed here. -/
import Derived.Test.YtllbbmofinminaaInstrPlain
namespace Go.Proofs.Ytllbbmofinminaa
open Go.RowKit

def wideR (xs : List Int) (p : Nat) : Value :=
  let op := b1 xs (p + 1)
  let n := if op == 132 then 4 else 2
  if xs.length - (p + 1) < 1 + n || !wideT op then noV
  else .tuple #[insV p (2 + n) op true (b2 xs (p + 2)) (if op == 132 then sg 16 (b2 xs (p + 4)) else 0), .bool true]

theorem wide_shape {op : Int} (h : wideT op = true) : op = 132 ∨ (op ≠ 132 ∧ shapeT op = 5) := by
  simp only [wideT, List.contains_cons, List.contains_nil, Bool.or_false, Bool.or_eq_true, beq_iff_eq] at h
  rcases h with rfl | rfl | rfl | rfl | rfl | rfl | rfl
  all_goals first | exact .inl rfl | exact .inr ⟨by decide, rfl⟩

theorem wide_none (A : Option Addr) (n c p : Nat) (w : World) (hl : n - (p + 1) = 0) (hp : p < n) (hn : n ≤ 140737488355328) :
    Calls Try.prog 16 #[.slice A n c, .int .i64 p] w fun e w' => e = .returned noV ∧ Below w.heap.size w w' := by
  have hSl := slice_from A n c (p + 1) (by omega)
  rw [show ((p + 1 : Nat) : Int) = (p : Int) + 1 by omega, hl] at hSl
  generalize c - (p + 1) = C at *
  generalize subA c (p + 1) A = SA at *
  go_enter Try.func16, Try.ntmps16
  go_wp2_with fail
  refine bodyPost_ret (v := noV) ?_ rfl ⟨rfl, ?_⟩
  · simp [results, Try.results16, go_sem]
    rfl
  · repeat (first | with_reducible exact Below.refl _ _ | with_reducible refine Below.drew ?_ | with_reducible refine below_drewN ?_ _ | ((with_reducible refine Below.setCell ?_ ?hp _); case hp => simp) | ((with_reducible refine Below.alloc ?_ ?hp _); case hp => first | omega | (simp; done) | (simp; omega)))

theorem wide_no (B : Nat) (A : Option Addr) (n c p : Nat) (xs : List Int) (w : World) (h : Rd w B A n (bys xs)) (hB : B ≤ w.heap.size) (hb : IsBytes xs) (hp : p + 1 < n) (hc : n ≤ c) (hn : n ≤ 140737488355328) (hw : wideT (b1 xs (p + 1)) = false) :
    Calls Try.prog 16 #[.slice A n c, .int .i64 p] w fun e w' => e = .returned noV ∧ Below w.heap.size w w' := by
  have hSl := slice_from A n c (p + 1) (by omega)
  rw [show ((p + 1 : Nat) : Int) = (p : Int) + 1 by omega] at hSl
  have hsub := h.from (c := c) (i := p + 1) (by omega) hc
  obtain ⟨gs, os, hsA, hgs, _⟩ := hsub.2 (by omega)
  rw [hsA] at hSl hsub
  obtain ⟨_, _, he, c0⟩ := rd_b1 hsub (show 0 < n - (p + 1) by omega)
  cases he
  rw [b1_drop, Nat.add_zero, Nat.add_zero] at c0
  have ca := cell_alloc c0 (by omega)
  have hx := b1_bd hb (p + 1)
  have HS := hide (shape_any (b1 xs (p + 1)))
  have HO := hide ioperand_any
  have HW : Hid (∀ W, Calls Try.prog 27 #[.int .i64 (b1 xs (p + 1))] W fun e w' => e = .returned (.bool false) ∧ W = w') := hide fun W => by have := iwidens_any (b1 xs (p + 1)) W; rwa [hw] at this
  have hq := opB_le (shapeT (b1 xs (p + 1)))
  generalize shapeT (b1 xs (p + 1)) = s at *
  have HO2 := hide (HO.out s)
  clear HO
  generalize opB s = q at *
  generalize b1 xs (p + 1) = x at *
  have hR : 1 ≤ n - (p + 1) := by omega
  have hR2 : n - (p + 1) ≤ 140737488355328 := by omega
  generalize c - (p + 1) = C at *
  generalize n - (p + 1) = R at *
  have hR0 : ((R : Int) == 0) = false := by simp; omega
  have hR3 : (0 : Int) < R := by omega
  have hp2 : (p : Int) < n := by omega
  clear h hb c0 hsA hsub
  go_enter Try.func16, Try.ntmps16
  go_wp2_with fail
  refine (HS.out _).mono ?_
  rintro e w1 ⟨rfl, rfl⟩
  go_wp2_with fail
  refine (HO2.out _).mono ?_
  rintro e w1 ⟨rfl, rfl⟩
  go_wp2_with fail
  refine (HW.out _).mono ?_
  rintro e w1 ⟨rfl, rfl⟩
  go_wp2_with fail
  refine bodyPost_ret (v := noV) ?_ rfl ⟨rfl, ?_⟩
  · simp [results, Try.results16, go_sem]
    rfl
  · repeat (first | with_reducible exact Below.refl _ _ | with_reducible refine Below.drew ?_ | with_reducible refine below_drewN ?_ _ | ((with_reducible refine Below.setCell ?_ ?hp _); case hp => simp) | ((with_reducible refine Below.alloc ?_ ?hp _); case hp => first | omega | (simp; done) | (simp; omega)))
theorem wide_short4 (B : Nat) (A : Option Addr) (n c p : Nat) (xs : List Int) (w : World) (h : Rd w B A n (bys xs)) (hB : B ≤ w.heap.size) (hb : IsBytes xs) (hp : p + 1 < n) (hc : n ≤ c) (hn : n ≤ 140737488355328) (hw : wideT (b1 xs (p + 1)) = true) (h132 : b1 xs (p + 1) = 132) (hs : shapeT (b1 xs (p + 1)) = 7) (hl : n - (p + 1) < 1 + 4) :
    Calls Try.prog 16 #[.slice A n c, .int .i64 p] w fun e w' => e = .returned (noV) ∧ Below w.heap.size w w' := by
  have hSl := slice_from A n c (p + 1) (by omega)
  rw [show ((p + 1 : Nat) : Int) = (p : Int) + 1 by omega] at hSl
  have hsub := h.from (c := c) (i := p + 1) (by omega) hc
  obtain ⟨gs, os, hsA, hgs, _⟩ := hsub.2 (by omega)
  rw [hsA] at hSl hsub
  obtain ⟨_, _, he, c0⟩ := rd_b1 hsub (show 0 < n - (p + 1) by omega)
  cases he
  rw [b1_drop, Nat.add_zero, Nat.add_zero] at c0
  have ca := cell_alloc c0 (by omega)
  have hx := b1_bd hb (p + 1)
  have HS : Hid (∀ W, Calls Try.prog 15 #[.int .i64 (b1 xs (p + 1))] W fun e w' => e = .returned (.int .i64 7) ∧ W = w') := hide fun W => by have := shape_any (b1 xs (p + 1)) W; rwa [hs] at this
  have HO : Hid (∀ W, Calls Try.prog 26 #[.int .i64 7] W fun e w' => e = .returned (.int .i64 2) ∧ W = w') := hide (ioperand_any 7)
  have HW : Hid (∀ W, Calls Try.prog 27 #[.int .i64 (b1 xs (p + 1))] W fun e w' => e = .returned (.bool true) ∧ W = w') := hide fun W => by have := iwidens_any (b1 xs (p + 1)) W; rwa [hw] at this
  have hR : 1 ≤ n - (p + 1) := by omega
  have hR2 : n - (p + 1) ≤ 140737488355328 := by omega
  have hC : n - (p + 1) ≤ c - (p + 1) := by omega
  have hbd : IsBytes (xs.drop (p + 1)) := hb.drop _
  generalize b1 xs (p + 1) = x at *
  generalize c - (p + 1) = C at *
  generalize n - (p + 1) = R at *
  have hR0 : ((R : Int) == 0) = false := by simp; omega
  have hR3 : (0 : Int) < R := by omega
  have hp2 : (p : Int) < n := by omega
  have hlt :  (R : Int) < 5 := by omega
  clear h hb hbd c0 hsA hsub
  subst h132
  go_enter Try.func16, Try.ntmps16
  go_wp2_with fail
  refine (HS.out _).mono ?_
  rintro e w1 ⟨rfl, rfl⟩
  go_wp2_with fail
  refine (HO.out _).mono ?_
  rintro e w1 ⟨rfl, rfl⟩
  go_wp2_with fail
  refine (HW.out _).mono ?_
  rintro e w1 ⟨rfl, rfl⟩
  go_wp2_with fail
  refine bodyPost_ret (v := noV) ?_ rfl ⟨rfl, ?_⟩
  · simp [results, Try.results16, go_sem]
    rfl
  · repeat (first | with_reducible exact Below.refl _ _ | with_reducible refine Below.drew ?_ | with_reducible refine below_drewN ?_ _ | ((with_reducible refine Below.setCell ?_ ?hp _); case hp => simp) | ((with_reducible refine Below.alloc ?_ ?hp _); case hp => first | omega | (simp; done) | (simp; omega)))

theorem wide_short2 (B : Nat) (A : Option Addr) (n c p : Nat) (xs : List Int) (w : World) (h : Rd w B A n (bys xs)) (hB : B ≤ w.heap.size) (hb : IsBytes xs) (hp : p + 1 < n) (hc : n ≤ c) (hn : n ≤ 140737488355328) (hw : wideT (b1 xs (p + 1)) = true) (h132 : b1 xs (p + 1) ≠ 132) (hs : shapeT (b1 xs (p + 1)) = 5) (hl : n - (p + 1) < 1 + 2) :
    Calls Try.prog 16 #[.slice A n c, .int .i64 p] w fun e w' => e = .returned (noV) ∧ Below w.heap.size w w' := by
  have hSl := slice_from A n c (p + 1) (by omega)
  rw [show ((p + 1 : Nat) : Int) = (p : Int) + 1 by omega] at hSl
  have hsub := h.from (c := c) (i := p + 1) (by omega) hc
  obtain ⟨gs, os, hsA, hgs, _⟩ := hsub.2 (by omega)
  rw [hsA] at hSl hsub
  obtain ⟨_, _, he, c0⟩ := rd_b1 hsub (show 0 < n - (p + 1) by omega)
  cases he
  rw [b1_drop, Nat.add_zero, Nat.add_zero] at c0
  have ca := cell_alloc c0 (by omega)
  have hx := b1_bd hb (p + 1)
  have HS : Hid (∀ W, Calls Try.prog 15 #[.int .i64 (b1 xs (p + 1))] W fun e w' => e = .returned (.int .i64 5) ∧ W = w') := hide fun W => by have := shape_any (b1 xs (p + 1)) W; rwa [hs] at this
  have HO : Hid (∀ W, Calls Try.prog 26 #[.int .i64 5] W fun e w' => e = .returned (.int .i64 1) ∧ W = w') := hide (ioperand_any 5)
  have HW : Hid (∀ W, Calls Try.prog 27 #[.int .i64 (b1 xs (p + 1))] W fun e w' => e = .returned (.bool true) ∧ W = w') := hide fun W => by have := iwidens_any (b1 xs (p + 1)) W; rwa [hw] at this
  have hR : 1 ≤ n - (p + 1) := by omega
  have hR2 : n - (p + 1) ≤ 140737488355328 := by omega
  have hC : n - (p + 1) ≤ c - (p + 1) := by omega
  have hbd : IsBytes (xs.drop (p + 1)) := hb.drop _
  generalize b1 xs (p + 1) = x at *
  generalize c - (p + 1) = C at *
  generalize n - (p + 1) = R at *
  have hR0 : ((R : Int) == 0) = false := by simp; omega
  have hR3 : (0 : Int) < R := by omega
  have hp2 : (p : Int) < n := by omega
  have hlt :  (R : Int) < 3 := by omega
  clear h hb hbd c0 hsA hsub
  have h2 : (x == 132) = false := by simpa using h132
  go_enter Try.func16, Try.ntmps16
  go_wp2_with fail
  refine (HS.out _).mono ?_
  rintro e w1 ⟨rfl, rfl⟩
  go_wp2_with fail
  refine (HO.out _).mono ?_
  rintro e w1 ⟨rfl, rfl⟩
  go_wp2_with fail
  refine (HW.out _).mono ?_
  rintro e w1 ⟨rfl, rfl⟩
  go_wp2_with fail
  refine bodyPost_ret (v := noV) ?_ rfl ⟨rfl, ?_⟩
  · simp [results, Try.results16, go_sem]
    rfl
  · repeat (first | with_reducible exact Below.refl _ _ | with_reducible refine Below.drew ?_ | with_reducible refine below_drewN ?_ _ | ((with_reducible refine Below.setCell ?_ ?hp _); case hp => simp) | ((with_reducible refine Below.alloc ?_ ?hp _); case hp => first | omega | (simp; done) | (simp; omega)))

theorem wide_long4 (B : Nat) (A : Option Addr) (n c p : Nat) (xs : List Int) (w : World) (h : Rd w B A n (bys xs)) (hB : B ≤ w.heap.size) (hb : IsBytes xs) (hp : p + 1 < n) (hc : n ≤ c) (hn : n ≤ 140737488355328) (hw : wideT (b1 xs (p + 1)) = true) (h132 : b1 xs (p + 1) = 132) (hs : shapeT (b1 xs (p + 1)) = 7) (hl : 1 + 4 ≤ n - (p + 1)) :
    Calls Try.prog 16 #[.slice A n c, .int .i64 p] w fun e w' => e = .returned (.tuple #[insV p 6 (b1 xs (p + 1)) true (b2 xs (p + 2)) (sg 16 (b2 xs (p + 4))), .bool true]) ∧ Below w.heap.size w w' := by
  have hSl := slice_from A n c (p + 1) (by omega)
  rw [show ((p + 1 : Nat) : Int) = (p : Int) + 1 by omega] at hSl
  have hsub := h.from (c := c) (i := p + 1) (by omega) hc
  obtain ⟨gs, os, hsA, hgs, _⟩ := hsub.2 (by omega)
  rw [hsA] at hSl hsub
  obtain ⟨_, _, he, c0⟩ := rd_b1 hsub (show 0 < n - (p + 1) by omega)
  cases he
  rw [b1_drop, Nat.add_zero, Nat.add_zero] at c0
  have ca := cell_alloc c0 (by omega)
  have hx := b1_bd hb (p + 1)
  have HS : Hid (∀ W, Calls Try.prog 15 #[.int .i64 (b1 xs (p + 1))] W fun e w' => e = .returned (.int .i64 7) ∧ W = w') := hide fun W => by have := shape_any (b1 xs (p + 1)) W; rwa [hs] at this
  have HO : Hid (∀ W, Calls Try.prog 26 #[.int .i64 7] W fun e w' => e = .returned (.int .i64 2) ∧ W = w') := hide (ioperand_any 7)
  have HW : Hid (∀ W, Calls Try.prog 27 #[.int .i64 (b1 xs (p + 1))] W fun e w' => e = .returned (.bool true) ∧ W = w') := hide fun W => by have := iwidens_any (b1 xs (p + 1)) W; rwa [hw] at this
  have hR : 1 ≤ n - (p + 1) := by omega
  have hR2 : n - (p + 1) ≤ 140737488355328 := by omega
  have hC : n - (p + 1) ≤ c - (p + 1) := by omega
  have hbd : IsBytes (xs.drop (p + 1)) := hb.drop _
  have C1 : Hid (∀ W, Below w.heap.size w W → Calls Try.prog 28 #[.slice (some ⟨gs, os + 1, none⟩) (n - (p + 1) - 1) (c - (p + 1) - 1)] W fun e w' => e = .returned (.int .i64 (b2 xs (p + 2))) ∧ ∃ q, w' = W.drewN q) := hide fun W hW => by
    have h2 := (hsub.below (hW.mono hB)).from (c := c - (p + 1)) (i := 1) (by omega) hC
    have h3 := iu2_any B _ (n - (p + 1) - 1) (c - (p + 1) - 1) _ W h2 (by omega) (hbd.drop 1)
    rw [b2_drop, b2_drop] at h3
    simpa [subA, show c - (p + 1) ≠ 1 by omega, add_none] using h3
  have C2 : Hid (∀ W, Below w.heap.size w W → Calls Try.prog 29 #[.slice (some ⟨gs, os + 3, none⟩) (n - (p + 1) - 3) (c - (p + 1) - 3)] W fun e w' => e = .returned (.int .i64 (sg 16 (b2 xs (p + 4)))) ∧ ∃ q, w' = W.drewN q) := hide fun W hW => by
    have h2 := (hsub.below (hW.mono hB)).from (c := c - (p + 1)) (i := 3) (by omega) hC
    have h3 := is2_any B _ (n - (p + 1) - 3) (c - (p + 1) - 3) _ W h2 (by omega) (hbd.drop 3)
    rw [b2_drop, b2_drop] at h3
    simpa [subA, show c - (p + 1) ≠ 3 by omega, add_none] using h3
  generalize sg 16 (b2 xs (p + 4)) = y1 at *
  generalize b2 xs (p + 2) = y0 at *
  generalize b1 xs (p + 1) = x at *
  generalize c - (p + 1) = C at *
  generalize n - (p + 1) = R at *
  have hR0 : ((R : Int) == 0) = false := by simp; omega
  have hR3 : (0 : Int) < R := by omega
  have hp2 : (p : Int) < n := by omega
  have hlt : ¬ ( (R : Int) < 5 ) := by omega
  have hC1 : C ≠ 1 := by omega
  have hR1 : (1 : Int) ≤ R := by omega
  have hC3 : C ≠ 3 := by omega
  have hR4 : (3 : Int) ≤ R := by omega
  clear h hb hbd c0 hsA hsub
  subst h132
  go_enter Try.func16, Try.ntmps16
  go_wp2_with fail
  refine (HS.out _).mono ?_
  rintro e w1 ⟨rfl, rfl⟩
  go_wp2_with fail
  refine (HO.out _).mono ?_
  rintro e w1 ⟨rfl, rfl⟩
  go_wp2_with fail
  refine (HW.out _).mono ?_
  rintro e w1 ⟨rfl, rfl⟩
  go_wp2_with fail
  refine (C1.out _ ?_).mono ?_
  · repeat (first | with_reducible exact Below.refl _ _ | with_reducible refine Below.drew ?_ | with_reducible refine below_drewN ?_ _ | ((with_reducible refine Below.setCell ?_ ?hp _); case hp => simp) | ((with_reducible refine Below.alloc ?_ ?hp _); case hp => first | omega | (simp; done) | (simp; omega)))
  rintro e w2 ⟨rfl, q, rfl⟩
  go_wp2_with fail
  refine (C2.out _ ?_).mono ?_
  · repeat (first | with_reducible exact Below.refl _ _ | with_reducible refine Below.drew ?_ | with_reducible refine below_drewN ?_ _ | ((with_reducible refine Below.setCell ?_ ?hp _); case hp => simp) | ((with_reducible refine Below.alloc ?_ ?hp _); case hp => first | omega | (simp; done) | (simp; omega)))
  rintro e w2 ⟨rfl, q2, rfl⟩
  go_wp2_with fail
  refine bodyPost_ret (v := .tuple #[insV p 6 132 true y0 y1, .bool true]) ?_ rfl ⟨rfl, ?_⟩
  · simp [results, Try.results16, go_sem]
    rfl
  · repeat (first | with_reducible exact Below.refl _ _ | with_reducible refine Below.drew ?_ | with_reducible refine below_drewN ?_ _ | ((with_reducible refine Below.setCell ?_ ?hp _); case hp => simp) | ((with_reducible refine Below.alloc ?_ ?hp _); case hp => first | omega | (simp; done) | (simp; omega)))

theorem wide_long2 (B : Nat) (A : Option Addr) (n c p : Nat) (xs : List Int) (w : World) (h : Rd w B A n (bys xs)) (hB : B ≤ w.heap.size) (hb : IsBytes xs) (hp : p + 1 < n) (hc : n ≤ c) (hn : n ≤ 140737488355328) (hw : wideT (b1 xs (p + 1)) = true) (h132 : b1 xs (p + 1) ≠ 132) (hs : shapeT (b1 xs (p + 1)) = 5) (hl : 1 + 2 ≤ n - (p + 1)) :
    Calls Try.prog 16 #[.slice A n c, .int .i64 p] w fun e w' => e = .returned (.tuple #[insV p 4 (b1 xs (p + 1)) true (b2 xs (p + 2)) 0, .bool true]) ∧ Below w.heap.size w w' := by
  have hSl := slice_from A n c (p + 1) (by omega)
  rw [show ((p + 1 : Nat) : Int) = (p : Int) + 1 by omega] at hSl
  have hsub := h.from (c := c) (i := p + 1) (by omega) hc
  obtain ⟨gs, os, hsA, hgs, _⟩ := hsub.2 (by omega)
  rw [hsA] at hSl hsub
  obtain ⟨_, _, he, c0⟩ := rd_b1 hsub (show 0 < n - (p + 1) by omega)
  cases he
  rw [b1_drop, Nat.add_zero, Nat.add_zero] at c0
  have ca := cell_alloc c0 (by omega)
  have hx := b1_bd hb (p + 1)
  have HS : Hid (∀ W, Calls Try.prog 15 #[.int .i64 (b1 xs (p + 1))] W fun e w' => e = .returned (.int .i64 5) ∧ W = w') := hide fun W => by have := shape_any (b1 xs (p + 1)) W; rwa [hs] at this
  have HO : Hid (∀ W, Calls Try.prog 26 #[.int .i64 5] W fun e w' => e = .returned (.int .i64 1) ∧ W = w') := hide (ioperand_any 5)
  have HW : Hid (∀ W, Calls Try.prog 27 #[.int .i64 (b1 xs (p + 1))] W fun e w' => e = .returned (.bool true) ∧ W = w') := hide fun W => by have := iwidens_any (b1 xs (p + 1)) W; rwa [hw] at this
  have hR : 1 ≤ n - (p + 1) := by omega
  have hR2 : n - (p + 1) ≤ 140737488355328 := by omega
  have hC : n - (p + 1) ≤ c - (p + 1) := by omega
  have hbd : IsBytes (xs.drop (p + 1)) := hb.drop _
  have C1 : Hid (∀ W, Below w.heap.size w W → Calls Try.prog 28 #[.slice (some ⟨gs, os + 1, none⟩) (n - (p + 1) - 1) (c - (p + 1) - 1)] W fun e w' => e = .returned (.int .i64 (b2 xs (p + 2))) ∧ ∃ q, w' = W.drewN q) := hide fun W hW => by
    have h2 := (hsub.below (hW.mono hB)).from (c := c - (p + 1)) (i := 1) (by omega) hC
    have h3 := iu2_any B _ (n - (p + 1) - 1) (c - (p + 1) - 1) _ W h2 (by omega) (hbd.drop 1)
    rw [b2_drop, b2_drop] at h3
    simpa [subA, show c - (p + 1) ≠ 1 by omega, add_none] using h3
  generalize b2 xs (p + 2) = y0 at *
  generalize b1 xs (p + 1) = x at *
  generalize c - (p + 1) = C at *
  generalize n - (p + 1) = R at *
  have hR0 : ((R : Int) == 0) = false := by simp; omega
  have hR3 : (0 : Int) < R := by omega
  have hp2 : (p : Int) < n := by omega
  have hlt : ¬ ( (R : Int) < 3 ) := by omega
  have hC1 : C ≠ 1 := by omega
  have hR1 : (1 : Int) ≤ R := by omega
  clear h hb hbd c0 hsA hsub
  have h2 : (x == 132) = false := by simpa using h132
  go_enter Try.func16, Try.ntmps16
  go_wp2_with fail
  refine (HS.out _).mono ?_
  rintro e w1 ⟨rfl, rfl⟩
  go_wp2_with fail
  refine (HO.out _).mono ?_
  rintro e w1 ⟨rfl, rfl⟩
  go_wp2_with fail
  refine (HW.out _).mono ?_
  rintro e w1 ⟨rfl, rfl⟩
  go_wp2_with fail
  refine (C1.out _ ?_).mono ?_
  · repeat (first | with_reducible exact Below.refl _ _ | with_reducible refine Below.drew ?_ | with_reducible refine below_drewN ?_ _ | ((with_reducible refine Below.setCell ?_ ?hp _); case hp => simp) | ((with_reducible refine Below.alloc ?_ ?hp _); case hp => first | omega | (simp; done) | (simp; omega)))
  rintro e w2 ⟨rfl, q, rfl⟩
  go_wp2_with fail
  refine bodyPost_ret (v := .tuple #[insV p 4 x true y0 0, .bool true]) ?_ rfl ⟨rfl, ?_⟩
  · simp [results, Try.results16, go_sem]
    rfl
  · repeat (first | with_reducible exact Below.refl _ _ | with_reducible refine Below.drew ?_ | with_reducible refine below_drewN ?_ _ | ((with_reducible refine Below.setCell ?_ ?hp _); case hp => simp) | ((with_reducible refine Below.alloc ?_ ?hp _); case hp => first | omega | (simp; done) | (simp; omega)))

theorem wide_any (B : Nat) (A : Option Addr) (n c p : Nat) (xs : List Int) (w : World) (h : Rd w B A n (bys xs)) (hB : B ≤ w.heap.size) (hb : IsBytes xs) (hp : p < n) (hc : n ≤ c) (hn : n ≤ 140737488355328) :
    Calls Try.prog 16 #[.slice A n c, .int .i64 p] w fun e w' => e = .returned (wideR xs p) ∧ Below w.heap.size w w' := by
  have hxl : xs.length = n := by have := h.1; rwa [bys_len] at this
  have hR : wideR xs p = if n - (p + 1) < 1 + (if b1 xs (p + 1) == 132 then 4 else 2) || !wideT (b1 xs (p + 1)) then noV
    else .tuple #[insV p (2 + ((if b1 xs (p + 1) == 132 then 4 else 2 : Nat) : Int)) (b1 xs (p + 1)) true (b2 xs (p + 2)) (if b1 xs (p + 1) == 132 then sg 16 (b2 xs (p + 4)) else 0), .bool true] := by rw [← hxl]; rfl
  rw [hR]
  by_cases h0 : n - (p + 1) = 0
  · rw [if_pos (by simp; left; split <;> omega)]
    exact wide_none A n c p w h0 hp hn
  · cases hw : wideT (b1 xs (p + 1)) with
    | false =>
      rw [if_pos (by simp)]
      exact wide_no B A n c p xs w h hB hb (by omega) hc hn hw
    | true =>
      rcases wide_shape hw with e | ⟨e1, e2⟩
      · have hs : shapeT (b1 xs (p + 1)) = 7 := by rw [e]; rfl
        rw [if_pos (show (b1 xs (p + 1) == 132) = true by simpa using e)]
        by_cases hl : n - (p + 1) < 1 + 4
        · rw [if_pos (by simpa using hl)]
          exact wide_short4 B A n c p xs w h hB hb (by omega) hc hn hw e hs hl
        · rw [if_neg (by simpa using hl)]
          have := wide_long4 B A n c p xs w h hB hb (by omega) hc hn hw e hs (by omega)
          rw [if_pos (show (b1 xs (p + 1) == 132) = true by simpa using e)]
          exact this
      · rw [if_neg (show ¬ (b1 xs (p + 1) == 132) = true by simpa using e1)]
        by_cases hl : n - (p + 1) < 1 + 2
        · rw [if_pos (by simpa using hl)]
          exact wide_short2 B A n c p xs w h hB hb (by omega) hc hn hw e1 e2 hl
        · rw [if_neg (by simpa using hl)]
          have := wide_long2 B A n c p xs w h hB hb (by omega) hc hn hw e1 e2 (by omega)
          rw [if_neg (show ¬ (b1 xs (p + 1) == 132) = true by simpa using e1)]
          exact this
end Go.Proofs.Ytllbbmofinminaa
