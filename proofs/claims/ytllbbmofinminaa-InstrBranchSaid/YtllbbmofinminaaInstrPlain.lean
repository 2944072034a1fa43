/- What package instr reads of an instruction whose length its opcode alone says, a theorem a shape (written by gen9.py). Nothing is claimed here. -/
import Derived.Test.YtllbbmofinminaaInstrSmall
import Derived.RegionTactic
import Derived.StillTailTactics
namespace Go.Proofs.Ytllbbmofinminaa
open Go.RowKit

/-- An instruction without targets; none. -/
def insV (at_ len op : Int) (wide : Bool) (a b : Int) : Value := .agg #[.int .i64 at_, .int .i64 len, .int .i64 op, .bool wide, .int .i64 a, .int .i64 b, .slice none 0 0, .slice none 0 0]
def noV : Value := .tuple #[insV 0 0 0 false 0 0, .bool false]
/-- The eight cells of an instruction in a block of its own. -/
def insC (at_ len op : Int) (wide : Bool) (a b : Int) : List Value := [.int .i64 at_, .int .i64 len, .int .i64 op, .bool wide, .int .i64 a, .int .i64 b, .slice none 0 0, .slice none 0 0]
/-- The operands, by the shape: bytes behind the opcode; nothing where they are refused. -/
def operands (s : Int) (op at_ : Int) (ys : List Int) : Option (Int × Int) :=
  if s == 2 then some (nameT op, 0) else if s == 3 then some (sg 8 (b1 ys 0), 0) else if s == 4 then some (sg 16 (b2 ys 0), 0)
  else if s == 5 then some (b1 ys 0, 0) else if s == 6 then some (b2 ys 0, 0) else if s == 7 then some (b1 ys 0, sg 8 (b1 ys 1))
  else if s == 8 then some (at_ + sg 16 (b2 ys 0), 0) else if s == 9 then some (at_ + sg 32 (b4 ys 0), 0) else if s == 10 then some (b2 ys 0, b1 ys 2)
  else if s == 11 then (if b1 ys 3 == 0 then some (b2 ys 0, b1 ys 2) else none) else some (0, 0)
def plainR (s : Int) (xs : List Int) (p : Nat) : Value :=
  if xs.length - p < 1 + opB s then noV else
    match operands s (b1 xs p) p ((xs.drop (p + 1)).take (opB s)) with
    | some (a, b) => .tuple #[insV p (1 + opB s) (b1 xs p) false a b, .bool true]
    | none => noV
theorem opB_le (s : Int) : opB s ≤ 4 := by
  unfold opB
  split
  · omega
  split
  · omega
  split
  · omega
  split <;> omega
theorem cell_alloc {w : World} {g k : Nat} {v : Value} (h : w.cell? ⟨g, k, none⟩ = some v) (hg : g < w.heap.size) (ob : Obj) : (w.alloc ob).cell? ⟨g, k, none⟩ = some v := by
  rw [← h]; exact ((Below.refl w.heap.size w).alloc (Nat.le_refl _) ob).cell hg

theorem plain_short (s : Int) (B : Nat) (A : Option Addr) (n c p : Nat) (xs : List Int) (w : World) (h : Rd w B A n (bys xs)) (hB : B ≤ w.heap.size) (hb : IsBytes xs) (hp : p < n) (hn : n ≤ 140737488355328) (hs : shapeT (b1 xs p) = s) (hl : n - p < 1 + opB s) :
    Calls Try.prog 19 #[.slice A n c, .int .i64 p] w fun e w' => e = .returned noV ∧ Below w.heap.size w w' := by
  obtain ⟨g, o, rfl, hg, _⟩ := h.2 (by omega)
  obtain ⟨_, _, he, c0⟩ := rd_b1 h hp
  cases he
  have ca := cell_alloc c0 (by omega)
  have HS : Hid (∀ W, Calls Try.prog 15 #[.int .i64 (b1 xs p)] W fun e w' => e = .returned (.int .i64 s) ∧ W = w') := hide fun W => by have := shape_any (b1 xs p) W; rwa [hs] at this
  have HO := hide (ioperand_any s)
  have hx := b1_bd hb p
  have hq := opB_le s
  generalize b1 xs p = x at *
  generalize opB s = q at *
  have hp2 : (p : Int) < n := by omega
  have hlt : (n : Int) - (p : Int) < 1 + q := by omega
  clear h hb c0
  go_enter Try.func19, Try.ntmps19
  go_wp2_with fail
  refine (HS.out _).mono ?_
  rintro e w1 ⟨rfl, rfl⟩
  go_wp2_with fail
  refine (HO.out _).mono ?_
  rintro e w1 ⟨rfl, rfl⟩
  go_wp2_with fail
  refine bodyPost_ret (v := noV) ?_ rfl ⟨rfl, ?_⟩
  · simp [results, Try.results19, go_sem]
    rfl
  · repeat (first | with_reducible exact Below.refl _ _ | with_reducible refine Below.drew ?_ | with_reducible refine below_drewN ?_ _ | ((with_reducible refine Below.setCell ?_ ?hp _); case hp => simp) | ((with_reducible refine Below.alloc ?_ ?hp _); case hp => first | omega | (simp; done) | (simp; omega)))

theorem plain_1 (B : Nat) (A : Option Addr) (n c p : Nat) (xs : List Int) (w : World) (h : Rd w B A n (bys xs)) (hB : B ≤ w.heap.size) (hb : IsBytes xs) (hp : p < n) (hc : n ≤ c) (hn : n ≤ 140737488355328) (hs : shapeT (b1 xs p) = 1) (hl : 1 + 0 ≤ n - p) :
    Calls Try.prog 19 #[.slice A n c, .int .i64 p] w fun e w' => e = .returned (plainR 1 xs p) ∧ Below w.heap.size w w' := by
  have hxl : xs.length = n := by have := h.1; rwa [bys_len] at this
  obtain ⟨ys, hys⟩ : ∃ ys, ys = (xs.drop (p + 1)).take 0 := ⟨_, rfl⟩
  have hR : plainR 1 xs p = .tuple #[insV p 1 (b1 xs p) false 0 0, .bool true] := by
    unfold plainR
    rw [if_neg (by rw [hxl]; exact Nat.not_lt.2 hl)]
    rw [show opB 1 = 0 from rfl, ← hys]
    rfl
  rw [hR]
  clear hR
  obtain ⟨g, o, rfl, hg, _⟩ := h.2 (by omega)
  obtain ⟨_, _, he, c0⟩ := rd_b1 h hp
  cases he
  have ca := cell_alloc c0 (by omega)
  have hSl := slice_sub (some ⟨g, o, none⟩) n c (p + 1) (p + 1) (by omega) (by omega)
  rw [show p + 1 - (p + 1) = 0 by omega] at hSl
  rw [show ((p + 1 : Nat) : Int) = (p : Int) + 1 by omega] at hSl
  generalize c - (p + 1) = C at *
  generalize subA c (p + 1) (some ⟨g, o, none⟩) = SA at *
  have HS : Hid (∀ W, Calls Try.prog 15 #[.int .i64 (b1 xs p)] W fun e w' => e = .returned (.int .i64 1) ∧ W = w') := hide fun W => by have := shape_any (b1 xs p) W; rwa [hs] at this
  have HO : Hid (∀ W, Calls Try.prog 26 #[.int .i64 1] W fun e w' => e = .returned (.int .i64 0) ∧ W = w') := hide (ioperand_any 1)
  have hx := b1_bd hb p
  generalize b1 xs p = x at *
  have hp2 : (p : Int) < n := by omega
  have hlt : ¬ ((n : Int) - (p : Int) < 1) := by omega
  clear h hb c0 hys
  go_enter Try.func19, Try.ntmps19
  go_wp2_with fail
  refine (HS.out _).mono ?_
  rintro e w1 ⟨rfl, rfl⟩
  go_wp2_with fail
  refine (HO.out _).mono ?_
  rintro e w1 ⟨rfl, rfl⟩
  go_wp2_with fail
  all_goals
    refine bodyPost_ret (v := .tuple #[insV p 1 x false 0 0, .bool true]) ?_ rfl ⟨rfl, ?_⟩
    · simp [results, Try.results19, go_sem]
      rfl
    · repeat (first | with_reducible exact Below.refl _ _ | with_reducible refine Below.drew ?_ | with_reducible refine below_drewN ?_ _ | ((with_reducible refine Below.setCell ?_ ?hp _); case hp => simp) | ((with_reducible refine Below.alloc ?_ ?hp _); case hp => first | omega | (simp; done) | (simp; omega)))

theorem plain_2 (B : Nat) (A : Option Addr) (n c p : Nat) (xs : List Int) (w : World) (h : Rd w B A n (bys xs)) (hB : B ≤ w.heap.size) (hb : IsBytes xs) (hp : p < n) (hc : n ≤ c) (hn : n ≤ 140737488355328) (hs : shapeT (b1 xs p) = 2) (hl : 1 + 0 ≤ n - p) :
    Calls Try.prog 19 #[.slice A n c, .int .i64 p] w fun e w' => e = .returned (plainR 2 xs p) ∧ Below w.heap.size w w' := by
  have hxl : xs.length = n := by have := h.1; rwa [bys_len] at this
  obtain ⟨ys, hys⟩ : ∃ ys, ys = (xs.drop (p + 1)).take 0 := ⟨_, rfl⟩
  have hR : plainR 2 xs p = .tuple #[insV p 1 (b1 xs p) false (nameT (b1 xs p)) 0, .bool true] := by
    unfold plainR
    rw [if_neg (by rw [hxl]; exact Nat.not_lt.2 hl)]
    rw [show opB 2 = 0 from rfl, ← hys]
    rfl
  rw [hR]
  clear hR
  obtain ⟨g, o, rfl, hg, _⟩ := h.2 (by omega)
  obtain ⟨_, _, he, c0⟩ := rd_b1 h hp
  cases he
  have ca := cell_alloc c0 (by omega)
  have hSl := slice_sub (some ⟨g, o, none⟩) n c (p + 1) (p + 1) (by omega) (by omega)
  rw [show p + 1 - (p + 1) = 0 by omega] at hSl
  rw [show ((p + 1 : Nat) : Int) = (p : Int) + 1 by omega] at hSl
  generalize c - (p + 1) = C at *
  generalize subA c (p + 1) (some ⟨g, o, none⟩) = SA at *
  have HS : Hid (∀ W, Calls Try.prog 15 #[.int .i64 (b1 xs p)] W fun e w' => e = .returned (.int .i64 2) ∧ W = w') := hide fun W => by have := shape_any (b1 xs p) W; rwa [hs] at this
  have HO : Hid (∀ W, Calls Try.prog 26 #[.int .i64 2] W fun e w' => e = .returned (.int .i64 0) ∧ W = w') := hide (ioperand_any 2)
  have hx := b1_bd hb p
  have HN := hide (iinName_any (b1 xs p))
  generalize nameT (b1 xs p) = nm at *
  generalize b1 xs p = x at *
  have hp2 : (p : Int) < n := by omega
  have hlt : ¬ ((n : Int) - (p : Int) < 1) := by omega
  clear h hb c0 hys
  go_enter Try.func19, Try.ntmps19
  go_wp2_with fail
  refine (HS.out _).mono ?_
  rintro e w1 ⟨rfl, rfl⟩
  go_wp2_with fail
  refine (HO.out _).mono ?_
  rintro e w1 ⟨rfl, rfl⟩
  go_wp2_with fail
  refine (HN.out _ hx.1 hx.2).mono ?_
  rintro e w2 ⟨rfl, rfl⟩
  go_wp2_with fail
  all_goals
    refine bodyPost_ret (v := .tuple #[insV p 1 x false nm 0, .bool true]) ?_ rfl ⟨rfl, ?_⟩
    · simp [results, Try.results19, go_sem]
      rfl
    · repeat (first | with_reducible exact Below.refl _ _ | with_reducible refine Below.drew ?_ | with_reducible refine below_drewN ?_ _ | ((with_reducible refine Below.setCell ?_ ?hp _); case hp => simp) | ((with_reducible refine Below.alloc ?_ ?hp _); case hp => first | omega | (simp; done) | (simp; omega)))

theorem plain_3 (B : Nat) (A : Option Addr) (n c p : Nat) (xs : List Int) (w : World) (h : Rd w B A n (bys xs)) (hB : B ≤ w.heap.size) (hb : IsBytes xs) (hp : p < n) (hc : n ≤ c) (hn : n ≤ 140737488355328) (hs : shapeT (b1 xs p) = 3) (hl : 1 + 1 ≤ n - p) :
    Calls Try.prog 19 #[.slice A n c, .int .i64 p] w fun e w' => e = .returned (plainR 3 xs p) ∧ Below w.heap.size w w' := by
  have hxl : xs.length = n := by have := h.1; rwa [bys_len] at this
  obtain ⟨ys, hys⟩ : ∃ ys, ys = (xs.drop (p + 1)).take 1 := ⟨_, rfl⟩
  have hR : plainR 3 xs p = .tuple #[insV p 2 (b1 xs p) false (sg 8 (b1 ys 0)) 0, .bool true] := by
    unfold plainR
    rw [if_neg (by rw [hxl]; exact Nat.not_lt.2 hl)]
    rw [show opB 3 = 1 from rfl, ← hys]
    rfl
  rw [hR]
  clear hR
  have hyb : IsBytes ys := by rw [hys]; exact (hb.drop _).take _
  obtain ⟨g, o, rfl, hg, _⟩ := h.2 (by omega)
  obtain ⟨_, _, he, c0⟩ := rd_b1 h hp
  cases he
  have ca := cell_alloc c0 (by omega)
  have hSl := slice_sub (some ⟨g, o, none⟩) n c (p + 1) (p + 2) (by omega) (by omega)
  rw [show p + 2 - (p + 1) = 1 by omega] at hSl
  have hsub := h.sub (c := c) (i := p + 1) (j := p + 2) (by omega) (by omega) hc
  rw [show p + 2 - (p + 1) = 1 by omega, ← hys] at hsub
  rw [show ((p + 1 : Nat) : Int) = (p : Int) + 1 by omega, show ((p + 2 : Nat) : Int) = (p : Int) + 2 by omega] at hSl
  obtain ⟨gs, os, hsA, hgs, _⟩ := hsub.2 (by omega)
  rw [hsA] at hSl hsub
  have hC : 1 ≤ c - (p + 1) := by omega
  generalize c - (p + 1) = C at *
  have HS : Hid (∀ W, Calls Try.prog 15 #[.int .i64 (b1 xs p)] W fun e w' => e = .returned (.int .i64 3) ∧ W = w') := hide fun W => by have := shape_any (b1 xs p) W; rwa [hs] at this
  have HO : Hid (∀ W, Calls Try.prog 26 #[.int .i64 3] W fun e w' => e = .returned (.int .i64 1) ∧ W = w') := hide (ioperand_any 3)
  have hx := b1_bd hb p
  have C1 : Hid (∀ W, Below w.heap.size w W → Calls Try.prog 33 #[.slice (some ⟨gs, os, none⟩) 1 C] W fun e w' => e = .returned (.int .i64 (sg 8 (b1 ys 0))) ∧ W = w') := hide fun W hW => is1_any B _ 1 C ys W (hsub.below (hW.mono hB)) (by omega) hyb
  generalize b1 xs p = x at *
  generalize sg 8 (b1 ys 0) = y0 at *
  have hp2 : (p : Int) < n := by omega
  have hlt : ¬ ((n : Int) - (p : Int) < 2) := by omega
  clear h hb c0 hsA hsub hys hyb
  go_enter Try.func19, Try.ntmps19
  go_wp2_with fail
  refine (HS.out _).mono ?_
  rintro e w1 ⟨rfl, rfl⟩
  go_wp2_with fail
  refine (HO.out _).mono ?_
  rintro e w1 ⟨rfl, rfl⟩
  go_wp2_with fail
  refine (C1.out _ ?_).mono ?_
  · repeat (first | with_reducible exact Below.refl _ _ | with_reducible refine Below.drew ?_ | with_reducible refine below_drewN ?_ _ | ((with_reducible refine Below.setCell ?_ ?hp _); case hp => simp) | ((with_reducible refine Below.alloc ?_ ?hp _); case hp => first | omega | (simp; done) | (simp; omega)))
  rintro e w2 ⟨rfl, rfl⟩
  go_wp2_with fail
  all_goals
    refine bodyPost_ret (v := .tuple #[insV p 2 x false y0 0, .bool true]) ?_ rfl ⟨rfl, ?_⟩
    · simp [results, Try.results19, go_sem]
      rfl
    · repeat (first | with_reducible exact Below.refl _ _ | with_reducible refine Below.drew ?_ | with_reducible refine below_drewN ?_ _ | ((with_reducible refine Below.setCell ?_ ?hp _); case hp => simp) | ((with_reducible refine Below.alloc ?_ ?hp _); case hp => first | omega | (simp; done) | (simp; omega)))

theorem plain_4 (B : Nat) (A : Option Addr) (n c p : Nat) (xs : List Int) (w : World) (h : Rd w B A n (bys xs)) (hB : B ≤ w.heap.size) (hb : IsBytes xs) (hp : p < n) (hc : n ≤ c) (hn : n ≤ 140737488355328) (hs : shapeT (b1 xs p) = 4) (hl : 1 + 2 ≤ n - p) :
    Calls Try.prog 19 #[.slice A n c, .int .i64 p] w fun e w' => e = .returned (plainR 4 xs p) ∧ Below w.heap.size w w' := by
  have hxl : xs.length = n := by have := h.1; rwa [bys_len] at this
  obtain ⟨ys, hys⟩ : ∃ ys, ys = (xs.drop (p + 1)).take 2 := ⟨_, rfl⟩
  have hR : plainR 4 xs p = .tuple #[insV p 3 (b1 xs p) false (sg 16 (b2 ys 0)) 0, .bool true] := by
    unfold plainR
    rw [if_neg (by rw [hxl]; exact Nat.not_lt.2 hl)]
    rw [show opB 4 = 2 from rfl, ← hys]
    rfl
  rw [hR]
  clear hR
  have hyb : IsBytes ys := by rw [hys]; exact (hb.drop _).take _
  obtain ⟨g, o, rfl, hg, _⟩ := h.2 (by omega)
  obtain ⟨_, _, he, c0⟩ := rd_b1 h hp
  cases he
  have ca := cell_alloc c0 (by omega)
  have hSl := slice_sub (some ⟨g, o, none⟩) n c (p + 1) (p + 3) (by omega) (by omega)
  rw [show p + 3 - (p + 1) = 2 by omega] at hSl
  have hsub := h.sub (c := c) (i := p + 1) (j := p + 3) (by omega) (by omega) hc
  rw [show p + 3 - (p + 1) = 2 by omega, ← hys] at hsub
  rw [show ((p + 1 : Nat) : Int) = (p : Int) + 1 by omega, show ((p + 3 : Nat) : Int) = (p : Int) + 3 by omega] at hSl
  obtain ⟨gs, os, hsA, hgs, _⟩ := hsub.2 (by omega)
  rw [hsA] at hSl hsub
  have hC : 2 ≤ c - (p + 1) := by omega
  generalize c - (p + 1) = C at *
  have HS : Hid (∀ W, Calls Try.prog 15 #[.int .i64 (b1 xs p)] W fun e w' => e = .returned (.int .i64 4) ∧ W = w') := hide fun W => by have := shape_any (b1 xs p) W; rwa [hs] at this
  have HO : Hid (∀ W, Calls Try.prog 26 #[.int .i64 4] W fun e w' => e = .returned (.int .i64 2) ∧ W = w') := hide (ioperand_any 4)
  have hx := b1_bd hb p
  have C1 : Hid (∀ W, Below w.heap.size w W → Calls Try.prog 29 #[.slice (some ⟨gs, os, none⟩) 2 C] W fun e w' => e = .returned (.int .i64 (sg 16 (b2 ys 0))) ∧ ∃ q, w' = W.drewN q) := hide fun W hW => is2_any B _ 2 C ys W (hsub.below (hW.mono hB)) (by omega) hyb
  generalize b1 xs p = x at *
  generalize sg 16 (b2 ys 0) = y0 at *
  have hp2 : (p : Int) < n := by omega
  have hlt : ¬ ((n : Int) - (p : Int) < 3) := by omega
  clear h hb c0 hsA hsub hys hyb
  go_enter Try.func19, Try.ntmps19
  go_wp2_with fail
  refine (HS.out _).mono ?_
  rintro e w1 ⟨rfl, rfl⟩
  go_wp2_with fail
  refine (HO.out _).mono ?_
  rintro e w1 ⟨rfl, rfl⟩
  go_wp2_with fail
  refine (C1.out _ ?_).mono ?_
  · repeat (first | with_reducible exact Below.refl _ _ | with_reducible refine Below.drew ?_ | with_reducible refine below_drewN ?_ _ | ((with_reducible refine Below.setCell ?_ ?hp _); case hp => simp) | ((with_reducible refine Below.alloc ?_ ?hp _); case hp => first | omega | (simp; done) | (simp; omega)))
  rintro e w2 ⟨rfl, q, rfl⟩
  go_wp2_with fail
  all_goals
    refine bodyPost_ret (v := .tuple #[insV p 3 x false y0 0, .bool true]) ?_ rfl ⟨rfl, ?_⟩
    · simp [results, Try.results19, go_sem]
      rfl
    · repeat (first | with_reducible exact Below.refl _ _ | with_reducible refine Below.drew ?_ | with_reducible refine below_drewN ?_ _ | ((with_reducible refine Below.setCell ?_ ?hp _); case hp => simp) | ((with_reducible refine Below.alloc ?_ ?hp _); case hp => first | omega | (simp; done) | (simp; omega)))

theorem plain_5 (B : Nat) (A : Option Addr) (n c p : Nat) (xs : List Int) (w : World) (h : Rd w B A n (bys xs)) (hB : B ≤ w.heap.size) (hb : IsBytes xs) (hp : p < n) (hc : n ≤ c) (hn : n ≤ 140737488355328) (hs : shapeT (b1 xs p) = 5) (hl : 1 + 1 ≤ n - p) :
    Calls Try.prog 19 #[.slice A n c, .int .i64 p] w fun e w' => e = .returned (plainR 5 xs p) ∧ Below w.heap.size w w' := by
  have hxl : xs.length = n := by have := h.1; rwa [bys_len] at this
  obtain ⟨ys, hys⟩ : ∃ ys, ys = (xs.drop (p + 1)).take 1 := ⟨_, rfl⟩
  have hR : plainR 5 xs p = .tuple #[insV p 2 (b1 xs p) false (b1 ys 0) 0, .bool true] := by
    unfold plainR
    rw [if_neg (by rw [hxl]; exact Nat.not_lt.2 hl)]
    rw [show opB 5 = 1 from rfl, ← hys]
    rfl
  rw [hR]
  clear hR
  have hyb : IsBytes ys := by rw [hys]; exact (hb.drop _).take _
  obtain ⟨g, o, rfl, hg, _⟩ := h.2 (by omega)
  obtain ⟨_, _, he, c0⟩ := rd_b1 h hp
  cases he
  have ca := cell_alloc c0 (by omega)
  have hSl := slice_sub (some ⟨g, o, none⟩) n c (p + 1) (p + 2) (by omega) (by omega)
  rw [show p + 2 - (p + 1) = 1 by omega] at hSl
  have hsub := h.sub (c := c) (i := p + 1) (j := p + 2) (by omega) (by omega) hc
  rw [show p + 2 - (p + 1) = 1 by omega, ← hys] at hsub
  rw [show ((p + 1 : Nat) : Int) = (p : Int) + 1 by omega, show ((p + 2 : Nat) : Int) = (p : Int) + 2 by omega] at hSl
  obtain ⟨gs, os, hsA, hgs, _⟩ := hsub.2 (by omega)
  rw [hsA] at hSl hsub
  have hC : 1 ≤ c - (p + 1) := by omega
  generalize c - (p + 1) = C at *
  have HS : Hid (∀ W, Calls Try.prog 15 #[.int .i64 (b1 xs p)] W fun e w' => e = .returned (.int .i64 5) ∧ W = w') := hide fun W => by have := shape_any (b1 xs p) W; rwa [hs] at this
  have HO : Hid (∀ W, Calls Try.prog 26 #[.int .i64 5] W fun e w' => e = .returned (.int .i64 1) ∧ W = w') := hide (ioperand_any 5)
  have hx := b1_bd hb p
  have C1 : Hid (∀ W, Below w.heap.size w W → Calls Try.prog 34 #[.slice (some ⟨gs, os, none⟩) 1 C] W fun e w' => e = .returned (.int .i64 (b1 ys 0)) ∧ W = w') := hide fun W hW => iu1_any B _ 1 C ys W (hsub.below (hW.mono hB)) (by omega) hyb
  generalize b1 xs p = x at *
  generalize b1 ys 0 = y0 at *
  have hp2 : (p : Int) < n := by omega
  have hlt : ¬ ((n : Int) - (p : Int) < 2) := by omega
  clear h hb c0 hsA hsub hys hyb
  go_enter Try.func19, Try.ntmps19
  go_wp2_with fail
  refine (HS.out _).mono ?_
  rintro e w1 ⟨rfl, rfl⟩
  go_wp2_with fail
  refine (HO.out _).mono ?_
  rintro e w1 ⟨rfl, rfl⟩
  go_wp2_with fail
  refine (C1.out _ ?_).mono ?_
  · repeat (first | with_reducible exact Below.refl _ _ | with_reducible refine Below.drew ?_ | with_reducible refine below_drewN ?_ _ | ((with_reducible refine Below.setCell ?_ ?hp _); case hp => simp) | ((with_reducible refine Below.alloc ?_ ?hp _); case hp => first | omega | (simp; done) | (simp; omega)))
  rintro e w2 ⟨rfl, rfl⟩
  go_wp2_with fail
  all_goals
    refine bodyPost_ret (v := .tuple #[insV p 2 x false y0 0, .bool true]) ?_ rfl ⟨rfl, ?_⟩
    · simp [results, Try.results19, go_sem]
      rfl
    · repeat (first | with_reducible exact Below.refl _ _ | with_reducible refine Below.drew ?_ | with_reducible refine below_drewN ?_ _ | ((with_reducible refine Below.setCell ?_ ?hp _); case hp => simp) | ((with_reducible refine Below.alloc ?_ ?hp _); case hp => first | omega | (simp; done) | (simp; omega)))

theorem plain_6 (B : Nat) (A : Option Addr) (n c p : Nat) (xs : List Int) (w : World) (h : Rd w B A n (bys xs)) (hB : B ≤ w.heap.size) (hb : IsBytes xs) (hp : p < n) (hc : n ≤ c) (hn : n ≤ 140737488355328) (hs : shapeT (b1 xs p) = 6) (hl : 1 + 2 ≤ n - p) :
    Calls Try.prog 19 #[.slice A n c, .int .i64 p] w fun e w' => e = .returned (plainR 6 xs p) ∧ Below w.heap.size w w' := by
  have hxl : xs.length = n := by have := h.1; rwa [bys_len] at this
  obtain ⟨ys, hys⟩ : ∃ ys, ys = (xs.drop (p + 1)).take 2 := ⟨_, rfl⟩
  have hR : plainR 6 xs p = .tuple #[insV p 3 (b1 xs p) false (b2 ys 0) 0, .bool true] := by
    unfold plainR
    rw [if_neg (by rw [hxl]; exact Nat.not_lt.2 hl)]
    rw [show opB 6 = 2 from rfl, ← hys]
    rfl
  rw [hR]
  clear hR
  have hyb : IsBytes ys := by rw [hys]; exact (hb.drop _).take _
  obtain ⟨g, o, rfl, hg, _⟩ := h.2 (by omega)
  obtain ⟨_, _, he, c0⟩ := rd_b1 h hp
  cases he
  have ca := cell_alloc c0 (by omega)
  have hSl := slice_sub (some ⟨g, o, none⟩) n c (p + 1) (p + 3) (by omega) (by omega)
  rw [show p + 3 - (p + 1) = 2 by omega] at hSl
  have hsub := h.sub (c := c) (i := p + 1) (j := p + 3) (by omega) (by omega) hc
  rw [show p + 3 - (p + 1) = 2 by omega, ← hys] at hsub
  rw [show ((p + 1 : Nat) : Int) = (p : Int) + 1 by omega, show ((p + 3 : Nat) : Int) = (p : Int) + 3 by omega] at hSl
  obtain ⟨gs, os, hsA, hgs, _⟩ := hsub.2 (by omega)
  rw [hsA] at hSl hsub
  have hC : 2 ≤ c - (p + 1) := by omega
  generalize c - (p + 1) = C at *
  have HS : Hid (∀ W, Calls Try.prog 15 #[.int .i64 (b1 xs p)] W fun e w' => e = .returned (.int .i64 6) ∧ W = w') := hide fun W => by have := shape_any (b1 xs p) W; rwa [hs] at this
  have HO : Hid (∀ W, Calls Try.prog 26 #[.int .i64 6] W fun e w' => e = .returned (.int .i64 2) ∧ W = w') := hide (ioperand_any 6)
  have hx := b1_bd hb p
  have C1 : Hid (∀ W, Below w.heap.size w W → Calls Try.prog 28 #[.slice (some ⟨gs, os, none⟩) 2 C] W fun e w' => e = .returned (.int .i64 (b2 ys 0)) ∧ ∃ q, w' = W.drewN q) := hide fun W hW => iu2_any B _ 2 C ys W (hsub.below (hW.mono hB)) (by omega) hyb
  generalize b1 xs p = x at *
  generalize b2 ys 0 = y0 at *
  have hp2 : (p : Int) < n := by omega
  have hlt : ¬ ((n : Int) - (p : Int) < 3) := by omega
  clear h hb c0 hsA hsub hys hyb
  go_enter Try.func19, Try.ntmps19
  go_wp2_with fail
  refine (HS.out _).mono ?_
  rintro e w1 ⟨rfl, rfl⟩
  go_wp2_with fail
  refine (HO.out _).mono ?_
  rintro e w1 ⟨rfl, rfl⟩
  go_wp2_with fail
  refine (C1.out _ ?_).mono ?_
  · repeat (first | with_reducible exact Below.refl _ _ | with_reducible refine Below.drew ?_ | with_reducible refine below_drewN ?_ _ | ((with_reducible refine Below.setCell ?_ ?hp _); case hp => simp) | ((with_reducible refine Below.alloc ?_ ?hp _); case hp => first | omega | (simp; done) | (simp; omega)))
  rintro e w2 ⟨rfl, q, rfl⟩
  go_wp2_with fail
  all_goals
    refine bodyPost_ret (v := .tuple #[insV p 3 x false y0 0, .bool true]) ?_ rfl ⟨rfl, ?_⟩
    · simp [results, Try.results19, go_sem]
      rfl
    · repeat (first | with_reducible exact Below.refl _ _ | with_reducible refine Below.drew ?_ | with_reducible refine below_drewN ?_ _ | ((with_reducible refine Below.setCell ?_ ?hp _); case hp => simp) | ((with_reducible refine Below.alloc ?_ ?hp _); case hp => first | omega | (simp; done) | (simp; omega)))

theorem plain_7 (B : Nat) (A : Option Addr) (n c p : Nat) (xs : List Int) (w : World) (h : Rd w B A n (bys xs)) (hB : B ≤ w.heap.size) (hb : IsBytes xs) (hp : p < n) (hc : n ≤ c) (hn : n ≤ 140737488355328) (hs : shapeT (b1 xs p) = 7) (hl : 1 + 2 ≤ n - p) :
    Calls Try.prog 19 #[.slice A n c, .int .i64 p] w fun e w' => e = .returned (plainR 7 xs p) ∧ Below w.heap.size w w' := by
  have hxl : xs.length = n := by have := h.1; rwa [bys_len] at this
  obtain ⟨ys, hys⟩ : ∃ ys, ys = (xs.drop (p + 1)).take 2 := ⟨_, rfl⟩
  have hR : plainR 7 xs p = .tuple #[insV p 3 (b1 xs p) false (b1 ys 0) (sg 8 (b1 ys 1)), .bool true] := by
    unfold plainR
    rw [if_neg (by rw [hxl]; exact Nat.not_lt.2 hl)]
    rw [show opB 7 = 2 from rfl, ← hys]
    rfl
  rw [hR]
  clear hR
  have hyb : IsBytes ys := by rw [hys]; exact (hb.drop _).take _
  obtain ⟨g, o, rfl, hg, _⟩ := h.2 (by omega)
  obtain ⟨_, _, he, c0⟩ := rd_b1 h hp
  cases he
  have ca := cell_alloc c0 (by omega)
  have hSl := slice_sub (some ⟨g, o, none⟩) n c (p + 1) (p + 3) (by omega) (by omega)
  rw [show p + 3 - (p + 1) = 2 by omega] at hSl
  have hsub := h.sub (c := c) (i := p + 1) (j := p + 3) (by omega) (by omega) hc
  rw [show p + 3 - (p + 1) = 2 by omega, ← hys] at hsub
  rw [show ((p + 1 : Nat) : Int) = (p : Int) + 1 by omega, show ((p + 3 : Nat) : Int) = (p : Int) + 3 by omega] at hSl
  obtain ⟨gs, os, hsA, hgs, _⟩ := hsub.2 (by omega)
  rw [hsA] at hSl hsub
  have hC : 2 ≤ c - (p + 1) := by omega
  generalize c - (p + 1) = C at *
  have HS : Hid (∀ W, Calls Try.prog 15 #[.int .i64 (b1 xs p)] W fun e w' => e = .returned (.int .i64 7) ∧ W = w') := hide fun W => by have := shape_any (b1 xs p) W; rwa [hs] at this
  have HO : Hid (∀ W, Calls Try.prog 26 #[.int .i64 7] W fun e w' => e = .returned (.int .i64 2) ∧ W = w') := hide (ioperand_any 7)
  have hx := b1_bd hb p
  have C1 : Hid (∀ W, Below w.heap.size w W → Calls Try.prog 34 #[.slice (some ⟨gs, os, none⟩) 2 C] W fun e w' => e = .returned (.int .i64 (b1 ys 0)) ∧ W = w') := hide fun W hW => iu1_any B _ 2 C ys W (hsub.below (hW.mono hB)) (by omega) hyb
  have C2 : Hid (∀ W, Below w.heap.size w W → Calls Try.prog 33 #[.slice (some ⟨gs, os + 1, none⟩) 1 (C - 1)] W fun e w' => e = .returned (.int .i64 (sg 8 (b1 ys 1))) ∧ W = w') := hide fun W hW => by
    have h2 := (hsub.below (hW.mono hB)).from (c := C) (i := 1) (by omega) hC
    have h3 := is1_any B _ (2 - 1) (C - 1) (ys.drop 1) W h2 (by omega) (hyb.drop 1)
    rw [b1_drop] at h3
    simpa [subA, show C ≠ 1 by omega, add_none] using h3
  generalize b1 xs p = x at *
  generalize b1 ys 0 = y0 at *
  generalize sg 8 (b1 ys 1) = y1 at *
  have hp2 : (p : Int) < n := by omega
  have hlt : ¬ ((n : Int) - (p : Int) < 3) := by omega
  have hC1 : C ≠ 1 := by omega
  clear h hb c0 hsA hsub hys hyb
  go_enter Try.func19, Try.ntmps19
  go_wp2_with fail
  refine (HS.out _).mono ?_
  rintro e w1 ⟨rfl, rfl⟩
  go_wp2_with fail
  refine (HO.out _).mono ?_
  rintro e w1 ⟨rfl, rfl⟩
  go_wp2_with fail
  go_region_with ((first
    | (go_at_call 34; refine (C1.out _ ?_).mono ?_; (repeat (first | with_reducible exact Below.refl _ _ | with_reducible refine Below.drew ?_ | with_reducible refine below_drewN ?_ _ | ((with_reducible refine Below.setCell ?_ ?hp _); case hp => simp) | ((with_reducible refine Below.alloc ?_ ?hp _); case hp => first | omega | (simp; done) | (simp; omega)))); rintro e w2 ⟨rfl, rfl⟩)
    | (go_at_call 33; refine (C2.out _ ?_).mono ?_; (repeat (first | with_reducible exact Below.refl _ _ | with_reducible refine Below.drew ?_ | with_reducible refine below_drewN ?_ _ | ((with_reducible refine Below.setCell ?_ ?hp _); case hp => simp) | ((with_reducible refine Below.alloc ?_ ?hp _); case hp => first | omega | (simp; done) | (simp; omega)))); rintro e w2 ⟨rfl, rfl⟩)))
  all_goals go_wp2_with fail
  all_goals
    refine bodyPost_ret (v := .tuple #[insV p 3 x false y0 y1, .bool true]) ?_ rfl ⟨rfl, ?_⟩
    · simp [results, Try.results19, go_sem]
      rfl
    · repeat (first | with_reducible exact Below.refl _ _ | with_reducible refine Below.drew ?_ | with_reducible refine below_drewN ?_ _ | ((with_reducible refine Below.setCell ?_ ?hp _); case hp => simp) | ((with_reducible refine Below.alloc ?_ ?hp _); case hp => first | omega | (simp; done) | (simp; omega)))

theorem plain_8 (B : Nat) (A : Option Addr) (n c p : Nat) (xs : List Int) (w : World) (h : Rd w B A n (bys xs)) (hB : B ≤ w.heap.size) (hb : IsBytes xs) (hp : p < n) (hc : n ≤ c) (hn : n ≤ 140737488355328) (hs : shapeT (b1 xs p) = 8) (hl : 1 + 2 ≤ n - p) :
    Calls Try.prog 19 #[.slice A n c, .int .i64 p] w fun e w' => e = .returned (plainR 8 xs p) ∧ Below w.heap.size w w' := by
  have hxl : xs.length = n := by have := h.1; rwa [bys_len] at this
  obtain ⟨ys, hys⟩ : ∃ ys, ys = (xs.drop (p + 1)).take 2 := ⟨_, rfl⟩
  have hR : plainR 8 xs p = .tuple #[insV p 3 (b1 xs p) false (p + sg 16 (b2 ys 0)) 0, .bool true] := by
    unfold plainR
    rw [if_neg (by rw [hxl]; exact Nat.not_lt.2 hl)]
    rw [show opB 8 = 2 from rfl, ← hys]
    rfl
  rw [hR]
  clear hR
  have hyb : IsBytes ys := by rw [hys]; exact (hb.drop _).take _
  obtain ⟨g, o, rfl, hg, _⟩ := h.2 (by omega)
  obtain ⟨_, _, he, c0⟩ := rd_b1 h hp
  cases he
  have ca := cell_alloc c0 (by omega)
  have hSl := slice_sub (some ⟨g, o, none⟩) n c (p + 1) (p + 3) (by omega) (by omega)
  rw [show p + 3 - (p + 1) = 2 by omega] at hSl
  have hsub := h.sub (c := c) (i := p + 1) (j := p + 3) (by omega) (by omega) hc
  rw [show p + 3 - (p + 1) = 2 by omega, ← hys] at hsub
  rw [show ((p + 1 : Nat) : Int) = (p : Int) + 1 by omega, show ((p + 3 : Nat) : Int) = (p : Int) + 3 by omega] at hSl
  obtain ⟨gs, os, hsA, hgs, _⟩ := hsub.2 (by omega)
  rw [hsA] at hSl hsub
  have hC : 2 ≤ c - (p + 1) := by omega
  generalize c - (p + 1) = C at *
  have HS : Hid (∀ W, Calls Try.prog 15 #[.int .i64 (b1 xs p)] W fun e w' => e = .returned (.int .i64 8) ∧ W = w') := hide fun W => by have := shape_any (b1 xs p) W; rwa [hs] at this
  have HO : Hid (∀ W, Calls Try.prog 26 #[.int .i64 8] W fun e w' => e = .returned (.int .i64 2) ∧ W = w') := hide (ioperand_any 8)
  have hx := b1_bd hb p
  have C1 : Hid (∀ W, Below w.heap.size w W → Calls Try.prog 29 #[.slice (some ⟨gs, os, none⟩) 2 C] W fun e w' => e = .returned (.int .i64 (sg 16 (b2 ys 0))) ∧ ∃ q, w' = W.drewN q) := hide fun W hW => is2_any B _ 2 C ys W (hsub.below (hW.mono hB)) (by omega) hyb
  have hbd := sg16_bd (b2_bd hyb 0)
  generalize b1 xs p = x at *
  generalize sg 16 (b2 ys 0) = y0 at *
  have hp2 : (p : Int) < n := by omega
  have hlt : ¬ ((n : Int) - (p : Int) < 3) := by omega
  clear h hb c0 hsA hsub hys hyb
  go_enter Try.func19, Try.ntmps19
  go_wp2_with fail
  refine (HS.out _).mono ?_
  rintro e w1 ⟨rfl, rfl⟩
  go_wp2_with fail
  refine (HO.out _).mono ?_
  rintro e w1 ⟨rfl, rfl⟩
  go_wp2_with fail
  refine (C1.out _ ?_).mono ?_
  · repeat (first | with_reducible exact Below.refl _ _ | with_reducible refine Below.drew ?_ | with_reducible refine below_drewN ?_ _ | ((with_reducible refine Below.setCell ?_ ?hp _); case hp => simp) | ((with_reducible refine Below.alloc ?_ ?hp _); case hp => first | omega | (simp; done) | (simp; omega)))
  rintro e w2 ⟨rfl, q, rfl⟩
  go_wp2_with fail
  all_goals
    refine bodyPost_ret (v := .tuple #[insV p 3 x false (p + y0) 0, .bool true]) ?_ rfl ⟨rfl, ?_⟩
    · simp [results, Try.results19, go_sem]
      rfl
    · repeat (first | with_reducible exact Below.refl _ _ | with_reducible refine Below.drew ?_ | with_reducible refine below_drewN ?_ _ | ((with_reducible refine Below.setCell ?_ ?hp _); case hp => simp) | ((with_reducible refine Below.alloc ?_ ?hp _); case hp => first | omega | (simp; done) | (simp; omega)))

theorem plain_9 (B : Nat) (A : Option Addr) (n c p : Nat) (xs : List Int) (w : World) (h : Rd w B A n (bys xs)) (hB : B ≤ w.heap.size) (hb : IsBytes xs) (hp : p < n) (hc : n ≤ c) (hn : n ≤ 140737488355328) (hs : shapeT (b1 xs p) = 9) (hl : 1 + 4 ≤ n - p) :
    Calls Try.prog 19 #[.slice A n c, .int .i64 p] w fun e w' => e = .returned (plainR 9 xs p) ∧ Below w.heap.size w w' := by
  have hxl : xs.length = n := by have := h.1; rwa [bys_len] at this
  obtain ⟨ys, hys⟩ : ∃ ys, ys = (xs.drop (p + 1)).take 4 := ⟨_, rfl⟩
  have hR : plainR 9 xs p = .tuple #[insV p 5 (b1 xs p) false (p + sg 32 (b4 ys 0)) 0, .bool true] := by
    unfold plainR
    rw [if_neg (by rw [hxl]; exact Nat.not_lt.2 hl)]
    rw [show opB 9 = 4 from rfl, ← hys]
    rfl
  rw [hR]
  clear hR
  have hyb : IsBytes ys := by rw [hys]; exact (hb.drop _).take _
  obtain ⟨g, o, rfl, hg, _⟩ := h.2 (by omega)
  obtain ⟨_, _, he, c0⟩ := rd_b1 h hp
  cases he
  have ca := cell_alloc c0 (by omega)
  have hSl := slice_sub (some ⟨g, o, none⟩) n c (p + 1) (p + 5) (by omega) (by omega)
  rw [show p + 5 - (p + 1) = 4 by omega] at hSl
  have hsub := h.sub (c := c) (i := p + 1) (j := p + 5) (by omega) (by omega) hc
  rw [show p + 5 - (p + 1) = 4 by omega, ← hys] at hsub
  rw [show ((p + 1 : Nat) : Int) = (p : Int) + 1 by omega, show ((p + 5 : Nat) : Int) = (p : Int) + 5 by omega] at hSl
  obtain ⟨gs, os, hsA, hgs, _⟩ := hsub.2 (by omega)
  rw [hsA] at hSl hsub
  have hC : 4 ≤ c - (p + 1) := by omega
  generalize c - (p + 1) = C at *
  have HS : Hid (∀ W, Calls Try.prog 15 #[.int .i64 (b1 xs p)] W fun e w' => e = .returned (.int .i64 9) ∧ W = w') := hide fun W => by have := shape_any (b1 xs p) W; rwa [hs] at this
  have HO : Hid (∀ W, Calls Try.prog 26 #[.int .i64 9] W fun e w' => e = .returned (.int .i64 4) ∧ W = w') := hide (ioperand_any 9)
  have hx := b1_bd hb p
  have C1 : Hid (∀ W, Below w.heap.size w W → Calls Try.prog 31 #[.slice (some ⟨gs, os, none⟩) 4 C] W fun e w' => e = .returned (.int .i64 (sg 32 (b4 ys 0))) ∧ ∃ q, w' = W.drewN q) := hide fun W hW => is4_any B _ 4 C ys W (hsub.below (hW.mono hB)) (by omega) hC hyb
  have hbd := sg32_bd (b4_bd hyb 0)
  generalize b1 xs p = x at *
  generalize sg 32 (b4 ys 0) = y0 at *
  have hp2 : (p : Int) < n := by omega
  have hlt : ¬ ((n : Int) - (p : Int) < 5) := by omega
  clear h hb c0 hsA hsub hys hyb
  go_enter Try.func19, Try.ntmps19
  go_wp2_with fail
  refine (HS.out _).mono ?_
  rintro e w1 ⟨rfl, rfl⟩
  go_wp2_with fail
  refine (HO.out _).mono ?_
  rintro e w1 ⟨rfl, rfl⟩
  go_wp2_with fail
  refine (C1.out _ ?_).mono ?_
  · repeat (first | with_reducible exact Below.refl _ _ | with_reducible refine Below.drew ?_ | with_reducible refine below_drewN ?_ _ | ((with_reducible refine Below.setCell ?_ ?hp _); case hp => simp) | ((with_reducible refine Below.alloc ?_ ?hp _); case hp => first | omega | (simp; done) | (simp; omega)))
  rintro e w2 ⟨rfl, q, rfl⟩
  go_wp2_with fail
  all_goals
    refine bodyPost_ret (v := .tuple #[insV p 5 x false (p + y0) 0, .bool true]) ?_ rfl ⟨rfl, ?_⟩
    · simp [results, Try.results19, go_sem]
      rfl
    · repeat (first | with_reducible exact Below.refl _ _ | with_reducible refine Below.drew ?_ | with_reducible refine below_drewN ?_ _ | ((with_reducible refine Below.setCell ?_ ?hp _); case hp => simp) | ((with_reducible refine Below.alloc ?_ ?hp _); case hp => first | omega | (simp; done) | (simp; omega)))

theorem plain_10 (B : Nat) (A : Option Addr) (n c p : Nat) (xs : List Int) (w : World) (h : Rd w B A n (bys xs)) (hB : B ≤ w.heap.size) (hb : IsBytes xs) (hp : p < n) (hc : n ≤ c) (hn : n ≤ 140737488355328) (hs : shapeT (b1 xs p) = 10) (hl : 1 + 3 ≤ n - p) :
    Calls Try.prog 19 #[.slice A n c, .int .i64 p] w fun e w' => e = .returned (plainR 10 xs p) ∧ Below w.heap.size w w' := by
  have hxl : xs.length = n := by have := h.1; rwa [bys_len] at this
  obtain ⟨ys, hys⟩ : ∃ ys, ys = (xs.drop (p + 1)).take 3 := ⟨_, rfl⟩
  have hR : plainR 10 xs p = .tuple #[insV p 4 (b1 xs p) false (b2 ys 0) (b1 ys 2), .bool true] := by
    unfold plainR
    rw [if_neg (by rw [hxl]; exact Nat.not_lt.2 hl)]
    rw [show opB 10 = 3 from rfl, ← hys]
    rfl
  rw [hR]
  clear hR
  have hyb : IsBytes ys := by rw [hys]; exact (hb.drop _).take _
  obtain ⟨g, o, rfl, hg, _⟩ := h.2 (by omega)
  obtain ⟨_, _, he, c0⟩ := rd_b1 h hp
  cases he
  have ca := cell_alloc c0 (by omega)
  have hSl := slice_sub (some ⟨g, o, none⟩) n c (p + 1) (p + 4) (by omega) (by omega)
  rw [show p + 4 - (p + 1) = 3 by omega] at hSl
  have hsub := h.sub (c := c) (i := p + 1) (j := p + 4) (by omega) (by omega) hc
  rw [show p + 4 - (p + 1) = 3 by omega, ← hys] at hsub
  rw [show ((p + 1 : Nat) : Int) = (p : Int) + 1 by omega, show ((p + 4 : Nat) : Int) = (p : Int) + 4 by omega] at hSl
  obtain ⟨gs, os, hsA, hgs, _⟩ := hsub.2 (by omega)
  rw [hsA] at hSl hsub
  have hC : 3 ≤ c - (p + 1) := by omega
  generalize c - (p + 1) = C at *
  have HS : Hid (∀ W, Calls Try.prog 15 #[.int .i64 (b1 xs p)] W fun e w' => e = .returned (.int .i64 10) ∧ W = w') := hide fun W => by have := shape_any (b1 xs p) W; rwa [hs] at this
  have HO : Hid (∀ W, Calls Try.prog 26 #[.int .i64 10] W fun e w' => e = .returned (.int .i64 3) ∧ W = w') := hide (ioperand_any 10)
  have hx := b1_bd hb p
  have C1 : Hid (∀ W, Below w.heap.size w W → Calls Try.prog 28 #[.slice (some ⟨gs, os, none⟩) 3 C] W fun e w' => e = .returned (.int .i64 (b2 ys 0)) ∧ ∃ q, w' = W.drewN q) := hide fun W hW => iu2_any B _ 3 C ys W (hsub.below (hW.mono hB)) (by omega) hyb
  have C2 : Hid (∀ W, Below w.heap.size w W → Calls Try.prog 34 #[.slice (some ⟨gs, os + 2, none⟩) 1 (C - 2)] W fun e w' => e = .returned (.int .i64 (b1 ys 2)) ∧ W = w') := hide fun W hW => by
    have h2 := (hsub.below (hW.mono hB)).from (c := C) (i := 2) (by omega) hC
    have h3 := iu1_any B _ (3 - 2) (C - 2) (ys.drop 2) W h2 (by omega) (hyb.drop 2)
    rw [b1_drop] at h3
    simpa [subA, show C ≠ 2 by omega, add_none] using h3
  generalize b1 xs p = x at *
  generalize b2 ys 0 = y0 at *
  generalize b1 ys 2 = y1 at *
  have hp2 : (p : Int) < n := by omega
  have hlt : ¬ ((n : Int) - (p : Int) < 4) := by omega
  have hC2 : C ≠ 2 := by omega
  clear h hb c0 hsA hsub hys hyb
  go_enter Try.func19, Try.ntmps19
  go_wp2_with fail
  refine (HS.out _).mono ?_
  rintro e w1 ⟨rfl, rfl⟩
  go_wp2_with fail
  refine (HO.out _).mono ?_
  rintro e w1 ⟨rfl, rfl⟩
  go_wp2_with fail
  go_region_with ((first
    | (go_at_call 28; refine (C1.out _ ?_).mono ?_; (repeat (first | with_reducible exact Below.refl _ _ | with_reducible refine Below.drew ?_ | with_reducible refine below_drewN ?_ _ | ((with_reducible refine Below.setCell ?_ ?hp _); case hp => simp) | ((with_reducible refine Below.alloc ?_ ?hp _); case hp => first | omega | (simp; done) | (simp; omega)))); rintro e w2 ⟨rfl, q, rfl⟩)
    | (go_at_call 34; refine (C2.out _ ?_).mono ?_; (repeat (first | with_reducible exact Below.refl _ _ | with_reducible refine Below.drew ?_ | with_reducible refine below_drewN ?_ _ | ((with_reducible refine Below.setCell ?_ ?hp _); case hp => simp) | ((with_reducible refine Below.alloc ?_ ?hp _); case hp => first | omega | (simp; done) | (simp; omega)))); rintro e w2 ⟨rfl, rfl⟩)))
  all_goals go_wp2_with fail
  all_goals
    refine bodyPost_ret (v := .tuple #[insV p 4 x false y0 y1, .bool true]) ?_ rfl ⟨rfl, ?_⟩
    · simp [results, Try.results19, go_sem]
      rfl
    · repeat (first | with_reducible exact Below.refl _ _ | with_reducible refine Below.drew ?_ | with_reducible refine below_drewN ?_ _ | ((with_reducible refine Below.setCell ?_ ?hp _); case hp => simp) | ((with_reducible refine Below.alloc ?_ ?hp _); case hp => first | omega | (simp; done) | (simp; omega)))

theorem plain_11 (B : Nat) (A : Option Addr) (n c p : Nat) (xs : List Int) (w : World) (h : Rd w B A n (bys xs)) (hB : B ≤ w.heap.size) (hb : IsBytes xs) (hp : p < n) (hc : n ≤ c) (hn : n ≤ 140737488355328) (hs : shapeT (b1 xs p) = 11) (hl : 1 + 4 ≤ n - p) :
    Calls Try.prog 19 #[.slice A n c, .int .i64 p] w fun e w' => e = .returned (plainR 11 xs p) ∧ Below w.heap.size w w' := by
  have hxl : xs.length = n := by have := h.1; rwa [bys_len] at this
  obtain ⟨ys, hys⟩ : ∃ ys, ys = (xs.drop (p + 1)).take 4 := ⟨_, rfl⟩
  have hR : plainR 11 xs p = if b1 ys 3 == 0 then .tuple #[insV p 5 (b1 xs p) false (b2 ys 0) (b1 ys 2), .bool true] else noV := by
    unfold plainR
    rw [if_neg (by rw [hxl]; exact Nat.not_lt.2 hl)]
    rw [show opB 11 = 4 from rfl, ← hys]
    rw [show operands 11 (b1 xs p) p ys = if b1 ys 3 == 0 then some (b2 ys 0, b1 ys 2) else none from rfl]
    generalize (b1 ys 3 == 0) = t
    cases t <;> rfl
  rw [hR]
  clear hR
  have hyb : IsBytes ys := by rw [hys]; exact (hb.drop _).take _
  obtain ⟨g, o, rfl, hg, _⟩ := h.2 (by omega)
  obtain ⟨_, _, he, c0⟩ := rd_b1 h hp
  cases he
  have ca := cell_alloc c0 (by omega)
  have hSl := slice_sub (some ⟨g, o, none⟩) n c (p + 1) (p + 5) (by omega) (by omega)
  rw [show p + 5 - (p + 1) = 4 by omega] at hSl
  have hsub := h.sub (c := c) (i := p + 1) (j := p + 5) (by omega) (by omega) hc
  rw [show p + 5 - (p + 1) = 4 by omega, ← hys] at hsub
  rw [show ((p + 1 : Nat) : Int) = (p : Int) + 1 by omega, show ((p + 5 : Nat) : Int) = (p : Int) + 5 by omega] at hSl
  obtain ⟨gs, os, hsA, hgs, _⟩ := hsub.2 (by omega)
  rw [hsA] at hSl hsub
  have hC : 4 ≤ c - (p + 1) := by omega
  generalize c - (p + 1) = C at *
  have HS : Hid (∀ W, Calls Try.prog 15 #[.int .i64 (b1 xs p)] W fun e w' => e = .returned (.int .i64 11) ∧ W = w') := hide fun W => by have := shape_any (b1 xs p) W; rwa [hs] at this
  have HO : Hid (∀ W, Calls Try.prog 26 #[.int .i64 11] W fun e w' => e = .returned (.int .i64 4) ∧ W = w') := hide (ioperand_any 11)
  have hx := b1_bd hb p
  have hz := b1_bd hyb 3
  obtain ⟨_, _, he, c3⟩ := rd_b1 hsub (show 3 < 4 by omega)
  cases he
  have ca3 : ∀ ob ob2, ((w.alloc ob).alloc ob2).cell? ⟨gs, os + 3, none⟩ = some (.int .u8 (b1 ys 3)) := fun ob ob2 => cell_alloc (cell_alloc c3 (by omega) ob) (by simp; omega) ob2
  clear c3
  have C1 : Hid (∀ W, Below w.heap.size w W → Calls Try.prog 28 #[.slice (some ⟨gs, os, none⟩) 4 C] W fun e w' => e = .returned (.int .i64 (b2 ys 0)) ∧ ∃ q, w' = W.drewN q) := hide fun W hW => iu2_any B _ 4 C ys W (hsub.below (hW.mono hB)) (by omega) hyb
  have C2 : Hid (∀ W, Below w.heap.size w W → Calls Try.prog 34 #[.slice (some ⟨gs, os + 2, none⟩) 2 (C - 2)] W fun e w' => e = .returned (.int .i64 (b1 ys 2)) ∧ W = w') := hide fun W hW => by
    have h2 := (hsub.below (hW.mono hB)).from (c := C) (i := 2) (by omega) hC
    have h3 := iu1_any B _ (4 - 2) (C - 2) (ys.drop 2) W h2 (by omega) (hyb.drop 2)
    rw [b1_drop] at h3
    simpa [subA, show C ≠ 2 by omega, add_none] using h3
  generalize b1 xs p = x at *
  generalize b2 ys 0 = y0 at *
  generalize b1 ys 2 = y1 at *
  generalize b1 ys 3 = z at *
  have hp2 : (p : Int) < n := by omega
  have hlt : ¬ ((n : Int) - (p : Int) < 5) := by omega
  have hC2 : C ≠ 2 := by omega
  clear h hb c0 hsA hsub hys hyb
  by_cases h0 : z = 0
  · subst h0
    rw [if_pos (show ((0 : Int) == 0) = true from rfl)]
    go_enter Try.func19, Try.ntmps19
    go_wp2_with fail
    refine (HS.out _).mono ?_
    rintro e w1 ⟨rfl, rfl⟩
    go_wp2_with fail
    refine (HO.out _).mono ?_
    rintro e w1 ⟨rfl, rfl⟩
    go_wp2_with fail
    go_region_with ((first
      | (go_at_call 28; refine (C1.out _ ?_).mono ?_; (repeat (first | with_reducible exact Below.refl _ _ | with_reducible refine Below.drew ?_ | with_reducible refine below_drewN ?_ _ | ((with_reducible refine Below.setCell ?_ ?hp _); case hp => simp) | ((with_reducible refine Below.alloc ?_ ?hp _); case hp => first | omega | (simp; done) | (simp; omega)))); rintro e w2 ⟨rfl, q, rfl⟩)
      | (go_at_call 34; refine (C2.out _ ?_).mono ?_; (repeat (first | with_reducible exact Below.refl _ _ | with_reducible refine Below.drew ?_ | with_reducible refine below_drewN ?_ _ | ((with_reducible refine Below.setCell ?_ ?hp _); case hp => simp) | ((with_reducible refine Below.alloc ?_ ?hp _); case hp => first | omega | (simp; done) | (simp; omega)))); rintro e w2 ⟨rfl, rfl⟩)))
    all_goals go_wp2_with fail
    all_goals
      refine bodyPost_ret (v := .tuple #[insV p 5 x false y0 y1, .bool true]) ?_ rfl ⟨rfl, ?_⟩
      · simp [results, Try.results19, go_sem]
        rfl
      · repeat (first | with_reducible exact Below.refl _ _ | with_reducible refine Below.drew ?_ | with_reducible refine below_drewN ?_ _ | ((with_reducible refine Below.setCell ?_ ?hp _); case hp => simp) | ((with_reducible refine Below.alloc ?_ ?hp _); case hp => first | omega | (simp; done) | (simp; omega)))
  · rw [if_neg (by simpa using h0)]
    clear C1 C2
    go_enter Try.func19, Try.ntmps19
    go_wp2_with fail
    refine (HS.out _).mono ?_
    rintro e w1 ⟨rfl, rfl⟩
    go_wp2_with fail
    refine (HO.out _).mono ?_
    rintro e w1 ⟨rfl, rfl⟩
    go_wp2_with fail
    all_goals
      refine bodyPost_ret (v := noV) ?_ rfl ⟨rfl, ?_⟩
      · simp [results, Try.results19, go_sem]
        rfl
      · repeat (first | with_reducible exact Below.refl _ _ | with_reducible refine Below.drew ?_ | with_reducible refine below_drewN ?_ _ | ((with_reducible refine Below.setCell ?_ ?hp _); case hp => simp) | ((with_reducible refine Below.alloc ?_ ?hp _); case hp => first | omega | (simp; done) | (simp; omega)))

end Go.Proofs.Ytllbbmofinminaa
