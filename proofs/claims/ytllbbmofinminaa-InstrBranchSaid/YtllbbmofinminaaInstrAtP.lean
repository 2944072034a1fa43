/- What package instr reads at a place. Nothing is claimed here. -/
import Derived.Test.YtllbbmofinminaaInstrLook2
namespace Go.Proofs.Ytllbbmofinminaa
open Go.RowKit

def plainI (s : Int) (xs : List Int) (p : Nat) : Option Ins :=
  if xs.length - p < 1 + opB s then none
  else (operands s (b1 xs p) p ((xs.drop (p + 1)).take (opB s))).map fun x => ⟨p, 1 + opB s, b1 xs p, false, x.1, x.2, [], []⟩
def wideI (xs : List Int) (p : Nat) : Option Ins :=
  let op := b1 xs (p + 1)
  let n := if op == 132 then 4 else 2
  if xs.length - (p + 1) < 1 + n || !wideT op then none
  else some ⟨p, 2 + n, op, true, b2 xs (p + 2), (if op == 132 then sg 16 (b2 xs (p + 4)) else 0), [], []⟩
/-- The instruction at a place. -/
def insI (xs : List Int) (a : Int) : Option Ins :=
  if a < 0 || (xs.length : Int) ≤ a then none
  else
    let p := a.toNat
    let s := shapeT (b1 xs p)
    if s == 0 then none else if s == 14 then wideI xs p else if s == 12 then tabI xs p else if s == 13 then lookI xs p else plainI s xs p

theorem Nums.nil (w : World) (base : Nat) (k : IntKind) (t : TypeId) : Nums w base k t (.slice none 0 0) [] := .inl ⟨rfl, rfl⟩
theorem plain_ins {s : Int} {xs : List Int} {p : Nat} {w w' : World} {e : Ending} (h : e = .returned (plainR s xs p) ∧ Below w.heap.size w w') : InsR w w' e (plainI s xs p) := by
  obtain ⟨rfl, hb⟩ := h
  refine ⟨?_, hb⟩
  unfold plainR plainI
  by_cases hl : xs.length - p < 1 + opB s
  · rw [if_pos hl, if_pos hl]
  · rw [if_neg hl, if_neg hl]
    generalize operands s (b1 xs p) p ((xs.drop (p + 1)).take (opB s)) = r
    cases r with
    | none => rfl
    | some x => exact ⟨_, rfl, _, _, rfl, Nums.nil _ _ _ _, Nums.nil _ _ _ _⟩
theorem wide_ins {xs : List Int} {p : Nat} {w w' : World} {e : Ending} (h : e = .returned (wideR xs p) ∧ Below w.heap.size w w') : InsR w w' e (wideI xs p) := by
  obtain ⟨rfl, hb⟩ := h
  refine ⟨?_, hb⟩
  unfold wideR wideI
  dsimp only
  by_cases hc : (decide (xs.length - (p + 1) < 1 + if (b1 xs (p + 1) == 132) = true then 4 else 2) || !wideT (b1 xs (p + 1))) = true
  · rw [if_pos hc, if_pos hc]
  · rw [if_neg hc, if_neg hc]
    refine ⟨_, rfl, _, _, ?_, Nums.nil _ _ _ _, Nums.nil _ _ _ _⟩
    unfold insV
    split <;> rfl

theorem ite_mem {α : Type} {c : Prop} [Decidable c] {a b : α} {l : List α} (ha : a ∈ l) (hb : b ∈ l) : (if c then a else b) ∈ l := by split <;> assumption
theorem shape_some (op : Int) : shapeT op = 0 ∨ shapeT op = 14 ∨ shapeT op = 12 ∨ shapeT op = 13 ∨ shapeT op = 1 ∨ shapeT op = 2 ∨ shapeT op = 3 ∨ shapeT op = 4 ∨ shapeT op = 5 ∨ shapeT op = 6 ∨ shapeT op = 7 ∨ shapeT op = 8 ∨ shapeT op = 9 ∨ shapeT op = 10 ∨ shapeT op = 11 := by
  have h : shapeT op ∈ ([0, 14, 12, 13, 1, 2, 3, 4, 5, 6, 7, 8, 9, 10, 11] : List Int) := by
    unfold shapeT
    repeat' (apply ite_mem)
    all_goals simp
  simpa using h

theorem plain_any (B : Nat) (A : Option Addr) (n c p : Nat) (xs : List Int) (w : World) (h : Rd w B A n (bys xs)) (hB : B ≤ w.heap.size) (hb : IsBytes xs) (hp : p < n) (hc : n ≤ c) (hn : n ≤ 140737488355328) (hs : shapeT (b1 xs p) ≠ 0 ∧ shapeT (b1 xs p) ≠ 14 ∧ shapeT (b1 xs p) ≠ 12 ∧ shapeT (b1 xs p) ≠ 13) :
    Calls Try.prog 19 #[.slice A n c, .int .i64 p] w fun e w' => InsR w w' e (plainI (shapeT (b1 xs p)) xs p) := by
  have hxl : xs.length = n := by have := h.1; rwa [bys_len] at this
  by_cases hl : n - p < 1 + opB (shapeT (b1 xs p))
  · refine (plain_short _ B A n c p xs w h hB hb hp hn rfl hl).mono fun e w' hh => plain_ins ?_
    rw [show plainR (shapeT (b1 xs p)) xs p = noV by unfold plainR; rw [if_pos (by rw [hxl]; exact hl)]]
    exact hh
  · rcases shape_some (b1 xs p) with e | e | e | e | e | e | e | e | e | e | e | e | e | e | e
    · exact absurd e hs.1
    · exact absurd e hs.2.1
    · exact absurd e hs.2.2.1
    · exact absurd e hs.2.2.2
    · have hq : opB (shapeT (b1 xs p)) = 0 := by rw [e]; rfl
      rw [hq] at hl
      rw [e]
      exact (plain_1 B A n c p xs w h hB hb hp hc hn e (by omega)).mono fun _ _ hh => plain_ins hh
    · have hq : opB (shapeT (b1 xs p)) = 0 := by rw [e]; rfl
      rw [hq] at hl
      rw [e]
      exact (plain_2 B A n c p xs w h hB hb hp hc hn e (by omega)).mono fun _ _ hh => plain_ins hh
    · have hq : opB (shapeT (b1 xs p)) = 1 := by rw [e]; rfl
      rw [hq] at hl
      rw [e]
      exact (plain_3 B A n c p xs w h hB hb hp hc hn e (by omega)).mono fun _ _ hh => plain_ins hh
    · have hq : opB (shapeT (b1 xs p)) = 2 := by rw [e]; rfl
      rw [hq] at hl
      rw [e]
      exact (plain_4 B A n c p xs w h hB hb hp hc hn e (by omega)).mono fun _ _ hh => plain_ins hh
    · have hq : opB (shapeT (b1 xs p)) = 1 := by rw [e]; rfl
      rw [hq] at hl
      rw [e]
      exact (plain_5 B A n c p xs w h hB hb hp hc hn e (by omega)).mono fun _ _ hh => plain_ins hh
    · have hq : opB (shapeT (b1 xs p)) = 2 := by rw [e]; rfl
      rw [hq] at hl
      rw [e]
      exact (plain_6 B A n c p xs w h hB hb hp hc hn e (by omega)).mono fun _ _ hh => plain_ins hh
    · have hq : opB (shapeT (b1 xs p)) = 2 := by rw [e]; rfl
      rw [hq] at hl
      rw [e]
      exact (plain_7 B A n c p xs w h hB hb hp hc hn e (by omega)).mono fun _ _ hh => plain_ins hh
    · have hq : opB (shapeT (b1 xs p)) = 2 := by rw [e]; rfl
      rw [hq] at hl
      rw [e]
      exact (plain_8 B A n c p xs w h hB hb hp hc hn e (by omega)).mono fun _ _ hh => plain_ins hh
    · have hq : opB (shapeT (b1 xs p)) = 4 := by rw [e]; rfl
      rw [hq] at hl
      rw [e]
      exact (plain_9 B A n c p xs w h hB hb hp hc hn e (by omega)).mono fun _ _ hh => plain_ins hh
    · have hq : opB (shapeT (b1 xs p)) = 3 := by rw [e]; rfl
      rw [hq] at hl
      rw [e]
      exact (plain_10 B A n c p xs w h hB hb hp hc hn e (by omega)).mono fun _ _ hh => plain_ins hh
    · have hq : opB (shapeT (b1 xs p)) = 4 := by rw [e]; rfl
      rw [hq] at hl
      rw [e]
      exact (plain_11 B A n c p xs w h hB hb hp hc hn e (by omega)).mono fun _ _ hh => plain_ins hh

theorem Nums.shape {w : World} {base : Nat} {k : IntKind} {t : TypeId} {V : Value} {xs : List Int} (h : Nums w base k t V xs) : ∃ a l c, V = .slice a l c := by
  rcases h with ⟨_, rfl⟩ | ⟨g, _, rfl, _⟩
  · exact ⟨_, _, _, rfl⟩
  · exact ⟨_, _, _, rfl⟩
/-- A result that lies in the caller's block: what was told is told on. -/
theorem Nums.keep {w w' : World} {base base' : Nat} {k : IntKind} {t : TypeId} {V : Value} {xs : List Int} (h : Nums w base k t V xs) (hb : base' ≤ base) (hk : ∀ g cs, base ≤ g → At w g t cs → At w' g t cs) : Nums w' base' k t V xs := by
  rcases h with h | ⟨g, h1, h2, h3⟩
  · exact .inl h
  · exact .inr ⟨g, by omega, h2, hk g _ h1 h3⟩
set_option maxRecDepth 100000 in
theorem at_out (A : Option Addr) (n c : Nat) (a : Int) (w : World) (h : a < 0 ∨ (n : Int) ≤ a) :
    Calls Try.prog 8 #[.slice A n c, .int .i64 a] w fun e w' => InsR w w' e none := by
  by_cases h0 : a < 0
  · clear h
    go_enter Try.func8, Try.ntmps8
    go_wp2_with fail
    refine bodyPost_ret (v := noV) ?_ rfl ⟨rfl, ?_⟩
    · simp [results, Try.results8, go_sem]
      rfl
    · repeat (first | with_reducible exact Below.refl _ _ | with_reducible refine Below.drew ?_ | with_reducible refine below_drewN ?_ _ | ((with_reducible refine Below.setCell ?_ ?hp _); case hp => simp) | ((with_reducible refine Below.alloc ?_ ?hp _); case hp => first | omega | (simp; done) | (simp; omega)))
  · have h1 : (n : Int) ≤ a := by omega
    clear h
    go_enter Try.func8, Try.ntmps8
    go_wp2_with fail
    refine bodyPost_ret (v := noV) ?_ rfl ⟨rfl, ?_⟩
    · simp [results, Try.results8, go_sem]
      rfl
    · repeat (first | with_reducible exact Below.refl _ _ | with_reducible refine Below.drew ?_ | with_reducible refine below_drewN ?_ _ | ((with_reducible refine Below.setCell ?_ ?hp _); case hp => simp) | ((with_reducible refine Below.alloc ?_ ?hp _); case hp => first | omega | (simp; done) | (simp; omega)))
set_option maxRecDepth 100000 in
theorem at_unkept (A : Option Addr) (n c p : Nat) (xs : List Int) (w : World) (B : Nat) (h : Rd w B A n (bys xs)) (hB : B ≤ w.heap.size) (hb : IsBytes xs) (hp : p < n) (hs : shapeT (b1 xs p) = 0) :
    Calls Try.prog 8 #[.slice A n c, .int .i64 p] w fun e w' => InsR w w' e none := by
  have hbx := b1_bd hb p
  clear hb
  obtain ⟨g, o, rfl, hg, _⟩ := h.2 (by omega)
  obtain ⟨_, _, he, c0⟩ := rd_b1 h hp
  cases he
  have ca := cell_alloc c0 (by omega)
  have HS : Hid (∀ W, Calls Try.prog 15 #[.int .i64 (b1 xs p)] W fun e w' => e = .returned (.int .i64 0) ∧ W = w') := hide fun W => by have := shape_any (b1 xs p) W; rwa [hs] at this
  have hx : ¬ ((p : Int) < 0) := by omega
  have hp2 : (p : Int) < n := by omega
  have hp3 : ¬ ((n : Int) ≤ (p : Int)) := by omega
  generalize b1 xs p = x at *
  clear h c0
  go_enter Try.func8, Try.ntmps8
  go_wp2_with fail
  refine (HS.out _).mono ?_
  rintro e w1 ⟨rfl, rfl⟩
  go_wp2_with fail
  refine bodyPost_ret (v := noV) ?_ rfl ⟨rfl, ?_⟩
  · simp [results, Try.results8, go_sem]
    rfl
  · repeat (first | with_reducible exact Below.refl _ _ | with_reducible refine Below.drew ?_ | with_reducible refine below_drewN ?_ _ | ((with_reducible refine Below.setCell ?_ ?hp _); case hp => simp) | ((with_reducible refine Below.alloc ?_ ?hp _); case hp => first | omega | (simp; done) | (simp; omega)))
set_option maxRecDepth 100000 in
theorem at_wide (A : Option Addr) (n c p : Nat) (xs : List Int) (w : World) (B : Nat) (h : Rd w B A n (bys xs)) (hB : B ≤ w.heap.size) (hb : IsBytes xs) (hp : p < n) (hs : shapeT (b1 xs p) = 14) (r : Option Ins) (HC : ∀ W, Below w.heap.size w W → Calls Try.prog 16 #[.slice A n c, .int .i64 p] W fun e w' => InsR W w' e r) :
    Calls Try.prog 8 #[.slice A n c, .int .i64 p] w fun e w' => InsR w w' e r := by
  have hbx := b1_bd hb p
  clear hb
  obtain ⟨g, o, rfl, hg, _⟩ := h.2 (by omega)
  obtain ⟨_, _, he, c0⟩ := rd_b1 h hp
  cases he
  have ca := cell_alloc c0 (by omega)
  have HS : Hid (∀ W, Calls Try.prog 15 #[.int .i64 (b1 xs p)] W fun e w' => e = .returned (.int .i64 14) ∧ W = w') := hide fun W => by have := shape_any (b1 xs p) W; rwa [hs] at this
  have hx : ¬ ((p : Int) < 0) := by omega
  have hp2 : (p : Int) < n := by omega
  have hp3 : ¬ ((n : Int) ≤ (p : Int)) := by omega
  generalize b1 xs p = x at *
  have HCC := hide HC
  clear h c0 HC hs
  go_enter Try.func8, Try.ntmps8
  go_wp2_with fail
  refine (HS.out _).mono ?_
  rintro e w1 ⟨rfl, rfl⟩
  go_wp2_with fail
  refine (HCC.out _ ?_).mono ?_
  · repeat (first | with_reducible exact Below.refl _ _ | with_reducible refine Below.drew ?_ | with_reducible refine below_drewN ?_ _ | ((with_reducible refine Below.setCell ?_ ?hp _); case hp => simp) | ((with_reducible refine Below.alloc ?_ ?hp _); case hp => first | omega | (simp; done) | (simp; omega)))
  rintro e w2 ⟨hr, hb2⟩
  have ha := (At.new w 28 [.int .i64 0, .int .i64 0, .int .i64 0, .bool false, .int .i64 0, .int .i64 0, .slice none 0 0, .slice none 0 0]).below hb2 (by simp)
  have hbel : Below w.heap.size w w2 := ((Below.refl _ w).alloc (Nat.le_refl _) _).trans (hb2.mono (by simp))
  have hsz := ha.lt
  obtain ⟨⟨b0, b1, b2, b3, b4, b5, b6, b7⟩, e0, e1, e2, e3, e4, e5, e6, e7⟩ := ha.c8
  have HB2 := hide hbel
  clear hb2 ha hbel
  cases r with
  | none =>
    subst hr
    unfold noV insV
    go_wp2_with fail
    refine bodyPost_ret (v := noV) ?_ rfl ⟨rfl, ?_⟩
    · simp [results, Try.results8, go_sem, b0, b1, b2, b3, b4, b5, b6, b7]
      rfl
    · repeat (first | with_reducible exact HB2.out | with_reducible refine Below.drew ?_ | with_reducible refine below_drewN ?_ _ | ((with_reducible refine Below.setCell ?_ ?hp _); case hp => simp) | ((with_reducible refine Below.alloc ?_ ?hp _); case hp => first | omega | (simp; done) | (simp; omega)))
  | some I =>
    obtain ⟨v, rfl, T, K, rfl, hT, hK⟩ := hr
    have HT : Hid (Nums w2 (w.heap.size + 1) .i64 3 T I.to) := hide (by simpa using hT)
    have HK : Hid (Nums w2 (w.heap.size + 1) .i64 2 K I.keys) := hide (by simpa using hK)
    obtain ⟨ta, tl, tc, rfl⟩ := hT.shape
    obtain ⟨ka, kl, kc, rfl⟩ := hK.shape
    clear hT hK
    go_wp2_with fail
    refine bodyPost_ret (v := .tuple #[.agg #[.int .i64 I.place, .int .i64 I.len, .int .i64 I.op, .bool I.wide, .int .i64 I.a, .int .i64 I.b, .slice ta tl tc, .slice ka kl kc], .bool true]) ?_ rfl ⟨⟨_, rfl, _, _, rfl, ?_, ?_⟩, ?_⟩
    · simp [results, Try.results8, go_sem, b0, b1, b2, b3, b4, b5, b6, b7]
    · refine HT.out.keep (by omega) fun g cs hg hA => ?_
      repeat (first | with_reducible exact hA | (with_reducible refine At.far ?_ ?hp _; case hp => simp; omega))
    · refine HK.out.keep (by omega) fun g cs hg hA => ?_
      repeat (first | with_reducible exact hA | (with_reducible refine At.far ?_ ?hp _; case hp => simp; omega))
    · repeat (first | with_reducible exact HB2.out | with_reducible refine Below.drew ?_ | with_reducible refine below_drewN ?_ _ | ((with_reducible refine Below.setCell ?_ ?hp _); case hp => simp) | ((with_reducible refine Below.alloc ?_ ?hp _); case hp => first | omega | (simp; done) | (simp; omega)))
set_option maxRecDepth 100000 in
theorem at_table (A : Option Addr) (n c p : Nat) (xs : List Int) (w : World) (B : Nat) (h : Rd w B A n (bys xs)) (hB : B ≤ w.heap.size) (hb : IsBytes xs) (hp : p < n) (hs : shapeT (b1 xs p) = 12) (r : Option Ins) (HC : ∀ W, Below w.heap.size w W → Calls Try.prog 17 #[.slice A n c, .int .i64 p] W fun e w' => InsR W w' e r) :
    Calls Try.prog 8 #[.slice A n c, .int .i64 p] w fun e w' => InsR w w' e r := by
  have hbx := b1_bd hb p
  clear hb
  obtain ⟨g, o, rfl, hg, _⟩ := h.2 (by omega)
  obtain ⟨_, _, he, c0⟩ := rd_b1 h hp
  cases he
  have ca := cell_alloc c0 (by omega)
  have HS : Hid (∀ W, Calls Try.prog 15 #[.int .i64 (b1 xs p)] W fun e w' => e = .returned (.int .i64 12) ∧ W = w') := hide fun W => by have := shape_any (b1 xs p) W; rwa [hs] at this
  have hx : ¬ ((p : Int) < 0) := by omega
  have hp2 : (p : Int) < n := by omega
  have hp3 : ¬ ((n : Int) ≤ (p : Int)) := by omega
  generalize b1 xs p = x at *
  have HCC := hide HC
  clear h c0 HC hs
  go_enter Try.func8, Try.ntmps8
  go_wp2_with fail
  refine (HS.out _).mono ?_
  rintro e w1 ⟨rfl, rfl⟩
  go_wp2_with fail
  refine (HCC.out _ ?_).mono ?_
  · repeat (first | with_reducible exact Below.refl _ _ | with_reducible refine Below.drew ?_ | with_reducible refine below_drewN ?_ _ | ((with_reducible refine Below.setCell ?_ ?hp _); case hp => simp) | ((with_reducible refine Below.alloc ?_ ?hp _); case hp => first | omega | (simp; done) | (simp; omega)))
  rintro e w2 ⟨hr, hb2⟩
  have ha := (At.new w 28 [.int .i64 0, .int .i64 0, .int .i64 0, .bool false, .int .i64 0, .int .i64 0, .slice none 0 0, .slice none 0 0]).below hb2 (by simp)
  have hbel : Below w.heap.size w w2 := ((Below.refl _ w).alloc (Nat.le_refl _) _).trans (hb2.mono (by simp))
  have hsz := ha.lt
  obtain ⟨⟨b0, b1, b2, b3, b4, b5, b6, b7⟩, e0, e1, e2, e3, e4, e5, e6, e7⟩ := ha.c8
  have HB2 := hide hbel
  clear hb2 ha hbel
  cases r with
  | none =>
    subst hr
    unfold noV insV
    go_wp2_with fail
    refine bodyPost_ret (v := noV) ?_ rfl ⟨rfl, ?_⟩
    · simp [results, Try.results8, go_sem, b0, b1, b2, b3, b4, b5, b6, b7]
      rfl
    · repeat (first | with_reducible exact HB2.out | with_reducible refine Below.drew ?_ | with_reducible refine below_drewN ?_ _ | ((with_reducible refine Below.setCell ?_ ?hp _); case hp => simp) | ((with_reducible refine Below.alloc ?_ ?hp _); case hp => first | omega | (simp; done) | (simp; omega)))
  | some I =>
    obtain ⟨v, rfl, T, K, rfl, hT, hK⟩ := hr
    have HT : Hid (Nums w2 (w.heap.size + 1) .i64 3 T I.to) := hide (by simpa using hT)
    have HK : Hid (Nums w2 (w.heap.size + 1) .i64 2 K I.keys) := hide (by simpa using hK)
    obtain ⟨ta, tl, tc, rfl⟩ := hT.shape
    obtain ⟨ka, kl, kc, rfl⟩ := hK.shape
    clear hT hK
    go_wp2_with fail
    refine bodyPost_ret (v := .tuple #[.agg #[.int .i64 I.place, .int .i64 I.len, .int .i64 I.op, .bool I.wide, .int .i64 I.a, .int .i64 I.b, .slice ta tl tc, .slice ka kl kc], .bool true]) ?_ rfl ⟨⟨_, rfl, _, _, rfl, ?_, ?_⟩, ?_⟩
    · simp [results, Try.results8, go_sem, b0, b1, b2, b3, b4, b5, b6, b7]
    · refine HT.out.keep (by omega) fun g cs hg hA => ?_
      repeat (first | with_reducible exact hA | (with_reducible refine At.far ?_ ?hp _; case hp => simp; omega))
    · refine HK.out.keep (by omega) fun g cs hg hA => ?_
      repeat (first | with_reducible exact hA | (with_reducible refine At.far ?_ ?hp _; case hp => simp; omega))
    · repeat (first | with_reducible exact HB2.out | with_reducible refine Below.drew ?_ | with_reducible refine below_drewN ?_ _ | ((with_reducible refine Below.setCell ?_ ?hp _); case hp => simp) | ((with_reducible refine Below.alloc ?_ ?hp _); case hp => first | omega | (simp; done) | (simp; omega)))
set_option maxRecDepth 100000 in
theorem at_lookup (A : Option Addr) (n c p : Nat) (xs : List Int) (w : World) (B : Nat) (h : Rd w B A n (bys xs)) (hB : B ≤ w.heap.size) (hb : IsBytes xs) (hp : p < n) (hs : shapeT (b1 xs p) = 13) (r : Option Ins) (HC : ∀ W, Below w.heap.size w W → Calls Try.prog 18 #[.slice A n c, .int .i64 p] W fun e w' => InsR W w' e r) :
    Calls Try.prog 8 #[.slice A n c, .int .i64 p] w fun e w' => InsR w w' e r := by
  have hbx := b1_bd hb p
  clear hb
  obtain ⟨g, o, rfl, hg, _⟩ := h.2 (by omega)
  obtain ⟨_, _, he, c0⟩ := rd_b1 h hp
  cases he
  have ca := cell_alloc c0 (by omega)
  have HS : Hid (∀ W, Calls Try.prog 15 #[.int .i64 (b1 xs p)] W fun e w' => e = .returned (.int .i64 13) ∧ W = w') := hide fun W => by have := shape_any (b1 xs p) W; rwa [hs] at this
  have hx : ¬ ((p : Int) < 0) := by omega
  have hp2 : (p : Int) < n := by omega
  have hp3 : ¬ ((n : Int) ≤ (p : Int)) := by omega
  generalize b1 xs p = x at *
  have HCC := hide HC
  clear h c0 HC hs
  go_enter Try.func8, Try.ntmps8
  go_wp2_with fail
  refine (HS.out _).mono ?_
  rintro e w1 ⟨rfl, rfl⟩
  go_wp2_with fail
  refine (HCC.out _ ?_).mono ?_
  · repeat (first | with_reducible exact Below.refl _ _ | with_reducible refine Below.drew ?_ | with_reducible refine below_drewN ?_ _ | ((with_reducible refine Below.setCell ?_ ?hp _); case hp => simp) | ((with_reducible refine Below.alloc ?_ ?hp _); case hp => first | omega | (simp; done) | (simp; omega)))
  rintro e w2 ⟨hr, hb2⟩
  have ha := (At.new w 28 [.int .i64 0, .int .i64 0, .int .i64 0, .bool false, .int .i64 0, .int .i64 0, .slice none 0 0, .slice none 0 0]).below hb2 (by simp)
  have hbel : Below w.heap.size w w2 := ((Below.refl _ w).alloc (Nat.le_refl _) _).trans (hb2.mono (by simp))
  have hsz := ha.lt
  obtain ⟨⟨b0, b1, b2, b3, b4, b5, b6, b7⟩, e0, e1, e2, e3, e4, e5, e6, e7⟩ := ha.c8
  have HB2 := hide hbel
  clear hb2 ha hbel
  cases r with
  | none =>
    subst hr
    unfold noV insV
    go_wp2_with fail
    refine bodyPost_ret (v := noV) ?_ rfl ⟨rfl, ?_⟩
    · simp [results, Try.results8, go_sem, b0, b1, b2, b3, b4, b5, b6, b7]
      rfl
    · repeat (first | with_reducible exact HB2.out | with_reducible refine Below.drew ?_ | with_reducible refine below_drewN ?_ _ | ((with_reducible refine Below.setCell ?_ ?hp _); case hp => simp) | ((with_reducible refine Below.alloc ?_ ?hp _); case hp => first | omega | (simp; done) | (simp; omega)))
  | some I =>
    obtain ⟨v, rfl, T, K, rfl, hT, hK⟩ := hr
    have HT : Hid (Nums w2 (w.heap.size + 1) .i64 3 T I.to) := hide (by simpa using hT)
    have HK : Hid (Nums w2 (w.heap.size + 1) .i64 2 K I.keys) := hide (by simpa using hK)
    obtain ⟨ta, tl, tc, rfl⟩ := hT.shape
    obtain ⟨ka, kl, kc, rfl⟩ := hK.shape
    clear hT hK
    go_wp2_with fail
    refine bodyPost_ret (v := .tuple #[.agg #[.int .i64 I.place, .int .i64 I.len, .int .i64 I.op, .bool I.wide, .int .i64 I.a, .int .i64 I.b, .slice ta tl tc, .slice ka kl kc], .bool true]) ?_ rfl ⟨⟨_, rfl, _, _, rfl, ?_, ?_⟩, ?_⟩
    · simp [results, Try.results8, go_sem, b0, b1, b2, b3, b4, b5, b6, b7]
    · refine HT.out.keep (by omega) fun g cs hg hA => ?_
      repeat (first | with_reducible exact hA | (with_reducible refine At.far ?_ ?hp _; case hp => simp; omega))
    · refine HK.out.keep (by omega) fun g cs hg hA => ?_
      repeat (first | with_reducible exact hA | (with_reducible refine At.far ?_ ?hp _; case hp => simp; omega))
    · repeat (first | with_reducible exact HB2.out | with_reducible refine Below.drew ?_ | with_reducible refine below_drewN ?_ _ | ((with_reducible refine Below.setCell ?_ ?hp _); case hp => simp) | ((with_reducible refine Below.alloc ?_ ?hp _); case hp => first | omega | (simp; done) | (simp; omega)))
set_option maxRecDepth 100000 in
theorem at_plain (A : Option Addr) (n c p : Nat) (xs : List Int) (w : World) (B : Nat) (h : Rd w B A n (bys xs)) (hB : B ≤ w.heap.size) (hb : IsBytes xs) (hp : p < n) (s : Int) (hs : shapeT (b1 xs p) = s) (hs2 : s ≠ 0 ∧ s ≠ 14 ∧ s ≠ 12 ∧ s ≠ 13) (r : Option Ins) (HC : ∀ W, Below w.heap.size w W → Calls Try.prog 19 #[.slice A n c, .int .i64 p] W fun e w' => InsR W w' e r) :
    Calls Try.prog 8 #[.slice A n c, .int .i64 p] w fun e w' => InsR w w' e r := by
  have hbx := b1_bd hb p
  clear hb
  obtain ⟨g, o, rfl, hg, _⟩ := h.2 (by omega)
  obtain ⟨_, _, he, c0⟩ := rd_b1 h hp
  cases he
  have ca := cell_alloc c0 (by omega)
  have HS : Hid (∀ W, Calls Try.prog 15 #[.int .i64 (b1 xs p)] W fun e w' => e = .returned (.int .i64 s) ∧ W = w') := hide fun W => by have := shape_any (b1 xs p) W; rwa [hs] at this
  have q0 : (s == 0) = false := by simpa using hs2.1
  have q1 : (s == 14) = false := by simpa using hs2.2.1
  have q2 : (s == 12) = false := by simpa using hs2.2.2.1
  have q3 : (s == 13) = false := by simpa using hs2.2.2.2
  clear hs2
  have hx : ¬ ((p : Int) < 0) := by omega
  have hp2 : (p : Int) < n := by omega
  have hp3 : ¬ ((n : Int) ≤ (p : Int)) := by omega
  generalize b1 xs p = x at *
  have HCC := hide HC
  clear h c0 HC hs
  go_enter Try.func8, Try.ntmps8
  go_wp2_with fail
  refine (HS.out _).mono ?_
  rintro e w1 ⟨rfl, rfl⟩
  go_wp2_with fail
  refine (HCC.out _ ?_).mono ?_
  · repeat (first | with_reducible exact Below.refl _ _ | with_reducible refine Below.drew ?_ | with_reducible refine below_drewN ?_ _ | ((with_reducible refine Below.setCell ?_ ?hp _); case hp => simp) | ((with_reducible refine Below.alloc ?_ ?hp _); case hp => first | omega | (simp; done) | (simp; omega)))
  rintro e w2 ⟨hr, hb2⟩
  have ha := (At.new w 28 [.int .i64 0, .int .i64 0, .int .i64 0, .bool false, .int .i64 0, .int .i64 0, .slice none 0 0, .slice none 0 0]).below hb2 (by simp)
  have hbel : Below w.heap.size w w2 := ((Below.refl _ w).alloc (Nat.le_refl _) _).trans (hb2.mono (by simp))
  have hsz := ha.lt
  obtain ⟨⟨b0, b1, b2, b3, b4, b5, b6, b7⟩, e0, e1, e2, e3, e4, e5, e6, e7⟩ := ha.c8
  have HB2 := hide hbel
  clear hb2 ha hbel
  cases r with
  | none =>
    subst hr
    unfold noV insV
    go_wp2_with fail
    refine bodyPost_ret (v := noV) ?_ rfl ⟨rfl, ?_⟩
    · simp [results, Try.results8, go_sem, b0, b1, b2, b3, b4, b5, b6, b7]
      rfl
    · repeat (first | with_reducible exact HB2.out | with_reducible refine Below.drew ?_ | with_reducible refine below_drewN ?_ _ | ((with_reducible refine Below.setCell ?_ ?hp _); case hp => simp) | ((with_reducible refine Below.alloc ?_ ?hp _); case hp => first | omega | (simp; done) | (simp; omega)))
  | some I =>
    obtain ⟨v, rfl, T, K, rfl, hT, hK⟩ := hr
    have HT : Hid (Nums w2 (w.heap.size + 1) .i64 3 T I.to) := hide (by simpa using hT)
    have HK : Hid (Nums w2 (w.heap.size + 1) .i64 2 K I.keys) := hide (by simpa using hK)
    obtain ⟨ta, tl, tc, rfl⟩ := hT.shape
    obtain ⟨ka, kl, kc, rfl⟩ := hK.shape
    clear hT hK
    go_wp2_with fail
    refine bodyPost_ret (v := .tuple #[.agg #[.int .i64 I.place, .int .i64 I.len, .int .i64 I.op, .bool I.wide, .int .i64 I.a, .int .i64 I.b, .slice ta tl tc, .slice ka kl kc], .bool true]) ?_ rfl ⟨⟨_, rfl, _, _, rfl, ?_, ?_⟩, ?_⟩
    · simp [results, Try.results8, go_sem, b0, b1, b2, b3, b4, b5, b6, b7]
    · refine HT.out.keep (by omega) fun g cs hg hA => ?_
      repeat (first | with_reducible exact hA | (with_reducible refine At.far ?_ ?hp _; case hp => simp; omega))
    · refine HK.out.keep (by omega) fun g cs hg hA => ?_
      repeat (first | with_reducible exact hA | (with_reducible refine At.far ?_ ?hp _; case hp => simp; omega))
    · repeat (first | with_reducible exact HB2.out | with_reducible refine Below.drew ?_ | with_reducible refine below_drewN ?_ _ | ((with_reducible refine Below.setCell ?_ ?hp _); case hp => simp) | ((with_reducible refine Below.alloc ?_ ?hp _); case hp => first | omega | (simp; done) | (simp; omega)))

theorem iat_any (A : Option Addr) (n c : Nat) (a : Int) (xs : List Int) (w : World) (B : Nat) (h : Rd w B A n (bys xs)) (hB : B ≤ w.heap.size) (hb : IsBytes xs) (hc : n ≤ c) (hn : n ≤ 140737488355328) :
    Calls Try.prog 8 #[.slice A n c, .int .i64 a] w fun e w' => InsR w w' e (insI xs a) := by
  have hxl : xs.length = n := by have := h.1; rwa [bys_len] at this
  unfold insI
  dsimp only
  by_cases hout : a < 0 ∨ (n : Int) ≤ a
  · rw [if_pos (by rw [hxl]; simpa using hout)]
    exact at_out A n c a w hout
  · rw [if_neg (by rw [hxl]; simpa using hout)]
    obtain ⟨p, rfl⟩ := Int.eq_ofNat_of_zero_le (show 0 ≤ a by omega)
    have hp : p < n := by omega
    rw [Int.toNat_natCast]
    by_cases h0 : shapeT (b1 xs p) = 0
    · rw [if_pos (by simpa using h0)]
      exact at_unkept A n c p xs w B h hB hb hp h0
    rw [if_neg (by simpa using h0)]
    by_cases h14 : shapeT (b1 xs p) = 14
    · rw [if_pos (by simpa using h14)]
      exact at_wide A n c p xs w B h hB hb hp h14 _ fun W hW => (wide_any B A n c p xs W (h.below (hW.mono hB)) (by have := hW.size; omega) hb hp hc hn).mono fun _ _ hh => wide_ins hh
    rw [if_neg (by simpa using h14)]
    by_cases h12 : shapeT (b1 xs p) = 12
    · rw [if_pos (by simpa using h12)]
      exact at_table A n c p xs w B h hB hb hp h12 _ fun W hW => tab_any A n c p xs W B (h.below (hW.mono hB)) (by have := hW.size; omega) hb hp hc hn
    rw [if_neg (by simpa using h12)]
    by_cases h13 : shapeT (b1 xs p) = 13
    · rw [if_pos (by simpa using h13)]
      exact at_lookup A n c p xs w B h hB hb hp h13 _ fun W hW => look_any A n c p xs W B (h.below (hW.mono hB)) (by have := hW.size; omega) hb hp hc hn
    rw [if_neg (by simpa using h13)]
    exact at_plain A n c p xs w B h hB hb hp _ rfl ⟨h0, h14, h12, h13⟩ _ fun W hW => plain_any B A n c p xs W (h.below (hW.mono hB)) (by have := hW.size; omega) hb hp hc hn ⟨h0, h14, h12, h13⟩
end Go.Proofs.Ytllbbmofinminaa
