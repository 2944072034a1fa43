/- Texts of one stage, merged. Nothing is claimed here. -/
import Derived.Test.YtbdbcalmjbmflaaGreatDoorPackN
import Derived.Test.YtbdbcalmjbmflaaGreatDoorPackA
import Derived.Deep.OwnRows
import Derived.Laws.MakeOwn
import Derived.Deep.RegionHeld3
namespace Go.Proofs.YtbdbcalmjbmflaaGreatDoor
open Go.RowKit

def lookTo (xs : List Int) (p f m : Nat) : List Int := (p + s4 xs f) :: (List.range m).map fun i => p + s4 xs (f + (12 + 8 * i))
def lookKeys (xs : List Int) (f m : Nat) : List Int := (List.range m).map fun i => s4 xs (f + (8 + 8 * i))
/-- Do the numbers rise? -/
def rises (K : List Int) : Bool := (List.range (K.length - 1)).all fun i => decide (K.getD i 0 < K.getD (i + 1) 0)
def lookI (xs : List Int) (p : Nat) : Option Ins :=
  let f := padE p
  let m := (s4 xs (f + 4)).toNat
  if xs.length < f + 8 || !padZ xs p then none
  else if s4 xs (f + 4) < 0 then none
  else if 1000 ≤ m then none
  else if xs.length - f < 8 + 8 * m then none
  else if rises (lookKeys xs f m) then some ⟨p, f - p + 8 + 8 * m, b1 xs p, false, 0, 0, lookTo xs p f m, lookKeys xs f m⟩
  else none

theorem lookTo_len (xs : List Int) (p f m : Nat) : (lookTo xs p f m).length = m + 1 := by simp [lookTo]
theorem lookKeys_len (xs : List Int) (f m : Nat) : (lookKeys xs f m).length = m := by simp [lookKeys]
theorem lookTo_next (xs : List Int) (p f m j : Nat) (h : j < m) : (lookTo xs p f m).getD (1 + j) 0 = p + s4 xs (f + (12 + 8 * j)) := by
  rw [Nat.add_comm]; simp [lookTo, List.getD, h]
theorem lookKeys_at (xs : List Int) (f m j : Nat) (h : j < m) : (lookKeys xs f m).getD j 0 = s4 xs (f + (8 + 8 * j)) := by
  simp [lookKeys, List.getD, h]
theorem rises_true {K : List Int} (h : ∀ i, i + 1 < K.length → K.getD i 0 < K.getD (i + 1) 0) : rises K = true := by
  unfold rises
  rw [List.all_eq_true]
  intro i hi
  simp only [List.mem_range] at hi
  simpa using h i (by omega)
theorem rises_false {K : List Int} {i : Nat} (hi : i + 1 < K.length) (h : K.getD (i + 1) 0 ≤ K.getD i 0) : rises K = false := by
  apply Bool.eq_false_iff.2
  intro ht
  unfold rises at ht
  rw [List.all_eq_true] at ht
  have := ht i (by simp; omega)
  simp only [decide_eq_true_eq] at this
  omega
theorem fill_old (L : List Int) (i j : Nat) (h : i < j) (hj : j ≤ L.length) : (fillL6 L j)[i]? = some (L.getD i 0) := by
  unfold fillL6
  have hl : (L.take j).length = j := by simp; omega
  rw [List.getElem?_append_left (by omega), List.getElem?_take, if_pos h, List.getElem?_eq_getElem (by omega), List.getD, List.getElem?_eq_getElem (by omega)]
  rfl
theorem At.fill_got {w : World} {g : Nat} {t : TypeId} {k : IntKind} {L : List Int} {i j : Nat} (h : At w g t ((fillL6 L j).map (.int k))) (hi : i < j) (hj : j ≤ L.length) : w.cell? ⟨g, i, none⟩ = some (.int k (L.getD i 0)) := by
  rw [h.cell, List.getElem?_map, fill_old L i j hi hj]; rfl

/-- What is held while pairs are put. -/
def LS (w : World) (gt gk : Nat) (W : World) (ts ks : List Int) : Prop :=
  Below w.heap.size w W ∧ At W w.heap.size 187 [.int .i64 0, .int .i64 0, .int .i64 0, .bool false, .int .i64 0, .int .i64 0, .slice none 0 0, .slice none 0 0] ∧ At W gt 3 (ts.map (.int .i64)) ∧ At W gk 2 (ks.map (.int .i64)) ∧ w.heap.size < gt ∧ w.heap.size < gk ∧ gt ≠ gk
section
variable {w W : World} {gt gk : Nat} {ts ks : List Int}
theorem LS.drewN (h : LS w gt gk W ts ks) (q : Nat) : LS w gt gk (W.drewN q) ts ks := ⟨below_drewN h.1 q, h.2⟩
theorem LS.putT {L : List Int} {j : Nat} (h : LS w gt gk W (fillL6 L j) ks) (hj : j < L.length) : LS w gt gk (W.setCell ⟨gt, j, none⟩ (.int .i64 (L.getD j 0))) (fillL6 L (j + 1)) ks := by
  obtain ⟨h1, h2, h3, h4, h5, h6, h7⟩ := h
  exact ⟨h1.setCell (by simp; omega) _, h2.far (by simp; omega) _, h3.fill_put hj, h4.far (by simp; omega) _, h5, h6, h7⟩
theorem LS.putK {L : List Int} {j : Nat} (h : LS w gt gk W ts (fillL6 L j)) (hj : j < L.length) : LS w gt gk (W.setCell ⟨gk, j, none⟩ (.int .i64 (L.getD j 0))) ts (fillL6 L (j + 1)) := by
  obtain ⟨h1, h2, h3, h4, h5, h6, h7⟩ := h
  exact ⟨h1.setCell (by simp; omega) _, h2.far (by simp; omega) _, h3.far (by simp; omega) _, h4.fill_put hj, h5, h6, h7⟩
end

theorem look_no (A : Option Addr) (n c p : Nat) (xs : List Int) (w : World) (B : Nat) (h : Rd w B A n (bys xs)) (hB : B ≤ w.heap.size) (hb : IsBytes xs) (hp : p < n) (hc : n ≤ c) (hn : n ≤ 140737488355328) (hno : (n < padE p + 8 || !padZ xs p) = true) :
    Calls Tryz.prog 143 #[.slice A n c, .int .i64 p] w fun e w' => e = .returned noV6 ∧ Below w.heap.size w w' := by
  have HP : Hid (∀ W, Below w.heap.size w W → Calls Tryz.prog 161 #[.slice A n c, .int .i64 p, .int .i64 8] W fun e w' => e = .returned (.tuple #[.slice none 0 0, .bool false]) ∧ W = w') := hide fun W hW => by
    have := padded_any B A n c p 8 xs W (h.below (hW.mono hB)) hb hp hc hn (by omega)
    rwa [show padR A n c xs p 8 = .tuple #[.slice none 0 0, .bool false] by unfold padR; rw [if_pos hno]] at this
  clear h hb
  go_enter Tryz.func143, Tryz.ntmps143
  go_wp2_with fail
  refine (HP.out _ ?_).mono ?_
  · repeat (first | with_reducible exact Below.refl _ _ | with_reducible refine Below.drew ?_ | with_reducible refine below_drewN ?_ _ | ((with_reducible refine Below.setCell ?_ ?hp _); case hp => simp) | ((with_reducible refine Below.alloc ?_ ?hp _); case hp => first | omega | (simp; done) | (simp; omega)))
  rintro e w1 ⟨rfl, rfl⟩
  go_wp2_with fail
  refine bodyPost_ret (v := noV6) ?_ rfl ⟨rfl, ?_⟩
  · simp [results, Tryz.results143, go_sem]
    rfl
  · repeat (first | with_reducible exact Below.refl _ _ | with_reducible refine Below.drew ?_ | with_reducible refine below_drewN ?_ _ | ((with_reducible refine Below.setCell ?_ ?hp _); case hp => simp) | ((with_reducible refine Below.alloc ?_ ?hp _); case hp => first | omega | (simp; done) | (simp; omega)))

theorem look_bad (A : Option Addr) (n c p : Nat) (xs : List Int) (w : World) (B : Nat) (h : Rd w B A n (bys xs)) (hB : B ≤ w.heap.size) (hb : IsBytes xs) (hp : p < n) (hc : n ≤ c) (hn : n ≤ 140737488355328) (hyes : (n < padE p + 8 || !padZ xs p) = false)
    (hbad : s4 xs (padE p + 4) < 0 ∨ (0 ≤ s4 xs (padE p + 4) ∧ 1000 ≤ s4 xs (padE p + 4)) ∨ (0 ≤ s4 xs (padE p + 4) ∧ s4 xs (padE p + 4) < 1000 ∧ (n : Int) - padE p < 8 + 8 * s4 xs (padE p + 4))) :
    Calls Tryz.prog 143 #[.slice A n c, .int .i64 p] w fun e w' => e = .returned noV6 ∧ Below w.heap.size w w' := by
  have hfb := padE_bd p
  have HP : Hid (∀ W, Below w.heap.size w W → Calls Tryz.prog 161 #[.slice A n c, .int .i64 p, .int .i64 8] W fun e w' => e = .returned (.tuple #[.slice (subA c (padE p) A) (n - padE p) (c - padE p), .bool true]) ∧ W = w') := hide fun W hW => by
    have := padded_any B A n c p 8 xs W (h.below (hW.mono hB)) hb hp hc hn (by omega)
    rwa [show padR A n c xs p 8 = .tuple #[.slice (subA c (padE p) A) (n - padE p) (c - padE p), .bool true] by unfold padR; rw [if_neg (by simp [hyes])]] at this
  have hlen : padE p + 8 ≤ n := by simp at hyes; omega
  have hsub := h.from (c := c) (i := padE p) (by omega) hc
  obtain ⟨gs, os, hsA, hgs, _⟩ := hsub.2 (by omega)
  rw [hsA] at HP hsub
  have hC : n - padE p ≤ c - padE p := by omega
  have C1 : Hid (∀ W, Below w.heap.size w W → Calls Tryz.prog 162 #[.slice (some ⟨gs, os + 4, none⟩) (n - padE p - 4) (c - padE p - 4)] W fun e w' => e = .returned (.int .i64 (s4 xs (padE p + 4))) ∧ ∃ q, w' = W.drewN q) := hide fun W hW => by
    have h2 := (hsub.below (hW.mono hB)).from (c := c - padE p) (i := 4) (by omega) hC
    have h3 := is4_any B _ (n - padE p - 4) (c - padE p - 4) _ _ h2 (by omega) (by omega) ((hb.drop _).drop 4)
    rw [b4_drop, b4_drop] at h3
    rwa [show subA (c - padE p) 4 (some ⟨gs, os, none⟩) = some ⟨gs, os + 4, none⟩ by unfold subA; rw [if_neg (by omega)]; simp [add_none]] at h3
  have hb1 := s4_bd hb (padE p + 4)
  generalize s4 xs (padE p + 4) = lo at *
  have hN : ((n - padE p : Nat) : Int) = (n : Int) - padE p := by omega
  have hN2 : n - padE p ≤ 140737488355328 := by omega
  have hN12 : 8 ≤ n - padE p := by omega
  rw [← hN] at hbad
  generalize n - padE p = N at *
  generalize c - padE p = C at *
  have hC4 : C ≠ 4 := by omega
  have hN4 : (4 : Int) ≤ N := by omega
  clear h hb hsA hsub hyes hfb hlen hN
  rcases hbad with hbad | ⟨hbad, hbad2⟩ | ⟨hbad, hbad2, hbad3⟩
  all_goals
    go_enter Tryz.func143, Tryz.ntmps143
    go_wp2_with fail
    refine (HP.out _ ?_).mono ?_
    · repeat (first | with_reducible exact Below.refl _ _ | with_reducible refine Below.drew ?_ | with_reducible refine below_drewN ?_ _ | ((with_reducible refine Below.setCell ?_ ?hp _); case hp => simp) | ((with_reducible refine Below.alloc ?_ ?hp _); case hp => first | omega | (simp; done) | (simp; omega)))
    rintro e w1 ⟨rfl, rfl⟩
    go_wp2_with fail
    refine (C1.out _ ?_).mono ?_
    · repeat (first | with_reducible exact Below.refl _ _ | with_reducible refine Below.drew ?_ | with_reducible refine below_drewN ?_ _ | ((with_reducible refine Below.setCell ?_ ?hp _); case hp => simp) | ((with_reducible refine Below.alloc ?_ ?hp _); case hp => first | omega | (simp; done) | (simp; omega)))
    rintro e w1 ⟨rfl, q, rfl⟩
    go_wp2_with fail
    refine bodyPost_ret (v := noV6) ?_ rfl ⟨rfl, ?_⟩
    · simp [results, Tryz.results143, go_sem]
      rfl
    · repeat (first | with_reducible exact Below.refl _ _ | with_reducible refine Below.drew ?_ | with_reducible refine below_drewN ?_ _ | ((with_reducible refine Below.setCell ?_ ?hp _); case hp => simp) | ((with_reducible refine Below.alloc ?_ ?hp _); case hp => first | omega | (simp; done) | (simp; omega)))
end Go.Proofs.YtbdbcalmjbmflaaGreatDoor
namespace Go.Proofs.YtbdbcalmjbmflaaGreatDoor
open Go.RowKit

set_option maxHeartbeats 2000000 in
set_option maxRecDepth 100000 in
theorem look_yes (A : Option Addr) (n c p m : Nat) (xs : List Int) (w : World) (B : Nat) (h : Rd w B A n (bys xs)) (hB : B ≤ w.heap.size) (hb : IsBytes xs) (hp : p < n) (hc : n ≤ c) (hn : n ≤ 140737488355328) (hyes : (n < padE p + 8 || !padZ xs p) = false)
    (hm : s4 xs (padE p + 4) = m) (hm2 : m < 1000) (hl : 8 + 8 * m ≤ n - padE p) :
    Calls Tryz.prog 143 #[.slice A n c, .int .i64 p] w fun e w' => InsR w w' e (if rises (lookKeys xs (padE p) m) then some ⟨p, padE p - p + 8 + 8 * m, b1 xs p, false, 0, 0, lookTo xs p (padE p) m, lookKeys xs (padE p) m⟩ else none) := by
  have hfb := padE_bd p
  have HP : Hid (∀ W, Below w.heap.size w W → Calls Tryz.prog 161 #[.slice A n c, .int .i64 p, .int .i64 8] W fun e w' => e = .returned (.tuple #[.slice (subA c (padE p) A) (n - padE p) (c - padE p), .bool true]) ∧ W = w') := hide fun W hW => by
    have := padded_any B A n c p 8 xs W (h.below (hW.mono hB)) hb hp hc hn (by omega)
    rwa [show padR A n c xs p 8 = .tuple #[.slice (subA c (padE p) A) (n - padE p) (c - padE p), .bool true] by unfold padR; rw [if_neg (by simp [hyes])]] at this
  have hlen : padE p + 8 ≤ n := by simp at hyes; omega
  have hsub := h.from (c := c) (i := padE p) (by omega) hc
  obtain ⟨gA, oA, rfl, hgA, _⟩ := h.2 (by omega)
  obtain ⟨_, _, he, c0⟩ := rd_b1 h hp
  cases he
  have Ca : Hid (∀ W, Below w.heap.size w W → W.cell? ⟨gA, oA + p, none⟩ = some (.int .u8 (b1 xs p))) := hide fun W hW => by rw [← c0]; exact hW.cell (p := ⟨gA, oA + p, none⟩) (by show gA < _; omega)
  obtain ⟨gs, os, hsA, hgs, _⟩ := hsub.2 (by omega)
  rw [hsA] at HP hsub
  have hC : n - padE p ≤ c - padE p := by omega
  have h4 : ∀ k W w0 q, k + 4 ≤ n - padE p → Below w.heap.size w w0 → W = w0.drewN q → Calls Tryz.prog 162 #[.slice (subA (c - padE p) k (some ⟨gs, os, none⟩)) (n - padE p - k) (c - padE p - k)] W fun e w' => e = .returned (.int .i64 (s4 xs (padE p + k))) ∧ ∃ q, w' = w0.drewN q := fun k W w0 q hk hW hq => by
    subst hq
    have h2 := (hsub.below ((below_drewN hW q).mono hB)).from (c := c - padE p) (i := k) (by omega) hC
    have h3 := is4_any B _ (n - padE p - k) (c - padE p - k) _ _ h2 (by omega) (by omega) ((hb.drop _).drop k)
    rw [b4_drop, b4_drop] at h3
    refine h3.mono fun e w' hh => ?_
    obtain ⟨rfl, b, rfl⟩ := hh
    exact ⟨rfl, q + b, by rw [World.drewN_drewN]⟩
  have hs0 : ∀ k, k < c - padE p → subA (c - padE p) k (some ⟨gs, os, none⟩) = some ⟨gs, os + k, none⟩ := fun k hk => by unfold subA; rw [if_neg (by omega)]; simp [add_none]
  have C1 : Hid (∀ W, Below w.heap.size w W → Calls Tryz.prog 162 #[.slice (some ⟨gs, os + 4, none⟩) (n - padE p - 4) (c - padE p - 4)] W fun e w' => e = .returned (.int .i64 m) ∧ ∃ q, w' = W.drewN q) := hide fun W hW => by
    have := h4 4 W W 0 (by omega) hW rfl
    rwa [hs0 4 (by omega), hm] at this
  obtain ⟨L, hL⟩ : ∃ L, L = lookTo xs p (padE p) m := ⟨_, rfl⟩
  have hLl : L.length = m + 1 := by rw [hL, lookTo_len]
  obtain ⟨K, hK⟩ : ∃ K, K = lookKeys xs (padE p) m := ⟨_, rfl⟩
  have hKl : K.length = m := by rw [hK, lookKeys_len]
  have C0 : Hid (∀ gt gk ts ks W, LS w gt gk W ts ks → Calls Tryz.prog 162 #[.slice (some ⟨gs, os, none⟩) (n - padE p) (c - padE p)] W fun e w' => e = .returned (.int .i64 (s4 xs (padE p))) ∧ LS w gt gk w' ts ks) := hide fun gt gk ts ks W hW => by
    have := h4 0 W W 0 (by omega) hW.1 rfl
    rw [hs0 0 (by omega)] at this
    refine this.mono fun e w' hh => ?_
    obtain ⟨rfl, b, rfl⟩ := hh
    exact ⟨rfl, hW.drewN b⟩
  have C3 : Hid (∀ gt gk ts ks j i W, j < m → i = 8 ∨ i = 12 → LS w gt gk W ts ks → Calls Tryz.prog 162 #[.slice (some ⟨gs, os + (i + 8 * j), none⟩) (n - padE p - (i + 8 * j)) (c - padE p - (i + 8 * j))] W fun e w' => e = .returned (.int .i64 (s4 xs (padE p + (i + 8 * j)))) ∧ LS w gt gk w' ts ks) := hide fun gt gk ts ks j i W hj hi hW => by
    have := h4 (i + 8 * j) W W 0 (by omega) hW.1 rfl
    rw [hs0 (i + 8 * j) (by omega)] at this
    refine this.mono fun e w' hh => ?_
    obtain ⟨rfl, b, rfl⟩ := hh
    exact ⟨rfl, hW.drewN b⟩
  have HS8 : Hid (∀ j : Nat, j < m → ∀ W, (Instr.slice 29 (.slice (some ⟨gs, os, none⟩) (n - padE p) (c - padE p)) (some (.int .i64 (8 + 8 * (j : Int)))) none none).run Tryz.prog W = .ok (.slice (some ⟨gs, os + (8 + 8 * j), none⟩) (n - padE p - (8 + 8 * j)) (c - padE p - (8 + 8 * j))) W) := hide fun j hj W => by
    have := slice_from6 (some ⟨gs, os, none⟩) (n - padE p) (c - padE p) (8 + 8 * j) (by omega) W
    rw [hs0 (8 + 8 * j) (by omega)] at this
    rw [← this, show ((8 + 8 * j : Nat) : Int) = 8 + 8 * (j : Int) by omega]
  have HS12 : Hid (∀ j : Nat, j < m → ∀ W, (Instr.slice 29 (.slice (some ⟨gs, os, none⟩) (n - padE p) (c - padE p)) (some (.int .i64 (12 + 8 * (j : Int)))) none none).run Tryz.prog W = .ok (.slice (some ⟨gs, os + (12 + 8 * j), none⟩) (n - padE p - (12 + 8 * j)) (c - padE p - (12 + 8 * j))) W) := hide fun j hj W => by
    have := slice_from6 (some ⟨gs, os, none⟩) (n - padE p) (c - padE p) (12 + 8 * j) (by omega) W
    rw [hs0 (12 + 8 * j) (by omega)] at this
    rw [← this, show ((12 + 8 * j : Nat) : Int) = 12 + 8 * (j : Int) by omega]
  have HL0 : Hid (L.getD 0 0 = p + s4 xs (padE p)) := hide (by rw [hL]; rfl)
  have HL1 : Hid (∀ j, j < m → L.getD (1 + j) 0 = p + s4 xs (padE p + (12 + 8 * j))) := hide fun j hj => by rw [hL]; exact lookTo_next xs p _ m j hj
  have HK1 : Hid (∀ j, j < m → K.getD j 0 = s4 xs (padE p + (8 + 8 * j))) := hide fun j hj => by rw [hK]; exact lookKeys_at xs _ m j hj
  have HB4 : Hid (∀ k, -2147483648 ≤ s4 xs k ∧ s4 xs k < 2147483648) := hide fun k => s4_bd hb k
  have hb0 := s4_bd hb (padE p)
  have hx := b1_bd hb p
  have hmk := make_ints (m + 1) (by omega)
  rw [show ((m + 1 : Nat) : Int) = 1 + (m : Int) by omega] at hmk
  have hw1 : IntKind.i64.wrap (1 + (m : Int)) = 1 + (m : Int) := IntWalk.i64_in _ (by omega)
  have hmk2 := make_i64s m (by omega)
  have hN : (n : Int) - ((n - padE p : Nat) : Int) = padE p := by omega
  rw [← hL, ← hK]
  have HN := hide hN
  generalize s4 xs (padE p) = df at *
  generalize b1 xs p = x at *
  have hN2 : n - padE p ≤ 140737488355328 := by omega
  have hN0 : 8 + 8 * m ≤ n - padE p := by omega
  generalize n - padE p = N at *
  generalize c - padE p = C at *
  have hC4 : C ≠ 4 := by omega
  have hN4 : (4 : Int) ≤ N := by omega
  have hlh : ¬ ((m : Int) < 0) := by omega
  have hmm : ¬ ((1000 : Int) ≤ m) := by omega
  have hNN : ¬ ((N : Int) < 8 + 8 * (m : Int)) := by omega
  clear h hb hsA hsub h4 hyes hlen hN hs0 c0 hL hK hm
  obtain ⟨R, hR⟩ : ∃ R, (if rises K then some (⟨p, padE p - p + 8 + 8 * m, x, false, 0, 0, L, K⟩ : Ins) else none) = R := ⟨_, rfl⟩
  rw [hR]
  have HR := hide hR
  clear hR
  go_enter Tryz.func143, Tryz.ntmps143
  go_wp2_with fail
  refine (HP.out _ ?_).mono ?_
  · repeat (first | with_reducible exact Below.refl _ _ | with_reducible refine Below.drew ?_ | with_reducible refine below_drewN ?_ _ | ((with_reducible refine Below.setCell ?_ ?hp _); case hp => simp) | ((with_reducible refine Below.alloc ?_ ?hp _); case hp => first | omega | (simp; done) | (simp; omega)))
  rintro e w1 ⟨rfl, rfl⟩
  go_wp2_with fail
  refine (C1.out _ ?_).mono ?_
  · repeat (first | with_reducible exact Below.refl _ _ | with_reducible refine Below.drew ?_ | with_reducible refine below_drewN ?_ _ | ((with_reducible refine Below.setCell ?_ ?hp _); case hp => simp) | ((with_reducible refine Below.alloc ?_ ?hp _); case hp => first | omega | (simp; done) | (simp; omega)))
  rintro e w1 ⟨rfl, q, rfl⟩
  go_wp2_with fail
  go_region_with (fail)
  · go_wp2_with fail
    refine (C0.out (w.heap.size + 1) (w.heap.size + 1 + 1) (fillL6 L 0) (fillL6 K 0) _ ?_).mono ?_
    · refine ⟨?_, ?_, ?_, ?_, by omega, by omega, by omega⟩
      · repeat (first | with_reducible exact Below.refl _ _ | with_reducible refine Below.drew ?_ | with_reducible refine below_drewN ?_ _ | ((with_reducible refine Below.setCell ?_ ?hp _); case hp => simp) | ((with_reducible refine Below.alloc ?_ ?hp _); case hp => first | omega | (simp; done) | (simp; omega)))
      · exact ((At.new _ _ _).alloc _).alloc _
      · rw [fill_zero, hLl]; exact (At.newR _ _ _ (by simp)).alloc _
      · rw [fill_zero, hKl]; exact At.newR _ _ _ (by simp)
    rintro e w2 ⟨rfl, hT⟩
    generalize w.heap.size + 1 + 1 = gk at *
    generalize w.heap.size + 1 = gt at *
    have z0 := hT.2.2.1.fill_cell (show 0 < L.length by omega)
    have f0 := hT.2.2.1.free 0
    have HT := hide hT
    have hz1 : (0 : Int) < (m : Int) + 1 := by omega
    clear hT hmk hmk2 C0 C1 HP
    go_wp2_with fail
    have T1 : Hid (LS w gt gk (w2.setCell ⟨gt, 0, none⟩ (.int .i64 (p + df))) (fillL6 L 1) (fillL6 K 0)) := hide (by
      have := HT.out.putT (j := 0) (by omega)
      rwa [HL0.out] at this)
    clear HT z0 f0 HL0
    generalize w2.setCell ⟨gt, 0, none⟩ (.int .i64 (p + df)) = w3 at *
    go_loopw [52, 11] (fun iv _ wr => ∃ j : Nat, j ≤ m ∧ iv = .int .i64 j ∧ LS w gt gk wr (fillL6 L (1 + j)) (fillL6 K j) ∧ ∀ i, i + 1 < j → K.getD i 0 < K.getD (i + 1) 0) (fun iv _ _ => m - (intOf iv).toNat)
    case atStart => exact ⟨0, Nat.zero_le _, rfl, T1.out, fun i hi => absurd hi (by omega)⟩
    case round =>
      obtain ⟨j, hj, rfl, hT, hr⟩ := hrel
      have HT := hide hT
      have Hr := hide hr
      clear hT hr T1
      by_cases hlt : j < m
      · have hlt' : (j : Int) < (m : Int) := by omega
        have hi1 : (1 : Int) + (j : Int) < (m : Int) + 1 := by omega
        have hi0 : (0 : Int) ≤ (1 : Int) + (j : Int) := by omega
        have hnt : ((1 : Int) + (j : Int)).toNat = 1 + j := by omega
        have hS1 := HS8.out j hlt
        have hS2 := HS12.out j hlt
        have D1 := hide (C3.out gt gk (fillL6 L (1 + j)) (fillL6 K j) j 8 wr hlt (.inl rfl) HT.out)
        have D2 := hide (fun W hW => C3.out gt gk (fillL6 L (1 + j)) (fillL6 K (j + 1)) j 12 W hlt (.inr rfl) hW)
        have hbd := HB4.out (padE p + (12 + 8 * j))
        have hbd2 := HB4.out (padE p + (8 + 8 * j))
        have HLj := hide (HL1.out j hlt)
        have HKj := hide (HK1.out j hlt)
        generalize s4 xs (padE p + (12 + 8 * j)) = y at *
        generalize s4 xs (padE p + (8 + 8 * j)) = z at *
        go_wp2_with fail
        refine D1.out.mono ?_
        rintro e w4 ⟨rfl, hT⟩
        have z1 := hT.2.2.2.1.fill_cell (show j < K.length by omega)
        have f1 := hT.2.2.2.1.free j
        have T4 := hide (hT.putK (show j < K.length by omega))
        rw [HKj.out] at T4
        clear hT D1 HT
        go_wp2_with fail
        refine (D2.out _ T4.out).mono ?_
        rintro e w5 ⟨rfl, hT⟩
        have z2 := hT.2.2.1.fill_cell (show 1 + j < L.length by omega)
        have f2 := hT.2.2.1.free (1 + j)
        have T5 := hide (hT.putT (show 1 + j < L.length by omega))
        rw [HLj.out] at T5
        clear hT D2 T4 z1 f1 hS1 hS2
        by_cases hj0 : j = 0
        · have hd : decide ((0 : Int) < (j : Int)) = false := by simp; omega
          have hdN : ¬ (0 < j) := by omega
          have hdI : ¬ ((0 : Int) < (j : Int)) := by omega
          clear hj0
          go_wp2_with fail
          clear z2 f2
          generalize w5.setCell ⟨gt, 1 + j, none⟩ (.int .i64 (p + y)) = w6 at *
          go_quiet (fail)
          go_wp2_with fail
          go_roundw
          case rel => exact ⟨j + 1, by omega, by go_num, T5.out.drewN _, fun i hi => absurd hi (by omega)⟩
          case measure => simp [intOf]; omega
        · have hd : decide ((0 : Int) < (j : Int)) = true := by simp; omega
          have hdN : 0 < j := by omega
          have hdI : (0 : Int) < (j : Int) := by omega
          obtain ⟨kz, hkz⟩ : ∃ kz, K.getD (j - 1) 0 = kz := ⟨_, rfl⟩
          have x0 := T5.out.2.2.2.1.fill_got (show j < j + 1 by omega) (by omega)
          have x1 := T5.out.2.2.2.1.fill_got (show j - 1 < j + 1 by omega) (by omega)
          rw [HKj.out] at x0
          rw [hkz] at x1
          have hz0 : (0 : Int) ≤ (j : Int) - 1 := by omega
          have hz3 : ((j : Int) - 1).toNat = j - 1 := by omega
          have hz4 : (j : Int) - 1 < (m : Int) := by omega
          have Hkz := hide hkz
          clear hkz
          by_cases hle : z ≤ kz
          · have HRf : Hid (rises K = false) := hide (rises_false (i := j - 1) (by omega) (by rw [show j - 1 + 1 = j by omega, HKj.out, Hkz.out]; exact hle))
            obtain ⟨⟨b0, b1, b2, b3, b4, b5, b6, b7⟩, e0, e1, e2, e3, e4, e5, e6, e7⟩ := T5.out.2.1.c8
            have hbel : Below w.heap.size w (w5.setCell ⟨gt, 1 + j, none⟩ (.int .i64 (p + y))) := T5.out.1
            have hsz := T5.out.2.1.lt
            go_wp2_with fail
            clear z2 f2
            generalize w5.setCell ⟨gt, 1 + j, none⟩ (.int .i64 (p + y)) = w6 at *
            go_quiet (fail)
            go_wp2_with fail
            refine bodyPost_ret (v := noV6) ?_ rfl ⟨by rw [← HR.out, HRf.out]; rfl, ?_⟩
            · simp [results, Tryz.results143, go_sem, World.cell?_setCell_other, b0, b1, b2, b3, b4, b5, b6, b7]
              rfl
            · repeat (first | with_reducible exact hbel | with_reducible refine Below.drew ?_ | with_reducible refine below_drewN ?_ _ | ((with_reducible refine Below.setCell ?_ ?hp _); case hp => simp) | ((with_reducible refine Below.alloc ?_ ?hp _); case hp => first | omega | (simp; done) | (simp; omega)))
          · go_wp2_with fail
            clear z2 f2
            generalize w5.setCell ⟨gt, 1 + j, none⟩ (.int .i64 (p + y)) = w6 at *
            go_quiet (fail)
            go_wp2_with fail
            go_roundw
            case rel =>
              refine ⟨j + 1, by omega, by go_num, T5.out.drewN _, fun i hi => ?_⟩
              by_cases hij : i + 1 < j
              · exact Hr.out i hij
              · obtain rfl : i = j - 1 := by omega
                rw [show j - 1 + 1 = j by omega, HKj.out, Hkz.out]
                omega
            case measure => simp [intOf]; omega
      · obtain rfl : j = m := by omega
        have HTL : Hid (LS w gt gk wr L K) := hide (by have := HT.out; rwa [show 1 + j = L.length by omega, fill_all, show fillL6 K j = fillL6 K K.length by rw [hKl], fill_all] at this)
        have HRt : Hid (rises K = true) := hide (rises_true fun i hi => Hr.out i (by omega))
        clear HT Hr
        have hcx := Ca.out wr HTL.out.1
        obtain ⟨⟨b0, b1, b2, b3, b4, b5, b6, b7⟩, e0, e1, e2, e3, e4, e5, e6, e7⟩ := HTL.out.2.1.c8
        have hlt' : ¬ ((j : Int) < (j : Int)) := by omega
        have hpn : (p : Int) < n := by omega
        have hle : (n : Int) - p - N = padE p - p := by have := HN.out; omega
        have hbel : Below w.heap.size w wr := HTL.out.1
        have hsz := HTL.out.2.1.lt
        have hgt : w.heap.size < gt := HTL.out.2.2.2.2.1
        have hgk : w.heap.size < gk := HTL.out.2.2.2.2.2.1
        go_wp2_with fail
        refine bodyPost_ret (v := .tuple #[.agg #[.int .i64 p, .int .i64 (padE p - p + 8 + 8 * (j : Int)), .int .i64 x, .bool false, .int .i64 0, .int .i64 0, .slice (some ⟨gt, 0, none⟩) (j + 1) (j + 1), .slice (some ⟨gk, 0, none⟩) j j], .bool true]) ?_ rfl ?_
        · simp [results, Tryz.results143, go_sem, World.cell?_setCell_other, b0, b1, b2, b3, b4, b5, b6, b7]
        · rw [← HR.out, if_pos HRt.out]
          refine ⟨⟨_, rfl, _, _, rfl, .inr ⟨gt, by omega, by rw [hLl], ?_⟩, .inr ⟨gk, by omega, by rw [hKl], ?_⟩⟩, ?_⟩
          · have : At wr gt 3 (L.map (.int .i64)) := HTL.out.2.2.1
            repeat (first | with_reducible exact this | (with_reducible refine At.far ?_ ?hp _; case hp => simp; omega))
          · have : At wr gk 2 (K.map (.int .i64)) := HTL.out.2.2.2.1
            show At _ _ _ (K.map (.int .i64))
            repeat (first | with_reducible exact this | (with_reducible refine At.far ?_ ?hp _; case hp => simp; omega))
          · repeat (first | with_reducible exact hbel | with_reducible refine Below.drew ?_ | with_reducible refine below_drewN ?_ _ | ((with_reducible refine Below.setCell ?_ ?hp _); case hp => simp) | ((with_reducible refine Below.alloc ?_ ?hp _); case hp => first | omega | (simp; done) | (simp; omega)))
  · go_wp2_with fail
    refine (C0.out (w.heap.size + 1 + 1) (w.heap.size + 1) (fillL6 L 0) (fillL6 K 0) _ ?_).mono ?_
    · refine ⟨?_, ?_, ?_, ?_, by omega, by omega, by omega⟩
      · repeat (first | with_reducible exact Below.refl _ _ | with_reducible refine Below.drew ?_ | with_reducible refine below_drewN ?_ _ | ((with_reducible refine Below.setCell ?_ ?hp _); case hp => simp) | ((with_reducible refine Below.alloc ?_ ?hp _); case hp => first | omega | (simp; done) | (simp; omega)))
      · exact ((At.new _ _ _).alloc _).alloc _
      · rw [fill_zero, hLl]; exact At.newR _ _ _ (by simp)
      · rw [fill_zero, hKl]; exact (At.newR _ _ _ (by simp)).alloc _
    rintro e w2 ⟨rfl, hT⟩
    generalize w.heap.size + 1 + 1 = gt at *
    generalize w.heap.size + 1 = gk at *
    have z0 := hT.2.2.1.fill_cell (show 0 < L.length by omega)
    have f0 := hT.2.2.1.free 0
    have HT := hide hT
    have hz1 : (0 : Int) < (m : Int) + 1 := by omega
    clear hT hmk hmk2 C0 C1 HP
    go_wp2_with fail
    have T1 : Hid (LS w gt gk (w2.setCell ⟨gt, 0, none⟩ (.int .i64 (p + df))) (fillL6 L 1) (fillL6 K 0)) := hide (by
      have := HT.out.putT (j := 0) (by omega)
      rwa [HL0.out] at this)
    clear HT z0 f0 HL0
    generalize w2.setCell ⟨gt, 0, none⟩ (.int .i64 (p + df)) = w3 at *
    go_loopw [52, 11] (fun iv _ wr => ∃ j : Nat, j ≤ m ∧ iv = .int .i64 j ∧ LS w gt gk wr (fillL6 L (1 + j)) (fillL6 K j) ∧ ∀ i, i + 1 < j → K.getD i 0 < K.getD (i + 1) 0) (fun iv _ _ => m - (intOf iv).toNat)
    case atStart => exact ⟨0, Nat.zero_le _, rfl, T1.out, fun i hi => absurd hi (by omega)⟩
    case round =>
      obtain ⟨j, hj, rfl, hT, hr⟩ := hrel
      have HT := hide hT
      have Hr := hide hr
      clear hT hr T1
      by_cases hlt : j < m
      · have hlt' : (j : Int) < (m : Int) := by omega
        have hi1 : (1 : Int) + (j : Int) < (m : Int) + 1 := by omega
        have hi0 : (0 : Int) ≤ (1 : Int) + (j : Int) := by omega
        have hnt : ((1 : Int) + (j : Int)).toNat = 1 + j := by omega
        have hS1 := HS8.out j hlt
        have hS2 := HS12.out j hlt
        have D1 := hide (C3.out gt gk (fillL6 L (1 + j)) (fillL6 K j) j 8 wr hlt (.inl rfl) HT.out)
        have D2 := hide (fun W hW => C3.out gt gk (fillL6 L (1 + j)) (fillL6 K (j + 1)) j 12 W hlt (.inr rfl) hW)
        have hbd := HB4.out (padE p + (12 + 8 * j))
        have hbd2 := HB4.out (padE p + (8 + 8 * j))
        have HLj := hide (HL1.out j hlt)
        have HKj := hide (HK1.out j hlt)
        generalize s4 xs (padE p + (12 + 8 * j)) = y at *
        generalize s4 xs (padE p + (8 + 8 * j)) = z at *
        go_wp2_with fail
        refine D1.out.mono ?_
        rintro e w4 ⟨rfl, hT⟩
        have z1 := hT.2.2.2.1.fill_cell (show j < K.length by omega)
        have f1 := hT.2.2.2.1.free j
        have T4 := hide (hT.putK (show j < K.length by omega))
        rw [HKj.out] at T4
        clear hT D1 HT
        go_wp2_with fail
        refine (D2.out _ T4.out).mono ?_
        rintro e w5 ⟨rfl, hT⟩
        have z2 := hT.2.2.1.fill_cell (show 1 + j < L.length by omega)
        have f2 := hT.2.2.1.free (1 + j)
        have T5 := hide (hT.putT (show 1 + j < L.length by omega))
        rw [HLj.out] at T5
        clear hT D2 T4 z1 f1 hS1 hS2
        by_cases hj0 : j = 0
        · have hd : decide ((0 : Int) < (j : Int)) = false := by simp; omega
          have hdN : ¬ (0 < j) := by omega
          have hdI : ¬ ((0 : Int) < (j : Int)) := by omega
          clear hj0
          go_wp2_with fail
          clear z2 f2
          generalize w5.setCell ⟨gt, 1 + j, none⟩ (.int .i64 (p + y)) = w6 at *
          go_quiet (fail)
          go_wp2_with fail
          go_roundw
          case rel => exact ⟨j + 1, by omega, by go_num, T5.out.drewN _, fun i hi => absurd hi (by omega)⟩
          case measure => simp [intOf]; omega
        · have hd : decide ((0 : Int) < (j : Int)) = true := by simp; omega
          have hdN : 0 < j := by omega
          have hdI : (0 : Int) < (j : Int) := by omega
          obtain ⟨kz, hkz⟩ : ∃ kz, K.getD (j - 1) 0 = kz := ⟨_, rfl⟩
          have x0 := T5.out.2.2.2.1.fill_got (show j < j + 1 by omega) (by omega)
          have x1 := T5.out.2.2.2.1.fill_got (show j - 1 < j + 1 by omega) (by omega)
          rw [HKj.out] at x0
          rw [hkz] at x1
          have hz0 : (0 : Int) ≤ (j : Int) - 1 := by omega
          have hz3 : ((j : Int) - 1).toNat = j - 1 := by omega
          have hz4 : (j : Int) - 1 < (m : Int) := by omega
          have Hkz := hide hkz
          clear hkz
          by_cases hle : z ≤ kz
          · have HRf : Hid (rises K = false) := hide (rises_false (i := j - 1) (by omega) (by rw [show j - 1 + 1 = j by omega, HKj.out, Hkz.out]; exact hle))
            obtain ⟨⟨b0, b1, b2, b3, b4, b5, b6, b7⟩, e0, e1, e2, e3, e4, e5, e6, e7⟩ := T5.out.2.1.c8
            have hbel : Below w.heap.size w (w5.setCell ⟨gt, 1 + j, none⟩ (.int .i64 (p + y))) := T5.out.1
            have hsz := T5.out.2.1.lt
            go_wp2_with fail
            clear z2 f2
            generalize w5.setCell ⟨gt, 1 + j, none⟩ (.int .i64 (p + y)) = w6 at *
            go_quiet (fail)
            go_wp2_with fail
            refine bodyPost_ret (v := noV6) ?_ rfl ⟨by rw [← HR.out, HRf.out]; rfl, ?_⟩
            · simp [results, Tryz.results143, go_sem, World.cell?_setCell_other, b0, b1, b2, b3, b4, b5, b6, b7]
              rfl
            · repeat (first | with_reducible exact hbel | with_reducible refine Below.drew ?_ | with_reducible refine below_drewN ?_ _ | ((with_reducible refine Below.setCell ?_ ?hp _); case hp => simp) | ((with_reducible refine Below.alloc ?_ ?hp _); case hp => first | omega | (simp; done) | (simp; omega)))
          · go_wp2_with fail
            clear z2 f2
            generalize w5.setCell ⟨gt, 1 + j, none⟩ (.int .i64 (p + y)) = w6 at *
            go_quiet (fail)
            go_wp2_with fail
            go_roundw
            case rel =>
              refine ⟨j + 1, by omega, by go_num, T5.out.drewN _, fun i hi => ?_⟩
              by_cases hij : i + 1 < j
              · exact Hr.out i hij
              · obtain rfl : i = j - 1 := by omega
                rw [show j - 1 + 1 = j by omega, HKj.out, Hkz.out]
                omega
            case measure => simp [intOf]; omega
      · obtain rfl : j = m := by omega
        have HTL : Hid (LS w gt gk wr L K) := hide (by have := HT.out; rwa [show 1 + j = L.length by omega, fill_all, show fillL6 K j = fillL6 K K.length by rw [hKl], fill_all] at this)
        have HRt : Hid (rises K = true) := hide (rises_true fun i hi => Hr.out i (by omega))
        clear HT Hr
        have hcx := Ca.out wr HTL.out.1
        obtain ⟨⟨b0, b1, b2, b3, b4, b5, b6, b7⟩, e0, e1, e2, e3, e4, e5, e6, e7⟩ := HTL.out.2.1.c8
        have hlt' : ¬ ((j : Int) < (j : Int)) := by omega
        have hpn : (p : Int) < n := by omega
        have hle : (n : Int) - p - N = padE p - p := by have := HN.out; omega
        have hbel : Below w.heap.size w wr := HTL.out.1
        have hsz := HTL.out.2.1.lt
        have hgt : w.heap.size < gt := HTL.out.2.2.2.2.1
        have hgk : w.heap.size < gk := HTL.out.2.2.2.2.2.1
        go_wp2_with fail
        refine bodyPost_ret (v := .tuple #[.agg #[.int .i64 p, .int .i64 (padE p - p + 8 + 8 * (j : Int)), .int .i64 x, .bool false, .int .i64 0, .int .i64 0, .slice (some ⟨gt, 0, none⟩) (j + 1) (j + 1), .slice (some ⟨gk, 0, none⟩) j j], .bool true]) ?_ rfl ?_
        · simp [results, Tryz.results143, go_sem, World.cell?_setCell_other, b0, b1, b2, b3, b4, b5, b6, b7]
        · rw [← HR.out, if_pos HRt.out]
          refine ⟨⟨_, rfl, _, _, rfl, .inr ⟨gt, by omega, by rw [hLl], ?_⟩, .inr ⟨gk, by omega, by rw [hKl], ?_⟩⟩, ?_⟩
          · have : At wr gt 3 (L.map (.int .i64)) := HTL.out.2.2.1
            repeat (first | with_reducible exact this | (with_reducible refine At.far ?_ ?hp _; case hp => simp; omega))
          · have : At wr gk 2 (K.map (.int .i64)) := HTL.out.2.2.2.1
            show At _ _ _ (K.map (.int .i64))
            repeat (first | with_reducible exact this | (with_reducible refine At.far ?_ ?hp _; case hp => simp; omega))
          · repeat (first | with_reducible exact hbel | with_reducible refine Below.drew ?_ | with_reducible refine below_drewN ?_ _ | ((with_reducible refine Below.setCell ?_ ?hp _); case hp => simp) | ((with_reducible refine Below.alloc ?_ ?hp _); case hp => first | omega | (simp; done) | (simp; omega)))

theorem look_any (A : Option Addr) (n c p : Nat) (xs : List Int) (w : World) (B : Nat) (h : Rd w B A n (bys xs)) (hB : B ≤ w.heap.size) (hb : IsBytes xs) (hp : p < n) (hc : n ≤ c) (hn : n ≤ 140737488355328) :
    Calls Tryz.prog 143 #[.slice A n c, .int .i64 p] w fun e w' => InsR w w' e (lookI xs p) := by
  have hxl : xs.length = n := by have := h.1; rwa [bys_len] at this
  unfold lookI
  dsimp only
  rw [hxl]
  cases hno : (n < padE p + 8 || !padZ xs p : Bool) with
  | true =>
    rw [if_pos rfl]
    exact look_no A n c p xs w B h hB hb hp hc hn hno
  | false =>
    rw [if_neg (by simp)]
    have hbad := look_bad A n c p xs w B h hB hb hp hc hn hno
    have hyes := fun m hm hm2 hl => look_yes A n c p m xs w B h hB hb hp hc hn hno hm hm2 hl
    have hlen : padE p + 8 ≤ n := by simp at hno; omega
    by_cases h1 : s4 xs (padE p + 4) < 0
    · rw [if_pos h1]
      exact hbad (.inl h1)
    · rw [if_neg h1]
      by_cases h2 : 1000 ≤ (s4 xs (padE p + 4)).toNat
      · rw [if_pos h2]
        exact hbad (.inr (.inl ⟨by omega, by omega⟩))
      · rw [if_neg h2]
        by_cases h3 : n - padE p < 8 + 8 * (s4 xs (padE p + 4)).toNat
        · rw [if_pos h3]
          exact hbad (.inr (.inr ⟨by omega, by omega, by omega⟩))
        · rw [if_neg h3]
          exact hyes (s4 xs (padE p + 4)).toNat (by omega) (by omega) (by omega)
end Go.Proofs.YtbdbcalmjbmflaaGreatDoor
namespace Go.Proofs.YtbdbcalmjbmflaaGreatDoor
open Go.RowKit

def plainI (s : Int) (xs : List Int) (p : Nat) : Option Ins :=
  if xs.length - p < 1 + opB s then none
  else (operands s (b1 xs p) p ((xs.drop (p + 1)).take (opB s))).map fun x => ⟨p, 1 + opB s, b1 xs p, false, x.1, x.2, [], []⟩
def wideI (xs : List Int) (p : Nat) : Option Ins :=
  let op := b1 xs (p + 1)
  let n := if op == 132 then 4 else 2
  if xs.length - (p + 1) < 1 + n || !wideT op then none
  else some ⟨p, 2 + n, op, true, b2 xs (p + 2), (if op == 132 then sg 16 (b2 xs (p + 4)) else 0), [], []⟩
/-- The instruction at a place. -/
def insI (xs : List Int) (a : Int) : Option Ins :=
  if a < 0 || (xs.length : Int) ≤ a then none
  else
    let p := a.toNat
    let s := shapeT (b1 xs p)
    if s == 0 then none else if s == 14 then wideI xs p else if s == 12 then tabI xs p else if s == 13 then lookI xs p else plainI s xs p

theorem Nums.nil (w : World) (base : Nat) (k : IntKind) (t : TypeId) : Nums w base k t (.slice none 0 0) [] := .inl ⟨rfl, rfl⟩
theorem plain_ins {s : Int} {xs : List Int} {p : Nat} {w w' : World} {e : Ending} (h : e = .returned (plainR s xs p) ∧ Below w.heap.size w w') : InsR w w' e (plainI s xs p) := by
  obtain ⟨rfl, hb⟩ := h
  refine ⟨?_, hb⟩
  unfold plainR plainI
  by_cases hl : xs.length - p < 1 + opB s
  · rw [if_pos hl, if_pos hl]
  · rw [if_neg hl, if_neg hl]
    generalize operands s (b1 xs p) p ((xs.drop (p + 1)).take (opB s)) = r
    cases r with
    | none => rfl
    | some x => exact ⟨_, rfl, _, _, rfl, Nums.nil _ _ _ _, Nums.nil _ _ _ _⟩
theorem wide_ins {xs : List Int} {p : Nat} {w w' : World} {e : Ending} (h : e = .returned (wideR xs p) ∧ Below w.heap.size w w') : InsR w w' e (wideI xs p) := by
  obtain ⟨rfl, hb⟩ := h
  refine ⟨?_, hb⟩
  unfold wideR wideI
  dsimp only
  by_cases hc : (decide (xs.length - (p + 1) < 1 + if (b1 xs (p + 1) == 132) = true then 4 else 2) || !wideT (b1 xs (p + 1))) = true
  · rw [if_pos hc, if_pos hc]
  · rw [if_neg hc, if_neg hc]
    refine ⟨_, rfl, _, _, ?_, Nums.nil _ _ _ _, Nums.nil _ _ _ _⟩
    unfold insV
    split <;> rfl

theorem ite_mem {α : Type} {c : Prop} [Decidable c] {a b : α} {l : List α} (ha : a ∈ l) (hb : b ∈ l) : (if c then a else b) ∈ l := by split <;> assumption
theorem shape_some (op : Int) : shapeT op = 0 ∨ shapeT op = 14 ∨ shapeT op = 12 ∨ shapeT op = 13 ∨ shapeT op = 1 ∨ shapeT op = 2 ∨ shapeT op = 3 ∨ shapeT op = 4 ∨ shapeT op = 5 ∨ shapeT op = 6 ∨ shapeT op = 7 ∨ shapeT op = 8 ∨ shapeT op = 9 ∨ shapeT op = 10 ∨ shapeT op = 11 := by
  have h : shapeT op ∈ ([0, 14, 12, 13, 1, 2, 3, 4, 5, 6, 7, 8, 9, 10, 11] : List Int) := by
    unfold shapeT
    repeat' (apply ite_mem)
    all_goals simp
  simpa using h

theorem plain_any6 (B : Nat) (A : Option Addr) (n c p : Nat) (xs : List Int) (w : World) (h : Rd w B A n (bys xs)) (hB : B ≤ w.heap.size) (hb : IsBytes xs) (hp : p < n) (hc : n ≤ c) (hn : n ≤ 140737488355328) (hs : shapeT (b1 xs p) ≠ 0 ∧ shapeT (b1 xs p) ≠ 14 ∧ shapeT (b1 xs p) ≠ 12 ∧ shapeT (b1 xs p) ≠ 13) :
    Calls Tryz.prog 144 #[.slice A n c, .int .i64 p] w fun e w' => InsR w w' e (plainI (shapeT (b1 xs p)) xs p) := by
  have hxl : xs.length = n := by have := h.1; rwa [bys_len] at this
  by_cases hl : n - p < 1 + opB (shapeT (b1 xs p))
  · refine (plain_short _ B A n c p xs w h hB hb hp hn rfl hl).mono fun e w' hh => plain_ins ?_
    rw [show plainR (shapeT (b1 xs p)) xs p = noV6 by unfold plainR; rw [if_pos (by rw [hxl]; exact hl)]]
    exact hh
  · rcases shape_some (b1 xs p) with e | e | e | e | e | e | e | e | e | e | e | e | e | e | e
    · exact absurd e hs.1
    · exact absurd e hs.2.1
    · exact absurd e hs.2.2.1
    · exact absurd e hs.2.2.2
    · have hq : opB (shapeT (b1 xs p)) = 0 := by rw [e]; rfl
      rw [hq] at hl
      rw [e]
      exact (plain_1 B A n c p xs w h hB hb hp hc hn e (by omega)).mono fun _ _ hh => plain_ins hh
    · have hq : opB (shapeT (b1 xs p)) = 0 := by rw [e]; rfl
      rw [hq] at hl
      rw [e]
      exact (plain_2 B A n c p xs w h hB hb hp hc hn e (by omega)).mono fun _ _ hh => plain_ins hh
    · have hq : opB (shapeT (b1 xs p)) = 1 := by rw [e]; rfl
      rw [hq] at hl
      rw [e]
      exact (plain_3 B A n c p xs w h hB hb hp hc hn e (by omega)).mono fun _ _ hh => plain_ins hh
    · have hq : opB (shapeT (b1 xs p)) = 2 := by rw [e]; rfl
      rw [hq] at hl
      rw [e]
      exact (plain_4 B A n c p xs w h hB hb hp hc hn e (by omega)).mono fun _ _ hh => plain_ins hh
    · have hq : opB (shapeT (b1 xs p)) = 1 := by rw [e]; rfl
      rw [hq] at hl
      rw [e]
      exact (plain_5 B A n c p xs w h hB hb hp hc hn e (by omega)).mono fun _ _ hh => plain_ins hh
    · have hq : opB (shapeT (b1 xs p)) = 2 := by rw [e]; rfl
      rw [hq] at hl
      rw [e]
      exact (plain_6 B A n c p xs w h hB hb hp hc hn e (by omega)).mono fun _ _ hh => plain_ins hh
    · have hq : opB (shapeT (b1 xs p)) = 2 := by rw [e]; rfl
      rw [hq] at hl
      rw [e]
      exact (plain_7 B A n c p xs w h hB hb hp hc hn e (by omega)).mono fun _ _ hh => plain_ins hh
    · have hq : opB (shapeT (b1 xs p)) = 2 := by rw [e]; rfl
      rw [hq] at hl
      rw [e]
      exact (plain_8 B A n c p xs w h hB hb hp hc hn e (by omega)).mono fun _ _ hh => plain_ins hh
    · have hq : opB (shapeT (b1 xs p)) = 4 := by rw [e]; rfl
      rw [hq] at hl
      rw [e]
      exact (plain_9 B A n c p xs w h hB hb hp hc hn e (by omega)).mono fun _ _ hh => plain_ins hh
    · have hq : opB (shapeT (b1 xs p)) = 3 := by rw [e]; rfl
      rw [hq] at hl
      rw [e]
      exact (plain_10 B A n c p xs w h hB hb hp hc hn e (by omega)).mono fun _ _ hh => plain_ins hh
    · have hq : opB (shapeT (b1 xs p)) = 4 := by rw [e]; rfl
      rw [hq] at hl
      rw [e]
      exact (plain_11 B A n c p xs w h hB hb hp hc hn e (by omega)).mono fun _ _ hh => plain_ins hh

theorem Nums.shape {w : World} {base : Nat} {k : IntKind} {t : TypeId} {V : Value} {xs : List Int} (h : Nums w base k t V xs) : ∃ a l c, V = .slice a l c := by
  rcases h with ⟨_, rfl⟩ | ⟨g, _, rfl, _⟩
  · exact ⟨_, _, _, rfl⟩
  · exact ⟨_, _, _, rfl⟩
/-- A result that lies in the caller's block: what was told is told on. -/
theorem Nums.keep {w w' : World} {base base' : Nat} {k : IntKind} {t : TypeId} {V : Value} {xs : List Int} (h : Nums w base k t V xs) (hb : base' ≤ base) (hk : ∀ g cs, base ≤ g → At w g t cs → At w' g t cs) : Nums w' base' k t V xs := by
  rcases h with h | ⟨g, h1, h2, h3⟩
  · exact .inl h
  · exact .inr ⟨g, by omega, h2, hk g _ h1 h3⟩
set_option maxRecDepth 100000 in
theorem at_out (A : Option Addr) (n c : Nat) (a : Int) (w : World) (h : a < 0 ∨ (n : Int) ≤ a) :
    Calls Tryz.prog 126 #[.slice A n c, .int .i64 a] w fun e w' => InsR w w' e none := by
  by_cases h0 : a < 0
  · clear h
    go_enter Tryz.func126, Tryz.ntmps126
    go_wp2_with fail
    refine bodyPost_ret (v := noV6) ?_ rfl ⟨rfl, ?_⟩
    · simp [results, Tryz.results126, go_sem]
      rfl
    · repeat (first | with_reducible exact Below.refl _ _ | with_reducible refine Below.drew ?_ | with_reducible refine below_drewN ?_ _ | ((with_reducible refine Below.setCell ?_ ?hp _); case hp => simp) | ((with_reducible refine Below.alloc ?_ ?hp _); case hp => first | omega | (simp; done) | (simp; omega)))
  · have h1 : (n : Int) ≤ a := by omega
    clear h
    go_enter Tryz.func126, Tryz.ntmps126
    go_wp2_with fail
    refine bodyPost_ret (v := noV6) ?_ rfl ⟨rfl, ?_⟩
    · simp [results, Tryz.results126, go_sem]
      rfl
    · repeat (first | with_reducible exact Below.refl _ _ | with_reducible refine Below.drew ?_ | with_reducible refine below_drewN ?_ _ | ((with_reducible refine Below.setCell ?_ ?hp _); case hp => simp) | ((with_reducible refine Below.alloc ?_ ?hp _); case hp => first | omega | (simp; done) | (simp; omega)))
set_option maxRecDepth 100000 in
theorem at_unkept (A : Option Addr) (n c p : Nat) (xs : List Int) (w : World) (B : Nat) (h : Rd w B A n (bys xs)) (hB : B ≤ w.heap.size) (hb : IsBytes xs) (hp : p < n) (hs : shapeT (b1 xs p) = 0) :
    Calls Tryz.prog 126 #[.slice A n c, .int .i64 p] w fun e w' => InsR w w' e none := by
  have hbx := b1_bd hb p
  clear hb
  obtain ⟨g, o, rfl, hg, _⟩ := h.2 (by omega)
  obtain ⟨_, _, he, c0⟩ := rd_b1 h hp
  cases he
  have ca := cell_alloc c0 (by omega)
  have HS : Hid (∀ W, Calls Tryz.prog 140 #[.int .i64 (b1 xs p)] W fun e w' => e = .returned (.int .i64 0) ∧ W = w') := hide fun W => by have := shape_any (b1 xs p) W; rwa [hs] at this
  have hx : ¬ ((p : Int) < 0) := by omega
  have hp2 : (p : Int) < n := by omega
  have hp3 : ¬ ((n : Int) ≤ (p : Int)) := by omega
  generalize b1 xs p = x at *
  clear h c0
  go_enter Tryz.func126, Tryz.ntmps126
  go_wp2_with fail
  refine (HS.out _).mono ?_
  rintro e w1 ⟨rfl, rfl⟩
  go_wp2_with fail
  refine bodyPost_ret (v := noV6) ?_ rfl ⟨rfl, ?_⟩
  · simp [results, Tryz.results126, go_sem]
    rfl
  · repeat (first | with_reducible exact Below.refl _ _ | with_reducible refine Below.drew ?_ | with_reducible refine below_drewN ?_ _ | ((with_reducible refine Below.setCell ?_ ?hp _); case hp => simp) | ((with_reducible refine Below.alloc ?_ ?hp _); case hp => first | omega | (simp; done) | (simp; omega)))
set_option maxRecDepth 100000 in
theorem at_wide (A : Option Addr) (n c p : Nat) (xs : List Int) (w : World) (B : Nat) (h : Rd w B A n (bys xs)) (hB : B ≤ w.heap.size) (hb : IsBytes xs) (hp : p < n) (hs : shapeT (b1 xs p) = 14) (r : Option Ins) (HC : ∀ W, Below w.heap.size w W → Calls Tryz.prog 141 #[.slice A n c, .int .i64 p] W fun e w' => InsR W w' e r) :
    Calls Tryz.prog 126 #[.slice A n c, .int .i64 p] w fun e w' => InsR w w' e r := by
  have hbx := b1_bd hb p
  clear hb
  obtain ⟨g, o, rfl, hg, _⟩ := h.2 (by omega)
  obtain ⟨_, _, he, c0⟩ := rd_b1 h hp
  cases he
  have ca := cell_alloc c0 (by omega)
  have HS : Hid (∀ W, Calls Tryz.prog 140 #[.int .i64 (b1 xs p)] W fun e w' => e = .returned (.int .i64 14) ∧ W = w') := hide fun W => by have := shape_any (b1 xs p) W; rwa [hs] at this
  have hx : ¬ ((p : Int) < 0) := by omega
  have hp2 : (p : Int) < n := by omega
  have hp3 : ¬ ((n : Int) ≤ (p : Int)) := by omega
  generalize b1 xs p = x at *
  have HCC := hide HC
  clear h c0 HC hs
  go_enter Tryz.func126, Tryz.ntmps126
  go_wp2_with fail
  refine (HS.out _).mono ?_
  rintro e w1 ⟨rfl, rfl⟩
  go_wp2_with fail
  refine (HCC.out _ ?_).mono ?_
  · repeat (first | with_reducible exact Below.refl _ _ | with_reducible refine Below.drew ?_ | with_reducible refine below_drewN ?_ _ | ((with_reducible refine Below.setCell ?_ ?hp _); case hp => simp) | ((with_reducible refine Below.alloc ?_ ?hp _); case hp => first | omega | (simp; done) | (simp; omega)))
  rintro e w2 ⟨hr, hb2⟩
  have ha := (At.new w 187 [.int .i64 0, .int .i64 0, .int .i64 0, .bool false, .int .i64 0, .int .i64 0, .slice none 0 0, .slice none 0 0]).below hb2 (by simp)
  have hbel : Below w.heap.size w w2 := ((Below.refl _ w).alloc (Nat.le_refl _) _).trans (hb2.mono (by simp))
  have hsz := ha.lt
  obtain ⟨⟨b0, b1, b2, b3, b4, b5, b6, b7⟩, e0, e1, e2, e3, e4, e5, e6, e7⟩ := ha.c8
  have HB2 := hide hbel
  clear hb2 ha hbel
  cases r with
  | none =>
    subst hr
    unfold noV6 insV
    go_wp2_with fail
    refine bodyPost_ret (v := noV6) ?_ rfl ⟨rfl, ?_⟩
    · simp [results, Tryz.results126, go_sem, b0, b1, b2, b3, b4, b5, b6, b7]
      rfl
    · repeat (first | with_reducible exact HB2.out | with_reducible refine Below.drew ?_ | with_reducible refine below_drewN ?_ _ | ((with_reducible refine Below.setCell ?_ ?hp _); case hp => simp) | ((with_reducible refine Below.alloc ?_ ?hp _); case hp => first | omega | (simp; done) | (simp; omega)))
  | some I =>
    obtain ⟨v, rfl, T, K, rfl, hT, hK⟩ := hr
    have HT : Hid (Nums w2 (w.heap.size + 1) .i64 3 T I.to) := hide (by simpa using hT)
    have HK : Hid (Nums w2 (w.heap.size + 1) .i64 2 K I.keys) := hide (by simpa using hK)
    obtain ⟨ta, tl, tc, rfl⟩ := hT.shape
    obtain ⟨ka, kl, kc, rfl⟩ := hK.shape
    clear hT hK
    go_wp2_with fail
    refine bodyPost_ret (v := .tuple #[.agg #[.int .i64 I.place, .int .i64 I.len, .int .i64 I.op, .bool I.wide, .int .i64 I.a, .int .i64 I.b, .slice ta tl tc, .slice ka kl kc], .bool true]) ?_ rfl ⟨⟨_, rfl, _, _, rfl, ?_, ?_⟩, ?_⟩
    · simp [results, Tryz.results126, go_sem, b0, b1, b2, b3, b4, b5, b6, b7]
    · refine HT.out.keep (by omega) fun g cs hg hA => ?_
      repeat (first | with_reducible exact hA | (with_reducible refine At.far ?_ ?hp _; case hp => simp; omega))
    · refine HK.out.keep (by omega) fun g cs hg hA => ?_
      repeat (first | with_reducible exact hA | (with_reducible refine At.far ?_ ?hp _; case hp => simp; omega))
    · repeat (first | with_reducible exact HB2.out | with_reducible refine Below.drew ?_ | with_reducible refine below_drewN ?_ _ | ((with_reducible refine Below.setCell ?_ ?hp _); case hp => simp) | ((with_reducible refine Below.alloc ?_ ?hp _); case hp => first | omega | (simp; done) | (simp; omega)))
set_option maxRecDepth 100000 in
theorem at_table (A : Option Addr) (n c p : Nat) (xs : List Int) (w : World) (B : Nat) (h : Rd w B A n (bys xs)) (hB : B ≤ w.heap.size) (hb : IsBytes xs) (hp : p < n) (hs : shapeT (b1 xs p) = 12) (r : Option Ins) (HC : ∀ W, Below w.heap.size w W → Calls Tryz.prog 142 #[.slice A n c, .int .i64 p] W fun e w' => InsR W w' e r) :
    Calls Tryz.prog 126 #[.slice A n c, .int .i64 p] w fun e w' => InsR w w' e r := by
  have hbx := b1_bd hb p
  clear hb
  obtain ⟨g, o, rfl, hg, _⟩ := h.2 (by omega)
  obtain ⟨_, _, he, c0⟩ := rd_b1 h hp
  cases he
  have ca := cell_alloc c0 (by omega)
  have HS : Hid (∀ W, Calls Tryz.prog 140 #[.int .i64 (b1 xs p)] W fun e w' => e = .returned (.int .i64 12) ∧ W = w') := hide fun W => by have := shape_any (b1 xs p) W; rwa [hs] at this
  have hx : ¬ ((p : Int) < 0) := by omega
  have hp2 : (p : Int) < n := by omega
  have hp3 : ¬ ((n : Int) ≤ (p : Int)) := by omega
  generalize b1 xs p = x at *
  have HCC := hide HC
  clear h c0 HC hs
  go_enter Tryz.func126, Tryz.ntmps126
  go_wp2_with fail
  refine (HS.out _).mono ?_
  rintro e w1 ⟨rfl, rfl⟩
  go_wp2_with fail
  refine (HCC.out _ ?_).mono ?_
  · repeat (first | with_reducible exact Below.refl _ _ | with_reducible refine Below.drew ?_ | with_reducible refine below_drewN ?_ _ | ((with_reducible refine Below.setCell ?_ ?hp _); case hp => simp) | ((with_reducible refine Below.alloc ?_ ?hp _); case hp => first | omega | (simp; done) | (simp; omega)))
  rintro e w2 ⟨hr, hb2⟩
  have ha := (At.new w 187 [.int .i64 0, .int .i64 0, .int .i64 0, .bool false, .int .i64 0, .int .i64 0, .slice none 0 0, .slice none 0 0]).below hb2 (by simp)
  have hbel : Below w.heap.size w w2 := ((Below.refl _ w).alloc (Nat.le_refl _) _).trans (hb2.mono (by simp))
  have hsz := ha.lt
  obtain ⟨⟨b0, b1, b2, b3, b4, b5, b6, b7⟩, e0, e1, e2, e3, e4, e5, e6, e7⟩ := ha.c8
  have HB2 := hide hbel
  clear hb2 ha hbel
  cases r with
  | none =>
    subst hr
    unfold noV6 insV
    go_wp2_with fail
    refine bodyPost_ret (v := noV6) ?_ rfl ⟨rfl, ?_⟩
    · simp [results, Tryz.results126, go_sem, b0, b1, b2, b3, b4, b5, b6, b7]
      rfl
    · repeat (first | with_reducible exact HB2.out | with_reducible refine Below.drew ?_ | with_reducible refine below_drewN ?_ _ | ((with_reducible refine Below.setCell ?_ ?hp _); case hp => simp) | ((with_reducible refine Below.alloc ?_ ?hp _); case hp => first | omega | (simp; done) | (simp; omega)))
  | some I =>
    obtain ⟨v, rfl, T, K, rfl, hT, hK⟩ := hr
    have HT : Hid (Nums w2 (w.heap.size + 1) .i64 3 T I.to) := hide (by simpa using hT)
    have HK : Hid (Nums w2 (w.heap.size + 1) .i64 2 K I.keys) := hide (by simpa using hK)
    obtain ⟨ta, tl, tc, rfl⟩ := hT.shape
    obtain ⟨ka, kl, kc, rfl⟩ := hK.shape
    clear hT hK
    go_wp2_with fail
    refine bodyPost_ret (v := .tuple #[.agg #[.int .i64 I.place, .int .i64 I.len, .int .i64 I.op, .bool I.wide, .int .i64 I.a, .int .i64 I.b, .slice ta tl tc, .slice ka kl kc], .bool true]) ?_ rfl ⟨⟨_, rfl, _, _, rfl, ?_, ?_⟩, ?_⟩
    · simp [results, Tryz.results126, go_sem, b0, b1, b2, b3, b4, b5, b6, b7]
    · refine HT.out.keep (by omega) fun g cs hg hA => ?_
      repeat (first | with_reducible exact hA | (with_reducible refine At.far ?_ ?hp _; case hp => simp; omega))
    · refine HK.out.keep (by omega) fun g cs hg hA => ?_
      repeat (first | with_reducible exact hA | (with_reducible refine At.far ?_ ?hp _; case hp => simp; omega))
    · repeat (first | with_reducible exact HB2.out | with_reducible refine Below.drew ?_ | with_reducible refine below_drewN ?_ _ | ((with_reducible refine Below.setCell ?_ ?hp _); case hp => simp) | ((with_reducible refine Below.alloc ?_ ?hp _); case hp => first | omega | (simp; done) | (simp; omega)))
set_option maxRecDepth 100000 in
theorem at_lookup (A : Option Addr) (n c p : Nat) (xs : List Int) (w : World) (B : Nat) (h : Rd w B A n (bys xs)) (hB : B ≤ w.heap.size) (hb : IsBytes xs) (hp : p < n) (hs : shapeT (b1 xs p) = 13) (r : Option Ins) (HC : ∀ W, Below w.heap.size w W → Calls Tryz.prog 143 #[.slice A n c, .int .i64 p] W fun e w' => InsR W w' e r) :
    Calls Tryz.prog 126 #[.slice A n c, .int .i64 p] w fun e w' => InsR w w' e r := by
  have hbx := b1_bd hb p
  clear hb
  obtain ⟨g, o, rfl, hg, _⟩ := h.2 (by omega)
  obtain ⟨_, _, he, c0⟩ := rd_b1 h hp
  cases he
  have ca := cell_alloc c0 (by omega)
  have HS : Hid (∀ W, Calls Tryz.prog 140 #[.int .i64 (b1 xs p)] W fun e w' => e = .returned (.int .i64 13) ∧ W = w') := hide fun W => by have := shape_any (b1 xs p) W; rwa [hs] at this
  have hx : ¬ ((p : Int) < 0) := by omega
  have hp2 : (p : Int) < n := by omega
  have hp3 : ¬ ((n : Int) ≤ (p : Int)) := by omega
  generalize b1 xs p = x at *
  have HCC := hide HC
  clear h c0 HC hs
  go_enter Tryz.func126, Tryz.ntmps126
  go_wp2_with fail
  refine (HS.out _).mono ?_
  rintro e w1 ⟨rfl, rfl⟩
  go_wp2_with fail
  refine (HCC.out _ ?_).mono ?_
  · repeat (first | with_reducible exact Below.refl _ _ | with_reducible refine Below.drew ?_ | with_reducible refine below_drewN ?_ _ | ((with_reducible refine Below.setCell ?_ ?hp _); case hp => simp) | ((with_reducible refine Below.alloc ?_ ?hp _); case hp => first | omega | (simp; done) | (simp; omega)))
  rintro e w2 ⟨hr, hb2⟩
  have ha := (At.new w 187 [.int .i64 0, .int .i64 0, .int .i64 0, .bool false, .int .i64 0, .int .i64 0, .slice none 0 0, .slice none 0 0]).below hb2 (by simp)
  have hbel : Below w.heap.size w w2 := ((Below.refl _ w).alloc (Nat.le_refl _) _).trans (hb2.mono (by simp))
  have hsz := ha.lt
  obtain ⟨⟨b0, b1, b2, b3, b4, b5, b6, b7⟩, e0, e1, e2, e3, e4, e5, e6, e7⟩ := ha.c8
  have HB2 := hide hbel
  clear hb2 ha hbel
  cases r with
  | none =>
    subst hr
    unfold noV6 insV
    go_wp2_with fail
    refine bodyPost_ret (v := noV6) ?_ rfl ⟨rfl, ?_⟩
    · simp [results, Tryz.results126, go_sem, b0, b1, b2, b3, b4, b5, b6, b7]
      rfl
    · repeat (first | with_reducible exact HB2.out | with_reducible refine Below.drew ?_ | with_reducible refine below_drewN ?_ _ | ((with_reducible refine Below.setCell ?_ ?hp _); case hp => simp) | ((with_reducible refine Below.alloc ?_ ?hp _); case hp => first | omega | (simp; done) | (simp; omega)))
  | some I =>
    obtain ⟨v, rfl, T, K, rfl, hT, hK⟩ := hr
    have HT : Hid (Nums w2 (w.heap.size + 1) .i64 3 T I.to) := hide (by simpa using hT)
    have HK : Hid (Nums w2 (w.heap.size + 1) .i64 2 K I.keys) := hide (by simpa using hK)
    obtain ⟨ta, tl, tc, rfl⟩ := hT.shape
    obtain ⟨ka, kl, kc, rfl⟩ := hK.shape
    clear hT hK
    go_wp2_with fail
    refine bodyPost_ret (v := .tuple #[.agg #[.int .i64 I.place, .int .i64 I.len, .int .i64 I.op, .bool I.wide, .int .i64 I.a, .int .i64 I.b, .slice ta tl tc, .slice ka kl kc], .bool true]) ?_ rfl ⟨⟨_, rfl, _, _, rfl, ?_, ?_⟩, ?_⟩
    · simp [results, Tryz.results126, go_sem, b0, b1, b2, b3, b4, b5, b6, b7]
    · refine HT.out.keep (by omega) fun g cs hg hA => ?_
      repeat (first | with_reducible exact hA | (with_reducible refine At.far ?_ ?hp _; case hp => simp; omega))
    · refine HK.out.keep (by omega) fun g cs hg hA => ?_
      repeat (first | with_reducible exact hA | (with_reducible refine At.far ?_ ?hp _; case hp => simp; omega))
    · repeat (first | with_reducible exact HB2.out | with_reducible refine Below.drew ?_ | with_reducible refine below_drewN ?_ _ | ((with_reducible refine Below.setCell ?_ ?hp _); case hp => simp) | ((with_reducible refine Below.alloc ?_ ?hp _); case hp => first | omega | (simp; done) | (simp; omega)))
set_option maxRecDepth 100000 in
theorem at_plain (A : Option Addr) (n c p : Nat) (xs : List Int) (w : World) (B : Nat) (h : Rd w B A n (bys xs)) (hB : B ≤ w.heap.size) (hb : IsBytes xs) (hp : p < n) (s : Int) (hs : shapeT (b1 xs p) = s) (hs2 : s ≠ 0 ∧ s ≠ 14 ∧ s ≠ 12 ∧ s ≠ 13) (r : Option Ins) (HC : ∀ W, Below w.heap.size w W → Calls Tryz.prog 144 #[.slice A n c, .int .i64 p] W fun e w' => InsR W w' e r) :
    Calls Tryz.prog 126 #[.slice A n c, .int .i64 p] w fun e w' => InsR w w' e r := by
  have hbx := b1_bd hb p
  clear hb
  obtain ⟨g, o, rfl, hg, _⟩ := h.2 (by omega)
  obtain ⟨_, _, he, c0⟩ := rd_b1 h hp
  cases he
  have ca := cell_alloc c0 (by omega)
  have HS : Hid (∀ W, Calls Tryz.prog 140 #[.int .i64 (b1 xs p)] W fun e w' => e = .returned (.int .i64 s) ∧ W = w') := hide fun W => by have := shape_any (b1 xs p) W; rwa [hs] at this
  have q0 : (s == 0) = false := by simpa using hs2.1
  have q1 : (s == 14) = false := by simpa using hs2.2.1
  have q2 : (s == 12) = false := by simpa using hs2.2.2.1
  have q3 : (s == 13) = false := by simpa using hs2.2.2.2
  clear hs2
  have hx : ¬ ((p : Int) < 0) := by omega
  have hp2 : (p : Int) < n := by omega
  have hp3 : ¬ ((n : Int) ≤ (p : Int)) := by omega
  generalize b1 xs p = x at *
  have HCC := hide HC
  clear h c0 HC hs
  go_enter Tryz.func126, Tryz.ntmps126
  go_wp2_with fail
  refine (HS.out _).mono ?_
  rintro e w1 ⟨rfl, rfl⟩
  go_wp2_with fail
  refine (HCC.out _ ?_).mono ?_
  · repeat (first | with_reducible exact Below.refl _ _ | with_reducible refine Below.drew ?_ | with_reducible refine below_drewN ?_ _ | ((with_reducible refine Below.setCell ?_ ?hp _); case hp => simp) | ((with_reducible refine Below.alloc ?_ ?hp _); case hp => first | omega | (simp; done) | (simp; omega)))
  rintro e w2 ⟨hr, hb2⟩
  have ha := (At.new w 187 [.int .i64 0, .int .i64 0, .int .i64 0, .bool false, .int .i64 0, .int .i64 0, .slice none 0 0, .slice none 0 0]).below hb2 (by simp)
  have hbel : Below w.heap.size w w2 := ((Below.refl _ w).alloc (Nat.le_refl _) _).trans (hb2.mono (by simp))
  have hsz := ha.lt
  obtain ⟨⟨b0, b1, b2, b3, b4, b5, b6, b7⟩, e0, e1, e2, e3, e4, e5, e6, e7⟩ := ha.c8
  have HB2 := hide hbel
  clear hb2 ha hbel
  cases r with
  | none =>
    subst hr
    unfold noV6 insV
    go_wp2_with fail
    refine bodyPost_ret (v := noV6) ?_ rfl ⟨rfl, ?_⟩
    · simp [results, Tryz.results126, go_sem, b0, b1, b2, b3, b4, b5, b6, b7]
      rfl
    · repeat (first | with_reducible exact HB2.out | with_reducible refine Below.drew ?_ | with_reducible refine below_drewN ?_ _ | ((with_reducible refine Below.setCell ?_ ?hp _); case hp => simp) | ((with_reducible refine Below.alloc ?_ ?hp _); case hp => first | omega | (simp; done) | (simp; omega)))
  | some I =>
    obtain ⟨v, rfl, T, K, rfl, hT, hK⟩ := hr
    have HT : Hid (Nums w2 (w.heap.size + 1) .i64 3 T I.to) := hide (by simpa using hT)
    have HK : Hid (Nums w2 (w.heap.size + 1) .i64 2 K I.keys) := hide (by simpa using hK)
    obtain ⟨ta, tl, tc, rfl⟩ := hT.shape
    obtain ⟨ka, kl, kc, rfl⟩ := hK.shape
    clear hT hK
    go_wp2_with fail
    refine bodyPost_ret (v := .tuple #[.agg #[.int .i64 I.place, .int .i64 I.len, .int .i64 I.op, .bool I.wide, .int .i64 I.a, .int .i64 I.b, .slice ta tl tc, .slice ka kl kc], .bool true]) ?_ rfl ⟨⟨_, rfl, _, _, rfl, ?_, ?_⟩, ?_⟩
    · simp [results, Tryz.results126, go_sem, b0, b1, b2, b3, b4, b5, b6, b7]
    · refine HT.out.keep (by omega) fun g cs hg hA => ?_
      repeat (first | with_reducible exact hA | (with_reducible refine At.far ?_ ?hp _; case hp => simp; omega))
    · refine HK.out.keep (by omega) fun g cs hg hA => ?_
      repeat (first | with_reducible exact hA | (with_reducible refine At.far ?_ ?hp _; case hp => simp; omega))
    · repeat (first | with_reducible exact HB2.out | with_reducible refine Below.drew ?_ | with_reducible refine below_drewN ?_ _ | ((with_reducible refine Below.setCell ?_ ?hp _); case hp => simp) | ((with_reducible refine Below.alloc ?_ ?hp _); case hp => first | omega | (simp; done) | (simp; omega)))

theorem iat_any (A : Option Addr) (n c : Nat) (a : Int) (xs : List Int) (w : World) (B : Nat) (h : Rd w B A n (bys xs)) (hB : B ≤ w.heap.size) (hb : IsBytes xs) (hc : n ≤ c) (hn : n ≤ 140737488355328) :
    Calls Tryz.prog 126 #[.slice A n c, .int .i64 a] w fun e w' => InsR w w' e (insI xs a) := by
  have hxl : xs.length = n := by have := h.1; rwa [bys_len] at this
  unfold insI
  dsimp only
  by_cases hout : a < 0 ∨ (n : Int) ≤ a
  · rw [if_pos (by rw [hxl]; simpa using hout)]
    exact at_out A n c a w hout
  · rw [if_neg (by rw [hxl]; simpa using hout)]
    obtain ⟨p, rfl⟩ := Int.eq_ofNat_of_zero_le (show 0 ≤ a by omega)
    have hp : p < n := by omega
    rw [Int.toNat_natCast]
    by_cases h0 : shapeT (b1 xs p) = 0
    · rw [if_pos (by simpa using h0)]
      exact at_unkept A n c p xs w B h hB hb hp h0
    rw [if_neg (by simpa using h0)]
    by_cases h14 : shapeT (b1 xs p) = 14
    · rw [if_pos (by simpa using h14)]
      exact at_wide A n c p xs w B h hB hb hp h14 _ fun W hW => (wide_any B A n c p xs W (h.below (hW.mono hB)) (by have := hW.size; omega) hb hp hc hn).mono fun _ _ hh => wide_ins hh
    rw [if_neg (by simpa using h14)]
    by_cases h12 : shapeT (b1 xs p) = 12
    · rw [if_pos (by simpa using h12)]
      exact at_table A n c p xs w B h hB hb hp h12 _ fun W hW => tab_any A n c p xs W B (h.below (hW.mono hB)) (by have := hW.size; omega) hb hp hc hn
    rw [if_neg (by simpa using h12)]
    by_cases h13 : shapeT (b1 xs p) = 13
    · rw [if_pos (by simpa using h13)]
      exact at_lookup A n c p xs w B h hB hb hp h13 _ fun W hW => look_any A n c p xs W B (h.below (hW.mono hB)) (by have := hW.size; omega) hb hp hc hn
    rw [if_neg (by simpa using h13)]
    exact at_plain A n c p xs w B h hB hb hp _ rfl ⟨h0, h14, h12, h13⟩ _ fun W hW => plain_any6 B A n c p xs W (h.below (hW.mono hB)) (by have := hW.size; omega) hb hp hc hn ⟨h0, h14, h12, h13⟩
end Go.Proofs.YtbdbcalmjbmflaaGreatDoor
namespace Go.Proofs.YtbdbcalmjbmflaaGreatDoor
open Go.RowKit

section
variable {w w' : World} {B : Nat} {A : Option Addr} {n : Nat} {base : Nat} {v : Value} {e : TypeId}
theorem orow_below {size : Nat} {xs : List Value} (h : w.ownsRow base e size v n xs) (hb : Below w.heap.size w w') : w'.ownsRow base e size v n xs := by
  obtain ⟨hl, h | ⟨g, cap, cur, rfl, h1, hg, h2⟩⟩ := h
  · exact ⟨hl, .inl h⟩
  · refine ⟨hl, .inr ⟨g, cap, cur, rfl, h1, ?_, h2⟩⟩
    rw [hb.block g (Array.getElem?_eq_some_iff.1 hg).1]; exact hg
theorem orow_far {size : Nat} {xs : List Value} (h : w.ownsRow base e size v n xs) {g : Nat} (hg : g < base) : some g ≠ v.ownBlock := by
  obtain ⟨_, ⟨rfl, _⟩ | ⟨g', cap, cur, rfl, h1, _⟩⟩ := h
  · simp [Value.ownBlock]
  · simp only [Value.ownBlock, ne_eq, Option.some.injEq]; omega
theorem orow_new {size : Nat} {xs : List Value} (h : w.ownsRow base e size v n xs) {g : Nat} (hg : w.heap.size ≤ g) : some g ≠ v.ownBlock := by
  obtain ⟨_, ⟨rfl, _⟩ | ⟨g', cap, cur, rfl, _, h1, _⟩⟩ := h
  · simp [Value.ownBlock]
  · have := (Array.getElem?_eq_some_iff.1 h1).1
    simp only [Value.ownBlock, ne_eq, Option.some.injEq]; omega
/-- An own row lies in no block of another type. -/
theorem orow_type {size : Nat} {xs : List Value} (h : w.ownsRow base e size v n xs) {g : Nat} {t : TypeId} {cs : List Value} (hA : At w g t cs) (hne : t ≠ e) : some g ≠ v.ownBlock := by
  obtain ⟨_, ⟨rfl, _⟩ | ⟨g', cap, cur, rfl, h1, hg, _⟩⟩ := h
  · simp [Value.ownBlock]
  · simp only [Value.ownBlock, ne_eq, Option.some.injEq]
    rintro rfl
    unfold At at hA
    rw [hg] at hA
    simp only [Option.some.injEq, Obj.cells.injEq] at hA
    exact hne hA.2.1.symm
theorem below_orow {size : Nat} {xs : List Value} {a w2 : World} (hb : Below B a w) (h : w.ownsRow base e size v n xs) (hg : w.grownBy w2 v.ownBlock) (h1 : B ≤ w.heap.size) (h2 : B ≤ base) : Below B a w2 :=
  hb.grown hg h1 fun k hk => by
    obtain ⟨_, ⟨rfl, _⟩ | ⟨g', cap, cur, rfl, h3, _⟩⟩ := h
    · cases hk
    · simp only [Value.ownBlock, Option.some.injEq] at hk; omega
/-- 'append(v, x)' of one value of some cells onto an own row: the cells were laid in a block just ahead. -/
theorem wpList_append_many {P : Program} (w : World) {ops : Array Oper} {rest : List Oper} {o : Oper} {a : Act} {Q : Exit → Act → World → Prop} (hgd : Region.wanted o (yielded ops a.tmps) = true) (s x : Operand) (t : TypeId)
    (ho : o.op = .call { callee := .builtin .append, args := #[s, x], argTypes := #[t, t] })
    (base : Nat) (e : TypeId) (i : TypeInfo) (z : Value) (bytes sz : Nat) (hsz : 0 < sz) (ht : P.underlying t = some (.slice e)) (hi : P.info? e = some i) (hz : i.zero = some z)
    (hsize : i.size = sz) (hby : i.bytes = bytes) (hzs : z.cells.size = sz) (v : Value) (n : Nat) (xs : List Value) (hs : a.eval s = v) (hown : w.ownsRow base e sz v n xs)
    (news : List Value) (hm : news.length = sz) (g : Nat) (hg : g = w.heap.size) (hx : a.eval x = .slice (some ⟨g, 0, none⟩) 1 1) (h1 : news.all Value.oneCell' = true)
    (h63 : n + 1 ≤ maxLen) (hbytes : (n + 1) * bytes ≤ 140737488355328) (hbase : base ≤ w.heap.size)
    (h : ∀ v' w', w'.ownsRow base e sz v' (n + 1) (xs ++ news) → w.grownBy w' v.ownBlock → wpList P ops Q rest (a.put o.dst v') w') : wpList P ops Q (o :: rest) a (w.alloc (.cells news.toArray e)) := by
  subst hg
  refine wpList_wanted hgd fun K hK => ?_
  have hown' : (w.alloc (.cells news.toArray e)).ownsRow base e sz v n xs := orow_below hown ((Below.refl _ w).alloc (Nat.le_refl _) _)
  obtain ⟨v', w', hrun, h2, h3, _⟩ := run_append_own (P := P) (w.alloc (.cells news.toArray e)) base t o.type e i z sz bytes ht hi hz hsize hby hzs hsz v n xs hown' ⟨w.heap.size, 0, none⟩ 1 1 news (by omega)
    (fun j u hu => by rw [add_none, (At.new w e news).cell, Nat.zero_add]; exact hu) (one_cells _ h1) h63 hbytes (by simp; omega)
  unfold Oper.wp execOp
  simp only [ho, resolve, invoke, builtin, Sem.run_bind, Sem.run_pure, Result.andThen_ok, List.map_toArray, List.map_cons, List.map_nil, hs, hx, hrun]
  exact hK _ _ (h v' w' h2 (grown_trans (grown_below ((Below.refl _ w).alloc (Nat.le_refl _) _) _) h3))
end

/-- Another block has turned. -/
theorem orow_kept {w w' : World} {base : Nat} {e : TypeId} {v : Value} {n size g : Nat} {xs : List Value} (h : w.ownsRow base e size v n xs) (hg : w.grownBy w' (some g)) (hlt : g < base) : w'.ownsRow base e size v n xs :=
  h.kept hg (.inr (orow_far h hlt).symm)
theorem orow_mono {w : World} {base base' : Nat} {e : TypeId} {v : Value} {n size : Nat} {xs : List Value} (h : w.ownsRow base e size v n xs) (hb : base' ≤ base) : w.ownsRow base' e size v n xs := by
  obtain ⟨hl, h | ⟨g, cap, cur, rfl, h1, h2⟩⟩ := h
  · exact ⟨hl, .inl h⟩
  · exact ⟨hl, .inr ⟨g, cap, cur, rfl, by omega, h2⟩⟩
/-- An own row has turned: what lies ahead of it is as it was. -/
theorem grown_orow {a b c : World} {base : Nat} {e : TypeId} {v : Value} {n size : Nat} {xs : List Value} {row : Option Nat} (h : a.grownBy b row) (ho : b.ownsRow base e size v n xs) (hg : b.grownBy c v.ownBlock) (hb : a.heap.size ≤ base) : a.grownBy c row :=
  ⟨hg.os.trans h.os, hg.tape.trans h.tape, hg.output.trans h.output, Nat.le_trans h.size hg.size, fun i hi hne => (hg.block i (by have := h.size; omega) (orow_far ho (by omega))).trans (h.block i hi hne)⟩
end Go.Proofs.YtbdbcalmjbmflaaGreatDoor
namespace Go.Proofs.YtbdbcalmjbmflaaGreatDoor
open Go.RowKit

theorem insinfo : (Tryz.prog.info? 187).map (fun i => (i.zero, i.size, i.bytes)) = some (some (insV 0 0 0 false 0 0), 8, 96) := by kernel_rfl

/-- Instructions one behind the other, from a place on. -/
def allGo (xs : List Int) : Nat → Int → Option (List Ins)
  | 0, _ => none
  | f + 1, a => if (xs.length : Int) ≤ a then some [] else
    match insI xs a with
    | none => none
    | some I => (allGo xs f (a + I.len)).map (I :: ·)
def allI (xs : List Int) : Option (List Ins) := if xs.length == 0 || 4096 < xs.length then none else allGo xs (xs.length + 1) 0

theorem ins_len {xs : List Int} {a : Int} {I : Ins} (h : insI xs a = some I) : 1 ≤ I.len ∧ a + I.len ≤ xs.length ∧ I.place = a ∧ 0 ≤ a := by
  unfold insI at h
  dsimp only at h
  by_cases hout : (decide (a < 0) || decide ((xs.length : Int) ≤ a)) = true
  · rw [if_pos hout] at h; cases h
  · rw [if_neg hout] at h
    have hout2 : 0 ≤ a ∧ a < xs.length := by simpa using hout
    obtain ⟨p, rfl⟩ := Int.eq_ofNat_of_zero_le hout2.1
    rw [Int.toNat_natCast] at h
    have hp : p < xs.length := by omega
    split at h
    · cases h
    split at h
    · unfold wideI at h
      dsimp only at h
      generalize (b1 xs (p + 1) == 132) = t at h
      cases t
      all_goals
        simp only [Bool.false_eq_true, if_true, if_false] at h
        split at h
        · cases h
        · rename_i hc
          simp only [Bool.or_eq_true, decide_eq_true_eq, not_or] at hc
          cases h
          dsimp only
          omega
    split at h
    · unfold tabI at h
      dsimp only at h
      have := padE_bd p
      split at h
      · cases h
      rename_i hc
      simp only [Bool.or_eq_true, decide_eq_true_eq, not_or] at hc
      split at h
      · cases h
      split at h
      · cases h
      split at h
      · cases h
      cases h
      dsimp only
      omega
    split at h
    · unfold lookI at h
      dsimp only at h
      have := padE_bd p
      split at h
      · cases h
      rename_i hc
      simp only [Bool.or_eq_true, decide_eq_true_eq, not_or] at hc
      split at h
      · cases h
      split at h
      · cases h
      split at h
      · cases h
      split at h
      · cases h
        dsimp only
        omega
      · cases h
    unfold plainI at h
    split at h
    · cases h
    cases ho : operands (shapeT (b1 xs p)) (b1 xs p) p ((xs.drop (p + 1)).take (opB (shapeT (b1 xs p)))) with
    | none => rw [ho] at h; cases h
    | some x =>
      rw [ho] at h
      cases h
      dsimp only
      omega
end Go.Proofs.YtbdbcalmjbmflaaGreatDoor
namespace Go.Proofs.YtbdbcalmjbmflaaGreatDoor
open Go.RowKit

/-- An instruction's cells, with its two lists. -/
def insCV (x : Ins × Value × Value) : List Value := [.int .i64 x.1.place, .int .i64 x.1.len, .int .i64 x.1.op, .bool x.1.wide, .int .i64 x.1.a, .int .i64 x.1.b, x.2.1, x.2.2]
def cellsI (L : List (Ins × Value × Value)) : List Value := L.flatMap insCV
def NumsAll (w : World) (base : Nat) (L : List (Ins × Value × Value)) : Prop := ∀ x ∈ L, Nums w base .i64 3 x.2.1 x.1.to ∧ Nums w base .i64 2 x.2.2 x.1.keys
def AllR (w w' : World) (e : Ending) (r : Option (List Ins)) : Prop :=
  (match r with
    | some l => ∃ V L, e = .returned (.tuple #[V, .bool true]) ∧ L.map Prod.fst = l ∧ w'.ownsRow w.heap.size 187 8 V L.length (cellsI L) ∧ NumsAll w' w.heap.size L
    | none => e = .returned (.tuple #[.slice none 0 0, .bool false])) ∧ Below w.heap.size w w'

theorem NumsAll.below {w w' : World} {base : Nat} {L : List (Ins × Value × Value)} (h : NumsAll w base L) (hb : Below w.heap.size w w') : NumsAll w' base L := fun x hx =>
  ⟨(h x hx).1.keep (Nat.le_refl _) fun _ _ _ hA => hA.below hb hA.lt, (h x hx).2.keep (Nat.le_refl _) fun _ _ _ hA => hA.below hb hA.lt⟩
theorem Nums.grown {w w' : World} {base : Nat} {k : IntKind} {t : TypeId} {V : Value} {xs : List Int} {row : Option Nat} (h : Nums w base k t V xs) (hg : w.grownBy w' row) (hr : ∀ g cs, At w g t cs → some g ≠ row) : Nums w' base k t V xs :=
  h.keep (Nat.le_refl _) fun g cs _ hA => hA.grown hg (hr g cs hA)

theorem allI_len {xs : List Int} {n : Nat} (h : xs.length = n) : allI xs = if n == 0 || 4096 < n then none else allGo xs (n + 1) 0 := by rw [← h]; rfl

theorem all_none (A : Option Addr) (n c : Nat) (w : World) (h : n = 0 ∨ 4096 < n) :
    Calls Tryz.prog 101 #[.slice A n c] w fun e w' => AllR w w' e none := by
  by_cases h0 : n = 0
  · clear h
    have hd : ((n : Int) == 0) = true := by simp; omega
    go_enter Tryz.func101, Tryz.ntmps101
    go_wp2_with fail
    go_ret2
    exact ⟨rfl, Below.refl _ _⟩
  · have h1 : 4096 < n := by omega
    have h2 : (4096 : Int) < n := by omega
    have hd : ((n : Int) == 0) = false := by simp; omega
    clear h h0
    go_enter Tryz.func101, Tryz.ntmps101
    go_wp2_with fail
    go_ret2
    exact ⟨rfl, Below.refl _ _⟩

set_option maxHeartbeats 2000000 in
set_option maxRecDepth 100000 in
theorem all_some (A : Option Addr) (n c : Nat) (xs : List Int) (w : World) (B : Nat) (h : Rd w B A n (bys xs)) (hB : B ≤ w.heap.size) (hb : IsBytes xs) (hc : n ≤ c) (hn : n ≤ 4096) (h0 : n ≠ 0) :
    Calls Tryz.prog 101 #[.slice A n c] w fun e w' => AllR w w' e (allGo xs (n + 1) 0) := by
  have hxl : xs.length = n := by have := h.1; rwa [bys_len] at this
  have HA : Hid (∀ W (a : Int), Below w.heap.size w W → Calls Tryz.prog 126 #[.slice A n c, .int .i64 a] W fun e w' => InsR W w' e (insI xs a)) := hide fun W a hW => iat_any A n c a xs W B (h.below (hW.mono hB)) (by have := hW.size; omega) hb hc (by omega)
  obtain ⟨i0, hi0, iz0, iz1, iz2⟩ := info_parts insinfo
  obtain ⟨D, hD⟩ : ∃ D, allGo xs (n + 1) 0 = D := ⟨_, rfl⟩
  rw [hD]
  have HD := hide hD
  have hd : ((n : Int) == 0) = false := by simp; omega
  have hd2 : ¬ ((4096 : Int) < n) := by omega
  clear h hD
  go_enter Tryz.func101, Tryz.ntmps101
  go_wp2_with fail
  go_loopw [4, 5] (fun v iv wr => ∃ (a f : Nat) (L : List (Ins × Value × Value)), a ≤ n ∧ n - a < f ∧ L.length ≤ a ∧ iv = .int .i64 a ∧ wr.ownsRow w.heap.size 187 8 v L.length (cellsI L) ∧ NumsAll wr w.heap.size L ∧ Below w.heap.size w wr ∧ D = (allGo xs f a).map (L.map Prod.fst ++ ·)) (fun _ iv _ => n - (intOf iv).toNat)
  case atStart =>
    refine ⟨0, n + 1, [], by omega, by omega, Nat.le_refl _, rfl, ⟨rfl, .inl ⟨rfl, rfl⟩⟩, fun x hx => (by cases hx), Below.refl _ _, ?_⟩
    rw [← HD.out]
    show allGo xs (n + 1) 0 = (allGo xs (n + 1) 0).map _
    cases allGo xs (n + 1) 0 <;> rfl
  case round =>
    obtain ⟨a, f, L, ha, hf, hLa, rfl, hown, hnums, hbel, hDD⟩ := hrel
    have Hown := hide hown
    have Hnums := hide hnums
    have Hbel := hide hbel
    have HDD := hide hDD
    have hz := hbel.size
    clear hown hnums hbel hDD HD
    obtain ⟨f, rfl⟩ : ∃ f', f = f' + 1 := ⟨f - 1, by omega⟩
    by_cases hlt : a < n
    · have hlt' : (a : Int) < (n : Int) := by omega
      have HC := hide (HA.out wr a Hbel.out)
      have hstep : allGo xs (f + 1) a = match insI xs a with | none => none | some I => (allGo xs f (a + I.len)).map (I :: ·) := by
        show (if (xs.length : Int) ≤ a then _ else _) = _
        rw [if_neg (by omega)]
        all_goals rfl
      have hil := @ins_len xs a
      generalize insI xs a = r at *
      cases r with
      | none =>
        have HDn : Hid (D = none) := hide (by rw [HDD.out, hstep]; rfl)
        clear hstep hil
        go_wp2_with fail
        refine HC.out.mono ?_
        rintro e w2 ⟨rfl, hb2⟩
        have HB2 := hide (Hbel.out.trans (hb2.mono hz))
        unfold noV6 insV
        go_wp2_with fail
        go_ret2
        refine ⟨by rw [HDn.out]; rfl, ?_⟩
        have hbb : Below w.heap.size w w2 := HB2.out
        have hz2 := hbb.size
        repeat (first | with_reducible exact hbb | with_reducible refine Below.drew ?_ | with_reducible refine below_drewN ?_ _ | ((with_reducible refine Below.setCell ?_ ?hp _); case hp => simp) | ((with_reducible refine Below.alloc ?_ ?hp _); case hp => first | omega | (simp; done) | (simp; omega)))
      | some I =>
        obtain ⟨hl1, hl2, hl3, -⟩ := hil rfl
        have HDs : Hid (D = (allGo xs f (a + I.len)).map ((L.map Prod.fst ++ [I]) ++ ·)) := hide (by
          rw [HDD.out, hstep]
          show Option.map _ (Option.map _ _) = _
          rw [Option.map_map]
          congr 1
          funext y
          simp)
        clear hstep hil
        rw [hxl] at hl2
        go_wp2_with fail
        refine HC.out.mono ?_
        rintro e w2 ⟨⟨v, rfl, T, K, rfl, hT, hK⟩, hb2⟩
        obtain ⟨ta, tl, tc, rfl⟩ := hT.shape
        obtain ⟨ka, kl, kc, rfl⟩ := hK.shape
        have HN2 : Hid (NumsAll w2 w.heap.size (L ++ [(I, .slice ta tl tc, .slice ka kl kc)])) := hide (by
          intro x hx
          rcases List.mem_append.1 hx with hx | hx
          · exact Hnums.out.below hb2 x hx
          · obtain rfl := List.mem_singleton.1 hx
            exact ⟨hT.keep hz fun _ _ _ hA => hA, hK.keep hz fun _ _ _ hA => hA⟩)
        have HB2 := hide (Hbel.out.trans (hb2.mono hz))
        have HO2 := hide (orow_below Hown.out hb2)
        have hz2 := HB2.out.size
        clear hT hK hb2 Hown Hnums Hbel HC HDD
        have HE : Hid (cellsI (L ++ [(I, .slice ta tl tc, .slice ka kl kc)]) = cellsI L ++ [.int .i64 (a : Int), .int .i64 I.len, .int .i64 I.op, .bool I.wide, .int .i64 I.a, .int .i64 I.b, .slice ta tl tc, .slice ka kl kc]) := hide (by simp [cellsI, insCV, hl3])
        have HO3 := hide (orow_below HO2.out ((Below.refl _ w2).alloc (Nat.le_refl _) (.cells #[.int .i64 (a : Int), .int .i64 I.len, .int .i64 I.op, .bool I.wide, .int .i64 I.a, .int .i64 I.b, .slice ta tl tc, .slice ka kl kc] 187)))
        have HA3 := hide (At.new w2 187 [.int .i64 (a : Int), .int .i64 I.len, .int .i64 I.op, .bool I.wide, .int .i64 I.a, .int .i64 I.b, .slice ta tl tc, .slice ka kl kc])
        have HB3 := hide (HB2.out.alloc hz2 (.cells #[.int .i64 (a : Int), .int .i64 I.len, .int .i64 I.op, .bool I.wide, .int .i64 I.a, .int .i64 I.b, .slice ta tl tc, .slice ka kl kc] 187))
        have HN3 := hide (HN2.out.below ((Below.refl _ w2).alloc (Nat.le_refl _) (.cells #[.int .i64 (a : Int), .int .i64 I.len, .int .i64 I.op, .bool I.wide, .int .i64 I.a, .int .i64 I.b, .slice ta tl tc, .slice ka kl kc] 187)))
        have HQ := hide (orow_new HO2.out (Nat.le_refl w2.heap.size))
        clear HB2 HO2 HN2
        go_wp2_with (at_builtin; go_loud (refine wpList_append_many _ rfl (.tmp 28) (.tmp 30) 153 rfl w.heap.size 187 i0 _ 96 8 (by omega) Tryz.underlying153 hi0 iz0 iz1 iz2 rfl _ _ _ rfl HO3.out [.int .i64 (a : Int), .int .i64 I.len, .int .i64 I.op, .bool I.wide, .int .i64 I.a, .int .i64 I.b, .slice ta tl tc, .slice ka kl kc] rfl _ (by simp) rfl rfl (by unfold maxLen; omega) (by omega) (by simp; omega) ?_); intro v2 w3 hown3 hg3; have hq := (HA3.out.grown hg3 HQ.out).cell 1; simp only [List.getElem?_cons_succ, List.getElem?_cons_zero] at hq; have Hg3 := hide hg3; have Ho3 := hide hown3; clear hg3 hown3)
        have HB4 := hide (below_orow (B := w.heap.size) HB3.out HO3.out Hg3.out (by simp; omega) (Nat.le_refl _))
        have HN4 : Hid (NumsAll w3 w.heap.size (L ++ [(I, .slice ta tl tc, .slice ka kl kc)])) := hide fun x hx => by
          have h1 := HN3.out x hx
          have hO4 := HO3.out
          exact ⟨h1.1.grown Hg3.out fun g cs hA => orow_type hO4 hA (by decide), h1.2.grown Hg3.out fun g cs hA => orow_type hO4 hA (by decide)⟩
        clear HO3 HA3 HB3 HN3 HQ Hg3
        go_roundw
        case rel =>
          obtain ⟨m, hm⟩ := Int.eq_ofNat_of_zero_le (show 0 ≤ (a : Int) + I.len by omega)
          refine ⟨m, f, L ++ [(I, .slice ta tl tc, .slice ka kl kc)], by omega, by omega, by simp; omega, by rw [← hm], ?_, HN4.out, HB4.out, ?_⟩
          · rw [HE.out, List.length_append]
            exact Ho3.out
          · rw [HDs.out, hm, List.map_append]
            rfl
        case measure => simp [intOf]; omega
    · obtain rfl : a = n := by omega
      have HDe : Hid (D = some (L.map Prod.fst)) := hide (by
        rw [HDD.out]
        show Option.map _ (if (xs.length : Int) ≤ a then _ else _) = _
        rw [if_pos (by omega)]
        simp)
      go_wp2_with fail
      go_ret2
      refine ⟨?_, Hbel.out⟩
      rw [HDe.out]
      exact ⟨_, L, rfl, rfl, Hown.out, Hnums.out⟩

theorem iall_any (A : Option Addr) (n c : Nat) (xs : List Int) (w : World) (B : Nat) (h : Rd w B A n (bys xs)) (hB : B ≤ w.heap.size) (hb : IsBytes xs) (hc : n ≤ c) :
    Calls Tryz.prog 101 #[.slice A n c] w fun e w' => AllR w w' e (allI xs) := by
  have hxl : xs.length = n := by have := h.1; rwa [bys_len] at this
  rw [allI_len hxl]
  by_cases h0 : n = 0 ∨ 4096 < n
  · rw [if_pos (by simpa using h0)]
    exact all_none A n c w h0
  · rw [if_neg (by simpa using h0)]
    exact all_some A n c xs w B h hB hb hc (by omega) (by omega)
end Go.Proofs.YtbdbcalmjbmflaaGreatDoor
namespace Go.Proofs.YtbdbcalmjbmflaaGreatDoor
open Go.RowKit

set_option maxRecDepth 100000 in
theorem jumps_177 (w : World) : Calls Tryz.prog 151 #[.int .i64 177] w fun e w' => e = .returned (.bool false) ∧ w = w' := by
  go_enter Tryz.func151, Tryz.ntmps151
  go_wp2_with fail
  go_ret
  exact ⟨rfl, rfl⟩
set_option maxRecDepth 100000 in
theorem localWords_177 (w : World) : Calls Tryz.prog 153 #[.int .i64 177] w fun e w' => e = .returned (.int .i64 0) ∧ w = w' := by
  go_enter Tryz.func153, Tryz.ntmps153
  go_wp2_with fail
  go_ret
  exact ⟨rfl, rfl⟩
theorem boolinfo : (Tryz.prog.info? 4).map (fun i => (i.zero, i.size, i.bytes)) = some (some (.bool false), 1, 1) := by kernel_rfl
theorem make_bool1 (W : World) : (Instr.makeSlice 156 (.int .i64 1) (.int .i64 1)).run Tryz.prog W = .ok (.slice (some ⟨W.heap.size, 0, none⟩) 1 1) (W.alloc (.cells #[.bool false] 4)) := by
  obtain ⟨i0, hi0, iz0, iz1, iz2⟩ := info_parts boolinfo
  have := run_make (P := Tryz.prog) W 156 4 i0 _ Tryz.underlying156 hi0 iz0 .i64 .i64 (1 : Int) (1 : Int) (by omega) (by omega) (by rw [iz2]; omega) (by omega)
  have e : madeCells (Value.bool false).cells (Int.toNat 1 * 1) = #[.bool false] := by
    apply Array.toList_inj.1
    simp [madeCells, Value.cells, List.range, List.range.loop]
  rw [this, iz1, e]
  rfl
/-- The cells of the one instruction. -/
def retCells (aT : Option Addr) (nT cT : Nat) (aK : Option Addr) (nK cK : Nat) : List Value := [.int .i64 0, .int .i64 1, .int .i64 177, .bool false, .int .i64 0, .int .i64 0, .slice aT nT cT, .slice aK nK cK]
set_option maxHeartbeats 4000000 in
set_option maxRecDepth 100000 in
theorem rulesOf_1 (aT aK : Option Addr) (nT cT nK cK : Nat) (ab : Option Addr) (cb : Nat) (gi ci : Nat) (Ap : Option Addr) (np cp : Nat) (major : Int) (w : World) (hi : ∀ j u, (retCells aT nT cT aK nK cK)[j]? = some u → w.cell? ⟨gi, j, none⟩ = some u) (hlt : gi < w.heap.size) :
    Calls Tryz.prog 102 #[.agg #[.int .i64 1, .int .i64 1, .slice ab 1 cb, .slice none 0 0, .slice none 0 0], .slice (some ⟨gi, 0, none⟩) 1 ci, .slice Ap np cp, .int .i64 major] w fun e w' => ∃ gb M, e = .returned (.agg #[.slice Ap np cp, .int .i64 major, .int .i64 1, .slice (some ⟨gb, 0, none⟩) 1 1, .map M]) ∧ Below w.heap.size w w' := by
  have hmk := make_bool1
  have hmm : ∀ W : World, (Instr.makeMap 157 none).run Tryz.prog W = .ok (.map (some W.heap.size)) (W.alloc (.map #[] 0)) := fun _ => rfl
  have i0 : w.cell? ⟨gi, 0, none⟩ = some (.int .i64 0) := hi 0 _ rfl
  have i1 : w.cell? ⟨gi, 1, none⟩ = some (.int .i64 1) := hi 1 _ rfl
  have i2 : w.cell? ⟨gi, 2, none⟩ = some (.int .i64 177) := hi 2 _ rfl
  have i3 : w.cell? ⟨gi, 3, none⟩ = some (.bool false) := hi 3 _ rfl
  have i4 : w.cell? ⟨gi, 4, none⟩ = some (.int .i64 0) := hi 4 _ rfl
  have i5 : w.cell? ⟨gi, 5, none⟩ = some (.int .i64 0) := hi 5 _ rfl
  have i6 : w.cell? ⟨gi, 6, none⟩ = some (.slice aT nT cT) := hi 6 _ rfl
  have i7 : w.cell? ⟨gi, 7, none⟩ = some (.slice aK nK cK) := hi 7 _ rfl
  clear hi
  have HB0 := hide ((Below.refl w.heap.size w).alloc (Nat.le_refl _) (.cells #[.int .i64 1, .int .i64 1, .slice ab 1 cb, .slice none 0 0, .slice none 0 0] 45))
  go_enter Tryz.func102, Tryz.ntmps102
  have HA := hide (((At.new w 45 [.int .i64 1, .int .i64 1, .slice ab 1 cb, .slice none 0 0, .slice none 0 0]).alloc (.cells #[.slice none 0 0, .int .i64 0, .int .i64 0, .slice none 0 0, .map none] 159)).alloc (.cells #[.bool false] 4))
  have HR := hide ((At.new (w.alloc (.cells #[.int .i64 1, .int .i64 1, .slice ab 1 cb, .slice none 0 0, .slice none 0 0] 45)) 159 [.slice none 0 0, .int .i64 0, .int .i64 0, .slice none 0 0, .map none]).alloc (.cells #[.bool false] 4))
  have HG := hide (At.new ((w.alloc (.cells #[.int .i64 1, .int .i64 1, .slice ab 1 cb, .slice none 0 0, .slice none 0 0] 45)).alloc (.cells #[.slice none 0 0, .int .i64 0, .int .i64 0, .slice none 0 0, .map none] 159)) 4 [.bool false])
  have HB := hide ((HB0.out.alloc (by (first | omega | (simp only [World.size_alloc]; omega) | (simp; done) | (simp; omega))) (.cells #[.slice none 0 0, .int .i64 0, .int .i64 0, .slice none 0 0, .map none] 159)).alloc (by (first | omega | (simp only [World.size_alloc]; omega) | (simp; done) | (simp; omega))) (.cells #[.bool false] 4))
  have hz : (((w.alloc (.cells #[.int .i64 1, .int .i64 1, .slice ab 1 cb, .slice none 0 0, .slice none 0 0] 45)).alloc (.cells #[.slice none 0 0, .int .i64 0, .int .i64 0, .slice none 0 0, .map none] 159)).alloc (.cells #[.bool false] 4)).heap.size = w.heap.size + 3 := by simp
  simp only [World.size_alloc] at HR HG
  go_wp2_with fail
  generalize (((w.alloc (.cells #[.int .i64 1, .int .i64 1, .slice ab 1 cb, .slice none 0 0, .slice none 0 0] 45)).alloc (.cells #[.slice none 0 0, .int .i64 0, .int .i64 0, .slice none 0 0, .map none] 159)).alloc (.cells #[.bool false] 4)) = wa at *
  generalize hq : w.heap.size = q at *
  go_loopw [18] (fun iv wr => (iv = .int .i64 0 ∧ wr = wa) ∨ (iv = .int .i64 1 ∧ At wr q 45 [.int .i64 1, .int .i64 1, .slice ab 1 cb, .slice none 0 0, .slice none 0 0] ∧ At wr (q + 1) 159 [.slice none 0 0, .int .i64 0, .int .i64 0, .slice none 0 0, .map none] ∧ Below q w wr ∧ q + 3 ≤ wr.heap.size)) (fun iv _ => 1 - (intOf iv).toNat)
  case atStart => exact .inl ⟨rfl, rfl⟩
  case round =>
    rcases hrel with ⟨rfl, rfl⟩ | ⟨rfl, ha, hr, hbel, hz2⟩
    · have hc : ∀ o, wr.cell? ⟨gi, o, none⟩ = w.cell? ⟨gi, o, none⟩ := fun o => HB.out.cell (p := ⟨gi, o, none⟩) hlt
      rw [← hc] at i0 i1 i2 i3 i4 i5 i6 i7
      have f0 : wr.frozen? ⟨q + 1 + 1, 0, none⟩ = false := HG.out.free 0
      have b0 : wr.cell? ⟨q + 1 + 1, 0, none⟩ = some (.bool false) := HG.out.cell 0
      have hgi : gi < wr.heap.size := by omega
      have hne1 : wr.heap.size ≠ q + 1 + 1 := by omega
      have hne2 : q + 1 + 1 ≠ wr.heap.size := by omega
      have HA2 := hide ((HA.out.far (p := ⟨q + 1 + 1, 0, none⟩) (by simp; omega) (.bool true)).alloc (.cells (retCells aT nT cT aK nK cK).toArray 187))
      have HR2 := hide ((HR.out.far (p := ⟨q + 1 + 1, 0, none⟩) (show q + 1 ≠ q + 1 + 1 by omega) (.bool true)).alloc (.cells (retCells aT nT cT aK nK cK).toArray 187))
      have HB2 := hide ((HB.out.setCell (p := ⟨q + 1 + 1, 0, none⟩) (show q ≤ q + 1 + 1 by omega) (.bool true)).alloc (by simp; omega) (.cells (retCells aT nT cT aK nK cK).toArray 187))
      clear hc
      go_wp2_with fail
      refine ⟨.inr ⟨rfl, HA2.out, HR2.out, HB2.out, by simp; omega⟩, by simp [intOf]⟩
    · have HB2 := hide hbel
      have HA2 := hide ha
      have HR2 := hide hr
      have a1 : wr.cell? ⟨q, 1, none⟩ = some (.int .i64 1) := ha.cell 1
      have r0 : wr.cell? ⟨q + 1, 0, none⟩ = some (.slice none 0 0) := hr.cell 0
      have r1 : wr.cell? ⟨q + 1, 1, none⟩ = some (.int .i64 0) := hr.cell 1
      have r2 : wr.cell? ⟨q + 1, 2, none⟩ = some (.int .i64 0) := hr.cell 2
      have r3 : wr.cell? ⟨q + 1, 3, none⟩ = some (.slice none 0 0) := hr.cell 3
      have r4 : wr.cell? ⟨q + 1, 4, none⟩ = some (.map none) := hr.cell 4
      have f0 : wr.frozen? ⟨q + 1, 0, none⟩ = false := hr.free 0
      have f1 : wr.frozen? ⟨q + 1, 1, none⟩ = false := hr.free 1
      have f2 : wr.frozen? ⟨q + 1, 2, none⟩ = false := hr.free 2
      have f3 : wr.frozen? ⟨q + 1, 3, none⟩ = false := hr.free 3
      have f4 : wr.frozen? ⟨q + 1, 4, none⟩ = false := hr.free 4
      have s0 : (wr.alloc (.map #[] 0)).cell? ⟨q + 1, 0, none⟩ = some (.slice none 0 0) := (hr.alloc (.map #[] 0)).cell 0
      have g0 : (wr.alloc (.map #[] 0)).frozen? ⟨q + 1, 0, none⟩ = false := (hr.alloc (.map #[] 0)).free 0
      have s1 : (wr.alloc (.map #[] 0)).cell? ⟨q + 1, 1, none⟩ = some (.int .i64 0) := (hr.alloc (.map #[] 0)).cell 1
      have g1 : (wr.alloc (.map #[] 0)).frozen? ⟨q + 1, 1, none⟩ = false := (hr.alloc (.map #[] 0)).free 1
      have s2 : (wr.alloc (.map #[] 0)).cell? ⟨q + 1, 2, none⟩ = some (.int .i64 0) := (hr.alloc (.map #[] 0)).cell 2
      have g2 : (wr.alloc (.map #[] 0)).frozen? ⟨q + 1, 2, none⟩ = false := (hr.alloc (.map #[] 0)).free 2
      have s3 : (wr.alloc (.map #[] 0)).cell? ⟨q + 1, 3, none⟩ = some (.slice none 0 0) := (hr.alloc (.map #[] 0)).cell 3
      have g3 : (wr.alloc (.map #[] 0)).frozen? ⟨q + 1, 3, none⟩ = false := (hr.alloc (.map #[] 0)).free 3
      have s4 : (wr.alloc (.map #[] 0)).cell? ⟨q + 1, 4, none⟩ = some (.map none) := (hr.alloc (.map #[] 0)).cell 4
      have g4 : (wr.alloc (.map #[] 0)).frozen? ⟨q + 1, 4, none⟩ = false := (hr.alloc (.map #[] 0)).free 4
      clear hbel ha hr r0 r1 r2 r3 r4 f0 f1 f2 f3 f4
      have hn1 : q + 1 ≠ wr.heap.size := by omega
      have hn2 : wr.heap.size ≠ q + 1 := by omega
      go_wp2_with fail
      refine bodyPost_ret (v := .agg #[.slice Ap np cp, .int .i64 major, .int .i64 1, .slice (some ⟨q + 1 + 1, 0, none⟩) 1 1, .map (some wr.heap.size)]) ?_ rfl ⟨_, _, rfl, ?_⟩
      · simp [results, Tryz.results102, go_sem, World.cell?_setCell_other, s0, s1, s2, s3, s4]
      · rw [hq]
        repeat (first | with_reducible exact HB2.out | with_reducible refine Below.drew ?_ | with_reducible refine below_drewN ?_ _ | ((with_reducible refine Below.setCell ?_ ?hp _); case hp => simp) | ((with_reducible refine Below.alloc ?_ ?hp _); case hp => first | omega | (simp; done) | (simp; omega)))

/-! ### the sizes, the one instruction, no rows -/
set_option maxRecDepth 100000 in
theorem sizes_1 (a : Int) (ha : a ≤ 1) (v2 v3 v4 : Option Addr) (n2 c2 n3 c3 n4 c4 : Nat) (w : World) :
    Calls Tryz.prog 100 #[.agg #[.int .i64 1, .int .i64 1, .slice v2 n2 c2, .slice v3 n3 c3, .slice v4 n4 c4], .int .i64 a] w fun e w' => e = .returned (.bool true) ∧ Below w.heap.size w w' := by
  go_enter Tryz.func100, Tryz.ntmps100
  go_wp2_with fail
  go_ret
  exact ⟨rfl, by repeat (first | with_reducible exact Below.refl _ _ | with_reducible refine Below.drew ?_ | with_reducible refine below_drewN ?_ _ | ((with_reducible refine Below.setCell ?_ ?hp _); case hp => simp) | ((with_reducible refine Below.alloc ?_ ?hp _); case hp => first | omega | (simp; done) | (simp; omega)))⟩
set_option maxHeartbeats 4000000 in
set_option maxRecDepth 100000 in
theorem allow_177 (aT aK : Option Addr) (nT cT nK cK : Nat) (Ap : Option Addr) (np cp : Nat) (major : Int) (Ab : Option Addr) (nb cb : Nat) (M : Option Nat) (w : World) :
    Calls Tryz.prog 127 #[.agg #[.slice Ap np cp, .int .i64 major, .int .i64 1, .slice Ab nb cb, .map M], .agg #[.int .i64 0, .int .i64 1, .int .i64 177, .bool false, .int .i64 0, .int .i64 0, .slice aT nT cT, .slice aK nK cK]] w fun e w' => e = .returned (.bool true) ∧ Below w.heap.size w w' := by
  have HJ := hide jumps_177
  have HL := hide localWords_177
  go_enter Tryz.func127, Tryz.ntmps127
  go_wp2_with (first
    | (go_at_call 151; refine (HJ.out _).mono ?_; rintro e w1 ⟨rfl, rfl⟩)
    | (go_at_call 153; refine (HL.out _).mono ?_; rintro e w1 ⟨rfl, rfl⟩))
  go_ret
  exact ⟨rfl, by repeat (first | with_reducible exact Below.refl _ _ | with_reducible refine Below.drew ?_ | with_reducible refine below_drewN ?_ _ | ((with_reducible refine Below.setCell ?_ ?hp _); case hp => simp) | ((with_reducible refine Below.alloc ?_ ?hp _); case hp => first | omega | (simp; done) | (simp; omega)))⟩
set_option maxHeartbeats 4000000 in
set_option maxRecDepth 100000 in
theorem hold_1 (aT aK : Option Addr) (nT cT nK cK : Nat) (Ap : Option Addr) (np cp : Nat) (major : Int) (Ab : Option Addr) (nb cb : Nat) (M : Option Nat) (gi ci : Nat) (w : World) (hi : ∀ j u, (retCells aT nT cT aK nK cK)[j]? = some u → w.cell? ⟨gi, j, none⟩ = some u) (hlt : gi < w.heap.size) :
    Calls Tryz.prog 103 #[.agg #[.slice Ap np cp, .int .i64 major, .int .i64 1, .slice Ab nb cb, .map M], .slice (some ⟨gi, 0, none⟩) 1 ci, .slice none 0 0] w fun e w' => e = .returned (.bool true) ∧ Below w.heap.size w w' := by
  have HAl := hide (allow_177 aT aK nT cT nK cK Ap np cp major Ab nb cb M)
  have HA0 := hide (At.new w 159 [.slice Ap np cp, .int .i64 major, .int .i64 1, .slice Ab nb cb, .map M])
  have HB0 := hide ((Below.refl w.heap.size w).alloc (Nat.le_refl _) (.cells #[.slice Ap np cp, .int .i64 major, .int .i64 1, .slice Ab nb cb, .map M] 159))
  have HI := hide hi
  clear hi
  go_enter Tryz.func103, Tryz.ntmps103
  go_wp2_with fail
  go_loopw [13] (fun iv wr => (iv = .int .i64 0 ∨ iv = .int .i64 1) ∧ At wr w.heap.size 159 [.slice Ap np cp, .int .i64 major, .int .i64 1, .slice Ab nb cb, .map M] ∧ Below w.heap.size w wr) (fun iv _ => 1 - (intOf iv).toNat)
  case atStart => exact ⟨.inl rfl, HA0.out, HB0.out⟩
  case round =>
    obtain ⟨hiv, ha, hbel⟩ := hrel
    have HA := hide ha
    have HB := hide hbel
    have hz := ha.lt
    rcases hiv with rfl | rfl
    · have i0 : wr.cell? ⟨gi, 0, none⟩ = some (.int .i64 0) := (hbel.cell (p := ⟨gi, 0, none⟩) hlt).trans (HI.out 0 _ rfl)
      have i1 : wr.cell? ⟨gi, 1, none⟩ = some (.int .i64 1) := (hbel.cell (p := ⟨gi, 1, none⟩) hlt).trans (HI.out 1 _ rfl)
      have i2 : wr.cell? ⟨gi, 2, none⟩ = some (.int .i64 177) := (hbel.cell (p := ⟨gi, 2, none⟩) hlt).trans (HI.out 2 _ rfl)
      have i3 : wr.cell? ⟨gi, 3, none⟩ = some (.bool false) := (hbel.cell (p := ⟨gi, 3, none⟩) hlt).trans (HI.out 3 _ rfl)
      have i4 : wr.cell? ⟨gi, 4, none⟩ = some (.int .i64 0) := (hbel.cell (p := ⟨gi, 4, none⟩) hlt).trans (HI.out 4 _ rfl)
      have i5 : wr.cell? ⟨gi, 5, none⟩ = some (.int .i64 0) := (hbel.cell (p := ⟨gi, 5, none⟩) hlt).trans (HI.out 5 _ rfl)
      have i6 : wr.cell? ⟨gi, 6, none⟩ = some (.slice aT nT cT) := (hbel.cell (p := ⟨gi, 6, none⟩) hlt).trans (HI.out 6 _ rfl)
      have i7 : wr.cell? ⟨gi, 7, none⟩ = some (.slice aK nK cK) := (hbel.cell (p := ⟨gi, 7, none⟩) hlt).trans (HI.out 7 _ rfl)
      have a0 : wr.cell? ⟨w.heap.size, 0, none⟩ = some (.slice Ap np cp) := ha.cell 0
      have a1 : wr.cell? ⟨w.heap.size, 1, none⟩ = some (.int .i64 major) := ha.cell 1
      have a2 : wr.cell? ⟨w.heap.size, 2, none⟩ = some (.int .i64 1) := ha.cell 2
      have a3 : wr.cell? ⟨w.heap.size, 3, none⟩ = some (.slice Ab nb cb) := ha.cell 3
      have a4 : wr.cell? ⟨w.heap.size, 4, none⟩ = some (.map M) := ha.cell 4
      have hgw : gi < wr.heap.size := by have := hbel.size; omega
      clear ha hbel
      have HBA := hide ((Below.refl wr.heap.size wr).alloc (Nat.le_refl _) (.cells (retCells aT nT cT aK nK cK).toArray 187))
      go_wp2_with (go_at_call 127; refine (HAl.out _).mono ?_; rintro e w2 ⟨rfl, hb2⟩; have HBt := hide (HBA.out.trans (hb2.mono (by (first | omega | (simp only [World.size_alloc]; omega) | (simp; done) | (simp; omega))))); clear hb2)
      go_roundw
      case rel => exact ⟨.inr rfl, HA.out.below HBt.out hz, HB.out.trans (HBt.out.mono (Nat.le_of_lt hz))⟩
      case measure => simp [intOf]
    · clear ha hbel
      go_wp2_with fail
      go_loopw [24] (fun iv w2 => iv = .int .i64 0 ∧ w2 = wr) (fun _ _ => 0)
      case atStart => exact ⟨rfl, rfl⟩
      case round =>
        obtain ⟨rfl, rfl⟩ := hrel
        go_wp2_with fail
        go_ret
        exact ⟨rfl, HB.out⟩

/-! ### the parts -/
def B13 : List Int := [0, 1, 0, 1, 0, 0, 0, 1, 177, 0, 0, 0, 0]
theorem u2_at {g gb : Nat} {k : Nat} {w : World} (h : Cur w g gb B13 k false) (v : Int) (hv : be (got B13 k false 2) = v) (hk : went B13 k false 2 = k + 2) (hb : okd B13 k false 2 = true) :
    Calls Tryz.prog 23 #[.pointer (some ⟨g, 0, none⟩)] w fun e w' => e = .returned (.int .i64 v) ∧ Cur w' g gb B13 (k + 2) false ∧ w.grownBy w' (some g) :=
  u2_any g gb B13 k false w h v (k + 2) false hv hk (by rw [hb]; rfl)
set_option maxRecDepth 100000 in
theorem handlers_0 (g gb : Nat) (w : World) (h : Cur w g gb B13 9 false) :
    Calls Tryz.prog 124 #[.pointer (some ⟨g, 0, none⟩)] w fun e w' => e = .returned (.slice none 0 0) ∧ Cur w' g gb B13 11 false ∧ w.grownBy w' (some g) := by
  have HU := hide (u2_at h 0 rfl rfl rfl)
  clear h
  go_enter Tryz.func124, Tryz.ntmps124
  go_wp2_with fail
  refine HU.out.mono ?_
  rintro e w1 ⟨rfl, hc1, hg1⟩
  go_wp2_with fail
  go_loopw [3, 4] (fun v iv wr => v = .slice none 0 0 ∧ iv = .int .i64 0 ∧ wr = w1) (fun _ _ _ => 0)
  case atStart => exact ⟨rfl, rfl, rfl⟩
  case round =>
    obtain ⟨rfl, rfl, rfl⟩ := hrel
    go_wp2_with fail
    go_ret
    exact ⟨rfl, hc1, hg1⟩
set_option maxRecDepth 100000 in
theorem attrs_0 (g gb : Nat) (Ap : Option Addr) (np cp : Nat) (w : World) (h : Cur w g gb B13 11 false) :
    Calls Tryz.prog 125 #[.pointer (some ⟨g, 0, none⟩), .slice Ap np cp] w fun e w' => e = .returned (.tuple #[.slice none 0 0, .bool true]) ∧ Cur w' g gb B13 13 false ∧ w.grownBy w' (some g) := by
  have HU := hide (u2_at h 0 rfl rfl rfl)
  clear h
  go_enter Tryz.func125, Tryz.ntmps125
  go_wp2_with fail
  refine HU.out.mono ?_
  rintro e w1 ⟨rfl, hc1, hg1⟩
  go_wp2_with fail
  go_loopw [6, 7, 8] (fun v mv iv wr => v = .slice none 0 0 ∧ mv = .bool false ∧ iv = .int .i64 0 ∧ wr = w1) (fun _ _ _ _ => 0)
  case atStart => exact ⟨rfl, rfl, rfl, rfl⟩
  case round =>
    obtain ⟨rfl, rfl, rfl, rfl⟩ := hrel
    go_wp2_with fail
    go_ret2
    exact ⟨rfl, hc1, hg1⟩
end Go.Proofs.YtbdbcalmjbmflaaGreatDoor
namespace Go.Proofs.YtbdbcalmjbmflaaGreatDoor
open Go.RowKit

theorem b13_bytes : IsBytes B13 := fun x hx => by
  simp only [B13, List.mem_cons, List.not_mem_nil, or_false] at hx
  rcases hx with rfl | rfl | rfl | rfl | rfl | rfl | rfl | rfl | rfl | rfl | rfl | rfl | rfl <;> decide
theorem below_grow {w w' : World} {B g : Nat} (h : w.grownBy w' (some g)) (hg : B ≤ g) (hB : B ≤ w.heap.size) : Below B w w' :=
  ⟨h.os, h.tape, h.output, h.size, fun i hi => h.block i (by omega) (by simp; omega)⟩
/-- What is known while the parts are read. -/
structure PB (w W : World) (g gb qb qq k : Nat) (V2 V3 : Value) : Prop where
  cur : Cur W g gb B13 k false
  d : At W qb 45 [.int .i64 1, .int .i64 1, V2, V3, .slice none 0 0]
  r : At W w.heap.size 45 [.int .i64 0, .int .i64 0, .slice none 0 0, .slice none 0 0, .slice none 0 0]
  q : At W qq 5 (bys [177])
  bel : Below w.heap.size w W
  n1 : g ≠ qb
  n2 : gb ≠ qb
  n3 : w.heap.size ≠ qb
  n4 : qq ≠ qb
  n5 : g ≠ w.heap.size
  n6 : g ≠ qq
  b1 : w.heap.size ≤ g
  b2 : w.heap.size ≤ qb
section
variable {w W W' : World} {g gb qb qq k k' : Nat} {V2 V3 : Value}
theorem PB.go (h : PB w W g gb qb qq k V2 V3) (hc : Cur W' g gb B13 k' false) (hg : W.grownBy W' (some g)) : PB w W' g gb qb qq k' V2 V3 :=
  ⟨hc, h.d.grown hg (by simpa using h.n1.symm), h.r.grown hg (by simpa using h.n5.symm), h.q.grown hg (by simpa using h.n6.symm), h.bel.trans (below_grow hg h.b1 h.bel.size), h.n1, h.n2, h.n3, h.n4, h.n5, h.n6, h.b1, h.b2⟩
theorem PB.put2 (h : PB w W g gb qb qq k V2 V3) (V : Value) : PB w (W.setCell ⟨qb, 2, none⟩ V) g gb qb qq k V V3 :=
  ⟨h.cur.grown (only_set V) (by simpa using h.n1) (by simpa using h.n2), h.d.set 2 V, h.r.far (p := ⟨qb, 2, none⟩) h.n3 V, h.q.far (p := ⟨qb, 2, none⟩) h.n4 V, h.bel.setCell h.b2 V, h.n1, h.n2, h.n3, h.n4, h.n5, h.n6, h.b1, h.b2⟩
theorem PB.put3 (h : PB w W g gb qb qq k V2 V3) (V : Value) : PB w (W.setCell ⟨qb, 3, none⟩ V) g gb qb qq k V2 V :=
  ⟨h.cur.grown (only_set V) (by simpa using h.n1) (by simpa using h.n2), h.d.set 3 V, h.r.far (p := ⟨qb, 3, none⟩) h.n3 V, h.q.far (p := ⟨qb, 3, none⟩) h.n4 V, h.bel.setCell h.b2 V, h.n1, h.n2, h.n3, h.n4, h.n5, h.n6, h.b1, h.b2⟩
theorem PB.cells (h : PB w W g gb qb qq k V2 V3) : (W.cell? ⟨qb, 0, none⟩ = some (.int .i64 1) ∧ W.cell? ⟨qb, 1, none⟩ = some (.int .i64 1) ∧ W.cell? ⟨qb, 2, none⟩ = some V2 ∧ W.cell? ⟨qb, 3, none⟩ = some V3 ∧ W.cell? ⟨qb, 4, none⟩ = some (.slice none 0 0)) ∧
    (W.frozen? ⟨qb, 2, none⟩ = false ∧ W.frozen? ⟨qb, 3, none⟩ = false ∧ W.frozen? ⟨qb, 4, none⟩ = false) :=
  ⟨⟨h.d.cell 0, h.d.cell 1, h.d.cell 2, h.d.cell 3, h.d.cell 4⟩, h.d.free 2, h.d.free 3, h.d.free 4⟩
end
set_option maxHeartbeats 4000000 in
set_option maxRecDepth 100000 in
theorem parts_13 (A : Option Addr) (c : Nat) (Ap : Option Addr) (np cp : Nat) (B : Nat) (w : World) (hr : Rd w B A 13 (bys B13)) (hB : B ≤ w.heap.size) :
    Calls Tryz.prog 99 #[.slice A 13 c, .slice Ap np cp] w fun e w' => ∃ q, e = .returned (.tuple #[.agg #[.int .i64 1, .int .i64 1, .slice (some ⟨q, 0, none⟩) 1 1, .slice none 0 0, .slice none 0 0], .bool true]) ∧ At w' q 5 (bys [177]) ∧ Below w.heap.size w w' := by
  have HW0 := hide (At.new w 45 [.int .i64 0, .int .i64 0, .slice none 0 0, .slice none 0 0, .slice none 0 0])
  have HB0 := hide ((Below.refl w.heap.size w).alloc (Nat.le_refl _) (.cells #[.int .i64 0, .int .i64 0, .slice none 0 0, .slice none 0 0, .slice none 0 0] 45))
  have HN := hide (new_any A 13 c B13 _ B (hr.below (HB0.out.mono hB)) (Nat.le_trans hB HB0.out.size) (by omega) b13_bytes)
  clear hr
  go_enter Tryz.func99, Tryz.ntmps99
  go_wp2_with fail
  refine HN.out.mono ?_
  rintro e w1 ⟨g, gb, rfl, hc1, hg, hgb, hb1⟩
  have HW1 := hide (HW0.out.below hb1 HW0.out.lt)
  have HB1 := hide (HB0.out.trans (hb1.mono HB0.out.size))
  have hgq : w.heap.size < g := by simp at hg; omega
  have hgbq : w.heap.size < gb := by simp at hgb; omega
  have HU1 := hide (u2_at hc1 1 rfl rfl rfl)
  clear hc1 hb1 HN
  go_wp2_with fail
  refine HU1.out.mono ?_
  rintro e w2 ⟨rfl, hc2, hg2⟩
  have HU2 := hide (u2_at hc2 1 rfl rfl rfl)
  clear hc2
  go_wp2_with fail
  refine HU2.out.mono ?_
  rintro e w3 ⟨rfl, hc3, hg3⟩
  have HAB := hide (grown_trans hg2 hg3)
  have HB3 := hide (HB1.out.trans (below_grow HAB.out (Nat.le_of_lt hgq) HB1.out.size))
  have HW3 := hide (HW1.out.grown HAB.out (by simp; omega))
  have hz3 := HB3.out.size
  have hgw := hc3.1.lt
  have hgbw := hc3.2.1.lt
  have HC3 : Hid (Cur (w3.alloc (.cells #[.int .i64 1, .int .i64 1, .slice none 0 0, .slice none 0 0, .slice none 0 0] 45)) g gb B13 4 false) := hide (Cur.grown hc3 (World.grownBy_alloc w3 _ none) (by simp) (by simp))
  have HB4 := hide (HB3.out.alloc hz3 (.cells #[.int .i64 1, .int .i64 1, .slice none 0 0, .slice none 0 0, .slice none 0 0] 45))
  have HW4 := hide (HW3.out.alloc (.cells #[.int .i64 1, .int .i64 1, .slice none 0 0, .slice none 0 0, .slice none 0 0] 45))
  have HD4 := hide (At.new w3 45 [.int .i64 1, .int .i64 1, .slice none 0 0, .slice none 0 0, .slice none 0 0])
  have HU4 := hide (u4_any g gb B13 4 false _ HC3.out 1 8 false rfl rfl rfl)
  have hqw : w.heap.size < w3.heap.size := HW3.out.lt
  clear hc3 hg2 hg3 HU1 HU2 HB1 HW1 HAB
  go_wp2_with fail
  have hD4sz : w3.heap.size < (w3.alloc (.cells #[.int .i64 1, .int .i64 1, .slice none 0 0, .slice none 0 0, .slice none 0 0] 45)).heap.size := by simp
  generalize w3.alloc (.cells #[.int .i64 1, .int .i64 1, .slice none 0 0, .slice none 0 0, .slice none 0 0] 45) = wa at *
  generalize w3.heap.size = qb at *
  refine HU4.out.mono ?_
  rintro e w4 ⟨rfl, hc4, hg4⟩
  have HBy := hide (bytes_any g gb B13 8 1 false w4 hc4)
  unfold Copied at HBy
  rw [show got B13 8 false 1 = [177] from rfl, show went B13 8 false 1 = 9 from rfl, show (!okd B13 8 false 1) = false from rfl] at HBy
  clear hc4
  go_wp2_with fail
  refine HBy.out.mono ?_
  rintro e w5 ⟨qq, rfl, hqq, hat5, hc5, hg5⟩
  have hg0 := grown_trans hg4 hg5
  have hqa := hD4sz
  have HP5 : Hid (PB w w5 g gb qb qq 9 (.slice none 0 0) (.slice none 0 0)) := hide
    ⟨hc5, HD4.out.grown hg0 (by simp; omega), HW4.out.grown hg0 (by simp; omega), hat5, HB4.out.trans (below_grow hg0 (Nat.le_of_lt hgq) HB4.out.size), by omega, by omega, by omega, by have := hg4.size; omega, by omega, by have := hg4.size; omega, Nat.le_of_lt hgq, Nat.le_of_lt hqw⟩
  obtain ⟨⟨d0, d1, d2, d3, d4⟩, f2, f3, f4⟩ := HP5.out.cells
  have HP6 := hide (HP5.out.put2 (.slice (some ⟨qq, 0, none⟩) 1 1))
  clear hat5 hc5 hg5 hg4 hg0 HC3 HB4 HW4 HD4 HP5
  simp only [List.length_cons, List.length_nil, Nat.zero_add]
  go_wp2_with fail
  clear d0 d1 d2 d3 d4 f2 f3 f4
  generalize w5.setCell ⟨qb, 2, none⟩ (.slice (some ⟨qq, 0, none⟩) 1 1) = w6 at *
  refine (handlers_0 g gb w6 HP6.out.cur).mono ?_
  rintro e w7 ⟨rfl, hc7, hg7⟩
  have HP7 := hide (HP6.out.go hc7 hg7)
  obtain ⟨⟨d0, d1, d2, d3, d4⟩, f2, f3, f4⟩ := HP7.out.cells
  have HP8 := hide (HP7.out.put3 (.slice none 0 0))
  clear hc7 hg7 HP6 HP7
  go_wp2_with fail
  clear d0 d1 d2 d3 d4 f2 f3 f4
  generalize w7.setCell ⟨qb, 3, none⟩ (.slice none 0 0) = w8 at *
  refine (attrs_0 g gb Ap np cp w8 HP8.out.cur).mono ?_
  rintro e w9 ⟨rfl, hc9, hg9⟩
  have HP9 := hide (HP8.out.go hc9 hg9)
  have HOK := hide (ok_any g gb B13 13 false w9 HP9.out.cur)
  have HLe := hide (left_any g gb B13 13 false w9 HP9.out.cur)
  rw [show ((B13.length : Int) - (13 : Nat)) = 0 from rfl] at HLe
  clear hc9 hg9 HP8
  go_wp2_with fail
  refine HOK.out.mono ?_
  rintro e w10 ⟨rfl, rfl⟩
  go_wp2_with fail
  refine HLe.out.mono ?_
  rintro e w11 ⟨rfl, mm, rfl⟩
  obtain ⟨⟨d0, d1, d2, d3, d4⟩, f2, f3, f4⟩ := HP9.out.cells
  have r0 : w9.cell? ⟨w.heap.size, 0, none⟩ = some (.int .i64 0) := HP9.out.r.cell 0
  have r1 : w9.cell? ⟨w.heap.size, 1, none⟩ = some (.int .i64 0) := HP9.out.r.cell 1
  have r2 : w9.cell? ⟨w.heap.size, 2, none⟩ = some (.slice none 0 0) := HP9.out.r.cell 2
  have r3 : w9.cell? ⟨w.heap.size, 3, none⟩ = some (.slice none 0 0) := HP9.out.r.cell 3
  have r4 : w9.cell? ⟨w.heap.size, 4, none⟩ = some (.slice none 0 0) := HP9.out.r.cell 4
  have k0 : w9.frozen? ⟨w.heap.size, 0, none⟩ = false := HP9.out.r.free 0
  have k1 : w9.frozen? ⟨w.heap.size, 1, none⟩ = false := HP9.out.r.free 1
  have k2 : w9.frozen? ⟨w.heap.size, 2, none⟩ = false := HP9.out.r.free 2
  have k3 : w9.frozen? ⟨w.heap.size, 3, none⟩ = false := HP9.out.r.free 3
  have k4 : w9.frozen? ⟨w.heap.size, 4, none⟩ = false := HP9.out.r.free 4
  have hn1 := HP9.out.n3
  have hn2 := HP9.out.n3.symm
  have hb2 := HP9.out.b2
  have hq1 : qq ≠ w.heap.size := by have := HP9.out.q.ne HP9.out.r (by decide); exact this
  go_wp2_with fail
  refine bodyPost_ret (v := .tuple #[.agg #[.int .i64 1, .int .i64 1, .slice (some ⟨qq, 0, none⟩) 1 1, .slice none 0 0, .slice none 0 0], .bool true]) ?_ rfl ⟨qq, rfl, ?_, ?_⟩
  · simp [results, Tryz.results99, go_sem, World.cell?_setCell_other, r0, r1, r2, r3, r4]
  · have hq := HP9.out.q.drewN mm
    have hn4 := HP9.out.n4
    repeat (first | with_reducible exact hq | (with_reducible refine At.far ?_ ?hp _; case hp => first | exact hq1 | exact hn4))
  · have hb := HP9.out.bel
    repeat (first | with_reducible exact hb | with_reducible refine Below.drew ?_ | with_reducible refine below_drewN ?_ _ | ((with_reducible refine Below.setCell ?_ ?hp _); case hp => first | exact Nat.le_refl _ | exact hb2))
end Go.Proofs.YtbdbcalmjbmflaaGreatDoor
namespace Go.Proofs.YtbdbcalmjbmflaaGreatDoor
open Go.RowKit

theorem all_177 : allI [177] = some [⟨0, 1, 177, false, 0, 0, [], []⟩] := by rfl

set_option maxHeartbeats 4000000 in
set_option maxRecDepth 100000 in
theorem codeRead_13 (A : Option Addr) (c : Nat) (Ap : Option Addr) (np cp : Nat) (major a : Int) (ha : a ≤ 1) (B : Nat) (w : World) (hr : Rd w B A 13 (bys B13)) (hB : B ≤ w.heap.size) :
    Calls Tryz.prog 85 #[.slice A 13 c, .slice Ap np cp, .int .i64 major, .int .i64 a] w fun e w' => ∃ q, e = .returned (.tuple #[.agg #[.int .i64 1, .int .i64 1, .slice (some ⟨q, 0, none⟩) 1 1, .slice none 0 0, .slice none 0 0], .bool true]) ∧ At w' q 5 (bys [177]) ∧ Below w.heap.size w w' := by
  have HW0 := hide (At.new w 45 [.int .i64 0, .int .i64 0, .slice none 0 0, .slice none 0 0, .slice none 0 0])
  have HB0 := hide ((Below.refl w.heap.size w).alloc (Nat.le_refl _) (.cells #[.int .i64 0, .int .i64 0, .slice none 0 0, .slice none 0 0, .slice none 0 0] 45))
  have HN := hide (parts_13 A c Ap np cp B _ (hr.below (HB0.out.mono hB)) (Nat.le_trans hB HB0.out.size))
  clear hr
  go_enter Tryz.func85, Tryz.ntmps85
  go_wp2_with fail
  refine HN.out.mono ?_
  rintro e w1 ⟨q, rfl, hat, hb1⟩
  have HQ1 := hide hat
  have HW1 := hide (HW0.out.below hb1 HW0.out.lt)
  have HB1 := hide (HB0.out.trans (hb1.mono HB0.out.size))
  have hz1 := HB1.out.size
  have hqw := hat.lt
  have HQ2 := hide (hat.alloc (.cells #[.int .i64 1, .int .i64 1, .slice (some ⟨q, 0, none⟩) 1 1, .slice none 0 0, .slice none 0 0] 45))
  have HW2 := hide (HW1.out.alloc (.cells #[.int .i64 1, .int .i64 1, .slice (some ⟨q, 0, none⟩) 1 1, .slice none 0 0, .slice none 0 0] 45))
  have HD2 := hide (At.new w1 45 [.int .i64 1, .int .i64 1, .slice (some ⟨q, 0, none⟩) 1 1, .slice none 0 0, .slice none 0 0])
  have HB2 := hide (HB1.out.alloc hz1 (.cells #[.int .i64 1, .int .i64 1, .slice (some ⟨q, 0, none⟩) 1 1, .slice none 0 0, .slice none 0 0] 45))
  have hww := HW1.out.lt
  clear hat hb1 HN
  go_wp2_with fail
  generalize w1.alloc (.cells #[.int .i64 1, .int .i64 1, .slice (some ⟨q, 0, none⟩) 1 1, .slice none 0 0, .slice none 0 0] 45) = w2 at *
  have hqb : w.heap.size < w1.heap.size := hww
  generalize w1.heap.size = qb at *
  refine (sizes_1 a ha (some ⟨q, 0, none⟩) none none 1 1 0 0 0 0 w2).mono ?_
  rintro e w3 ⟨rfl, hb3⟩
  have HQ3 := hide (HQ2.out.below hb3 HQ2.out.lt)
  have HW3 := hide (HW2.out.below hb3 HW2.out.lt)
  have HD3 := hide (HD2.out.below hb3 HD2.out.lt)
  have HB3 := hide (HB2.out.trans (hb3.mono HB2.out.size))
  have d2 : w3.cell? ⟨qb, 2, none⟩ = some (.slice (some ⟨q, 0, none⟩) 1 1) := HD3.out.cell 2
  have hrd : Rd w3 w3.heap.size (some ⟨q, 0, none⟩) 1 (bys [177]) := by
    exact HQ3.out.rd 0 1 (by decide)
  have HAll := hide (iall_any (some ⟨q, 0, none⟩) 1 1 [177] w3 w3.heap.size hrd (Nat.le_refl _) (fun x hx => by
    obtain rfl := List.mem_singleton.1 hx
    decide) (Nat.le_refl _))
  rw [all_177] at HAll
  clear hb3 HQ2 HW2 HD2 hrd
  go_wp2_with fail
  refine HAll.out.mono ?_
  rintro e w4 ⟨⟨V, L, rfl, hL, hown, hnums⟩, hb4⟩
  obtain ⟨⟨I, T, K⟩, rfl⟩ : ∃ x, L = [x] := by
    have hl : L.length = 1 := by have := congrArg List.length hL; simpa using this
    match L, hl with
    | [x], _ => exact ⟨x, rfl⟩
  simp only [List.map_cons, List.map_nil, List.cons.injEq, and_true] at hL
  subst hL
  obtain ⟨hT, hK⟩ := hnums _ (List.mem_singleton.2 rfl)
  simp only at hT hK
  obtain ⟨aT, nT, cT, rfl⟩ : ∃ a n c, T = .slice a n c := by
    rcases hT with ⟨_, h⟩ | ⟨g, _, h, _⟩ <;> exact ⟨_, _, _, h⟩
  obtain ⟨aK, nK, cK, rfl⟩ : ∃ a n c, K = .slice a n c := by
    rcases hK with ⟨_, h⟩ | ⟨g, _, h, _⟩ <;> exact ⟨_, _, _, h⟩
  obtain ⟨gi, ci, rfl, hgi, hci⟩ : ∃ g c, V = .slice (some ⟨g, 0, none⟩) 1 c ∧ g < w4.heap.size ∧ ∀ (j : Nat) u, (retCells aT nT cT aK nK cK)[j]? = some u → w4.cell? ⟨g, j, none⟩ = some u := by
    obtain ⟨hl, ⟨_, h0⟩ | ⟨g, cap, cur, rfl, hb, hg, hnc, hm, hs, ht⟩⟩ := hown
    · cases h0
    · refine ⟨g, cap, rfl, (Array.getElem?_eq_some_iff.1 hg).1, fun j u hu => ?_⟩
      rw [cell_of_row w4 g _ cur 187 (0, 0) hg]
      have hj : j < 8 := (List.getElem?_eq_some_iff.1 hu).1
      have h2 : (cellsI [(⟨0, 1, 177, false, 0, 0, [], []⟩, .slice aT nT cT, .slice aK nK cK)])[j]? = some u := hu
      rw [← ht, List.getElem?_take] at h2
      split at h2
      · simpa using h2
      · cases h2
  have HQ4 := hide (HQ3.out.below hb4 HQ3.out.lt)
  have HW4 := hide (HW3.out.below hb4 HW3.out.lt)
  have HD4 := hide (HD3.out.below hb4 HD3.out.lt)
  have HB4 := hide (HB3.out.trans (hb4.mono HB3.out.size))
  have HR4 := hide (fun W (hW : Below w4.heap.size w4 W) => rulesOf_1 aT aK nT cT nK cK (some ⟨q, 0, none⟩) 1 gi ci Ap np cp major W (fun j u hu => (hW.cell (p := ⟨gi, j, none⟩) hgi).trans (hci j u hu)) (Nat.lt_of_lt_of_le hgi hW.size))
  have HH4 := hide (fun W (hW : Below w4.heap.size w4 W) gb M => hold_1 aT aK nT cT nK cK Ap np cp major (some ⟨gb, 0, none⟩) 1 1 M gi ci W (fun j u hu => (hW.cell (p := ⟨gi, j, none⟩) hgi).trans (hci j u hu)) (Nat.lt_of_lt_of_le hgi hW.size))
  have HCI := hide hci
  clear hown hnums hT hK hb4 hci d2 HQ3 HW3 HD3 HAll
  have HS : Hid (∀ W, Below w4.heap.size w4 W → W.cell? ⟨qb, 0, none⟩ = some (.int .i64 1) ∧ W.cell? ⟨qb, 1, none⟩ = some (.int .i64 1) ∧ W.cell? ⟨qb, 2, none⟩ = some (.slice (some ⟨q, 0, none⟩) 1 1) ∧ W.cell? ⟨qb, 3, none⟩ = some (.slice none 0 0) ∧ W.cell? ⟨qb, 4, none⟩ = some (.slice none 0 0)) := hide fun W hW => by
    have hD := HD4.out.below hW HD4.out.lt
    exact ⟨hD.cell 0, hD.cell 1, hD.cell 2, hD.cell 3, hD.cell 4⟩
  obtain ⟨d0, d1, d2, d3, d4⟩ := HS.out w4 (Below.refl _ _)
  go_wp2_with fail
  go_region_held3 (fun W => W.cell? ⟨qb, 0, none⟩ = some (.int .i64 1) ∧ W.cell? ⟨qb, 1, none⟩ = some (.int .i64 1) ∧ W.cell? ⟨qb, 2, none⟩ = some (.slice (some ⟨q, 0, none⟩) 1 1) ∧ W.cell? ⟨qb, 3, none⟩ = some (.slice none 0 0) ∧ W.cell? ⟨qb, 4, none⟩ = some (.slice none 0 0)) (go_keep) (first
    | (go_at_call 102; with_reducible refine (HR4.out _ (by repeat (first | with_reducible exact Below.refl _ _ | with_reducible refine Below.drew ?_ | with_reducible refine below_drewN ?_ _ | ((with_reducible refine Below.setCell ?_ ?hp _); case hp => simp) | ((with_reducible refine Below.alloc ?_ ?hp _); case hp => first | omega | (simp; done) | (simp; omega))))).mono ?_; rintro e5 w5 ⟨gb, M, rfl, hb5⟩; have hbt : Below w4.heap.size w4 w5 := Below.trans (by repeat (first | with_reducible exact Below.refl _ _ | with_reducible refine Below.drew ?_ | with_reducible refine below_drewN ?_ _ | ((with_reducible refine Below.setCell ?_ ?hp _); case hp => simp) | ((with_reducible refine Below.alloc ?_ ?hp _); case hp => first | omega | (simp; done) | (simp; omega)))) (hb5.mono (by first | exact Nat.le_refl _ | (simp only [World.heap_drewN]; exact Nat.le_refl _) | (simp; done))); obtain ⟨k0, k1, k2, k3, k4⟩ := HS.out w5 hbt)
    | (go_at_call 103; with_reducible refine (HH4.out _ (by repeat (first | with_reducible exact hbt | with_reducible refine Below.drew ?_ | with_reducible refine below_drewN ?_ _ | ((with_reducible refine Below.setCell ?_ ?hp _); case hp => simp) | ((with_reducible refine Below.alloc ?_ ?hp _); case hp => first | omega | (simp; done) | (simp; omega)))) gb M).mono ?_; rintro e6 w6 ⟨rfl, hb6⟩; have hbu : Below w4.heap.size w4 w6 := Below.trans (by repeat (first | with_reducible exact hbt | with_reducible refine Below.drew ?_ | with_reducible refine below_drewN ?_ _ | ((with_reducible refine Below.setCell ?_ ?hp _); case hp => simp) | ((with_reducible refine Below.alloc ?_ ?hp _); case hp => first | omega | (simp; done) | (simp; omega)))) (hb6.mono (by first | exact hbt.size | (simp only [World.heap_drewN]; exact hbt.size) | (simp; exact hbt.size))); obtain ⟨l0, l1, l2, l3, l4⟩ := HS.out w6 hbu))
  have HW6 := hide (HW4.out.below hbu HW4.out.lt)
  have HQ6 := hide (HQ4.out.below hbu HQ4.out.lt)
  have HB6 := hide (HB4.out.trans (hbu.mono HB4.out.size))
  have r0 : w6.cell? ⟨w.heap.size, 0, none⟩ = some (.int .i64 0) := HW6.out.cell 0
  have r1 : w6.cell? ⟨w.heap.size, 1, none⟩ = some (.int .i64 0) := HW6.out.cell 1
  have r2 : w6.cell? ⟨w.heap.size, 2, none⟩ = some (.slice none 0 0) := HW6.out.cell 2
  have r3 : w6.cell? ⟨w.heap.size, 3, none⟩ = some (.slice none 0 0) := HW6.out.cell 3
  have r4 : w6.cell? ⟨w.heap.size, 4, none⟩ = some (.slice none 0 0) := HW6.out.cell 4
  have g0 : w6.frozen? ⟨w.heap.size, 0, none⟩ = false := HW6.out.free 0
  have g1 : w6.frozen? ⟨w.heap.size, 1, none⟩ = false := HW6.out.free 1
  have g2 : w6.frozen? ⟨w.heap.size, 2, none⟩ = false := HW6.out.free 2
  have g3 : w6.frozen? ⟨w.heap.size, 3, none⟩ = false := HW6.out.free 3
  have g4 : w6.frozen? ⟨w.heap.size, 4, none⟩ = false := HW6.out.free 4
  have hq1 : q ≠ w.heap.size := HQ6.out.ne HW6.out (by decide)
  clear HW4 HQ4 HD4 HB4 HR4 HH4 HS d0 d1 d2 d3 d4 k0 k1 k2 k3 k4 hbt hbu hb5 hb6 HCI
  go_wp2_with fail
  refine bodyPost_ret (v := .tuple #[.agg #[.int .i64 1, .int .i64 1, .slice (some ⟨q, 0, none⟩) 1 1, .slice none 0 0, .slice none 0 0], .bool true]) ?_ rfl ⟨q, rfl, ?_, ?_⟩
  · simp [results, Tryz.results85, go_sem, World.cell?_setCell_other, r0, r1, r2, r3, r4]
  · have hq := HQ6.out
    have hqn := fun n => HQ6.out.drewN n
    repeat (first | with_reducible exact hq | with_reducible exact hqn _ | (with_reducible refine At.far ?_ ?hp _; case hp => exact hq1))
  · have hb := HB6.out
    repeat (first | with_reducible exact hb | with_reducible refine Below.drew ?_ | with_reducible refine below_drewN ?_ _ | ((with_reducible refine Below.setCell ?_ ?hp _); case hp => exact Nat.le_refl _))
end Go.Proofs.YtbdbcalmjbmflaaGreatDoor
