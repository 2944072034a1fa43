/- A lookupswitch, as package instr reads it. Nothing is claimed here. -/
import Derived.Test.YtllbbmofinminaaInstrTab3
namespace Go.Proofs.Ytllbbmofinminaa
open Go.RowKit

def lookTo (xs : List Int) (p f m : Nat) : List Int := (p + s4 xs f) :: (List.range m).map fun i => p + s4 xs (f + (12 + 8 * i))
def lookKeys (xs : List Int) (f m : Nat) : List Int := (List.range m).map fun i => s4 xs (f + (8 + 8 * i))
/-- Do the numbers rise? -/
def rises (K : List Int) : Bool := (List.range (K.length - 1)).all fun i => decide (K.getD i 0 < K.getD (i + 1) 0)
def lookI (xs : List Int) (p : Nat) : Option Ins :=
  let f := padE p
  let m := (s4 xs (f + 4)).toNat
  if xs.length < f + 8 || !padZ xs p then none
  else if s4 xs (f + 4) < 0 then none
  else if 1000 ≤ m then none
  else if xs.length - f < 8 + 8 * m then none
  else if rises (lookKeys xs f m) then some ⟨p, f - p + 8 + 8 * m, b1 xs p, false, 0, 0, lookTo xs p f m, lookKeys xs f m⟩
  else none

theorem lookTo_len (xs : List Int) (p f m : Nat) : (lookTo xs p f m).length = m + 1 := by simp [lookTo]
theorem lookKeys_len (xs : List Int) (f m : Nat) : (lookKeys xs f m).length = m := by simp [lookKeys]
theorem lookTo_next (xs : List Int) (p f m j : Nat) (h : j < m) : (lookTo xs p f m).getD (1 + j) 0 = p + s4 xs (f + (12 + 8 * j)) := by
  rw [Nat.add_comm]; simp [lookTo, List.getD, h]
theorem lookKeys_at (xs : List Int) (f m j : Nat) (h : j < m) : (lookKeys xs f m).getD j 0 = s4 xs (f + (8 + 8 * j)) := by
  simp [lookKeys, List.getD, h]
theorem rises_true {K : List Int} (h : ∀ i, i + 1 < K.length → K.getD i 0 < K.getD (i + 1) 0) : rises K = true := by
  unfold rises
  rw [List.all_eq_true]
  intro i hi
  simp only [List.mem_range] at hi
  simpa using h i (by omega)
theorem rises_false {K : List Int} {i : Nat} (hi : i + 1 < K.length) (h : K.getD (i + 1) 0 ≤ K.getD i 0) : rises K = false := by
  apply Bool.eq_false_iff.2
  intro ht
  unfold rises at ht
  rw [List.all_eq_true] at ht
  have := ht i (by simp; omega)
  simp only [decide_eq_true_eq] at this
  omega
theorem fill_old (L : List Int) (i j : Nat) (h : i < j) (hj : j ≤ L.length) : (fillL L j)[i]? = some (L.getD i 0) := by
  unfold fillL
  have hl : (L.take j).length = j := by simp; omega
  rw [List.getElem?_append_left (by omega), List.getElem?_take, if_pos h, List.getElem?_eq_getElem (by omega), List.getD, List.getElem?_eq_getElem (by omega)]
  rfl
theorem At.fill_got {w : World} {g : Nat} {t : TypeId} {k : IntKind} {L : List Int} {i j : Nat} (h : At w g t ((fillL L j).map (.int k))) (hi : i < j) (hj : j ≤ L.length) : w.cell? ⟨g, i, none⟩ = some (.int k (L.getD i 0)) := by
  rw [h.cell, List.getElem?_map, fill_old L i j hi hj]; rfl

/-- What is held while pairs are put. -/
def LS (w : World) (gt gk : Nat) (W : World) (ts ks : List Int) : Prop :=
  Below w.heap.size w W ∧ At W w.heap.size 28 [.int .i64 0, .int .i64 0, .int .i64 0, .bool false, .int .i64 0, .int .i64 0, .slice none 0 0, .slice none 0 0] ∧ At W gt 3 (ts.map (.int .i64)) ∧ At W gk 2 (ks.map (.int .i64)) ∧ w.heap.size < gt ∧ w.heap.size < gk ∧ gt ≠ gk
section
variable {w W : World} {gt gk : Nat} {ts ks : List Int}
theorem LS.drewN (h : LS w gt gk W ts ks) (q : Nat) : LS w gt gk (W.drewN q) ts ks := ⟨below_drewN h.1 q, h.2⟩
theorem LS.putT {L : List Int} {j : Nat} (h : LS w gt gk W (fillL L j) ks) (hj : j < L.length) : LS w gt gk (W.setCell ⟨gt, j, none⟩ (.int .i64 (L.getD j 0))) (fillL L (j + 1)) ks := by
  obtain ⟨h1, h2, h3, h4, h5, h6, h7⟩ := h
  exact ⟨h1.setCell (by simp; omega) _, h2.far (by simp; omega) _, h3.fill_put hj, h4.far (by simp; omega) _, h5, h6, h7⟩
theorem LS.putK {L : List Int} {j : Nat} (h : LS w gt gk W ts (fillL L j)) (hj : j < L.length) : LS w gt gk (W.setCell ⟨gk, j, none⟩ (.int .i64 (L.getD j 0))) ts (fillL L (j + 1)) := by
  obtain ⟨h1, h2, h3, h4, h5, h6, h7⟩ := h
  exact ⟨h1.setCell (by simp; omega) _, h2.far (by simp; omega) _, h3.far (by simp; omega) _, h4.fill_put hj, h5, h6, h7⟩
end

theorem look_no (A : Option Addr) (n c p : Nat) (xs : List Int) (w : World) (B : Nat) (h : Rd w B A n (bys xs)) (hB : B ≤ w.heap.size) (hb : IsBytes xs) (hp : p < n) (hc : n ≤ c) (hn : n ≤ 140737488355328) (hno : (n < padE p + 8 || !padZ xs p) = true) :
    Calls Try.prog 18 #[.slice A n c, .int .i64 p] w fun e w' => e = .returned noV ∧ Below w.heap.size w w' := by
  have HP : Hid (∀ W, Below w.heap.size w W → Calls Try.prog 30 #[.slice A n c, .int .i64 p, .int .i64 8] W fun e w' => e = .returned (.tuple #[.slice none 0 0, .bool false]) ∧ W = w') := hide fun W hW => by
    have := padded_any B A n c p 8 xs W (h.below (hW.mono hB)) hb hp hc hn (by omega)
    rwa [show padR A n c xs p 8 = .tuple #[.slice none 0 0, .bool false] by unfold padR; rw [if_pos hno]] at this
  clear h hb
  go_enter Try.func18, Try.ntmps18
  go_wp2_with fail
  refine (HP.out _ ?_).mono ?_
  · repeat (first | with_reducible exact Below.refl _ _ | with_reducible refine Below.drew ?_ | with_reducible refine below_drewN ?_ _ | ((with_reducible refine Below.setCell ?_ ?hp _); case hp => simp) | ((with_reducible refine Below.alloc ?_ ?hp _); case hp => first | omega | (simp; done) | (simp; omega)))
  rintro e w1 ⟨rfl, rfl⟩
  go_wp2_with fail
  refine bodyPost_ret (v := noV) ?_ rfl ⟨rfl, ?_⟩
  · simp [results, Try.results18, go_sem]
    rfl
  · repeat (first | with_reducible exact Below.refl _ _ | with_reducible refine Below.drew ?_ | with_reducible refine below_drewN ?_ _ | ((with_reducible refine Below.setCell ?_ ?hp _); case hp => simp) | ((with_reducible refine Below.alloc ?_ ?hp _); case hp => first | omega | (simp; done) | (simp; omega)))

theorem look_bad (A : Option Addr) (n c p : Nat) (xs : List Int) (w : World) (B : Nat) (h : Rd w B A n (bys xs)) (hB : B ≤ w.heap.size) (hb : IsBytes xs) (hp : p < n) (hc : n ≤ c) (hn : n ≤ 140737488355328) (hyes : (n < padE p + 8 || !padZ xs p) = false)
    (hbad : s4 xs (padE p + 4) < 0 ∨ (0 ≤ s4 xs (padE p + 4) ∧ 1000 ≤ s4 xs (padE p + 4)) ∨ (0 ≤ s4 xs (padE p + 4) ∧ s4 xs (padE p + 4) < 1000 ∧ (n : Int) - padE p < 8 + 8 * s4 xs (padE p + 4))) :
    Calls Try.prog 18 #[.slice A n c, .int .i64 p] w fun e w' => e = .returned noV ∧ Below w.heap.size w w' := by
  have hfb := padE_bd p
  have HP : Hid (∀ W, Below w.heap.size w W → Calls Try.prog 30 #[.slice A n c, .int .i64 p, .int .i64 8] W fun e w' => e = .returned (.tuple #[.slice (subA c (padE p) A) (n - padE p) (c - padE p), .bool true]) ∧ W = w') := hide fun W hW => by
    have := padded_any B A n c p 8 xs W (h.below (hW.mono hB)) hb hp hc hn (by omega)
    rwa [show padR A n c xs p 8 = .tuple #[.slice (subA c (padE p) A) (n - padE p) (c - padE p), .bool true] by unfold padR; rw [if_neg (by simp [hyes])]] at this
  have hlen : padE p + 8 ≤ n := by simp at hyes; omega
  have hsub := h.from (c := c) (i := padE p) (by omega) hc
  obtain ⟨gs, os, hsA, hgs, _⟩ := hsub.2 (by omega)
  rw [hsA] at HP hsub
  have hC : n - padE p ≤ c - padE p := by omega
  have C1 : Hid (∀ W, Below w.heap.size w W → Calls Try.prog 31 #[.slice (some ⟨gs, os + 4, none⟩) (n - padE p - 4) (c - padE p - 4)] W fun e w' => e = .returned (.int .i64 (s4 xs (padE p + 4))) ∧ ∃ q, w' = W.drewN q) := hide fun W hW => by
    have h2 := (hsub.below (hW.mono hB)).from (c := c - padE p) (i := 4) (by omega) hC
    have h3 := is4_any B _ (n - padE p - 4) (c - padE p - 4) _ _ h2 (by omega) (by omega) ((hb.drop _).drop 4)
    rw [b4_drop, b4_drop] at h3
    rwa [show subA (c - padE p) 4 (some ⟨gs, os, none⟩) = some ⟨gs, os + 4, none⟩ by unfold subA; rw [if_neg (by omega)]; simp [add_none]] at h3
  have hb1 := s4_bd hb (padE p + 4)
  generalize s4 xs (padE p + 4) = lo at *
  have hN : ((n - padE p : Nat) : Int) = (n : Int) - padE p := by omega
  have hN2 : n - padE p ≤ 140737488355328 := by omega
  have hN12 : 8 ≤ n - padE p := by omega
  rw [← hN] at hbad
  generalize n - padE p = N at *
  generalize c - padE p = C at *
  have hC4 : C ≠ 4 := by omega
  have hN4 : (4 : Int) ≤ N := by omega
  clear h hb hsA hsub hyes hfb hlen hN
  rcases hbad with hbad | ⟨hbad, hbad2⟩ | ⟨hbad, hbad2, hbad3⟩
  all_goals
    go_enter Try.func18, Try.ntmps18
    go_wp2_with fail
    refine (HP.out _ ?_).mono ?_
    · repeat (first | with_reducible exact Below.refl _ _ | with_reducible refine Below.drew ?_ | with_reducible refine below_drewN ?_ _ | ((with_reducible refine Below.setCell ?_ ?hp _); case hp => simp) | ((with_reducible refine Below.alloc ?_ ?hp _); case hp => first | omega | (simp; done) | (simp; omega)))
    rintro e w1 ⟨rfl, rfl⟩
    go_wp2_with fail
    refine (C1.out _ ?_).mono ?_
    · repeat (first | with_reducible exact Below.refl _ _ | with_reducible refine Below.drew ?_ | with_reducible refine below_drewN ?_ _ | ((with_reducible refine Below.setCell ?_ ?hp _); case hp => simp) | ((with_reducible refine Below.alloc ?_ ?hp _); case hp => first | omega | (simp; done) | (simp; omega)))
    rintro e w1 ⟨rfl, q, rfl⟩
    go_wp2_with fail
    refine bodyPost_ret (v := noV) ?_ rfl ⟨rfl, ?_⟩
    · simp [results, Try.results18, go_sem]
      rfl
    · repeat (first | with_reducible exact Below.refl _ _ | with_reducible refine Below.drew ?_ | with_reducible refine below_drewN ?_ _ | ((with_reducible refine Below.setCell ?_ ?hp _); case hp => simp) | ((with_reducible refine Below.alloc ?_ ?hp _); case hp => first | omega | (simp; done) | (simp; omega)))
end Go.Proofs.Ytllbbmofinminaa
