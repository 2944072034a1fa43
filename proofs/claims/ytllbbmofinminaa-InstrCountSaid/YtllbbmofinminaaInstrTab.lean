/- A tableswitch, as package instr reads it. Nothing is claimed here. -/
import Derived.Test.YtllbbmofinminaaInstrPad
namespace Go.Proofs.Ytllbbmofinminaa
open Go.RowKit

/-- An instruction. -/
structure Ins where
  place : Int
  len : Int
  op : Int
  wide : Bool
  a : Int
  b : Int
  to : List Int
  keys : List Int
/-- The value V is a slice of numbers xs of its own, in a block from base on. -/
def Nums (w : World) (base : Nat) (k : IntKind) (t : TypeId) (V : Value) (xs : List Int) : Prop :=
  (xs = [] ∧ V = .slice none 0 0) ∨ ∃ g, base ≤ g ∧ V = .slice (some ⟨g, 0, none⟩) xs.length xs.length ∧ At w g t (xs.map (.int k))
/-- The value v is the instruction I. -/
def Ins.is (I : Ins) (w : World) (base : Nat) (v : Value) : Prop :=
  ∃ T K, v = .agg #[.int .i64 I.place, .int .i64 I.len, .int .i64 I.op, .bool I.wide, .int .i64 I.a, .int .i64 I.b, T, K] ∧ Nums w base .i64 3 T I.to ∧ Nums w base .i64 2 K I.keys
/-- What is answered: an instruction, or none. -/
def InsR (w w' : World) (e : Ending) (r : Option Ins) : Prop :=
  (match r with
    | some I => ∃ v, e = .returned (.tuple #[v, .bool true]) ∧ I.is w' w.heap.size v
    | none => e = .returned noV) ∧ Below w.heap.size w w'

def s4 (xs : List Int) (k : Nat) : Int := sg 32 (b4 xs k)
theorem s4_bd {xs : List Int} (h : IsBytes xs) (k : Nat) : -2147483648 ≤ s4 xs k ∧ s4 xs k < 2147483648 := sg32_bd (b4_bd h k)
def tabTo (xs : List Int) (p f m : Nat) : List Int := (p + s4 xs f) :: (List.range m).map fun i => p + s4 xs (f + (12 + 4 * i))
def tabI (xs : List Int) (p : Nat) : Option Ins :=
  let f := padE p
  let lo := s4 xs (f + 4)
  let hi := s4 xs (f + 8)
  let m := (hi - lo + 1).toNat
  if xs.length < f + 12 || !padZ xs p then none
  else if hi < lo then none
  else if 1000 ≤ m then none
  else if xs.length - f < 12 + 4 * m then none
  else some ⟨p, f - p + 12 + 4 * m, b1 xs p, false, 0, 0, tabTo xs p f m, [lo, hi]⟩

theorem tab_no (A : Option Addr) (n c p : Nat) (xs : List Int) (w : World) (B : Nat) (h : Rd w B A n (bys xs)) (hB : B ≤ w.heap.size) (hb : IsBytes xs) (hp : p < n) (hc : n ≤ c) (hn : n ≤ 140737488355328) (hno : (n < padE p + 12 || !padZ xs p) = true) :
    Calls Try.prog 17 #[.slice A n c, .int .i64 p] w fun e w' => e = .returned noV ∧ Below w.heap.size w w' := by
  have HP : Hid (∀ W, Below w.heap.size w W → Calls Try.prog 30 #[.slice A n c, .int .i64 p, .int .i64 12] W fun e w' => e = .returned (.tuple #[.slice none 0 0, .bool false]) ∧ W = w') := hide fun W hW => by
    have := padded_any B A n c p 12 xs W (h.below (hW.mono hB)) hb hp hc hn (by omega)
    rwa [show padR A n c xs p 12 = .tuple #[.slice none 0 0, .bool false] by unfold padR; rw [if_pos hno]] at this
  clear h hb
  go_enter Try.func17, Try.ntmps17
  go_wp2_with fail
  refine (HP.out _ ?_).mono ?_
  · repeat (first | with_reducible exact Below.refl _ _ | with_reducible refine Below.drew ?_ | with_reducible refine below_drewN ?_ _ | ((with_reducible refine Below.setCell ?_ ?hp _); case hp => simp) | ((with_reducible refine Below.alloc ?_ ?hp _); case hp => first | omega | (simp; done) | (simp; omega)))
  rintro e w1 ⟨rfl, rfl⟩
  go_wp2_with fail
  refine bodyPost_ret (v := noV) ?_ rfl ⟨rfl, ?_⟩
  · simp [results, Try.results17, go_sem]
    rfl
  · repeat (first | with_reducible exact Below.refl _ _ | with_reducible refine Below.drew ?_ | with_reducible refine below_drewN ?_ _ | ((with_reducible refine Below.setCell ?_ ?hp _); case hp => simp) | ((with_reducible refine Below.alloc ?_ ?hp _); case hp => first | omega | (simp; done) | (simp; omega)))

theorem tab_bad (A : Option Addr) (n c p : Nat) (xs : List Int) (w : World) (B : Nat) (h : Rd w B A n (bys xs)) (hB : B ≤ w.heap.size) (hb : IsBytes xs) (hp : p < n) (hc : n ≤ c) (hn : n ≤ 140737488355328) (hyes : (n < padE p + 12 || !padZ xs p) = false)
    (hbad : s4 xs (padE p + 8) < s4 xs (padE p + 4) ∨ (s4 xs (padE p + 4) ≤ s4 xs (padE p + 8) ∧ 1000 ≤ s4 xs (padE p + 8) - s4 xs (padE p + 4) + 1) ∨ (s4 xs (padE p + 4) ≤ s4 xs (padE p + 8) ∧ s4 xs (padE p + 8) - s4 xs (padE p + 4) + 1 < 1000 ∧ (n : Int) - padE p < 12 + 4 * (s4 xs (padE p + 8) - s4 xs (padE p + 4) + 1))) :
    Calls Try.prog 17 #[.slice A n c, .int .i64 p] w fun e w' => e = .returned noV ∧ Below w.heap.size w w' := by
  have hfb := padE_bd p
  have HP : Hid (∀ W, Below w.heap.size w W → Calls Try.prog 30 #[.slice A n c, .int .i64 p, .int .i64 12] W fun e w' => e = .returned (.tuple #[.slice (subA c (padE p) A) (n - padE p) (c - padE p), .bool true]) ∧ W = w') := hide fun W hW => by
    have := padded_any B A n c p 12 xs W (h.below (hW.mono hB)) hb hp hc hn (by omega)
    rwa [show padR A n c xs p 12 = .tuple #[.slice (subA c (padE p) A) (n - padE p) (c - padE p), .bool true] by unfold padR; rw [if_neg (by simp [hyes])]] at this
  have hlen : padE p + 12 ≤ n := by simp at hyes; omega
  have hsub := h.from (c := c) (i := padE p) (by omega) hc
  obtain ⟨gs, os, hsA, hgs, _⟩ := hsub.2 (by omega)
  rw [hsA] at HP hsub
  have hC : n - padE p ≤ c - padE p := by omega
  have h4 : ∀ k W w0 q, k + 4 ≤ n - padE p → Below w.heap.size w w0 → W = w0.drewN q → Calls Try.prog 31 #[.slice (some ⟨gs, os + k, none⟩) (n - padE p - k) (c - padE p - k)] W fun e w' => e = .returned (.int .i64 (s4 xs (padE p + k))) ∧ ∃ q, w' = w0.drewN q := fun k W w0 q hk hW hq => by
    subst hq
    have h2 := (hsub.below ((below_drewN hW q).mono hB)).from (c := c - padE p) (i := k) (by omega) hC
    have h3 := is4_any B _ (n - padE p - k) (c - padE p - k) _ _ h2 (by omega) (by omega) ((hb.drop _).drop k)
    rw [b4_drop, b4_drop] at h3
    rw [show subA (c - padE p) k (some ⟨gs, os, none⟩) = some ⟨gs, os + k, none⟩ by unfold subA; rw [if_neg (by omega)]; simp [add_none]] at h3
    refine h3.mono fun e w' hh => ?_
    obtain ⟨rfl, b, rfl⟩ := hh
    exact ⟨rfl, q + b, by rw [World.drewN_drewN]⟩
  have C1 : Hid (∀ w0, Below w.heap.size w w0 → ∀ q, Calls Try.prog 31 #[.slice (some ⟨gs, os + 4, none⟩) (n - padE p - 4) (c - padE p - 4)] (w0.drewN q) fun e w' => e = .returned (.int .i64 (s4 xs (padE p + 4))) ∧ ∃ q, w' = w0.drewN q) := hide fun w0 hw0 q => h4 4 _ w0 q (by omega) hw0 rfl
  have C2 : Hid (∀ w0, Below w.heap.size w w0 → ∀ q, Calls Try.prog 31 #[.slice (some ⟨gs, os + 8, none⟩) (n - padE p - 8) (c - padE p - 8)] (w0.drewN q) fun e w' => e = .returned (.int .i64 (s4 xs (padE p + 8))) ∧ ∃ q, w' = w0.drewN q) := hide fun w0 hw0 q => h4 8 _ w0 q (by omega) hw0 rfl
  have hb1 := s4_bd hb (padE p + 4)
  have hb2 := s4_bd hb (padE p + 8)
  generalize s4 xs (padE p + 4) = lo at *
  generalize s4 xs (padE p + 8) = hi at *
  have hN : ((n - padE p : Nat) : Int) = (n : Int) - padE p := by omega
  have hN2 : n - padE p ≤ 140737488355328 := by omega
  have hN12 : 12 ≤ n - padE p := by omega
  rw [← hN] at hbad
  generalize n - padE p = N at *
  generalize c - padE p = C at *
  have hC4 : C ≠ 4 := by omega
  have hC8 : C ≠ 8 := by omega
  have hN4 : (4 : Int) ≤ N := by omega
  have hN8 : (8 : Int) ≤ N := by omega
  clear h hb hsA hsub h4 hyes hfb hlen hN
  rcases hbad with hbad | ⟨hbad, hbad2⟩ | ⟨hbad, hbad2, hbad3⟩
  all_goals
    go_enter Try.func17, Try.ntmps17
    go_wp2_with fail
    refine (HP.out _ ?_).mono ?_
    · repeat (first | with_reducible exact Below.refl _ _ | with_reducible refine Below.drew ?_ | with_reducible refine below_drewN ?_ _ | ((with_reducible refine Below.setCell ?_ ?hp _); case hp => simp) | ((with_reducible refine Below.alloc ?_ ?hp _); case hp => first | omega | (simp; done) | (simp; omega)))
    rintro e w1 ⟨rfl, rfl⟩
    go_wp2_with fail
    go_quiet ((first | (go_at_call 31; with_reducible refine C1.out _ ?_ _; (repeat (first | with_reducible exact Below.refl _ _ | with_reducible refine Below.drew ?_ | with_reducible refine below_drewN ?_ _ | ((with_reducible refine Below.setCell ?_ ?hp _); case hp => simp) | ((with_reducible refine Below.alloc ?_ ?hp _); case hp => first | omega | (simp; done) | (simp; omega))))) | (go_at_call 31; with_reducible refine C2.out _ ?_ _; (repeat (first | with_reducible exact Below.refl _ _ | with_reducible refine Below.drew ?_ | with_reducible refine below_drewN ?_ _ | ((with_reducible refine Below.setCell ?_ ?hp _); case hp => simp) | ((with_reducible refine Below.alloc ?_ ?hp _); case hp => first | omega | (simp; done) | (simp; omega)))))))
    go_wp2_with fail
    refine bodyPost_ret (v := noV) ?_ rfl ⟨rfl, ?_⟩
    · simp [results, Try.results17, go_sem]
      rfl
    · repeat (first | with_reducible exact Below.refl _ _ | with_reducible refine Below.drew ?_ | with_reducible refine below_drewN ?_ _ | ((with_reducible refine Below.setCell ?_ ?hp _); case hp => simp) | ((with_reducible refine Below.alloc ?_ ?hp _); case hp => first | omega | (simp; done) | (simp; omega)))
end Go.Proofs.Ytllbbmofinminaa
