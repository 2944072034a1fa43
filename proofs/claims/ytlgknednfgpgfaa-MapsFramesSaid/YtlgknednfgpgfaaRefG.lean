/- The reader of the documents' answers, over bytes that lie anywhere: what N, Some and Left give. Nothing is claimed here. -/
import Derived.Test.YtlgknednfgpgfaaWhole
namespace Go.Proofs.Ytlgknednfgpgfaa
open Go.RowKit

/-- A reader over the bytes xs, wherever ahead of the reader's own block they lie, k of them read; bad: a read was refused. -/
def RefG (w : World) (r base : Nat) (A : Option Addr) (c : Nat) (xs : List Int) (k : Nat) (bad : Bool) : Prop :=
  At w r 61 [.slice A xs.length c, .int .i64 k, .bool bad] ∧ Rd w base A xs.length (bys xs) ∧ k ≤ xs.length ∧ IsBytes xs ∧ xs.length ≤ 140737488355328 ∧ xs.length ≤ c ∧ base ≤ r

section
variable {w w' : World} {r base : Nat} {A : Option Addr} {c : Nat} {xs : List Int} {k : Nat} {bad : Bool}
theorem RefG.drewN (h : RefG w r base A c xs k bad) (n : Nat) : RefG (w.drewN n) r base A c xs k bad := h
theorem below_of_grownG {g : Nat} (h : w.grownBy w' (some g)) (hB : base ≤ g) (hs : base ≤ w.heap.size) : Below base w w' :=
  ⟨h.os, h.tape, h.output, h.size, fun i hi => h.block i (by omega) (by simp; omega)⟩
theorem RefG.lt (h : RefG w r base A c xs k bad) : base ≤ w.heap.size := by have := h.1.lt; have := h.2.2.2.2.2.2; omega
theorem RefG.below (h : RefG w r base A c xs k bad) (hb : Below w.heap.size w w') : RefG w' r base A c xs k bad :=
  ⟨h.1.below hb h.1.lt, h.2.1.below (hb.mono h.lt), h.2.2⟩
theorem RefG.own (h : RefG w r base A c xs k bad) (hb : w.grownBy w' (some r)) : Rd w' base A xs.length (bys xs) := h.2.1.below (below_of_grownG hb h.2.2.2.2.2.2 h.lt)
theorem RefG.turn (h : RefG w r base A c xs k bad) (k' : Nat) (hk : k' ≤ xs.length) : RefG (w.setCell ⟨r, 1, none⟩ (.int .i64 k')) r base A c xs k' bad :=
  ⟨by simpa using h.1.set 1 (.int .i64 k'), h.own (only_set _), hk, h.2.2.2⟩
theorem RefG.fail (h : RefG w r base A c xs k bad) : RefG (w.setCell ⟨r, 2, none⟩ (.bool true)) r base A c xs k true :=
  ⟨by simpa using h.1.set 2 (.bool true), h.own (only_set _), h.2.2⟩
end

theorem rleft_anyG (r base : Nat) (A : Option Addr) (c : Nat) (xs : List Int) (k : Nat) (bad : Bool) (w : World) (h : RefG w r base A c xs k bad) :
    Calls Try.prog 21 #[.pointer (some ⟨r, 0, none⟩)] w fun e w' => e = .returned (.int .i64 ((xs.length : Int) - k)) ∧ ∃ m, w' = w.drewN m := by
  have h0 : w.cell? ⟨r, 0, none⟩ = some (.slice A xs.length c) := h.1.cell 0
  have h1 : w.cell? ⟨r, 1, none⟩ = some (.int .i64 k) := h.1.cell 1
  have hk := h.2.2.1
  have hl := h.2.2.2.2.1
  generalize xs.length = l at *
  clear h
  go_enter Try.func21, Try.ntmps21
  go_wp2
  go_quiet (fail)
  go_wp2
  go_ret
  exact ⟨rfl, _, rfl⟩

theorem rn_noneG (r base : Nat) (A : Option Addr) (c : Nat) (xs : List Int) (k : Nat) (n : Int) (bad : Bool) (w : World) (h : RefG w r base A c xs k bad) (hn : bad = true ∨ (xs.length : Int) - k < n) :
    Calls Try.prog 19 #[.pointer (some ⟨r, 0, none⟩), .int .i64 n] w fun e w' => e = .returned (.int .i64 0) ∧ RefG w' r base A c xs k true ∧ w.grownBy w' (some r) := by
  have h0 : w.cell? ⟨r, 0, none⟩ = some (.slice A xs.length c) := h.1.cell 0
  have h1 : w.cell? ⟨r, 1, none⟩ = some (.int .i64 k) := h.1.cell 1
  have h2 : w.cell? ⟨r, 2, none⟩ = some (.bool bad) := h.1.cell 2
  have f2 := h.1.free 2
  have hk := h.2.2.1
  have hl := h.2.2.2.2.1
  have H := hide h
  clear h
  cases bad
  · have hlt : (xs.length : Int) - k < n := by simpa using hn
    generalize hL : xs.length = l at *
    clear hL hn
    go_enter Try.func19, Try.ntmps19
    go_wp2
    go_quiet (fail)
    go_wp2
    go_ret
    exact ⟨rfl, (H.out.drewN _).fail, grown_trans (grown_drewN (grown_refl w _) _) (only_set _)⟩
  · clear hn
    go_enter Try.func19, Try.ntmps19
    go_wp2
    go_quiet (fail)
    go_wp2
    go_ret
    exact ⟨rfl, (H.out.drewN _).fail, grown_trans (grown_drewN (grown_refl w _) _) (only_set _)⟩

theorem rn_someG (r base : Nat) (A : Option Addr) (c : Nat) (xs : List Int) (k : Nat) (n : Int) (w : World) (h : RefG w r base A c xs k false) (h0 : 0 ≤ n) (hn : n ≤ (xs.length : Int) - k) (h4 : n ≤ 4) :
    Calls Try.prog 19 #[.pointer (some ⟨r, 0, none⟩), .int .i64 n] w fun e w' => e = .returned (.int .i64 (be ((xs.drop k).take n.toNat))) ∧ RefG w' r base A c xs (k + n.toNat) false ∧ w.grownBy w' (some r) := by
  obtain ⟨n, rfl⟩ := Int.eq_ofNat_of_zero_le h0
  rw [Int.toNat_natCast]
  have c0 : w.cell? ⟨r, 0, none⟩ = some (.slice A xs.length c) := h.1.cell 0
  have c1 : w.cell? ⟨r, 1, none⟩ = some (.int .i64 k) := h.1.cell 1
  have c2 : w.cell? ⟨r, 2, none⟩ = some (.bool false) := h.1.cell 2
  have f1 := h.1.free 1
  have hk := h.2.2.1
  have hl := h.2.2.2.2.1
  have hlc := h.2.2.2.2.2
  have hb := h.2.2.2.1.drop k
  have H := hide h
  obtain ⟨ys, hys⟩ : ∃ ys, ys = xs.drop k := ⟨_, rfl⟩
  rw [← hys] at hb ⊢
  have Hy : Hid (ys = xs.drop k) := hys
  have Hyl : Hid (ys.length = xs.length - k) := by rw [hys]; exact List.length_drop
  have Hb := hide hb
  clear h hys hb
  generalize hL : xs.length = l at *
  have HL := hide hL
  clear hL
  have hd : decide ((l : Int) - (k : Int) < (n : Int)) = false := by simp; omega
  go_enter Try.func19, Try.ntmps19
  go_wp2
  go_quiet (fail)
  go_wp2
  go_loopw [5, 6] (fun x i wr => ∃ j q : Nat, j ≤ n ∧ i = .int .i64 j ∧ x = .int .i64 (be (ys.take j)) ∧ wr = w.drewN q) (fun _ i _ => n - (intOf i).toNat)
  case atStart => exact ⟨0, _, Nat.zero_le _, rfl, rfl, rfl⟩
  case round =>
    obtain ⟨j, q, hj, rfl, rfl, rfl⟩ := hrel
    have hbd := be_bound (ys.take j) (Hb.out.take j) (by simp; omega)
    by_cases hlt : j < n
    · have hjl : j < ys.length := by rw [Hyl.out]; omega
      have hy := Hb.out (ys.getD j 0) (by rw [List.getD, List.getElem?_eq_getElem hjl]; exact List.getElem_mem _)
      have Hst := hide (take_step ys j hjl)
      obtain ⟨g, o, rfl, _, hcell⟩ := cells_at (show Rd w base A xs.length (cells .u8 xs) from H.out.2.1) (j := k + j) (by rw [HL.out]; omega)
      rw [show xs.getD (k + j) 0 = ys.getD j 0 by rw [Hy.out]; simp [List.getD]] at hcell
      generalize ys.getD j 0 = y at *
      generalize be (ys.take j) = v at *
      go_wp2
      go_quiet (fail)
      go_wp2
      go_roundw
      case rel => exact ⟨j + 1, _, by omega, by go_num, int_eq Hst.out.symm, rfl⟩
      case measure => simp [intOf]; omega
    · obtain rfl : j = n := by omega
      go_wp2
      go_ret
      refine ⟨rfl, ?_, grown_trans (grown_drewN (grown_refl w _) q) (only_set _)⟩
      have := (H.out.drewN q).turn (k + j) (by rw [HL.out]; omega)
      rwa [Int.natCast_add] at this

theorem src_cutG {w : World} {B : Nat} {A : Option Addr} {l : Nat} {xs : List Value} (h : Rd w B A l xs) {k n : Nat} (hk : k + n ≤ l) :
    Rd w B (A.map fun x => x.add k) n ((xs.drop k).take n) := by
  have hl := h.1
  refine ⟨by simp; omega, fun hn => ?_⟩
  obtain ⟨g, o, rfl, hg, hc⟩ := h.2 (by omega)
  refine ⟨g, o + k, by simp [add_none], hg, fun j u hu => ?_⟩
  rw [Nat.add_assoc]
  refine hc (k + j) u ?_
  simp only [List.getElem?_take, List.getElem?_drop] at hu
  split at hu
  · exact hu
  · cases hu

/-- What Some gives where it is not refused. -/
def RTakenG (w : World) (r base : Nat) (A : Option Addr) (c : Nat) (xs : List Int) (k n : Nat) (e : Ending) (w' : World) : Prop :=
  ∃ B d, e = .returned (.slice B n d) ∧ n ≤ d ∧ Rd w' base B n (bys ((xs.drop k).take n)) ∧ RefG w' r base A c xs (k + n) false ∧ w.grownBy w' (some r)

theorem rnG_is (r base : Nat) (A : Option Addr) (c : Nat) (xs : List Int) (k : Nat) (n : Int) (bad : Bool) (w : World) (h : RefG w r base A c xs k bad) (h0 : 0 ≤ n) (h4 : n ≤ 4) :
    Calls Try.prog 19 #[.pointer (some ⟨r, 0, none⟩), .int .i64 n] w fun e w' => e = .returned (.int .i64 (be (got xs k bad n))) ∧ RefG w' r base A c xs (went xs k bad n) (!okd xs k bad n) ∧ w.grownBy w' (some r) := by
  unfold got went
  cases ho : okd xs k bad n
  · exact rn_noneG r base A c xs k n bad w h (by rcases okd_false ho with a | a | a; (exact .inl a); (omega); (exact .inr a))
  · obtain ⟨rfl, h0, hn⟩ := okd_true ho
    exact rn_someG r base A c xs k n w h h0 hn h4
/-- What Some gives. -/
def SomesG (w : World) (r base : Nat) (A : Option Addr) (c : Nat) (xs : List Int) (k : Nat) (bad : Bool) (n : Int) (e : Ending) (w' : World) : Prop :=
  ∃ B d, e = .returned (.slice B (got xs k bad n).length d) ∧ (got xs k bad n).length ≤ d ∧ Rd w' base B (got xs k bad n).length (bys (got xs k bad n)) ∧ RefG w' r base A c xs (went xs k bad n) (!okd xs k bad n) ∧ w.grownBy w' (some r)
end Go.Proofs.Ytlgknednfgpgfaa
