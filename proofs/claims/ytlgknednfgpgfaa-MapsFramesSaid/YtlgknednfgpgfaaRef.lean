/- The reader of the documents' answers: what N, Some and Left give. Nothing is claimed here. -/
import Derived.Test.YtlgknednfgpgfaaWhole
namespace Go.Proofs.Ytlgknednfgpgfaa
open Go.RowKit

/-- A reader over the bytes xs, k of them read; bad: a read was refused. -/
def Ref (w : World) (r base : Nat) (A : Option Addr) (c : Nat) (xs : List Int) (k : Nat) (bad : Bool) : Prop :=
  At w r 61 [.slice A xs.length c, .int .i64 k, .bool bad] ∧ Src w base 5 A xs.length (bys xs) ∧ k ≤ xs.length ∧ IsBytes xs ∧ xs.length ≤ 140737488355328 ∧ xs.length ≤ c

section
variable {w w' : World} {r base : Nat} {A : Option Addr} {c : Nat} {xs : List Int} {k : Nat} {bad : Bool}
theorem Ref.drewN (h : Ref w r base A c xs k bad) (n : Nat) : Ref (w.drewN n) r base A c xs k bad := h
theorem Ref.grown (h : Ref w r base A c xs k bad) {row : Option Nat} (hb : w.grownBy w' row) (hne : some r ≠ row) (hr : ∀ g t cs, row = some g → At w g t cs → t ≠ 5) (hx : ∀ g, row = some g → ∃ t cs, At w g t cs) : Ref w' r base A c xs k bad :=
  ⟨h.1.grown hb hne, h.2.1.grown hb hr hx, h.2.2⟩
theorem Ref.own (h : Ref w r base A c xs k bad) (hb : w.grownBy w' (some r)) : Src w' base 5 A xs.length (bys xs) :=
  h.2.1.grown hb (fun g t cs he ha => by
    cases he
    intro ht
    have h1 := h.1
    unfold At at h1 ha
    rw [h1] at ha
    simp only [Option.some.injEq, Obj.cells.injEq] at ha
    exact absurd (ha.2.1.trans ht) (by decide)) (fun g he => by cases he; exact ⟨_, _, h.1⟩)
theorem Ref.turn (h : Ref w r base A c xs k bad) (k' : Nat) (hk : k' ≤ xs.length) : Ref (w.setCell ⟨r, 1, none⟩ (.int .i64 k')) r base A c xs k' bad :=
  ⟨by simpa using h.1.set 1 (.int .i64 k'), h.own (only_set _), hk, h.2.2.2⟩
theorem Ref.fail (h : Ref w r base A c xs k bad) : Ref (w.setCell ⟨r, 2, none⟩ (.bool true)) r base A c xs k true :=
  ⟨by simpa using h.1.set 2 (.bool true), h.own (only_set _), h.2.2⟩
end

theorem rleft_any (r base : Nat) (A : Option Addr) (c : Nat) (xs : List Int) (k : Nat) (bad : Bool) (w : World) (h : Ref w r base A c xs k bad) :
    Calls Try.prog 21 #[.pointer (some ⟨r, 0, none⟩)] w fun e w' => e = .returned (.int .i64 ((xs.length : Int) - k)) ∧ ∃ m, w' = w.drewN m := by
  have h0 : w.cell? ⟨r, 0, none⟩ = some (.slice A xs.length c) := h.1.cell 0
  have h1 : w.cell? ⟨r, 1, none⟩ = some (.int .i64 k) := h.1.cell 1
  have hk := h.2.2.1
  have hl := h.2.2.2.2.1
  generalize xs.length = l at *
  clear h
  go_enter Try.func21, Try.ntmps21
  go_wp2
  go_quiet (fail)
  go_wp2
  go_ret
  exact ⟨rfl, _, rfl⟩

theorem rn_none (r base : Nat) (A : Option Addr) (c : Nat) (xs : List Int) (k : Nat) (n : Int) (bad : Bool) (w : World) (h : Ref w r base A c xs k bad) (hn : bad = true ∨ (xs.length : Int) - k < n) :
    Calls Try.prog 19 #[.pointer (some ⟨r, 0, none⟩), .int .i64 n] w fun e w' => e = .returned (.int .i64 0) ∧ Ref w' r base A c xs k true ∧ w.grownBy w' (some r) := by
  have h0 : w.cell? ⟨r, 0, none⟩ = some (.slice A xs.length c) := h.1.cell 0
  have h1 : w.cell? ⟨r, 1, none⟩ = some (.int .i64 k) := h.1.cell 1
  have h2 : w.cell? ⟨r, 2, none⟩ = some (.bool bad) := h.1.cell 2
  have f2 := h.1.free 2
  have hk := h.2.2.1
  have hl := h.2.2.2.2.1
  have H := hide h
  clear h
  cases bad
  · have hlt : (xs.length : Int) - k < n := by simpa using hn
    generalize hL : xs.length = l at *
    clear hL hn
    go_enter Try.func19, Try.ntmps19
    go_wp2
    go_quiet (fail)
    go_wp2
    go_ret
    exact ⟨rfl, (H.out.drewN _).fail, grown_trans (grown_drewN (grown_refl w _) _) (only_set _)⟩
  · clear hn
    go_enter Try.func19, Try.ntmps19
    go_wp2
    go_quiet (fail)
    go_wp2
    go_ret
    exact ⟨rfl, (H.out.drewN _).fail, grown_trans (grown_drewN (grown_refl w _) _) (only_set _)⟩

theorem src_cell {w : World} {base : Nat} {A : Option Addr} {n : Nat} {xs : List Int} (h : Src w base 5 A n (bys xs)) {j : Nat} (hj : j < n) :
    ∃ g, A = some ⟨g, 0, none⟩ ∧ w.cell? ⟨g, j, none⟩ = some (.int .u8 (xs.getD j 0)) := by
  rcases h with ⟨_, rfl, _⟩ | ⟨g, ex, rfl, _, hl, ha⟩
  · omega
  · rw [bys_len] at hl
    refine ⟨g, rfl, ?_⟩
    rw [ha.cell, List.getElem?_append_left (by rw [bys_len]; omega)]
    simp [bys, List.getD, show j < xs.length by omega]

theorem rn_some (r base : Nat) (A : Option Addr) (c : Nat) (xs : List Int) (k : Nat) (n : Int) (w : World) (h : Ref w r base A c xs k false) (h0 : 0 ≤ n) (hn : n ≤ (xs.length : Int) - k) (h4 : n ≤ 4) :
    Calls Try.prog 19 #[.pointer (some ⟨r, 0, none⟩), .int .i64 n] w fun e w' => e = .returned (.int .i64 (be ((xs.drop k).take n.toNat))) ∧ Ref w' r base A c xs (k + n.toNat) false ∧ w.grownBy w' (some r) := by
  obtain ⟨n, rfl⟩ := Int.eq_ofNat_of_zero_le h0
  rw [Int.toNat_natCast]
  have c0 : w.cell? ⟨r, 0, none⟩ = some (.slice A xs.length c) := h.1.cell 0
  have c1 : w.cell? ⟨r, 1, none⟩ = some (.int .i64 k) := h.1.cell 1
  have c2 : w.cell? ⟨r, 2, none⟩ = some (.bool false) := h.1.cell 2
  have f1 := h.1.free 1
  have hk := h.2.2.1
  have hl := h.2.2.2.2.1
  have hlc := h.2.2.2.2.2
  have hb := h.2.2.2.1.drop k
  have H := hide h
  obtain ⟨ys, hys⟩ : ∃ ys, ys = xs.drop k := ⟨_, rfl⟩
  rw [← hys] at hb ⊢
  have Hy : Hid (ys = xs.drop k) := hys
  have Hyl : Hid (ys.length = xs.length - k) := by rw [hys]; exact List.length_drop
  have Hb := hide hb
  clear h hys hb
  generalize hL : xs.length = l at *
  have HL := hide hL
  clear hL
  have hd : decide ((l : Int) - (k : Int) < (n : Int)) = false := by simp; omega
  go_enter Try.func19, Try.ntmps19
  go_wp2
  go_quiet (fail)
  go_wp2
  go_loopw [5, 6] (fun x i wr => ∃ j q : Nat, j ≤ n ∧ i = .int .i64 j ∧ x = .int .i64 (be (ys.take j)) ∧ wr = w.drewN q) (fun _ i _ => n - (intOf i).toNat)
  case atStart => exact ⟨0, _, Nat.zero_le _, rfl, rfl, rfl⟩
  case round =>
    obtain ⟨j, q, hj, rfl, rfl, rfl⟩ := hrel
    have hbd := be_bound (ys.take j) (Hb.out.take j) (by simp; omega)
    by_cases hlt : j < n
    · have hjl : j < ys.length := by rw [Hyl.out]; omega
      have hy := Hb.out (ys.getD j 0) (by rw [List.getD, List.getElem?_eq_getElem hjl]; exact List.getElem_mem _)
      have Hst := hide (take_step ys j hjl)
      obtain ⟨g, rfl, hcell⟩ := src_cell H.out.2.1 (j := k + j) (by rw [HL.out]; omega)
      rw [show xs.getD (k + j) 0 = ys.getD j 0 by rw [Hy.out]; simp [List.getD]] at hcell
      generalize ys.getD j 0 = y at *
      generalize be (ys.take j) = v at *
      go_wp2
      go_quiet (fail)
      go_wp2
      go_roundw
      case rel => exact ⟨j + 1, _, by omega, by go_num, int_eq Hst.out.symm, rfl⟩
      case measure => simp [intOf]; omega
    · obtain rfl : j = n := by omega
      go_wp2
      go_ret
      refine ⟨rfl, ?_, grown_trans (grown_drewN (grown_refl w _) q) (only_set _)⟩
      have := (H.out.drewN q).turn (k + j) (by rw [HL.out]; omega)
      rwa [Int.natCast_add] at this

theorem src_cut {w : World} {base : Nat} {e : TypeId} {A : Option Addr} {l : Nat} {xs : List Value} (h : Src w base e A l xs) {k n : Nat} (hk : k + n ≤ l) :
    Rd w w.heap.size (A.map fun x => x.add k) n ((xs.drop k).take n) := by
  rcases h with ⟨rfl, rfl, rfl⟩ | ⟨g, ex, rfl, _, hl, ha⟩
  · obtain rfl : n = 0 := by omega
    simpa using Rd.nil w w.heap.size none
  · have := ha.rd k n (by simp; omega)
    rw [List.drop_append_of_le_length (by omega), List.take_append_of_le_length (by simp; omega)] at this
    simpa [add_none] using this

/-- What Some gives where it is not refused. -/
def RTaken (w : World) (r base : Nat) (A : Option Addr) (c : Nat) (xs : List Int) (k n : Nat) (e : Ending) (w' : World) : Prop :=
  ∃ B d, e = .returned (.slice B n d) ∧ Rd w' w'.heap.size B n (bys ((xs.drop k).take n)) ∧ Ref w' r base A c xs (k + n) false ∧ w.grownBy w' (some r)

end Go.Proofs.Ytlgknednfgpgfaa
