/- A switch's padding, as package instr reads it. Nothing is claimed here. -/
import Derived.Test.YtllbbmofinminaaInstrWide
namespace Go.Proofs.Ytllbbmofinminaa
open Go.RowKit

/-- Where a padding ends. -/
def padE (p : Nat) : Nat := p + (4 - p % 4)
theorem padE_bd (p : Nat) : p + 1 ≤ padE p ∧ padE p ≤ p + 4 := by unfold padE; omega
/-- Is the padding noughts? -/
def padZ (xs : List Int) (p : Nat) : Bool := ((xs.drop (p + 1)).take (padE p - (p + 1))).all (· == 0)
def padR (A : Option Addr) (n c : Nat) (xs : List Int) (p least : Nat) : Value :=
  if n < padE p + least || !padZ xs p then .tuple #[.slice none 0 0, .bool false] else .tuple #[.slice (subA c (padE p) A) (n - padE p) (c - padE p), .bool true]

theorem padded_any (B : Nat) (A : Option Addr) (n c p least : Nat) (xs : List Int) (w : World) (h : Rd w B A n (bys xs)) (hb : IsBytes xs) (hp : p < n) (hc : n ≤ c) (hn : n ≤ 140737488355328) (hl : least ≤ 100) :
    Calls Try.prog 30 #[.slice A n c, .int .i64 p, .int .i64 least] w fun e w' => e = .returned (padR A n c xs p least) ∧ w = w' := by
  have hpe : (p : Int) + 4 - (p : Int) % 4 = (padE p : Nat) := by
    unfold padE
    omega
  have he := padE_bd p
  obtain ⟨f, hf⟩ : ∃ f, padE p = f := ⟨_, rfl⟩
  rw [hf] at hpe he
  by_cases hs : n < f + least
  · have hlt : (n : Int) - (f : Int) < (least : Int) := by omega
    have HR : Hid (padR A n c xs p least = .tuple #[.slice none 0 0, .bool false]) := hide (by unfold padR; rw [if_pos (by rw [hf]; simp [hs])])
    clear h hf
    go_enter Try.func30, Try.ntmps30
    go_wp2_with fail
    go_ret2
    exact ⟨by rw [HR.out]; rfl, rfl⟩
  · have hlt : ¬ ((n : Int) - (f : Int) < (least : Int)) := by omega
    have hSl := slice_sub A n c (p + 1) f (by omega) (by omega)
    have hSf := slice_from A n c f (by omega)
    rw [show ((p + 1 : Nat) : Int) = (p : Int) + 1 by omega] at hSl
    have hsub := h.sub (c := c) (i := p + 1) (j := f) (by omega) (by omega) hc
    obtain ⟨ys, hys⟩ : ∃ ys, ys = (xs.drop (p + 1)).take (f - (p + 1)) := ⟨_, rfl⟩
    rw [← hys] at hsub
    have hyb : IsBytes ys := by rw [hys]; exact (hb.drop _).take _
    have HZ : Hid (padZ xs p = ys.all (· == 0)) := hide (by unfold padZ; rw [hf, hys])
    have HR : Hid (padR A n c xs p least = if ys.all (· == 0) then .tuple #[.slice (subA c f A) (n - f) (c - f), .bool true] else .tuple #[.slice none 0 0, .bool false]) := hide (by
      unfold padR; rw [hf, HZ.out]; cases ys.all (· == 0) <;> simp [hs])
    have hm : f - (p + 1) ≤ 3 := by omega
    generalize f - (p + 1) = m at *
    generalize subA c (p + 1) A = SA at *
    generalize subA c f A = SF at *
    have H := hide hsub
    have Hb := hide hyb
    have hyl : ys.length = m := by have := hsub.1; rwa [bys_len] at this
    have Hyl := hide hyl
    clear h hf hys hsub hyb hyl HZ
    go_enter Try.func30, Try.ntmps30
    go_wp2_with fail
    go_loop [28, 10] (fun i _ => ∃ j : Nat, j ≤ m ∧ i = .int .i64 j ∧ (ys.take j).all (· == 0) = true) (fun i _ => m - (intOf i).toNat)
    case atStart => exact ⟨0, by omega, rfl, rfl⟩
    case round =>
      obtain ⟨j, hj, rfl, hz⟩ := hrel
      have Hz := hide hz
      clear hz
      by_cases hlt : j < m
      · obtain ⟨gs, os, rfl, hcell⟩ := rd_b1 H.out hlt
        have hbd := b1_bd Hb.out j
        have Ht : Hid (ys.take (j + 1) = ys.take j ++ [b1 ys j]) := hide (by
          have hjl : j < ys.length := by rw [Hyl.out]; exact hlt
          rw [List.take_add_one, List.getElem?_eq_getElem hjl, b1, List.getD, List.getElem?_eq_getElem hjl]; rfl)
        have Hg : Hid (∀ y, b1 ys j = y → y ≠ 0 → ys.all (· == 0) = false) := hide fun y hy h0 => by
          have hjl : j < ys.length := by rw [Hyl.out]; exact hlt
          apply Bool.eq_false_iff.2
          intro hall
          have := List.all_eq_true.1 hall (ys[j]'hjl) (List.getElem_mem _)
          rw [b1, List.getD, List.getElem?_eq_getElem hjl] at hy
          simp at this hy
          exact h0 (hy ▸ this)
        obtain ⟨y, hy⟩ : ∃ y, b1 ys j = y := ⟨_, rfl⟩
        rw [hy] at hcell hbd Ht
        have Hg2 := hide (Hg.out y hy)
        clear hy Hg
        by_cases h0 : y = 0
        · subst h0
          go_wp2_with fail
          go_round
          case rel => exact ⟨j + 1, by omega, by go_num, by rw [Ht.out, List.all_append, Hz.out]; rfl⟩
          case measure => simp [intOf]; omega
        · go_wp2_with fail
          go_ret2
          exact ⟨by rw [HR.out, Hg2.out h0]; rfl, rfl⟩
      · obtain rfl : j = m := by omega
        have Hall : Hid (ys.all (· == 0) = true) := hide (by have := Hz.out; rwa [List.take_of_length_le (Nat.le_of_eq Hyl.out)] at this)
        go_wp2_with fail
        go_ret2
        exact ⟨by rw [HR.out, Hall.out]; rfl, rfl⟩
end Go.Proofs.Ytllbbmofinminaa
