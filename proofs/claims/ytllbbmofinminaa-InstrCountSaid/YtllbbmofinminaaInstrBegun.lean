/- What falls through; the beginning of each statement of stage 6. Nothing is claimed here. -/
import Derived.Test.YtllbbmofinminaaInstrAll2
import Derived.Test.YtllbbmofinminaaInstrKept
namespace Go.Proofs.Ytllbbmofinminaa
open Go.RowKit

def fallsT (op : Int) : Bool := !([167, 200, 170, 171, 172, 173, 176, 177, 191].contains op) && shapeT op != 0
theorem ifalls_any (op : Int) (w : World) : Calls Try.prog 14 #[.int .i64 op] w fun e w' => e = .returned (.bool (fallsT op)) ∧ w = w' := by
  have HS := hide (shape_any op)
  go_enter Try.func14, Try.ntmps14
  go_wp2_with (go_at_call 15; refine (HS.out _).mono ?_; rintro e w1 ⟨rfl, rfl⟩)
  all_goals go_ret
  all_goals first
    | (have h := beq_int (by assumption); subst h; exact ⟨rfl, rfl⟩)
    | (refine ⟨?_, rfl⟩; simp only [fallsT, List.contains_cons, List.contains_nil, Bool.or_false, *]; rfl)

theorem begun_all : allI [16, 255, 167, 255, 254] = some [⟨0, 2, 16, false, -1, 0, [], []⟩, ⟨2, 3, 167, false, 0, 0, [], []⟩] := by rfl
theorem begun_falls : fallsT 0 = true ∧ fallsT 167 = false ∧ fallsT 186 = false := by decide

def isByte (x : List Int) : Bool := x.all fun v => decide (0 ≤ v) && decide (v < 256)
theorem isByte_of {x : List Int} (h : isByte x = true) : IsBytes x := fun v hv => by
  have := List.all_eq_true.1 h v hv
  simpa using this
/-- A new block of bytes, read as a slice. -/
theorem At.bytes {w : World} {g : Nat} {xs : List Int} (h : At w g 5 (bys xs)) : Rd w w.heap.size (some ⟨g, 0, none⟩) xs.length (bys xs) := by
  have := h.rd 0 xs.length (by rw [bys_len]; omega)
  rwa [List.drop_zero, List.take_of_length_le (by rw [bys_len]; exact Nat.le_refl _)] at this

theorem own_cell {w : World} {base : Nat} {e : TypeId} {v : Value} {n size : Nat} {xs : List Value} (h : w.ownsRow base e size v n xs) (hn : 0 < n) (hsz : 0 < size) : ∃ g c, v = .slice (some ⟨g, 0, none⟩) n c ∧ ∀ (j : Nat) u, xs[j]? = some u → w.cell? ⟨g, j, none⟩ = some u := by
  obtain ⟨hl, ⟨rfl, rfl⟩ | ⟨g, cap, cur, rfl, hb, hg, hnc, hm, hs, ht⟩⟩ := h
  · have := Nat.mul_pos hn hsz
    simp at hl
    omega
  · refine ⟨g, cap, rfl, fun j u hu => ?_⟩
    rw [cell_of_row w g _ cur e (0, 0) hg, ← hu, ← ht]
    have : j < n * size := by
      have := (List.getElem?_eq_some_iff.1 hu).1
      omega
    rw [List.getElem?_take, if_pos this]; simp

set_option maxHeartbeats 1000000 in
set_option maxRecDepth 100000 in
theorem ibegun_any (w : World) : Calls Try.prog 6 #[] w fun e w' => e = .returned (.bool true) ∧ Below w.heap.size w w' := by
  have hat := At.new w 5 (bys [16, 255, 167, 255, 254])
  have HA := hide (iall_any _ 5 5 [16, 255, 167, 255, 254] _ _ hat.bytes (Nat.le_refl _) (isByte_of (by decide)) (Nat.le_refl _))
  rw [begun_all] at HA
  have HB := hide ((Below.refl w.heap.size w).alloc (Nat.le_refl _) (.cells (bys [16, 255, 167, 255, 254]).toArray 5))
  have HF0 : Hid (∀ W, Calls Try.prog 14 #[.int .i64 0] W fun e w' => e = .returned (.bool true) ∧ W = w') := hide (ifalls_any 0)
  have HF1 : Hid (∀ W, Calls Try.prog 14 #[.int .i64 167] W fun e w' => e = .returned (.bool false) ∧ W = w') := hide (ifalls_any 167)
  have HF2 : Hid (∀ W, Calls Try.prog 14 #[.int .i64 186] W fun e w' => e = .returned (.bool false) ∧ W = w') := hide (ifalls_any 186)
  clear hat
  go_enter Try.func6, Try.ntmps6
  go_wp2_with fail
  change Calls _ _ _ (w.alloc (.cells (bys [16, 255, 167, 255, 254]).toArray 5)) _
  refine HA.out.mono ?_
  generalize w.alloc (.cells (bys [16, 255, 167, 255, 254]).toArray 5) = w1 at *
  rintro e w2 ⟨⟨V, L, rfl, hL, hown, -⟩, hb2⟩
  obtain ⟨⟨I1, T1, K1⟩, L1, rfl⟩ : ∃ x y, L = x :: y := by cases L with | nil => cases hL | cons x y => exact ⟨_, _, rfl⟩
  obtain ⟨⟨I2, T2, K2⟩, L2, rfl⟩ : ∃ x y, L1 = x :: y := by cases L1 with | nil => cases hL | cons x y => exact ⟨_, _, rfl⟩
  obtain rfl : L2 = [] := by cases L2 with | nil => rfl | cons x y => cases hL
  simp only [List.map_cons, List.map_nil, List.cons.injEq, and_true] at hL
  obtain ⟨rfl, rfl⟩ := hL
  obtain ⟨g, c, rfl, hc⟩ := own_cell hown (by simp) (by omega)
  have q0 : w2.cell? ⟨g, 4, none⟩ = some (.int .i64 (-1)) := hc 4 _ rfl
  have q1 : w2.cell? ⟨g, 12, none⟩ = some (.int .i64 0) := hc 12 _ rfl
  have q2 : w2.cell? ⟨g, 8, none⟩ = some (.int .i64 2) := hc 8 _ rfl
  have HB2 := hide (HB.out.trans (hb2.mono HB.out.size))
  clear hc hown hb2 HA HB
  go_wp2_with fail
  refine (HF0.out _).mono ?_
  rintro e w3 ⟨rfl, rfl⟩
  go_wp2_with fail
  refine (HF1.out _).mono ?_
  rintro e w3 ⟨rfl, rfl⟩
  go_wp2_with fail
  refine (HF2.out _).mono ?_
  rintro e w3 ⟨rfl, rfl⟩
  go_wp2_with fail
  go_ret
  exact ⟨rfl, HB2.out⟩
end Go.Proofs.Ytllbbmofinminaa
