/- Texts of one stage, merged. Nothing is claimed here. -/
import Derived.Test.YtdhalpmgfmbcgaaDoorPackH
namespace Go.Proofs.YtdhalpmgfmbcgaaDoor
open Go.RowKit

/-- Blocks of bytes, one behind the other; the slices that name them. -/
def lays (w : World) (L : List (List Int)) : World := L.foldl (fun w x => w.alloc (.cells (bys x).toArray 5)) w
def rowsV (b : Nat) : List (List Int) → List Value
  | [] => []
  | x :: r => .slice (some ⟨b, 0, none⟩) x.length x.length :: rowsV (b + 1) r
theorem lays_size (L : List (List Int)) : ∀ w : World, (lays w L).heap.size = w.heap.size + L.length := by
  induction L with
  | nil => intro w; rfl
  | cons x r ih => intro w; show (lays (w.alloc _) r).heap.size = _; rw [ih]; simp; omega
theorem lays_below (L : List (List Int)) : ∀ (w0 w : World) (B : Nat), B ≤ w.heap.size → Below B w0 w → Below B w0 (lays w L) := by
  induction L with
  | nil => intro _ _ _ _ h; exact h
  | cons x r ih => intro w0 w B hB h; exact ih w0 (w.alloc _) B (by simp; omega) (h.alloc hB _)
theorem lays_at (L : List (List Int)) : ∀ (w : World) (j : Nat) (x : List Int), L[j]? = some x → At (lays w L) (w.heap.size + j) 5 (bys x) := by
  induction L with
  | nil => intro w j x h; simp at h
  | cons y r ih =>
    intro w j x h
    cases j with
    | zero =>
      cases h
      have h1 := At.new w 5 (bys y)
      exact h1.below (lays_below r _ (w.alloc (.cells (bys y).toArray 5)) _ (Nat.le_refl _) (Below.refl _ _)) (by simp)
    | succ j =>
      have := ih (w.alloc (.cells (bys y).toArray 5)) j x (by simpa using h)
      rw [show (w.alloc (.cells (bys y).toArray 5)).heap.size = w.heap.size + 1 by simp] at this
      rw [show w.heap.size + (j + 1) = w.heap.size + 1 + j by omega]
      exact this
theorem rowsV_at (L : List (List Int)) : ∀ (b j : Nat) (x : List Int), L[j]? = some x → (rowsV b L)[j]? = some (.slice (some ⟨b + j, 0, none⟩) x.length x.length) := by
  induction L with
  | nil => intro b j x h; simp at h
  | cons y r ih =>
    intro b j x h
    cases j with
    | zero => cases h; rfl
    | succ j =>
      have := ih (b + 1) j x (by simpa using h)
      rw [show b + (j + 1) = b + 1 + j by omega]
      exact this
def laid (w : World) (L : List (List Int)) : World := (lays w L).alloc (.cells (rowsV w.heap.size L).toArray 22)
theorem laid_row {w : World} {L : List (List Int)} {j : Nat} {x : List Int} (h : L[j]? = some x) : At (laid w L) (w.heap.size + j) 5 (bys x) := (lays_at L w j x h).alloc _
theorem laid_cell {w : World} {L : List (List Int)} {j : Nat} {x : List Int} (h : L[j]? = some x) : (laid w L).cell? ⟨w.heap.size + L.length, j, none⟩ = some (.slice (some ⟨w.heap.size + j, 0, none⟩) x.length x.length) := by
  have h1 := At.new (lays w L) 22 (rowsV w.heap.size L)
  rw [lays_size] at h1
  have h2 := h1.cell j
  exact h2.trans (rowsV_at L w.heap.size j x h)
theorem laid_size (w : World) (L : List (List Int)) : (laid w L).heap.size = w.heap.size + L.length + 1 := by
  show ((lays w L).alloc _).heap.size = _
  simp [lays_size]
theorem laid_below (w : World) (L : List (List Int)) {B : Nat} {w0 : World} (hB : B ≤ w.heap.size) (h : Below B w0 w) : Below B w0 (laid w L) :=
  (lays_below L w0 w B hB h).alloc (by rw [lays_size]; omega) _
def isByte (x : List Int) : Bool := x.all fun v => decide (0 ≤ v) && decide (v < 256)
theorem isByte_of {x : List Int} (h : isByte x = true) : IsBytes x := fun v hv => by
  have := List.all_eq_true.1 h v hv
  simpa using this

def pbads : List (List Int) := [[], [0, 0], [0, 2], [0, 2, 2, 0, 0], [0, 2, 4, 0, 0, 0, 0], [0, 2, 1, 0, 1, 0], [0, 2, 5, 0, 0, 0, 0, 0, 0, 0, 0], [0, 2, 7, 0, 1], [0, 2, 7, 0, 9], [0, 3, 7, 0, 2, 1, 0, 2, 97, 46], [0, 3, 8, 0, 1, 1, 0, 1, 97], [0, 4, 12, 0, 2, 0, 3, 1, 0, 1, 97, 1, 0, 1, 70], [0, 4, 12, 0, 2, 0, 3, 1, 0, 3, 97, 47, 98, 1, 0, 1, 73], [0, 2, 15, 1, 0, 0], [0, 2, 18, 0, 0, 0, 0]]
def pgoods : List (List Int) := [[0, 1], [0, 2, 3, 0, 0, 0, 1], [0, 3, 5, 0, 0, 0, 0, 0, 0, 0, 0], [0, 3, 8, 0, 2, 1, 0, 1, 97], [0, 4, 12, 0, 2, 0, 3, 1, 0, 1, 97, 1, 0, 1, 73], [0, 3, 7, 0, 2, 1, 0, 2, 91, 73]]
theorem pbads_all : ∀ k : Fin 15, (pool (pbads.getD k [])).isNone = true ∧ (pbads.getD k []).length ≤ 20 ∧ isByte (pbads.getD k []) = true := by decide +kernel
theorem pgoods_all : ∀ k : Fin 6, (pool (pgoods.getD k [])).isSome = true ∧ (pgoods.getD k []).length ≤ 20 ∧ isByte (pgoods.getD k []) = true := by decide +kernel
theorem getD_some {L : List (List Int)} {k : Nat} (h : k < L.length) : L[k]? = some (L.getD k []) := by simp [List.getD, h]

set_option maxHeartbeats 4000000 in
set_option maxRecDepth 100000 in
theorem PoolWitness_of (hR : ReadsPool) (hC : SaysClass) (w : World) (hw : Maxed w) : Calls Tryd.prog 5 #[] w fun e w' => e = .returned (.bool true) ∧ Below w.heap.size w w' := by
  have HR := hide hR
  have HC := hide hC
  have HW := hide hw
  clear hR hC hw
  go_enter Tryd.func5, Tryd.ntmps5
  go_wp2_with fail
  go_loopw [2] (fun iv wr => ∃ k : Nat, k ≤ 15 ∧ iv = .int .i64 k ∧ Below (laid w pbads).heap.size (laid w pbads) wr) (fun iv _ => 15 - (intOf iv).toNat)
  case atStart => exact ⟨0, Nat.zero_le _, rfl, Below.refl _ _⟩
  case round =>
    obtain ⟨k, hk, rfl, hb⟩ := hrel
    have hz : (laid w pbads).heap.size = w.heap.size + 15 + 1 := laid_size _ _
    by_cases hlt : k < 15
    · obtain ⟨p1, p2, p3⟩ := pbads_all ⟨k, hlt⟩
      have hx := getD_some (L := pbads) (k := k) hlt
      dsimp only at p1 p2 p3
      generalize pbads.getD k [] = x at *
      have hcell : wr.cell? ⟨w.heap.size + 1 + 1 + 1 + 1 + 1 + 1 + 1 + 1 + 1 + 1 + 1 + 1 + 1 + 1 + 1, k, none⟩ = some (.slice (some ⟨w.heap.size + k, 0, none⟩) x.length x.length) := by
        have h1 := laid_cell (w := w) hx
        have h2 := hb.cell (p := ⟨w.heap.size + 15, k, none⟩) (by show w.heap.size + 15 < _; omega)
        exact h2.trans h1
      have hrow := (laid_row (w := w) hx).below hb (by omega)
      have hrd := hrow.rd 0 x.length (by rw [bys_len]; omega)
      rw [List.drop_zero, List.take_of_length_le (by rw [bys_len]; omega)] at hrd
      have HN := hide (new_any _ x.length x.length x wr _ hrd (Nat.le_refl _) (by omega) (isByte_of p3))
      have Hb := hide hb
      have hbz := hb.size
      have P1 := hide p1
      clear hrow hrd hx p1 p3 hb
      go_wp2_with fail
      refine HN.out.mono ?_
      rintro e w1 ⟨g, gb, rfl, hc1, hg, hgb, hb1⟩
      have B1 := hide (Hb.out.trans (hb1.mono Hb.out.size))
      clear hb1 HN
      go_wp2_with fail
      refine (HR.out g gb x 0 w1 (HW.out.below ((laid_below w pbads (Nat.le_refl _) (Below.refl _ _)).trans (B1.out.mono (by omega)))) hc1).mono ?_
      rintro e w2 ⟨hg2, h⟩
      have B2 := hide (B1.out.grown hg2 B1.out.size (by intro k hk; cases hk; omega))
      rw [List.drop_zero] at h
      clear hg2 B1 hc1
      rcases h with ⟨h, v, rfl⟩ | ⟨ps, m, A, c, h, rfl, _, _, _⟩
      · clear h
        go_wp2_with fail
        go_roundw
        case rel => first | exact ⟨k + 1, by omega, by go_num, B2.out⟩ | ((repeat apply Exists.intro); exact ⟨⟨k + 1, by omega, by go_num, B2.out⟩, rfl⟩)
        case measure => simp [intOf]; omega
      · have := P1.out; rw [h] at this; cases this
    · obtain rfl : k = 15 := by omega
      have Hb := hide hb
      clear hb
      go_wp2_with fail
      obtain ⟨wo, rfl⟩ : ∃ wo : World, wo = wr := ⟨_, rfl⟩
      have HB : Hid (Below w.heap.size w wo) := hide ((laid_below w pbads (Nat.le_refl _) (Below.refl _ _)).trans (Hb.out.mono (by omega)))
      have hwo : w.heap.size ≤ wo.heap.size := HB.out.size

      go_loopw [6] (fun iv wr => ∃ k : Nat, k ≤ 6 ∧ iv = .int .i64 k ∧ Below (laid wo pgoods).heap.size (laid wo pgoods) wr) (fun iv _ => 6 - (intOf iv).toNat)
      case atStart => exact ⟨0, Nat.zero_le _, rfl, Below.refl _ _⟩
      case round =>
        obtain ⟨k, hk, rfl, hb⟩ := hrel
        have hz : (laid wo pgoods).heap.size = wo.heap.size + 6 + 1 := laid_size _ _
        by_cases hlt : k < 6
        · obtain ⟨p1, p2, p3⟩ := pgoods_all ⟨k, hlt⟩
          have hx := getD_some (L := pgoods) (k := k) hlt
          dsimp only at p1 p2 p3
          generalize pgoods.getD k [] = x at *
          have hcell : wr.cell? ⟨wo.heap.size + 1 + 1 + 1 + 1 + 1 + 1, k, none⟩ = some (.slice (some ⟨wo.heap.size + k, 0, none⟩) x.length x.length) := by
            have h1 := laid_cell (w := wo) hx
            have h2 := hb.cell (p := ⟨wo.heap.size + 6, k, none⟩) (by show wo.heap.size + 6 < _; omega)
            exact h2.trans h1
          have hrow := (laid_row (w := wo) hx).below hb (by omega)
          have hrd := hrow.rd 0 x.length (by rw [bys_len]; omega)
          rw [List.drop_zero, List.take_of_length_le (by rw [bys_len]; omega)] at hrd
          have HN := hide (new_any _ x.length x.length x wr _ hrd (Nat.le_refl _) (by omega) (isByte_of p3))
          have Hb := hide hb
          have hbz := hb.size
          have P1 := hide p1
          clear hrow hrd hx p1 p3 hb
          go_wp2_with fail
          refine HN.out.mono ?_
          rintro e w1 ⟨g, gb, rfl, hc1, hg, hgb, hb1⟩
          have B1 := hide (Hb.out.trans (hb1.mono Hb.out.size))
          clear hb1 HN
          go_wp2_with fail
          refine (HR.out g gb x 0 w1 (HW.out.below (HB.out.trans (((laid_below wo pgoods (Nat.le_refl _) (Below.refl _ _)).trans (B1.out.mono (by omega))).mono hwo))) hc1).mono ?_
          rintro e w2 ⟨hg2, h⟩
          have B2 := hide (B1.out.grown hg2 B1.out.size (by intro k hk; cases hk; omega))
          rw [List.drop_zero] at h
          clear hg2 B1 hc1
          rcases h with ⟨h, v, rfl⟩ | ⟨ps, m, A, c, h, rfl, _, _, _⟩
          · have := P1.out; rw [h] at this; cases this
          · clear h
            go_wp2_with fail
            go_roundw
            case rel => first | exact ⟨k + 1, by omega, by go_num, B2.out⟩ | ((repeat apply Exists.intro); exact ⟨⟨k + 1, by omega, by go_num, B2.out⟩, rfl⟩)
            case measure => simp [intOf]; omega
        · obtain rfl : k = 6 := by omega
          have Hb := hide hb
          clear hb
          go_wp2_with fail
          have HB2 := hide (HB.out.trans (((laid_below wo pgoods (Nat.le_refl _) (Below.refl _ _)).trans (Hb.out.mono (by omega))).mono hwo))
          refine (pbegun_is HR.out HC.out wr (HW.out.below HB2.out)).mono ?_
          rintro e w3 ⟨rfl, hb3⟩
          have HB3 := hide (HB2.out.trans (hb3.mono HB2.out.size))
          go_wp2_with fail
          go_ret
          exact ⟨rfl, HB3.out⟩
end Go.Proofs.YtdhalpmgfmbcgaaDoor
namespace Go.Proofs.YtdhalpmgfmbcgaaDoor
open Go.RowKit
theorem pmaxed_of {W : World} (h : W.ShapedOpen Tryd.prog) : Maxed W := Go.Proofs.cell_of_shapedOpen_int (zero := #[.int .i64 0]) (t := 3) h (of_decide_eq_true (by kernel_rfl)) (by kernel_rfl) rfl (by kernel_rfl) (by kernel_rfl) Tryd.underlying3
theorem PoolWitness_walk (w : World) (hw : Maxed w) : Calls Tryd.prog 5 #[] w fun e w' => e = .returned (.bool true) ∧ Below w.heap.size w w' := PoolWitness_of reads_pool says_class w hw
end Go.Proofs.YtdhalpmgfmbcgaaDoor
