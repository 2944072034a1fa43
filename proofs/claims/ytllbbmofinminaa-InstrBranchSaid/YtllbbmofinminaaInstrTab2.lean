/- A tableswitch that is one, as package instr reads it. Nothing is claimed here. -/
import Derived.Test.YtllbbmofinminaaInstrTab
import Derived.Laws.MakeOwn
namespace Go.Proofs.Ytllbbmofinminaa
open Go.RowKit

theorem made_nums (k : IntKind) (n : Nat) : madeCells (Value.int k 0).cells (n * 1) = ((List.replicate n (0 : Int)).map (.int k)).toArray := by
  apply Array.toList_inj.1
  unfold madeCells
  rw [Nat.mul_one]
  apply List.ext_getElem?
  intro i
  simp only [Array.toList_map]
  by_cases h : i < n
  · simp [h, Value.cells, Nat.mod_one]
  · simp [h]
theorem intinfo : (Try.prog.info? 3).map (fun i => (i.zero, i.size, i.bytes)) = some (some (.int .i64 0), 1, 8) := by kernel_rfl
theorem i64info : (Try.prog.info? 2).map (fun i => (i.zero, i.size, i.bytes)) = some (some (.int .i64 0), 1, 8) := by kernel_rfl
theorem make_ints (n : Nat) (hn : n ≤ 2000) (W : World) : (Instr.makeSlice 25 (.int .i64 (n : Int)) (.int .i64 (n : Int))).run Try.prog W = .ok (.slice (some ⟨W.heap.size, 0, none⟩) n n) (W.alloc (.cells ((List.replicate n (0 : Int)).map (.int .i64)).toArray 3)) := by
  obtain ⟨i0, hi0, iz0, iz1, iz2⟩ := info_parts intinfo
  have := run_make (P := Try.prog) W 25 3 i0 _ Try.underlying25 hi0 iz0 .i64 .i64 (n : Int) (n : Int) (by omega) (by omega) (by rw [iz2]; omega) (by omega)
  rw [this, iz1, Int.toNat_natCast, made_nums]
theorem make_i64s (n : Nat) (hn : n ≤ 2000) (W : World) : (Instr.makeSlice 26 (.int .i64 (n : Int)) (.int .i64 (n : Int))).run Try.prog W = .ok (.slice (some ⟨W.heap.size, 0, none⟩) n n) (W.alloc (.cells ((List.replicate n (0 : Int)).map (.int .i64)).toArray 2)) := by
  obtain ⟨i0, hi0, iz0, iz1, iz2⟩ := info_parts i64info
  have := run_make (P := Try.prog) W 26 2 i0 _ Try.underlying26 hi0 iz0 .i64 .i64 (n : Int) (n : Int) (by omega) (by omega) (by rw [iz2]; omega) (by omega)
  rw [this, iz1, Int.toNat_natCast, made_nums]

/-- The list L, of which the first j have been put. -/
def fillL (L : List Int) (j : Nat) : List Int := L.take j ++ List.replicate (L.length - j) 0
theorem fill_len (L : List Int) (j : Nat) (h : j ≤ L.length) : (fillL L j).length = L.length := by unfold fillL; simp; omega
theorem fill_zero (L : List Int) : fillL L 0 = List.replicate L.length 0 := by simp [fillL]
theorem fill_all (L : List Int) : fillL L L.length = L := by simp [fillL]
theorem fill_at (L : List Int) (j : Nat) (h : j < L.length) : (fillL L j)[j]? = some 0 := by
  unfold fillL
  have hl : (L.take j).length = j := by simp; omega
  rw [List.getElem?_append_right (by omega), hl, Nat.sub_self, show L.length - j = (L.length - (j + 1)) + 1 by omega]
  rfl
theorem fill_set (L : List Int) (j : Nat) (h : j < L.length) : (fillL L j).set j (L.getD j 0) = fillL L (j + 1) := by
  unfold fillL
  have hl : (L.take j).length = j := by simp; omega
  have ht : L.take (j + 1) = L.take j ++ [L.getD j 0] := by
    rw [List.take_add_one, List.getElem?_eq_getElem h, List.getD, List.getElem?_eq_getElem h]; rfl
  rw [List.set_append_right _ _ (by omega), hl, Nat.sub_self, show L.length - j = (L.length - (j + 1)) + 1 by omega, List.replicate_succ, List.set_cons_zero, ht, List.append_assoc]
  rfl
section
variable {w w' : World} {g : Nat} {t : TypeId} {k : IntKind} {L : List Int} {j : Nat}
theorem At.fill_cell (h : At w g t ((fillL L j).map (.int k))) (hj : j < L.length) : w.cell? ⟨g, j, none⟩ = some (.int k 0) := by
  rw [h.cell, List.getElem?_map, fill_at L j hj]; rfl
theorem At.fill_put (h : At w g t ((fillL L j).map (.int k))) (hj : j < L.length) : At (w.setCell ⟨g, j, none⟩ (.int k (L.getD j 0))) g t ((fillL L (j + 1)).map (.int k)) := by
  have := h.set j (.int k (L.getD j 0))
  rwa [← List.map_set, fill_set L j hj] at this
end
theorem At.newR {W : World} {g : Nat} (k : IntKind) (t : TypeId) (n : Nat) (hg : g = W.heap.size) : At (W.alloc (.cells (Array.replicate n (.int k 0)) t)) g t ((List.replicate n (0 : Int)).map (.int k)) := by
  subst hg
  have := At.new W t ((List.replicate n (0 : Int)).map (Value.int k))
  rwa [List.map_replicate, List.toArray_replicate, ← List.map_replicate] at this
/-- The eight cells of an instruction's block. -/
theorem At.c8 {W : World} {g : Nat} {a b c d e f h i : Value} (hA : At W g 28 [a, b, c, d, e, f, h, i]) :
    (W.cell? ⟨g, 0, none⟩ = some a ∧ W.cell? ⟨g, 1, none⟩ = some b ∧ W.cell? ⟨g, 2, none⟩ = some c ∧ W.cell? ⟨g, 3, none⟩ = some d ∧ W.cell? ⟨g, 4, none⟩ = some e ∧ W.cell? ⟨g, 5, none⟩ = some f ∧ W.cell? ⟨g, 6, none⟩ = some h ∧ W.cell? ⟨g, 7, none⟩ = some i) ∧
    (W.frozen? ⟨g, 0, none⟩ = false ∧ W.frozen? ⟨g, 1, none⟩ = false ∧ W.frozen? ⟨g, 2, none⟩ = false ∧ W.frozen? ⟨g, 3, none⟩ = false ∧ W.frozen? ⟨g, 4, none⟩ = false ∧ W.frozen? ⟨g, 5, none⟩ = false ∧ W.frozen? ⟨g, 6, none⟩ = false ∧ W.frozen? ⟨g, 7, none⟩ = false) :=
  ⟨⟨hA.cell 0, hA.cell 1, hA.cell 2, hA.cell 3, hA.cell 4, hA.cell 5, hA.cell 6, hA.cell 7⟩, ⟨hA.free 0, hA.free 1, hA.free 2, hA.free 3, hA.free 4, hA.free 5, hA.free 6, hA.free 7⟩⟩

/-- What is held while targets are put: the old memory, the result's block, the targets' row. -/
def TS (w W : World) (cs : List Int) : Prop :=
  Below w.heap.size w W ∧ At W w.heap.size 28 [.int .i64 0, .int .i64 0, .int .i64 0, .bool false, .int .i64 0, .int .i64 0, .slice none 0 0, .slice none 0 0] ∧ At W (w.heap.size + 1) 3 (cs.map (.int .i64))
theorem TS.drewN {w W : World} {cs : List Int} (h : TS w W cs) (q : Nat) : TS w (W.drewN q) cs := ⟨below_drewN h.1 q, h.2.1, h.2.2⟩
theorem TS.put {w W : World} {L : List Int} {j : Nat} (h : TS w W (fillL L j)) (hj : j < L.length) : TS w (W.setCell ⟨w.heap.size + 1, j, none⟩ (.int .i64 (L.getD j 0))) (fillL L (j + 1)) :=
  ⟨h.1.setCell (by simp) _, h.2.1.far (by simp) _, h.2.2.fill_put hj⟩

theorem tabTo_len (xs : List Int) (p f m : Nat) : (tabTo xs p f m).length = m + 1 := by simp [tabTo]
theorem tabTo_zero (xs : List Int) (p f m : Nat) : (tabTo xs p f m).getD 0 0 = p + s4 xs f := rfl
theorem tabTo_next (xs : List Int) (p f m j : Nat) (h : j < m) : (tabTo xs p f m).getD (1 + j) 0 = p + s4 xs (f + (12 + 4 * j)) := by
  rw [Nat.add_comm]; simp [tabTo, List.getD, h]
end Go.Proofs.Ytllbbmofinminaa
