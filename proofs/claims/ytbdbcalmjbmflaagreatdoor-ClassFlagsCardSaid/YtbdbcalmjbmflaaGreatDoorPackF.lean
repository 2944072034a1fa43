/- Texts of one stage, merged. Nothing is claimed here. -/
import Derived.Test.YtbdbcalmjbmflaaGreatDoorPackE
import Derived.Laws.MakeOwn
namespace Go.Proofs.YtbdbcalmjbmflaaGreatDoor
open Go.RowKit

theorem constinfo : (Tryz.prog.info? 109).map (fun i => (i.zero, i.size, i.bytes)) = some (some (.agg #[.int .i64 0, .string ⟨#[]⟩, .int .i64 0, .int .i64 0, .int .i64 0]), 5, 48) := by kernel_rfl
theorem made_c (n : Nat) : madeCells (Value.agg #[.int .i64 0, .string ⟨#[]⟩, .int .i64 0, .int .i64 0, .int .i64 0]).cells (n * 5) = (ccells (List.replicate n noC)).toArray := by
  apply Array.toList_inj.1
  unfold madeCells
  apply List.ext_getElem?
  intro p
  by_cases h : p < n * 5
  · have hp : p = p / 5 * 5 + p % 5 := by omega
    have h1 := ccells_at (List.replicate n noC) (p / 5) (p % 5) (by simp; omega) (by omega)
    have h2 : (List.replicate n noC).getD (p / 5) noC = noC := by
      have : p / 5 < n := by omega
      simp [List.getD, this]
    rw [← hp, h2] at h1
    show ((Array.range (n * 5)).map _).toList[p]? = (ccells (List.replicate n noC))[p]?
    rw [h1]
    have h3 : p % 5 = 0 ∨ p % 5 = 1 ∨ p % 5 = 2 ∨ p % 5 = 3 ∨ p % 5 = 4 := by omega
    rcases h3 with h3 | h3 | h3 | h3 | h3 <;> simp [h, Value.cells, h3, Cst.cells, noC] <;> rfl
  · have h1 : (ccells (List.replicate n noC)).length = n * 5 := by rw [ccells_len, List.length_replicate]
    show ((Array.range (n * 5)).map _).toList[p]? = (ccells (List.replicate n noC))[p]?
    rw [List.getElem?_eq_none (l := ccells _) (by omega)]
    simp [h]
theorem grown_set {a w : World} {r g : Nat} (h : a.grownBy w (some r)) (hg : a.heap.size ≤ g) (i : Nat) (v : Value) : a.grownBy (w.setCell ⟨g, i, none⟩ v) (some r) :=
  ⟨h.os, h.tape, h.output, by simpa [World.setCell] using h.size, fun k hk hne => (Below.heap_setCell w ⟨g, i, none⟩ v k (by show k ≠ g; omega)).trans (h.block k hk hne)⟩
theorem rel_one {n i kk k0 sz : Nat} {L xs : List Int} {d : List Cst} {e : Cst} (hi : i < n) (hk : k0 ≤ kk) (hr : entries (n - 1) L = (entries (n - i) (xs.drop kk)).map fun x => (d ++ x.1, (kk - k0) + x.2))
    (he : entry1 (xs.drop kk) = some (e, sz)) (h5 : e.tag ≠ 5) : entries (n - 1) L = (entries (n - (i + 1)) (xs.drop (kk + sz))).map fun x => ((d ++ [e]) ++ x.1, (kk + sz - k0) + x.2) := by
  rw [hr, show n - i = (n - (i + 1)) + 1 by omega, entries_one he h5, List.drop_drop, Option.map_map]
  congr 1
  funext x
  simp; omega
theorem rel_long {n i kk k0 sz : Nat} {L xs : List Int} {d : List Cst} {e : Cst} (hi : i + 1 < n) (hk : k0 ≤ kk) (hr : entries (n - 1) L = (entries (n - i) (xs.drop kk)).map fun x => (d ++ x.1, (kk - k0) + x.2))
    (he : entry1 (xs.drop kk) = some (e, sz)) (h5 : e.tag = 5) : entries (n - 1) L = (entries (n - (i + 2)) (xs.drop (kk + sz))).map fun x => ((d ++ [e, noC]) ++ x.1, (kk + sz - k0) + x.2) := by
  rw [hr, show n - i = (n - (i + 2)) + 2 by omega, entries_long he h5, List.drop_drop, Option.map_map]
  congr 1
  funext x
  simp; omega
theorem rel_none {n i kk k0 : Nat} {L xs : List Int} {d : List Cst} (hi : i < n) (hr : entries (n - 1) L = (entries (n - i) (xs.drop kk)).map fun x => (d ++ x.1, (kk - k0) + x.2))
    (he : entry1 (xs.drop kk) = none) : entries (n - 1) L = none := by
  rw [hr, show n - i = (n - (i + 1)) + 1 by omega, entries_none he]; rfl
theorem rel_last {n i kk k0 sz : Nat} {L xs : List Int} {d : List Cst} {e : Cst} (hi : i < n) (hl : n ≤ i + 1) (hr : entries (n - 1) L = (entries (n - i) (xs.drop kk)).map fun x => (d ++ x.1, (kk - k0) + x.2))
    (he : entry1 (xs.drop kk) = some (e, sz)) (h5 : e.tag = 5) : entries (n - 1) L = none := by
  rw [hr, show n - i = 1 by omega, entries_last he h5]; rfl
theorem cut_c (done : List Cst) {n i : Nat} (hi : i < n) : ccells (done ++ List.replicate (n - i) noC) = ccells done ++ (.int .i64 0 :: .string ⟨#[]⟩ :: .int .i64 0 :: .int .i64 0 :: .int .i64 0 :: ccells (List.replicate (n - (i + 1)) noC)) := by
  rw [ccells_app, show n - i = (n - (i + 1)) + 1 by omega, List.replicate_succ, ccells_cons]; rfl
theorem join_c (done : List Cst) (e : Cst) (m : Nat) : ccells done ++ (.int .i64 e.tag :: .string (strOfNums e.text) :: .int .i64 e.num :: .int .i64 e.a :: .int .i64 e.b :: ccells (List.replicate m noC)) = ccells ((done ++ [e]) ++ List.replicate m noC) := by
  rw [ccells_app, ccells_app, ccells_cons, List.append_assoc, List.append_assoc]; rfl
theorem join_l (done : List Cst) (e : Cst) {n i : Nat} (hi : i + 1 < n) : ccells done ++ (.int .i64 e.tag :: .string (strOfNums e.text) :: .int .i64 e.num :: .int .i64 e.a :: .int .i64 e.b :: ccells (List.replicate (n - (i + 1)) noC)) = ccells ((done ++ [e, noC]) ++ List.replicate (n - (i + 2)) noC) := by
  rw [show n - (i + 1) = (n - (i + 2)) + 1 by omega, List.replicate_succ, ccells_cons, ccells_app, ccells_app, ccells_cons, ccells_cons]
  simp [Cst.cells, ccells]
theorem drop_one {xs : List Int} {k : Nat} (h : k < xs.length) : ∃ t, xs.drop k = t :: xs.drop (k + 1) ∧ be ((xs.drop k).take 1) = t := by
  refine ⟨xs[k], List.drop_eq_getElem_cons h, ?_⟩
  rw [List.drop_eq_getElem_cons h, List.take_succ_cons, List.take_zero]
  show 0 * 256 + xs[k] = xs[k]
  omega
theorem wrap32_sgn (v : Int) (h0 : 0 ≤ v) (h1 : v < 4294967296) : wrap32 v = sgn 32 v := by
  unfold wrap32 sgn
  split <;> omega
theorem wrap64_sgn (v : Int) (h0 : 0 ≤ v) (h1 : v < 4294967296) : wrap64 (sgn 32 v) = sgn 32 v := by
  unfold wrap64 sgn
  split <;> omega
theorem okd_yes {xs : List Int} {k : Nat} {m : Nat} (h : k + m ≤ xs.length) : okd xs k false m = true := by simp [okd]; omega
theorem okd_no {xs : List Int} {k : Nat} {m : Nat} (h : ¬ k + m ≤ xs.length) : okd xs k false m = false := by simp [okd]; omega

end Go.Proofs.YtbdbcalmjbmflaaGreatDoor
