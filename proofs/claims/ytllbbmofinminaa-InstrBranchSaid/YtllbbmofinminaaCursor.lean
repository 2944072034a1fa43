/- What each function of package cursor does, over a cursor in memory. Nothing is claimed here. -/
import Derived.Test.YtllbbmofinminaaMem
import Derived.Test.YtllbbmofinminaaProg
import Derived.Deep.QuietTactic
import Derived.BigQuiet
import Derived.WalkSpells
import Derived.Deep.OwnRows
namespace Go.Proofs.Ytllbbmofinminaa
open Go.RowKit

theorem u8info : (Try.prog.info? 5).map (fun i => (i.zero, i.size, i.bytes)) = some (some (.int .u8 0), 1, 1) := by kernel_rfl
theorem u8size : (Try.prog.info? 5).map (·.size) = some 1 := by kernel_rfl

theorem splice_all {α : Type} (L cs : List α) (h : L.length = cs.length) : splice L 0 cs = cs := by
  simp [splice, ← h]

/-! ### the reads -/
/-- The number that bytes make, the highest first. -/
def be (xs : List Int) : Int := xs.foldl (fun v b => v * 256 + b) 0
theorem be_snoc (xs : List Int) (b : Int) : be (xs ++ [b]) = be xs * 256 + b := by simp [be]
theorem be_bound (xs : List Int) (h : IsBytes xs) (hl : xs.length ≤ 4) : 0 ≤ be xs ∧ be xs < 4294967296 := by
  match xs, hl with
  | [], _ => simp [be]
  | [a], _ => have := h a (by simp); simp [be]; omega
  | [a, b], _ => have := h a (by simp); have := h b (by simp); simp [be]; omega
  | [a, b, c], _ => have := h a (by simp); have := h b (by simp); have := h c (by simp); simp [be]; omega
  | [a, b, c, d], _ => have := h a (by simp); have := h b (by simp); have := h c (by simp); have := h d (by simp); simp [be]; omega

theorem take_step (ys : List Int) (j : Nat) (h : j < ys.length) : be (ys.take (j + 1)) = be (ys.take j) * 256 + ys.getD j 0 := by
  rw [List.take_succ_eq_append_getElem h, be_snoc]
  simp [List.getD, h]

end Go.Proofs.Ytllbbmofinminaa
