/- What the documents' answers give for one type: words, sameness, the type at a text's beginning. Nothing is claimed here. -/
import Derived.Test.YtjlcocalpjeghaaDoorDescrSpec
import Derived.Test.YtjlcocalpjeghaaDoorNamesRef
namespace Go.Proofs.YtjlcocalpjeghaaDoor
open Go.RowKit

/-- A type's cells. -/
def Ty.cells (t : Ty) : List Value := [.int .u8 t.kind, .string (strOfNums t.name), .int .i64 t.dims, .int .u8 t.elem]
/-- A type as a value. -/
def Ty.val (t : Ty) : Value := .agg #[.int .u8 t.kind, .string (strOfNums t.name), .int .i64 t.dims, .int .u8 t.elem]

theorem below_one (w : World) (o : Obj) : Below w.heap.size w (w.alloc o) := (Below.refl _ w).alloc (Nat.le_refl _) o
theorem rwords_any (t : Ty) (w : World) : Calls Tryd.prog 13 #[t.val] w fun e w' => e = .returned (.int .i64 (words t.kind)) ∧ Below w.heap.size w w' := by
  obtain ⟨k, n, d, x⟩ := t
  simp only [Ty.val]
  generalize strOfNums n = s
  have H := hide (show ∀ k, words k = if k = 74 then 2 else if baseB k = true ∨ k = 76 ∨ k = 91 then 1 else 0 from fun _ => rfl)
  go_enter Tryd.func13, Tryd.ntmps13
  go_wp2
  all_goals go_ret
  all_goals refine ⟨?_, below_one _ _⟩
  all_goals simp only [beq_iff_eq, beq_eq_false_iff_ne, ne_eq] at *
  all_goals rw [H.out]
  all_goals (try subst_vars)
  all_goals simp_all [baseB]

theorem eqtype_same (t : Ty) (w : World) : Calls Tryd.prog 11 #[t.val, t.val] w fun e w' => e = .returned (.bool true) ∧ Below w.heap.size w w' := by
  obtain ⟨k, n, d, x⟩ := t
  simp only [Ty.val]
  generalize strOfNums n = s
  have e1 : (k == k) = true := beq_self_eq_true k
  have e2 : (s.toList == s.toList) = true := beq_self_eq_true _
  have e3 : ((d : Int) == (d : Int)) = true := beq_self_eq_true _
  have e4 : (x == x) = true := beq_self_eq_true x
  go_enter Tryd.func11, Tryd.ntmps11
  go_wp2
  go_ret
  exact ⟨rfl, ((Below.refl _ w).alloc (Nat.le_refl _) _).alloc (by simp) _⟩
end Go.Proofs.YtjlcocalpjeghaaDoor
