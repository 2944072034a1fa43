/- The small functions of package instr, and stretches of bytes. Nothing is claimed here. -/
import Derived.Test.YtllbbmofinminaaInstrNum
namespace Go.Proofs.Ytllbbmofinminaa
open Go.RowKit

/-- How many bytes stand behind the opcode, by its shape. -/
def opB (s : Int) : Nat := if s == 3 || s == 5 then 1 else if s == 4 || s == 6 || s == 7 || s == 8 then 2 else if s == 10 then 3 else if s == 9 || s == 11 then 4 else 0
theorem ioperand_any (s : Int) (w : World) : Calls Try.prog 26 #[.int .i64 s] w fun e w' => e = .returned (.int .i64 (opB s)) ∧ w = w' := by
  go_enter Try.func26, Try.ntmps26
  go_wp2
  all_goals go_ret
  all_goals first
    | (have h := beq_int (by assumption); subst h; exact ⟨rfl, rfl⟩)
    | (refine ⟨?_, rfl⟩; simp only [opB, Bool.or_false, *]; rfl)

/-- May wide stand ahead? -/
def wideT (op : Int) : Bool := [21, 22, 25, 54, 55, 58, 132].contains op
theorem iwidens_any (op : Int) (w : World) : Calls Try.prog 27 #[.int .i64 op] w fun e w' => e = .returned (.bool (wideT op)) ∧ w = w' := by
  go_enter Try.func27, Try.ntmps27
  go_wp2
  all_goals go_ret
  all_goals first
    | (have h := beq_int (by assumption); subst h; exact ⟨rfl, rfl⟩)
    | (refine ⟨?_, rfl⟩; simp only [wideT, List.contains_cons, List.contains_nil, Bool.or_false, *]; rfl)

/-- The number in a name. -/
def nameT (op : Int) : Int := if op ≤ 8 then op - 3 else if op ≤ 10 then op - 9 else if op ≤ 45 then (op - 26).tmod 4 else (op - 59).tmod 4
theorem iinName_any (op : Int) (w : World) (h0 : 0 ≤ op) (h1 : op < 256) : Calls Try.prog 32 #[.int .i64 op] w fun e w' => e = .returned (.int .i64 (nameT op)) ∧ w = w' := by
  go_enter Try.func32, Try.ntmps32
  go_wp2
  all_goals go_ret
  all_goals (refine ⟨?_, rfl⟩; simp [nameT, *]; try ((repeat' split) <;> first | rfl | omega))

/-! ### stretches of a slice -/
def subA (c i : Nat) (a : Option Addr) : Option Addr := if c = i then a else a.map (·.add i)
theorem slice_sub (a : Option Addr) (len cap i j : Nat) (hi : i ≤ j) (hj : j ≤ cap) (W : World) :
    (Instr.slice 22 (.slice a len cap) (some (.int .i64 (i : Int))) (some (.int .i64 (j : Int))) none).run Try.prog W = .ok (.slice (subA cap i a) (j - i) (cap - i)) W := by
  obtain ⟨i0, hi0, hz0, hz1, hz2⟩ := info_parts u8info
  simp [Instr.slice, run_underlying Try.underlying22, Instr.sliceBounds, Instr.sliceBound, asIntOf, hi, hj, go_sem, sizeOf, typeInfo, hi0, hz1, subA]
theorem slice_from (a : Option Addr) (len cap f : Nat) (hf : f ≤ len) (W : World) :
    (Instr.slice 22 (.slice a len cap) (some (.int .i64 (f : Int))) none none).run Try.prog W = .ok (.slice (subA cap f a) (len - f) (cap - f)) W := by
  obtain ⟨i0, hi0, hz0, hz1, hz2⟩ := info_parts u8info
  simp [Instr.slice, run_underlying Try.underlying22, Instr.sliceBounds, Instr.sliceBound, asIntOf, hf, go_sem, sizeOf, typeInfo, hi0, hz1, subA]
theorem Rd.sub {w : World} {B : Nat} {A : Option Addr} {n c : Nat} {xs : List Int} (h : Rd w B A n (bys xs)) {i j : Nat} (hi : i ≤ j) (hj : j ≤ n) (hc : n ≤ c) : Rd w B (subA c i A) (j - i) (bys ((xs.drop i).take (j - i))) := by
  have hl := h.1
  rw [bys_len] at hl
  refine ⟨by simp [bys]; omega, fun hp => ?_⟩
  obtain ⟨g, o, rfl, hg, hh⟩ := h.2 (by omega)
  refine ⟨g, o + i, by unfold subA; rw [if_neg (by omega)]; simp [add_none], hg, fun k u hu => ?_⟩
  have h2 : (bys xs)[i + k]? = some u := by
    simp only [bys, List.getElem?_map, List.getElem?_take, List.getElem?_drop] at hu ⊢
    split at hu
    · exact hu
    · cases hu
  have := hh (i + k) u h2
  rwa [← Nat.add_assoc] at this
theorem Rd.from {w : World} {B : Nat} {A : Option Addr} {n c : Nat} {xs : List Int} (h : Rd w B A n (bys xs)) {i : Nat} (hi : i ≤ n) (hc : n ≤ c) : Rd w B (subA c i A) (n - i) (bys (xs.drop i)) := by
  have hl := h.1
  rw [bys_len] at hl
  have := h.sub (i := i) (j := n) hi (Nat.le_refl _) hc
  rwa [List.take_of_length_le (by simp; omega)] at this
end Go.Proofs.Ytllbbmofinminaa
