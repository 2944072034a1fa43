/- The shapes of opcodes, as the program tells them apart. Nothing is claimed here. -/
import Derived.Test.YtllbbmofinminaaInstrRef
namespace Go.Proofs.Ytllbbmofinminaa
open Go.RowKit

/-- The opcodes of each shape. -/
def bareOps : List Int := [0, 1, 46, 47, 50, 51, 52, 53, 79, 80, 83, 84, 85, 86, 87, 88, 89, 90, 91, 92, 93, 94, 95, 96, 97, 100, 101, 104, 105, 108, 109, 112, 113, 116, 117, 120, 121, 122, 123, 124, 125, 126, 127, 128, 129, 130, 131, 133, 136, 145, 146, 147, 148, 172, 173, 176, 177, 190, 191, 194, 195]
def namedOps : List Int := [2, 3, 4, 5, 6, 7, 8, 9, 10, 26, 27, 28, 29, 30, 31, 32, 33, 42, 43, 44, 45, 59, 60, 61, 62, 63, 64, 65, 66, 75, 76, 77, 78]
def smallOps : List Int := [18, 21, 22, 25, 54, 55, 58, 188]
def entryOps : List Int := [19, 20, 178, 179, 180, 181, 182, 183, 184, 187, 189, 192, 193]
def branchOps : List Int := [153, 154, 155, 156, 157, 158, 159, 160, 161, 162, 163, 164, 165, 166, 167, 198, 199]
def shapeT (op : Int) : Int :=
  if bareOps.contains op then 1 else if namedOps.contains op then 2 else if op == 16 then 3 else if op == 17 then 4
  else if smallOps.contains op then 5 else if entryOps.contains op then 6 else if op == 132 then 7 else if branchOps.contains op then 8
  else if op == 200 then 9 else if op == 197 then 10 else if op == 185 then 11 else if op == 170 then 12 else if op == 171 then 13 else if op == 196 then 14 else 0

theorem beq_int {a b : Int} (h : (a == b) = true) : a = b := by simpa using h

set_option maxHeartbeats 4000000 in
set_option maxRecDepth 100000 in
theorem shape_any (op : Int) (w : World) :
    Calls Try.prog 15 #[.int .i64 op] w fun e w' => e = .returned (.int .i64 (shapeT op)) ∧ w = w' := by
  go_enter Try.func15, Try.ntmps15
  go_wp2
  all_goals go_ret
  all_goals first
    | (have h := beq_int (by assumption); subst h; exact ⟨rfl, rfl⟩)
    | (refine ⟨?_, rfl⟩; simp only [shapeT, bareOps, namedOps, smallOps, entryOps, branchOps, List.contains_cons, List.contains_nil, Bool.or_false, *]; rfl)
end Go.Proofs.Ytllbbmofinminaa
