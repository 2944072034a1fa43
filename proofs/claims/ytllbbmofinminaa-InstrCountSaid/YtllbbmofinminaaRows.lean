/-
  No cell of these rows narrows 'for every input' (looked for: loops, veiled, ifaces, maps, wideKeys, modest, calm, conditions, laid).
  DERIVED. THE GIVEN ROWS OF THIS SEAT. 3 by the template 'for every input the law returns true; each argument reads behind the call as it read before'; 0 by the template 'total and deterministic' (their statements: YtllbbmofinminaaTotals.lean).
  GIVEN WITH THE SEED: the statements are not yours to turn. If you find one false, say at which input.
  Laid BY PROGRAM, IN A SANDBOX (cutbox-rows.mjs): the forced cells as the released guide's own fill.sh prints them over the translation 97b4b3fd056fef14… (all of the seat's roots in one cut). By AI agents, Wed Nov 11 2026. No macro, syntax, notation, axiom, sorry.
-/
import Derived.Test.YtllbbmofinminaaChecked
import GoSem.Claim
import GoSem.ClaimJoined
import GoSem.ClaimMapViews
import Derived.JoinedTies
import Derived.KernelRfl
namespace Go.Proofs.Ytllbbmofinminaa
/- THE CELL 'sum', in the pinned program and in every row, IS THE sha256 OF THE DUMP (.gsa) THAT YtllbbmofinminaaProg.lean LOADS. Nothing in Lean hashes anything: it is a label: what it is worth is what the hold of that sum in a sandbox is worth. -/
noncomputable def Try.pinned : Pinned := { name := "ytllbbmofinminaa", sum := "97b4b3fd056fef14c8695645dc9b3fb3f9df7c4fddab0d0243ba77a020922cf4", checked := Try.checked }
namespace Rows
def none {H : Type} : Left H := { results := [], args := [] }

/-- 'obelisklaw6.InstrAt': WHATEVER THE INPUT: true; the input reads as it did. -/
def instrAtSpec : ChangeSpec := { name := "instrAt", fn := fun _ => fun
  | [d1, d2] => { results := [.lit (.bool true)], args := [d1, d2] }
  | _ => none }
def instrAtRow : OpenClaim := { program := "ytllbbmofinminaa", sum := "97b4b3fd056fef14c8695645dc9b3fb3f9df7c4fddab0d0243ba77a020922cf4", func := "obelisk/obelisklaw6.InstrAt", spec := "instrAt", apart := false }
def InstrAtSaid : Prop := instrAtRow.holds Try.pinned (OpenSpec.ofChange instrAtSpec)

/-- ITS FALSE NEIGHBOUR: 'it returns false'. Refute it at one input. -/
def instrAtWrong : ChangeSpec := { name := "instrAt", fn := fun _ => fun
  | [d1, d2] => { results := [.lit (.bool false)], args := [d1, d2] }
  | _ => none }
def InstrAtWrongFalsely : Prop := instrAtRow.holds Try.pinned (OpenSpec.ofChange instrAtWrong)

/-- 'obelisklaw6.InstrCount': WHATEVER THE INPUT: true; the input reads as it did. -/
def instrCountSpec : ChangeSpec := { name := "instrCount", fn := fun _ => fun
  | [] => { results := [.lit (.bool true)], args := [] }
  | _ => none }
def instrCountRow : OpenClaim := { program := "ytllbbmofinminaa", sum := "97b4b3fd056fef14c8695645dc9b3fb3f9df7c4fddab0d0243ba77a020922cf4", func := "obelisk/obelisklaw6.InstrCount", spec := "instrCount", apart := false }
def InstrCountSaid : Prop := instrCountRow.holds Try.pinned (OpenSpec.ofChange instrCountSpec)

/-- ITS FALSE NEIGHBOUR: 'it returns false'. Refute it at one input. -/
def instrCountWrong : ChangeSpec := { name := "instrCount", fn := fun _ => fun
  | [] => { results := [.lit (.bool false)], args := [] }
  | _ => none }
def InstrCountWrongFalsely : Prop := instrCountRow.holds Try.pinned (OpenSpec.ofChange instrCountWrong)

/-- 'obelisklaw6.InstrBranch': WHATEVER THE INPUT: true; the input reads as it did. -/
def instrBranchSpec : ChangeSpec := { name := "instrBranch", fn := fun _ => fun
  | [d1, d2, d3] => { results := [.lit (.bool true)], args := [d1, d2, d3] }
  | _ => none }
def instrBranchRow : OpenClaim := { program := "ytllbbmofinminaa", sum := "97b4b3fd056fef14c8695645dc9b3fb3f9df7c4fddab0d0243ba77a020922cf4", func := "obelisk/obelisklaw6.InstrBranch", spec := "instrBranch", apart := false }
def InstrBranchSaid : Prop := instrBranchRow.holds Try.pinned (OpenSpec.ofChange instrBranchSpec)

/-- ITS FALSE NEIGHBOUR: 'it returns false'. Refute it at one input. -/
def instrBranchWrong : ChangeSpec := { name := "instrBranch", fn := fun _ => fun
  | [d1, d2, d3] => { results := [.lit (.bool false)], args := [d1, d2, d3] }
  | _ => none }
def InstrBranchWrongFalsely : Prop := instrBranchRow.holds Try.pinned (OpenSpec.ofChange instrBranchWrong)

/- THE SECOND FORM. 'bulk': how many values and letters a reading holds, each counted each time it is reached (what is shared counts as often as it is met; a slice's spare places count too). A statement '..UptoSaid' is the law's where the arguments, and the package variables that the reading takes, are together of bulk at most 1048576: NARROWER than '..Said'. Prove '..Said' where nothing that the law and all that it calls make is longer than what came in: it says more and counts as full. Else prove '..UptoSaid'. A law counts once. -/
mutual
def uptoBulk {H : Type} : DataW H → Nat
  | .lit (.string bytes) => bytes.length + 1
  | .lit _ => 1
  | .nil => 1
  | .ptr d => uptoBulk d + 1
  | .slice elems spare => uptoBulkAll elems + uptoBulkAll spare + 1
  | .agg parts => uptoBulkAll parts + 1
  | .iface _ d => uptoBulk d + 1
  | .map entries => uptoBulkEntries entries + 1
  | .held _ => 1
def uptoBulkAll {H : Type} : List (DataW H) → Nat
  | [] => 0
  | d :: r => uptoBulk d + uptoBulkAll r
def uptoBulkEntries {H : Type} : List (Lit × DataW H) → Nat
  | [] => 0
  | x :: r => uptoBulkEntry x + uptoBulkEntries r
def uptoBulkEntry {H : Type} : Lit × DataW H → Nat
  | (.string bytes, d) => bytes.length + uptoBulk d + 1
  | (_, d) => uptoBulk d + 1
 end
def uptoSmall : (H : Type) → List (DataW H) → Bool := fun _ ds => decide (uptoBulkAll ds ≤ 1048576)
def OpenSpec.upto (s : _root_.Go.ChangeSpec) : _root_.Go.OpenSpec := { _root_.Go.OpenSpec.ofChange s with cond := some uptoSmall }

/-- 'obelisklaw6.InstrAt', WHERE WHAT IT READS IS OF BULK AT MOST 1048576: true; the input reads as it did. -/
def instrAtUptoRow : OpenClaim := { program := "ytllbbmofinminaa", sum := "97b4b3fd056fef14c8695645dc9b3fb3f9df7c4fddab0d0243ba77a020922cf4", func := "obelisk/obelisklaw6.InstrAt", spec := "instrAt", apart := false, narrowed := true }
def InstrAtUptoSaid : Prop := instrAtUptoRow.holds Try.pinned (OpenSpec.upto instrAtSpec)

/-- 'obelisklaw6.InstrCount', WHERE WHAT IT READS IS OF BULK AT MOST 1048576: true; the input reads as it did. -/
def instrCountUptoRow : OpenClaim := { program := "ytllbbmofinminaa", sum := "97b4b3fd056fef14c8695645dc9b3fb3f9df7c4fddab0d0243ba77a020922cf4", func := "obelisk/obelisklaw6.InstrCount", spec := "instrCount", apart := false, narrowed := true }
def InstrCountUptoSaid : Prop := instrCountUptoRow.holds Try.pinned (OpenSpec.upto instrCountSpec)

/-- 'obelisklaw6.InstrBranch', WHERE WHAT IT READS IS OF BULK AT MOST 1048576: true; the input reads as it did. -/
def instrBranchUptoRow : OpenClaim := { program := "ytllbbmofinminaa", sum := "97b4b3fd056fef14c8695645dc9b3fb3f9df7c4fddab0d0243ba77a020922cf4", func := "obelisk/obelisklaw6.InstrBranch", spec := "instrBranch", apart := false, narrowed := true }
def InstrBranchUptoSaid : Prop := instrBranchUptoRow.holds Try.pinned (OpenSpec.upto instrBranchSpec)

end Rows
end Go.Proofs.Ytllbbmofinminaa
