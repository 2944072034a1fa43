/-
  No cell of these rows narrows 'for every input' (looked for: loops, veiled, ifaces, maps, wideKeys, modest, calm, conditions, laid).
  DERIVED. THE GIVEN ROWS OF THIS SEAT. 2 by the template 'for every input the law returns true; each argument reads behind the call as it read before'; 0 by the template 'total and deterministic' (their statements: YtlgknednfgpgfaaTotals.lean).
  GIVEN WITH THE SEED: the statements are not yours to turn. If you find one false, say at which input.
  Laid BY PROGRAM, IN A SANDBOX (cutbox-rows.mjs): the forced cells as the released guide's own fill.sh prints them over the translation 435ecbc81b23ecfe… (all of the seat's roots in one cut). By AI agents, Wed Nov 11 2026. No macro, syntax, notation, axiom, sorry.
-/
import Derived.Test.YtlgknednfgpgfaaChecked
import GoSem.Claim
import GoSem.ClaimJoined
import GoSem.ClaimMapViews
import Derived.JoinedTies
import Derived.KernelRfl
namespace Go.Proofs.Ytlgknednfgpgfaa
/- THE CELL 'sum', in the pinned program and in every row, IS THE sha256 OF THE DUMP (.gsa) THAT YtlgknednfgpgfaaProg.lean LOADS. Nothing in Lean hashes anything: it is a label: what it is worth is what the hold of that sum in a sandbox is worth. -/
noncomputable def Try.pinned : Pinned := { name := "ytlgknednfgpgfaa", sum := "435ecbc81b23ecfeb56c1368fd77a12a1ec75710d862149d2f31a7eb465f7a40", checked := Try.checked }
namespace Rows
def none {H : Type} : Left H := { results := [], args := [] }

/-- 'obelisklaw8.MapsRead': WHATEVER THE INPUT: true; the input reads as it did. -/
def mapsReadSpec : ChangeSpec := { name := "mapsRead", fn := fun _ => fun
  | [d] => { results := [.lit (.bool true)], args := [d] }
  | _ => none }
def mapsReadRow : OpenClaim := { program := "ytlgknednfgpgfaa", sum := "435ecbc81b23ecfeb56c1368fd77a12a1ec75710d862149d2f31a7eb465f7a40", func := "obelisk/obelisklaw8.MapsRead", spec := "mapsRead", apart := false }
def MapsReadSaid : Prop := mapsReadRow.holds Try.pinned (OpenSpec.ofChange mapsReadSpec)

/-- ITS FALSE NEIGHBOUR: 'it returns false'. Refute it at one input. -/
def mapsReadWrong : ChangeSpec := { name := "mapsRead", fn := fun _ => fun
  | [d] => { results := [.lit (.bool false)], args := [d] }
  | _ => none }
def MapsReadWrongFalsely : Prop := mapsReadRow.holds Try.pinned (OpenSpec.ofChange mapsReadWrong)

/-- 'obelisklaw8.MapsFrames': WHATEVER THE INPUT: true; the input reads as it did. -/
def mapsFramesSpec : ChangeSpec := { name := "mapsFrames", fn := fun _ => fun
  | [d1, d2, d3, d4] => { results := [.lit (.bool true)], args := [d1, d2, d3, d4] }
  | _ => none }
def mapsFramesRow : OpenClaim := { program := "ytlgknednfgpgfaa", sum := "435ecbc81b23ecfeb56c1368fd77a12a1ec75710d862149d2f31a7eb465f7a40", func := "obelisk/obelisklaw8.MapsFrames", spec := "mapsFrames", apart := false }
def MapsFramesSaid : Prop := mapsFramesRow.holds Try.pinned (OpenSpec.ofChange mapsFramesSpec)

/-- ITS FALSE NEIGHBOUR: 'it returns false'. Refute it at one input. -/
def mapsFramesWrong : ChangeSpec := { name := "mapsFrames", fn := fun _ => fun
  | [d1, d2, d3, d4] => { results := [.lit (.bool false)], args := [d1, d2, d3, d4] }
  | _ => none }
def MapsFramesWrongFalsely : Prop := mapsFramesRow.holds Try.pinned (OpenSpec.ofChange mapsFramesWrong)

/- THE SECOND FORM. 'bulk': how many values and letters a reading holds, each counted each time it is reached (what is shared counts as often as it is met; a slice's spare places count too). A statement '..UptoSaid' is the law's where the arguments, and the package variables that the reading takes, are together of bulk at most 1048576: NARROWER than '..Said'. Prove '..Said' where nothing that the law and all that it calls make is longer than what came in: it says more and counts as full. Else prove '..UptoSaid'. A law counts once. -/
mutual
def uptoBulk {H : Type} : DataW H → Nat
  | .lit (.string bytes) => bytes.length + 1
  | .lit _ => 1
  | .nil => 1
  | .ptr d => uptoBulk d + 1
  | .slice elems spare => uptoBulkAll elems + uptoBulkAll spare + 1
  | .agg parts => uptoBulkAll parts + 1
  | .iface _ d => uptoBulk d + 1
  | .map entries => uptoBulkEntries entries + 1
  | .held _ => 1
def uptoBulkAll {H : Type} : List (DataW H) → Nat
  | [] => 0
  | d :: r => uptoBulk d + uptoBulkAll r
def uptoBulkEntries {H : Type} : List (Lit × DataW H) → Nat
  | [] => 0
  | x :: r => uptoBulkEntry x + uptoBulkEntries r
def uptoBulkEntry {H : Type} : Lit × DataW H → Nat
  | (.string bytes, d) => bytes.length + uptoBulk d + 1
  | (_, d) => uptoBulk d + 1
 end
def uptoSmall : (H : Type) → List (DataW H) → Bool := fun _ ds => decide (uptoBulkAll ds ≤ 1048576)
def OpenSpec.upto (s : _root_.Go.ChangeSpec) : _root_.Go.OpenSpec := { _root_.Go.OpenSpec.ofChange s with cond := some uptoSmall }

/-- 'obelisklaw8.MapsRead', WHERE WHAT IT READS IS OF BULK AT MOST 1048576: true; the input reads as it did. -/
def mapsReadUptoRow : OpenClaim := { program := "ytlgknednfgpgfaa", sum := "435ecbc81b23ecfeb56c1368fd77a12a1ec75710d862149d2f31a7eb465f7a40", func := "obelisk/obelisklaw8.MapsRead", spec := "mapsRead", apart := false, narrowed := true }
def MapsReadUptoSaid : Prop := mapsReadUptoRow.holds Try.pinned (OpenSpec.upto mapsReadSpec)

/-- 'obelisklaw8.MapsFrames', WHERE WHAT IT READS IS OF BULK AT MOST 1048576: true; the input reads as it did. -/
def mapsFramesUptoRow : OpenClaim := { program := "ytlgknednfgpgfaa", sum := "435ecbc81b23ecfeb56c1368fd77a12a1ec75710d862149d2f31a7eb465f7a40", func := "obelisk/obelisklaw8.MapsFrames", spec := "mapsFrames", apart := false, narrowed := true }
def MapsFramesUptoSaid : Prop := mapsFramesUptoRow.holds Try.pinned (OpenSpec.upto mapsFramesSpec)

end Rows
end Go.Proofs.Ytlgknednfgpgfaa
