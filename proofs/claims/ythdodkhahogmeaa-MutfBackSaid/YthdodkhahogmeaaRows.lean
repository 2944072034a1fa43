/-
  No cell of these rows narrows 'for every input' (looked for: loops, veiled, ifaces, maps, wideKeys, modest, calm, conditions, laid).
  DERIVED. THE GIVEN ROWS OF THIS SEAT. 4 by the template 'for every input the law returns true; each argument reads behind the call as it read before'; 0 by the template 'total and deterministic' (their statements: YthdodkhahogmeaaTotals.lean).
  GIVEN WITH THE SEED: the statements are not yours to turn. If you find one false, say at which input.
  Laid BY PROGRAM, IN A SANDBOX (cutbox-rows.mjs): the forced cells as the released guide's own fill.sh prints them over the translation e196aa8f86d35d56… (all of the seat's roots in one cut). By AI agents, Wed Nov 11 2026. No macro, syntax, notation, axiom, sorry.
-/
import Derived.Test.YthdodkhahogmeaaChecked
import GoSem.Claim
import GoSem.ClaimJoined
import GoSem.ClaimMapViews
import Derived.JoinedTies
import Derived.KernelRfl
namespace Go.Proofs.Ythdodkhahogmeaa
/- THE CELL 'sum', in the pinned program and in every row, IS THE sha256 OF THE DUMP (.gsa) THAT YthdodkhahogmeaaProg.lean LOADS. Nothing in Lean hashes anything: it is a label: what it is worth is what the hold of that sum in a sandbox is worth. -/
noncomputable def Try.pinned : Pinned := { name := "ythdodkhahogmeaa", sum := "e196aa8f86d35d568af7fb7516542a9659c4cf1149d82b40e60024520f03e49c", checked := Try.checked }
namespace Rows
def none {H : Type} : Left H := { results := [], args := [] }

/-- 'obelisklaw2.MutfDecode': WHATEVER THE INPUT: true; the input reads as it did. -/
def mutfDecodeSpec : ChangeSpec := { name := "mutfDecode", fn := fun _ => fun
  | [d] => { results := [.lit (.bool true)], args := [d] }
  | _ => none }
def mutfDecodeRow : OpenClaim := { program := "ythdodkhahogmeaa", sum := "e196aa8f86d35d568af7fb7516542a9659c4cf1149d82b40e60024520f03e49c", func := "obelisk/obelisklaw2.MutfDecode", spec := "mutfDecode", apart := false }
def MutfDecodeSaid : Prop := mutfDecodeRow.holds Try.pinned (OpenSpec.ofChange mutfDecodeSpec)

/-- ITS FALSE NEIGHBOUR: 'it returns false'. Refute it at one input. -/
def mutfDecodeWrong : ChangeSpec := { name := "mutfDecode", fn := fun _ => fun
  | [d] => { results := [.lit (.bool false)], args := [d] }
  | _ => none }
def MutfDecodeWrongFalsely : Prop := mutfDecodeRow.holds Try.pinned (OpenSpec.ofChange mutfDecodeWrong)

/-- 'obelisklaw2.MutfBack': WHATEVER THE INPUT: true; the input reads as it did. -/
def mutfBackSpec : ChangeSpec := { name := "mutfBack", fn := fun _ => fun
  | [d] => { results := [.lit (.bool true)], args := [d] }
  | _ => none }
def mutfBackRow : OpenClaim := { program := "ythdodkhahogmeaa", sum := "e196aa8f86d35d568af7fb7516542a9659c4cf1149d82b40e60024520f03e49c", func := "obelisk/obelisklaw2.MutfBack", spec := "mutfBack", apart := false }
def MutfBackSaid : Prop := mutfBackRow.holds Try.pinned (OpenSpec.ofChange mutfBackSpec)

/-- ITS FALSE NEIGHBOUR: 'it returns false'. Refute it at one input. -/
def mutfBackWrong : ChangeSpec := { name := "mutfBack", fn := fun _ => fun
  | [d] => { results := [.lit (.bool false)], args := [d] }
  | _ => none }
def MutfBackWrongFalsely : Prop := mutfBackRow.holds Try.pinned (OpenSpec.ofChange mutfBackWrong)

/-- 'obelisklaw2.MutfJoin': WHATEVER THE INPUT: true; the input reads as it did. -/
def mutfJoinSpec : ChangeSpec := { name := "mutfJoin", fn := fun _ => fun
  | [d1, d2] => { results := [.lit (.bool true)], args := [d1, d2] }
  | _ => none }
def mutfJoinRow : OpenClaim := { program := "ythdodkhahogmeaa", sum := "e196aa8f86d35d568af7fb7516542a9659c4cf1149d82b40e60024520f03e49c", func := "obelisk/obelisklaw2.MutfJoin", spec := "mutfJoin", apart := false }
def MutfJoinSaid : Prop := mutfJoinRow.holds Try.pinned (OpenSpec.ofChange mutfJoinSpec)

/-- ITS FALSE NEIGHBOUR: 'it returns false'. Refute it at one input. -/
def mutfJoinWrong : ChangeSpec := { name := "mutfJoin", fn := fun _ => fun
  | [d1, d2] => { results := [.lit (.bool false)], args := [d1, d2] }
  | _ => none }
def MutfJoinWrongFalsely : Prop := mutfJoinRow.holds Try.pinned (OpenSpec.ofChange mutfJoinWrong)

/-- 'obelisklaw2.MutfForms': WHATEVER THE INPUT: true; the input reads as it did. -/
def mutfFormsSpec : ChangeSpec := { name := "mutfForms", fn := fun _ => fun
  | [] => { results := [.lit (.bool true)], args := [] }
  | _ => none }
def mutfFormsRow : OpenClaim := { program := "ythdodkhahogmeaa", sum := "e196aa8f86d35d568af7fb7516542a9659c4cf1149d82b40e60024520f03e49c", func := "obelisk/obelisklaw2.MutfForms", spec := "mutfForms", apart := false }
def MutfFormsSaid : Prop := mutfFormsRow.holds Try.pinned (OpenSpec.ofChange mutfFormsSpec)

/-- ITS FALSE NEIGHBOUR: 'it returns false'. Refute it at one input. -/
def mutfFormsWrong : ChangeSpec := { name := "mutfForms", fn := fun _ => fun
  | [] => { results := [.lit (.bool false)], args := [] }
  | _ => none }
def MutfFormsWrongFalsely : Prop := mutfFormsRow.holds Try.pinned (OpenSpec.ofChange mutfFormsWrong)

/- THE SECOND FORM. 'bulk': how many values and letters a reading holds, each counted each time it is reached (what is shared counts as often as it is met; a slice's spare places count too). A statement '..UptoSaid' is the law's where the arguments, and the package variables that the reading takes, are together of bulk at most 1048576: NARROWER than '..Said'. Prove '..Said' where nothing that the law and all that it calls make is longer than what came in: it says more and counts as full. Else prove '..UptoSaid'. A law counts once. -/
mutual
def uptoBulk {H : Type} : DataW H → Nat
  | .lit (.string bytes) => bytes.length + 1
  | .lit _ => 1
  | .nil => 1
  | .ptr d => uptoBulk d + 1
  | .slice elems spare => uptoBulkAll elems + uptoBulkAll spare + 1
  | .agg parts => uptoBulkAll parts + 1
  | .iface _ d => uptoBulk d + 1
  | .map entries => uptoBulkEntries entries + 1
  | .held _ => 1
def uptoBulkAll {H : Type} : List (DataW H) → Nat
  | [] => 0
  | d :: r => uptoBulk d + uptoBulkAll r
def uptoBulkEntries {H : Type} : List (Lit × DataW H) → Nat
  | [] => 0
  | x :: r => uptoBulkEntry x + uptoBulkEntries r
def uptoBulkEntry {H : Type} : Lit × DataW H → Nat
  | (.string bytes, d) => bytes.length + uptoBulk d + 1
  | (_, d) => uptoBulk d + 1
 end
def uptoSmall : (H : Type) → List (DataW H) → Bool := fun _ ds => decide (uptoBulkAll ds ≤ 1048576)
def OpenSpec.upto (s : _root_.Go.ChangeSpec) : _root_.Go.OpenSpec := { _root_.Go.OpenSpec.ofChange s with cond := some uptoSmall }

/-- 'obelisklaw2.MutfDecode', WHERE WHAT IT READS IS OF BULK AT MOST 1048576: true; the input reads as it did. -/
def mutfDecodeUptoRow : OpenClaim := { program := "ythdodkhahogmeaa", sum := "e196aa8f86d35d568af7fb7516542a9659c4cf1149d82b40e60024520f03e49c", func := "obelisk/obelisklaw2.MutfDecode", spec := "mutfDecode", apart := false, narrowed := true }
def MutfDecodeUptoSaid : Prop := mutfDecodeUptoRow.holds Try.pinned (OpenSpec.upto mutfDecodeSpec)

/-- 'obelisklaw2.MutfBack', WHERE WHAT IT READS IS OF BULK AT MOST 1048576: true; the input reads as it did. -/
def mutfBackUptoRow : OpenClaim := { program := "ythdodkhahogmeaa", sum := "e196aa8f86d35d568af7fb7516542a9659c4cf1149d82b40e60024520f03e49c", func := "obelisk/obelisklaw2.MutfBack", spec := "mutfBack", apart := false, narrowed := true }
def MutfBackUptoSaid : Prop := mutfBackUptoRow.holds Try.pinned (OpenSpec.upto mutfBackSpec)

/-- 'obelisklaw2.MutfJoin', WHERE WHAT IT READS IS OF BULK AT MOST 1048576: true; the input reads as it did. -/
def mutfJoinUptoRow : OpenClaim := { program := "ythdodkhahogmeaa", sum := "e196aa8f86d35d568af7fb7516542a9659c4cf1149d82b40e60024520f03e49c", func := "obelisk/obelisklaw2.MutfJoin", spec := "mutfJoin", apart := false, narrowed := true }
def MutfJoinUptoSaid : Prop := mutfJoinUptoRow.holds Try.pinned (OpenSpec.upto mutfJoinSpec)

/-- 'obelisklaw2.MutfForms', WHERE WHAT IT READS IS OF BULK AT MOST 1048576: true; the input reads as it did. -/
def mutfFormsUptoRow : OpenClaim := { program := "ythdodkhahogmeaa", sum := "e196aa8f86d35d568af7fb7516542a9659c4cf1149d82b40e60024520f03e49c", func := "obelisk/obelisklaw2.MutfForms", spec := "mutfForms", apart := false, narrowed := true }
def MutfFormsUptoSaid : Prop := mutfFormsUptoRow.holds Try.pinned (OpenSpec.upto mutfFormsSpec)

end Rows
end Go.Proofs.Ythdodkhahogmeaa
