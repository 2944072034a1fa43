/-
  NARROWER THAN 'FOR EVERY INPUT', by the rows' own cells (each row's printed sentence says how): DescrField: laid · DescrMethod: laid · DescrDims: laid · DescrBuild: laid.
  DERIVED. THE GIVEN ROWS OF THIS SEAT. 4 by the template 'for every input the law returns true; each argument reads behind the call as it read before'; 0 by the template 'total and deterministic' (their statements: YtjlcocalpjeghaaDoorTotals.lean).
  GIVEN WITH THE SEED: the statements are not yours to turn. If you find one false, say at which input.
  Laid BY PROGRAM, IN A SANDBOX (cutbox-rows.mjs): the forced cells as the released guide's own fill.sh prints them over the translation 608e0ba2cfaca33c… (all of the seat's roots in one cut). By AI agents, Wed Nov 11 2026. No macro, syntax, notation, axiom, sorry.
-/
import Derived.Test.YtjlcocalpjeghaaDoorChecked
import GoSem.PinnedTables
import GoSem.Claim
import GoSem.ClaimJoined
import GoSem.ClaimMapViews
import Derived.JoinedTies
import Derived.KernelRfl
namespace Go.Proofs.YtjlcocalpjeghaaDoor
/- THE CELL 'sum', in the pinned program and in every row, IS THE sha256 OF THE DUMP (.gsa) THAT YtjlcocalpjeghaaDoorProg.lean LOADS. Nothing in Lean hashes anything: it is a label: what it is worth is what the hold of that sum in a sandbox is worth. -/
noncomputable def Tryd.pinned : Pinned := { name := "ytjlcocalpjeghaadoor", sum := "608e0ba2cfaca33cbbf7b153361053eda765d3f5db431a9ae21df90e34d76e69", checked := Tryd.checked }
namespace Rows
def none {H : Type} : Left H := { results := [], args := [] }

/- WHAT THE LISTED PACKAGE-LEVEL VARIABLES READ AS WHEN THE CALL BEGINS. Each datum BY PROGRAM (the guide's laid-datum.mjs) off the statement by which the dump's own 'gosem.cut.vars' lays the variable. In a bare row this is a premise. The card (YtjlcocalpjeghaaDoorCards.lean) ties it to the program's text. -/
def laid_unicode_utf8_acceptRanges {H : Type} : DataW H := .agg [.agg [.lit (.int .u8 128), .lit (.int .u8 191)], .agg [.lit (.int .u8 160), .lit (.int .u8 191)], .agg [.lit (.int .u8 128), .lit (.int .u8 159)], .agg [.lit (.int .u8 144), .lit (.int .u8 191)], .agg [.lit (.int .u8 128), .lit (.int .u8 143)], .agg [.lit (.int .u8 0), .lit (.int .u8 0)], .agg [.lit (.int .u8 0), .lit (.int .u8 0)], .agg [.lit (.int .u8 0), .lit (.int .u8 0)], .agg [.lit (.int .u8 0), .lit (.int .u8 0)], .agg [.lit (.int .u8 0), .lit (.int .u8 0)], .agg [.lit (.int .u8 0), .lit (.int .u8 0)], .agg [.lit (.int .u8 0), .lit (.int .u8 0)], .agg [.lit (.int .u8 0), .lit (.int .u8 0)], .agg [.lit (.int .u8 0), .lit (.int .u8 0)], .agg [.lit (.int .u8 0), .lit (.int .u8 0)], .agg [.lit (.int .u8 0), .lit (.int .u8 0)]]
/-- One of Go's own tables, pinned by name: the form's constant. -/
def laid_unicode_utf8_first : DataW Unit := Go.Pinned.utf8First

/-- 'obelisklaw4.DescrField': WHATEVER THE INPUT: true; the input reads as it did. -/
def descrFieldSpec : ChangeSpec := { name := "descrField", fn := fun _ => fun
  | [d] => { results := [.lit (.bool true)], args := [d] }
  | _ => none }
def descrFieldRow : OpenClaim := { program := "ytjlcocalpjeghaadoor", sum := "608e0ba2cfaca33cbbf7b153361053eda765d3f5db431a9ae21df90e34d76e69", func := "obelisk/obelisklaw4.DescrField", spec := "descrField", inPlace := ["internal/bytealg.IndexByteString", "internal/bytealg.IndexString", "internal/abi.NoEscape", "internal/bytealg.MakeNoZero"], unfollowed := true, recurses := true, named := ["unicode/utf8.first", "unicode/utf8.acceptRanges", "internal/bytealg.MaxLen"], apart := false, laid := [("unicode/utf8.acceptRanges", laid_unicode_utf8_acceptRanges), ("unicode/utf8.first", laid_unicode_utf8_first)] }
def DescrFieldSaid : Prop := descrFieldRow.holds Tryd.pinned (OpenSpec.ofChange descrFieldSpec)

/-- ITS FALSE NEIGHBOUR: 'it returns false'. Refute it at one input. -/
def descrFieldWrong : ChangeSpec := { name := "descrField", fn := fun _ => fun
  | [d] => { results := [.lit (.bool false)], args := [d] }
  | _ => none }
def DescrFieldWrongFalsely : Prop := descrFieldRow.holds Tryd.pinned (OpenSpec.ofChange descrFieldWrong)

/-- 'obelisklaw4.DescrMethod': WHATEVER THE INPUT: true; the input reads as it did. -/
def descrMethodSpec : ChangeSpec := { name := "descrMethod", fn := fun _ => fun
  | [d] => { results := [.lit (.bool true)], args := [d] }
  | _ => none }
def descrMethodRow : OpenClaim := { program := "ytjlcocalpjeghaadoor", sum := "608e0ba2cfaca33cbbf7b153361053eda765d3f5db431a9ae21df90e34d76e69", func := "obelisk/obelisklaw4.DescrMethod", spec := "descrMethod", inPlace := ["internal/bytealg.IndexByteString", "internal/bytealg.IndexString", "internal/abi.NoEscape", "internal/bytealg.MakeNoZero"], unfollowed := true, recurses := true, named := ["unicode/utf8.first", "unicode/utf8.acceptRanges", "internal/bytealg.MaxLen"], apart := false, laid := [("unicode/utf8.acceptRanges", laid_unicode_utf8_acceptRanges), ("unicode/utf8.first", laid_unicode_utf8_first)] }
def DescrMethodSaid : Prop := descrMethodRow.holds Tryd.pinned (OpenSpec.ofChange descrMethodSpec)

/-- ITS FALSE NEIGHBOUR: 'it returns false'. Refute it at one input. -/
def descrMethodWrong : ChangeSpec := { name := "descrMethod", fn := fun _ => fun
  | [d] => { results := [.lit (.bool false)], args := [d] }
  | _ => none }
def DescrMethodWrongFalsely : Prop := descrMethodRow.holds Tryd.pinned (OpenSpec.ofChange descrMethodWrong)

/-- 'obelisklaw4.DescrDims': WHATEVER THE INPUT: true; the input reads as it did. -/
def descrDimsSpec : ChangeSpec := { name := "descrDims", fn := fun _ => fun
  | [d1, d2] => { results := [.lit (.bool true)], args := [d1, d2] }
  | _ => none }
def descrDimsRow : OpenClaim := { program := "ytjlcocalpjeghaadoor", sum := "608e0ba2cfaca33cbbf7b153361053eda765d3f5db431a9ae21df90e34d76e69", func := "obelisk/obelisklaw4.DescrDims", spec := "descrDims", inPlace := ["internal/bytealg.IndexByteString", "internal/bytealg.IndexString", "internal/abi.NoEscape", "internal/bytealg.MakeNoZero"], unfollowed := true, recurses := true, named := ["unicode/utf8.first", "unicode/utf8.acceptRanges", "internal/bytealg.MaxLen"], apart := false, laid := [("unicode/utf8.acceptRanges", laid_unicode_utf8_acceptRanges), ("unicode/utf8.first", laid_unicode_utf8_first)] }
def DescrDimsSaid : Prop := descrDimsRow.holds Tryd.pinned (OpenSpec.ofChange descrDimsSpec)

/-- ITS FALSE NEIGHBOUR: 'it returns false'. Refute it at one input. -/
def descrDimsWrong : ChangeSpec := { name := "descrDims", fn := fun _ => fun
  | [d1, d2] => { results := [.lit (.bool false)], args := [d1, d2] }
  | _ => none }
def DescrDimsWrongFalsely : Prop := descrDimsRow.holds Tryd.pinned (OpenSpec.ofChange descrDimsWrong)

/-- 'obelisklaw4.DescrBuild': WHATEVER THE INPUT: true; the input reads as it did. -/
def descrBuildSpec : ChangeSpec := { name := "descrBuild", fn := fun _ => fun
  | [d1, d2, d3] => { results := [.lit (.bool true)], args := [d1, d2, d3] }
  | _ => none }
def descrBuildRow : OpenClaim := { program := "ytjlcocalpjeghaadoor", sum := "608e0ba2cfaca33cbbf7b153361053eda765d3f5db431a9ae21df90e34d76e69", func := "obelisk/obelisklaw4.DescrBuild", spec := "descrBuild", inPlace := ["internal/bytealg.IndexByteString", "internal/bytealg.IndexString", "internal/abi.NoEscape", "internal/bytealg.MakeNoZero"], unfollowed := true, recurses := true, named := ["unicode/utf8.first", "unicode/utf8.acceptRanges", "internal/bytealg.MaxLen"], apart := false, laid := [("unicode/utf8.acceptRanges", laid_unicode_utf8_acceptRanges), ("unicode/utf8.first", laid_unicode_utf8_first)] }
def DescrBuildSaid : Prop := descrBuildRow.holds Tryd.pinned (OpenSpec.ofChange descrBuildSpec)

/-- ITS FALSE NEIGHBOUR: 'it returns false'. Refute it at one input. -/
def descrBuildWrong : ChangeSpec := { name := "descrBuild", fn := fun _ => fun
  | [d1, d2, d3] => { results := [.lit (.bool false)], args := [d1, d2, d3] }
  | _ => none }
def DescrBuildWrongFalsely : Prop := descrBuildRow.holds Tryd.pinned (OpenSpec.ofChange descrBuildWrong)

/- THE SECOND FORM. 'bulk': how many values and letters a reading holds, each counted each time it is reached (what is shared counts as often as it is met; a slice's spare places count too). A statement '..UptoSaid' is the law's where the arguments, and the package variables that the reading takes, are together of bulk at most 1048576: NARROWER than '..Said'. Prove '..Said' where nothing that the law and all that it calls make is longer than what came in: it says more and counts as full. Else prove '..UptoSaid'. A law counts once. -/
mutual
def uptoBulk {H : Type} : DataW H → Nat
  | .lit (.string bytes) => bytes.length + 1
  | .lit _ => 1
  | .nil => 1
  | .ptr d => uptoBulk d + 1
  | .slice elems spare => uptoBulkAll elems + uptoBulkAll spare + 1
  | .agg parts => uptoBulkAll parts + 1
  | .iface _ d => uptoBulk d + 1
  | .map entries => uptoBulkEntries entries + 1
  | .held _ => 1
def uptoBulkAll {H : Type} : List (DataW H) → Nat
  | [] => 0
  | d :: r => uptoBulk d + uptoBulkAll r
def uptoBulkEntries {H : Type} : List (Lit × DataW H) → Nat
  | [] => 0
  | x :: r => uptoBulkEntry x + uptoBulkEntries r
def uptoBulkEntry {H : Type} : Lit × DataW H → Nat
  | (.string bytes, d) => bytes.length + uptoBulk d + 1
  | (_, d) => uptoBulk d + 1
 end
def uptoSmall : (H : Type) → List (DataW H) → Bool := fun _ ds => decide (uptoBulkAll ds ≤ 1048576)
def OpenSpec.upto (s : _root_.Go.ChangeSpec) : _root_.Go.OpenSpec := { _root_.Go.OpenSpec.ofChange s with cond := some uptoSmall }

/-- 'obelisklaw4.DescrField', WHERE WHAT IT READS IS OF BULK AT MOST 1048576: true; the input reads as it did. -/
def descrFieldUptoRow : OpenClaim := { program := "ytjlcocalpjeghaadoor", sum := "608e0ba2cfaca33cbbf7b153361053eda765d3f5db431a9ae21df90e34d76e69", func := "obelisk/obelisklaw4.DescrField", spec := "descrField", inPlace := ["internal/bytealg.IndexByteString", "internal/bytealg.IndexString", "internal/abi.NoEscape", "internal/bytealg.MakeNoZero"], unfollowed := true, recurses := true, named := ["unicode/utf8.first", "unicode/utf8.acceptRanges", "internal/bytealg.MaxLen"], apart := false, laid := [("unicode/utf8.acceptRanges", laid_unicode_utf8_acceptRanges), ("unicode/utf8.first", laid_unicode_utf8_first)], narrowed := true }
def DescrFieldUptoSaid : Prop := descrFieldUptoRow.holds Tryd.pinned (OpenSpec.upto descrFieldSpec)

/-- 'obelisklaw4.DescrMethod', WHERE WHAT IT READS IS OF BULK AT MOST 1048576: true; the input reads as it did. -/
def descrMethodUptoRow : OpenClaim := { program := "ytjlcocalpjeghaadoor", sum := "608e0ba2cfaca33cbbf7b153361053eda765d3f5db431a9ae21df90e34d76e69", func := "obelisk/obelisklaw4.DescrMethod", spec := "descrMethod", inPlace := ["internal/bytealg.IndexByteString", "internal/bytealg.IndexString", "internal/abi.NoEscape", "internal/bytealg.MakeNoZero"], unfollowed := true, recurses := true, named := ["unicode/utf8.first", "unicode/utf8.acceptRanges", "internal/bytealg.MaxLen"], apart := false, laid := [("unicode/utf8.acceptRanges", laid_unicode_utf8_acceptRanges), ("unicode/utf8.first", laid_unicode_utf8_first)], narrowed := true }
def DescrMethodUptoSaid : Prop := descrMethodUptoRow.holds Tryd.pinned (OpenSpec.upto descrMethodSpec)

/-- 'obelisklaw4.DescrDims', WHERE WHAT IT READS IS OF BULK AT MOST 1048576: true; the input reads as it did. -/
def descrDimsUptoRow : OpenClaim := { program := "ytjlcocalpjeghaadoor", sum := "608e0ba2cfaca33cbbf7b153361053eda765d3f5db431a9ae21df90e34d76e69", func := "obelisk/obelisklaw4.DescrDims", spec := "descrDims", inPlace := ["internal/bytealg.IndexByteString", "internal/bytealg.IndexString", "internal/abi.NoEscape", "internal/bytealg.MakeNoZero"], unfollowed := true, recurses := true, named := ["unicode/utf8.first", "unicode/utf8.acceptRanges", "internal/bytealg.MaxLen"], apart := false, laid := [("unicode/utf8.acceptRanges", laid_unicode_utf8_acceptRanges), ("unicode/utf8.first", laid_unicode_utf8_first)], narrowed := true }
def DescrDimsUptoSaid : Prop := descrDimsUptoRow.holds Tryd.pinned (OpenSpec.upto descrDimsSpec)

/-- 'obelisklaw4.DescrBuild', WHERE WHAT IT READS IS OF BULK AT MOST 1048576: true; the input reads as it did. -/
def descrBuildUptoRow : OpenClaim := { program := "ytjlcocalpjeghaadoor", sum := "608e0ba2cfaca33cbbf7b153361053eda765d3f5db431a9ae21df90e34d76e69", func := "obelisk/obelisklaw4.DescrBuild", spec := "descrBuild", inPlace := ["internal/bytealg.IndexByteString", "internal/bytealg.IndexString", "internal/abi.NoEscape", "internal/bytealg.MakeNoZero"], unfollowed := true, recurses := true, named := ["unicode/utf8.first", "unicode/utf8.acceptRanges", "internal/bytealg.MaxLen"], apart := false, laid := [("unicode/utf8.acceptRanges", laid_unicode_utf8_acceptRanges), ("unicode/utf8.first", laid_unicode_utf8_first)], narrowed := true }
def DescrBuildUptoSaid : Prop := descrBuildUptoRow.holds Tryd.pinned (OpenSpec.upto descrBuildSpec)

end Rows
end Go.Proofs.YtjlcocalpjeghaaDoor
