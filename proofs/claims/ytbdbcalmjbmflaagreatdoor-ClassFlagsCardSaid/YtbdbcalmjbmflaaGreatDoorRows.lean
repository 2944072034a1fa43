/-
  NARROWER THAN 'FOR EVERY INPUT', by the rows' own cells (each row's printed sentence says how): ClassNone: laid · ClassFlags: laid · ClassInits: laid · ClassVersions: laid.
  DERIVED. THE GIVEN ROWS OF THIS SEAT. 4 by the template 'for every input the law returns true; each argument reads behind the call as it read before'; 0 by the template 'total and deterministic' (their statements: YtbdbcalmjbmflaaGreatDoorTotals.lean).
  GIVEN WITH THE SEED: the statements are not yours to turn. If you find one false, say at which input.
  Laid BY PROGRAM, IN A SANDBOX (cutbox-rows.mjs): the forced cells as the released guide's own fill.sh prints them over the translation 2a347c55e276d7c7… (all of the seat's roots in one cut). By AI agents, Wed Nov 11 2026. No macro, syntax, notation, axiom, sorry.
-/
import Derived.Test.YtbdbcalmjbmflaaGreatDoorChecked
import GoSem.PinnedTables
import GoSem.Claim
import GoSem.ClaimJoined
import GoSem.ClaimMapViews
import Derived.JoinedTies
import Derived.KernelRfl
namespace Go.Proofs.YtbdbcalmjbmflaaGreatDoor
/- THE CELL 'sum', in the pinned program and in every row, IS THE sha256 OF THE DUMP (.gsa) THAT YtbdbcalmjbmflaaGreatDoorProg.lean LOADS. Nothing in Lean hashes anything: it is a label: what it is worth is what the hold of that sum in a sandbox is worth. -/
noncomputable def Tryz.pinned : Pinned := { name := "ytbdbcalmjbmflaagreatdoor", sum := "2a347c55e276d7c7cc6c037cf0bceb71459f8360ba9689d530462618b54df659", checked := Tryz.checked }
namespace Rows
def none {H : Type} : Left H := { results := [], args := [] }

/- WHAT THE LISTED PACKAGE-LEVEL VARIABLES READ AS WHEN THE CALL BEGINS. Each datum BY PROGRAM (the guide's laid-datum.mjs) off the statement by which the dump's own 'gosem.cut.vars' lays the variable. In a bare row this is a premise. The card (YtbdbcalmjbmflaaGreatDoorCards.lean) ties it to the program's text. -/
def laid_unicode_utf8_acceptRanges {H : Type} : DataW H := .agg [.agg [.lit (.int .u8 128), .lit (.int .u8 191)], .agg [.lit (.int .u8 160), .lit (.int .u8 191)], .agg [.lit (.int .u8 128), .lit (.int .u8 159)], .agg [.lit (.int .u8 144), .lit (.int .u8 191)], .agg [.lit (.int .u8 128), .lit (.int .u8 143)], .agg [.lit (.int .u8 0), .lit (.int .u8 0)], .agg [.lit (.int .u8 0), .lit (.int .u8 0)], .agg [.lit (.int .u8 0), .lit (.int .u8 0)], .agg [.lit (.int .u8 0), .lit (.int .u8 0)], .agg [.lit (.int .u8 0), .lit (.int .u8 0)], .agg [.lit (.int .u8 0), .lit (.int .u8 0)], .agg [.lit (.int .u8 0), .lit (.int .u8 0)], .agg [.lit (.int .u8 0), .lit (.int .u8 0)], .agg [.lit (.int .u8 0), .lit (.int .u8 0)], .agg [.lit (.int .u8 0), .lit (.int .u8 0)], .agg [.lit (.int .u8 0), .lit (.int .u8 0)]]
/-- One of Go's own tables, pinned by name: the form's constant. -/
def laid_unicode_utf8_first : DataW Unit := Go.Pinned.utf8First

/-- 'obelisklaw9.ClassNone': WHATEVER THE INPUT: true; the input reads as it did. -/
def classNoneSpec : ChangeSpec := { name := "classNone", fn := fun _ => fun
  | [] => { results := [.lit (.bool true)], args := [] }
  | _ => none }
def classNoneRow : OpenClaim := { program := "ytbdbcalmjbmflaagreatdoor", sum := "2a347c55e276d7c7cc6c037cf0bceb71459f8360ba9689d530462618b54df659", func := "obelisk/obelisklaw9.ClassNone", spec := "classNone", inPlace := ["internal/bytealg.IndexByteString", "internal/bytealg.IndexString"], unfollowed := true, recurses := true, named := ["unicode/utf8.first", "unicode/utf8.acceptRanges", "internal/bytealg.MaxLen"], apart := false, laid := [("unicode/utf8.acceptRanges", laid_unicode_utf8_acceptRanges), ("unicode/utf8.first", laid_unicode_utf8_first)] }
def ClassNoneSaid : Prop := classNoneRow.holds Tryz.pinned (OpenSpec.ofChange classNoneSpec)

/-- ITS FALSE NEIGHBOUR: 'it returns false'. Refute it at one input. -/
def classNoneWrong : ChangeSpec := { name := "classNone", fn := fun _ => fun
  | [] => { results := [.lit (.bool false)], args := [] }
  | _ => none }
def ClassNoneWrongFalsely : Prop := classNoneRow.holds Tryz.pinned (OpenSpec.ofChange classNoneWrong)

/-- 'obelisklaw9.ClassFlags': WHATEVER THE INPUT: true; the input reads as it did. -/
def classFlagsSpec : ChangeSpec := { name := "classFlags", fn := fun _ => fun
  | [d1, d2, d3, d4] => { results := [.lit (.bool true)], args := [d1, d2, d3, d4] }
  | _ => none }
def classFlagsRow : OpenClaim := { program := "ytbdbcalmjbmflaagreatdoor", sum := "2a347c55e276d7c7cc6c037cf0bceb71459f8360ba9689d530462618b54df659", func := "obelisk/obelisklaw9.ClassFlags", spec := "classFlags", inPlace := ["internal/bytealg.IndexByteString", "internal/bytealg.IndexString"], unfollowed := true, recurses := true, named := ["unicode/utf8.first", "unicode/utf8.acceptRanges", "internal/bytealg.MaxLen"], apart := false, laid := [("unicode/utf8.acceptRanges", laid_unicode_utf8_acceptRanges), ("unicode/utf8.first", laid_unicode_utf8_first)] }
def ClassFlagsSaid : Prop := classFlagsRow.holds Tryz.pinned (OpenSpec.ofChange classFlagsSpec)

/-- ITS FALSE NEIGHBOUR: 'it returns false'. Refute it at one input. -/
def classFlagsWrong : ChangeSpec := { name := "classFlags", fn := fun _ => fun
  | [d1, d2, d3, d4] => { results := [.lit (.bool false)], args := [d1, d2, d3, d4] }
  | _ => none }
def ClassFlagsWrongFalsely : Prop := classFlagsRow.holds Tryz.pinned (OpenSpec.ofChange classFlagsWrong)

/-- 'obelisklaw9.ClassInits': WHATEVER THE INPUT: true; the input reads as it did. -/
def classInitsSpec : ChangeSpec := { name := "classInits", fn := fun _ => fun
  | [d1, d2, d3, d4] => { results := [.lit (.bool true)], args := [d1, d2, d3, d4] }
  | _ => none }
def classInitsRow : OpenClaim := { program := "ytbdbcalmjbmflaagreatdoor", sum := "2a347c55e276d7c7cc6c037cf0bceb71459f8360ba9689d530462618b54df659", func := "obelisk/obelisklaw9.ClassInits", spec := "classInits", inPlace := ["internal/bytealg.IndexByteString", "internal/bytealg.IndexString"], unfollowed := true, recurses := true, named := ["unicode/utf8.first", "unicode/utf8.acceptRanges", "internal/bytealg.MaxLen"], apart := false, laid := [("unicode/utf8.acceptRanges", laid_unicode_utf8_acceptRanges), ("unicode/utf8.first", laid_unicode_utf8_first)] }
def ClassInitsSaid : Prop := classInitsRow.holds Tryz.pinned (OpenSpec.ofChange classInitsSpec)

/-- ITS FALSE NEIGHBOUR: 'it returns false'. Refute it at one input. -/
def classInitsWrong : ChangeSpec := { name := "classInits", fn := fun _ => fun
  | [d1, d2, d3, d4] => { results := [.lit (.bool false)], args := [d1, d2, d3, d4] }
  | _ => none }
def ClassInitsWrongFalsely : Prop := classInitsRow.holds Tryz.pinned (OpenSpec.ofChange classInitsWrong)

/-- 'obelisklaw9.ClassVersions': WHATEVER THE INPUT: true; the input reads as it did. -/
def classVersionsSpec : ChangeSpec := { name := "classVersions", fn := fun _ => fun
  | [d1, d2, d3] => { results := [.lit (.bool true)], args := [d1, d2, d3] }
  | _ => none }
def classVersionsRow : OpenClaim := { program := "ytbdbcalmjbmflaagreatdoor", sum := "2a347c55e276d7c7cc6c037cf0bceb71459f8360ba9689d530462618b54df659", func := "obelisk/obelisklaw9.ClassVersions", spec := "classVersions", inPlace := ["internal/bytealg.IndexByteString", "internal/bytealg.IndexString"], unfollowed := true, recurses := true, named := ["unicode/utf8.first", "unicode/utf8.acceptRanges", "internal/bytealg.MaxLen"], apart := false, laid := [("unicode/utf8.acceptRanges", laid_unicode_utf8_acceptRanges), ("unicode/utf8.first", laid_unicode_utf8_first)] }
def ClassVersionsSaid : Prop := classVersionsRow.holds Tryz.pinned (OpenSpec.ofChange classVersionsSpec)

/-- ITS FALSE NEIGHBOUR: 'it returns false'. Refute it at one input. -/
def classVersionsWrong : ChangeSpec := { name := "classVersions", fn := fun _ => fun
  | [d1, d2, d3] => { results := [.lit (.bool false)], args := [d1, d2, d3] }
  | _ => none }
def ClassVersionsWrongFalsely : Prop := classVersionsRow.holds Tryz.pinned (OpenSpec.ofChange classVersionsWrong)

/- THE SECOND FORM. 'bulk': how many values and letters a reading holds, each counted each time it is reached (what is shared counts as often as it is met; a slice's spare places count too). A statement '..UptoSaid' is the law's where the arguments, and the package variables that the reading takes, are together of bulk at most 1048576: NARROWER than '..Said'. Prove '..Said' where nothing that the law and all that it calls make is longer than what came in: it says more and counts as full. Else prove '..UptoSaid'. A law counts once. -/
mutual
def uptoBulk {H : Type} : DataW H → Nat
  | .lit (.string bytes) => bytes.length + 1
  | .lit _ => 1
  | .nil => 1
  | .ptr d => uptoBulk d + 1
  | .slice elems spare => uptoBulkAll elems + uptoBulkAll spare + 1
  | .agg parts => uptoBulkAll parts + 1
  | .iface _ d => uptoBulk d + 1
  | .map entries => uptoBulkEntries entries + 1
  | .held _ => 1
def uptoBulkAll {H : Type} : List (DataW H) → Nat
  | [] => 0
  | d :: r => uptoBulk d + uptoBulkAll r
def uptoBulkEntries {H : Type} : List (Lit × DataW H) → Nat
  | [] => 0
  | x :: r => uptoBulkEntry x + uptoBulkEntries r
def uptoBulkEntry {H : Type} : Lit × DataW H → Nat
  | (.string bytes, d) => bytes.length + uptoBulk d + 1
  | (_, d) => uptoBulk d + 1
 end
def uptoSmall : (H : Type) → List (DataW H) → Bool := fun _ ds => decide (uptoBulkAll ds ≤ 1048576)
def OpenSpec.upto (s : _root_.Go.ChangeSpec) : _root_.Go.OpenSpec := { _root_.Go.OpenSpec.ofChange s with cond := some uptoSmall }

/-- 'obelisklaw9.ClassNone', WHERE WHAT IT READS IS OF BULK AT MOST 1048576: true; the input reads as it did. -/
def classNoneUptoRow : OpenClaim := { program := "ytbdbcalmjbmflaagreatdoor", sum := "2a347c55e276d7c7cc6c037cf0bceb71459f8360ba9689d530462618b54df659", func := "obelisk/obelisklaw9.ClassNone", spec := "classNone", inPlace := ["internal/bytealg.IndexByteString", "internal/bytealg.IndexString"], unfollowed := true, recurses := true, named := ["unicode/utf8.first", "unicode/utf8.acceptRanges", "internal/bytealg.MaxLen"], apart := false, laid := [("unicode/utf8.acceptRanges", laid_unicode_utf8_acceptRanges), ("unicode/utf8.first", laid_unicode_utf8_first)], narrowed := true }
def ClassNoneUptoSaid : Prop := classNoneUptoRow.holds Tryz.pinned (OpenSpec.upto classNoneSpec)

/-- 'obelisklaw9.ClassFlags', WHERE WHAT IT READS IS OF BULK AT MOST 1048576: true; the input reads as it did. -/
def classFlagsUptoRow : OpenClaim := { program := "ytbdbcalmjbmflaagreatdoor", sum := "2a347c55e276d7c7cc6c037cf0bceb71459f8360ba9689d530462618b54df659", func := "obelisk/obelisklaw9.ClassFlags", spec := "classFlags", inPlace := ["internal/bytealg.IndexByteString", "internal/bytealg.IndexString"], unfollowed := true, recurses := true, named := ["unicode/utf8.first", "unicode/utf8.acceptRanges", "internal/bytealg.MaxLen"], apart := false, laid := [("unicode/utf8.acceptRanges", laid_unicode_utf8_acceptRanges), ("unicode/utf8.first", laid_unicode_utf8_first)], narrowed := true }
def ClassFlagsUptoSaid : Prop := classFlagsUptoRow.holds Tryz.pinned (OpenSpec.upto classFlagsSpec)

/-- 'obelisklaw9.ClassInits', WHERE WHAT IT READS IS OF BULK AT MOST 1048576: true; the input reads as it did. -/
def classInitsUptoRow : OpenClaim := { program := "ytbdbcalmjbmflaagreatdoor", sum := "2a347c55e276d7c7cc6c037cf0bceb71459f8360ba9689d530462618b54df659", func := "obelisk/obelisklaw9.ClassInits", spec := "classInits", inPlace := ["internal/bytealg.IndexByteString", "internal/bytealg.IndexString"], unfollowed := true, recurses := true, named := ["unicode/utf8.first", "unicode/utf8.acceptRanges", "internal/bytealg.MaxLen"], apart := false, laid := [("unicode/utf8.acceptRanges", laid_unicode_utf8_acceptRanges), ("unicode/utf8.first", laid_unicode_utf8_first)], narrowed := true }
def ClassInitsUptoSaid : Prop := classInitsUptoRow.holds Tryz.pinned (OpenSpec.upto classInitsSpec)

/-- 'obelisklaw9.ClassVersions', WHERE WHAT IT READS IS OF BULK AT MOST 1048576: true; the input reads as it did. -/
def classVersionsUptoRow : OpenClaim := { program := "ytbdbcalmjbmflaagreatdoor", sum := "2a347c55e276d7c7cc6c037cf0bceb71459f8360ba9689d530462618b54df659", func := "obelisk/obelisklaw9.ClassVersions", spec := "classVersions", inPlace := ["internal/bytealg.IndexByteString", "internal/bytealg.IndexString"], unfollowed := true, recurses := true, named := ["unicode/utf8.first", "unicode/utf8.acceptRanges", "internal/bytealg.MaxLen"], apart := false, laid := [("unicode/utf8.acceptRanges", laid_unicode_utf8_acceptRanges), ("unicode/utf8.first", laid_unicode_utf8_first)], narrowed := true }
def ClassVersionsUptoSaid : Prop := classVersionsUptoRow.holds Tryz.pinned (OpenSpec.upto classVersionsSpec)

end Rows
end Go.Proofs.YtbdbcalmjbmflaaGreatDoor
