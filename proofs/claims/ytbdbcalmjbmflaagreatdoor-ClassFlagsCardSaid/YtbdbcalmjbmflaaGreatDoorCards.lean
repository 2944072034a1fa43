/-
  DERIVED. GIVEN WITH THE SEED: THE CARDS: each row of YtbdbcalmjbmflaaGreatDoorRows.lean that lists a variable, with what it lists TIED to the program's text (the seventh form; the later family's looks); each row that meets fmt, with fmt's text TOLD by the authors' own Lean function (tested against real Go, not proved from fmt's source: count such statements apart). THE CARD IS WHAT COUNTS. Prove the row's statement (the work); the ties are given (YtbdbcalmjbmflaaGreatDoorTie.lean); close each card by the builder's one call (the guide's Derived/Test/ToyasCard.lean, 'card_holds'). Laid BY PROGRAM, IN A SANDBOX (cutbox-door.mjs). By AI agents, Wed Nov 11 2026. No macro, syntax, notation, axiom, sorry.
-/
import Derived.Test.YtbdbcalmjbmflaaGreatDoorRows
import GoSem.ClaimSeven
namespace Go.Proofs.YtbdbcalmjbmflaaGreatDoor
namespace Rows

/-- THE TIED CARD OF 'obelisklaw9.ClassNone'. -/
def classNoneCard : Claim7 := { stood := { row := classNoneRow, standIns := [], harness := (true, "c025dd1131637a6a102aef3c7067c0acea441a540f34fd3fa11789e7d4e4847d"), looks := false }, kinds := [], alts := [], laidByText := true, laidKinds := [.data, .pinned], laidTests := true, laidLooks := .later }
def ClassNoneCardSaid : Prop := Claim7.holds Tryz.pinned (.plain (OpenSpec.ofChange classNoneSpec)) classNoneCard

/-- THE TIED CARD OF 'obelisklaw9.ClassFlags'. -/
def classFlagsCard : Claim7 := { stood := { row := classFlagsRow, standIns := [], harness := (true, "c025dd1131637a6a102aef3c7067c0acea441a540f34fd3fa11789e7d4e4847d"), looks := false }, kinds := [], alts := [], laidByText := true, laidKinds := [.data, .pinned], laidTests := true, laidLooks := .later }
def ClassFlagsCardSaid : Prop := Claim7.holds Tryz.pinned (.plain (OpenSpec.ofChange classFlagsSpec)) classFlagsCard

/-- THE TIED CARD OF 'obelisklaw9.ClassInits'. -/
def classInitsCard : Claim7 := { stood := { row := classInitsRow, standIns := [], harness := (true, "c025dd1131637a6a102aef3c7067c0acea441a540f34fd3fa11789e7d4e4847d"), looks := false }, kinds := [], alts := [], laidByText := true, laidKinds := [.data, .pinned], laidTests := true, laidLooks := .later }
def ClassInitsCardSaid : Prop := Claim7.holds Tryz.pinned (.plain (OpenSpec.ofChange classInitsSpec)) classInitsCard

/-- THE TIED CARD OF 'obelisklaw9.ClassVersions'. -/
def classVersionsCard : Claim7 := { stood := { row := classVersionsRow, standIns := [], harness := (true, "c025dd1131637a6a102aef3c7067c0acea441a540f34fd3fa11789e7d4e4847d"), looks := false }, kinds := [], alts := [], laidByText := true, laidKinds := [.data, .pinned], laidTests := true, laidLooks := .later }
def ClassVersionsCardSaid : Prop := Claim7.holds Tryz.pinned (.plain (OpenSpec.ofChange classVersionsSpec)) classVersionsCard

/-- THE SECOND FORM's CARD OF 'obelisklaw9.ClassNone'. -/
def classNoneUptoCard : Claim7 := { stood := { row := classNoneUptoRow, standIns := [], harness := (true, "c025dd1131637a6a102aef3c7067c0acea441a540f34fd3fa11789e7d4e4847d"), looks := false }, kinds := [], alts := [], laidByText := true, laidKinds := [.data, .pinned], laidTests := true, laidLooks := .later }
def ClassNoneUptoCardSaid : Prop := Claim7.holds Tryz.pinned (.plain (OpenSpec.upto classNoneSpec)) classNoneUptoCard

/-- THE SECOND FORM's CARD OF 'obelisklaw9.ClassFlags'. -/
def classFlagsUptoCard : Claim7 := { stood := { row := classFlagsUptoRow, standIns := [], harness := (true, "c025dd1131637a6a102aef3c7067c0acea441a540f34fd3fa11789e7d4e4847d"), looks := false }, kinds := [], alts := [], laidByText := true, laidKinds := [.data, .pinned], laidTests := true, laidLooks := .later }
def ClassFlagsUptoCardSaid : Prop := Claim7.holds Tryz.pinned (.plain (OpenSpec.upto classFlagsSpec)) classFlagsUptoCard

/-- THE SECOND FORM's CARD OF 'obelisklaw9.ClassInits'. -/
def classInitsUptoCard : Claim7 := { stood := { row := classInitsUptoRow, standIns := [], harness := (true, "c025dd1131637a6a102aef3c7067c0acea441a540f34fd3fa11789e7d4e4847d"), looks := false }, kinds := [], alts := [], laidByText := true, laidKinds := [.data, .pinned], laidTests := true, laidLooks := .later }
def ClassInitsUptoCardSaid : Prop := Claim7.holds Tryz.pinned (.plain (OpenSpec.upto classInitsSpec)) classInitsUptoCard

/-- THE SECOND FORM's CARD OF 'obelisklaw9.ClassVersions'. -/
def classVersionsUptoCard : Claim7 := { stood := { row := classVersionsUptoRow, standIns := [], harness := (true, "c025dd1131637a6a102aef3c7067c0acea441a540f34fd3fa11789e7d4e4847d"), looks := false }, kinds := [], alts := [], laidByText := true, laidKinds := [.data, .pinned], laidTests := true, laidLooks := .later }
def ClassVersionsUptoCardSaid : Prop := Claim7.holds Tryz.pinned (.plain (OpenSpec.upto classVersionsSpec)) classVersionsUptoCard
end Rows
end Go.Proofs.YtbdbcalmjbmflaaGreatDoor
