/-
  DERIVED. GIVEN WITH THE SEED: THE CARDS: each row of YtjlcocalpjeghaaDoorRows.lean that lists a variable, with what it lists TIED to the program's text (the seventh form; the later family's looks); each row that meets fmt, with fmt's text TOLD by the authors' own Lean function (tested against real Go, not proved from fmt's source: count such statements apart). THE CARD IS WHAT COUNTS. Prove the row's statement (the work); the ties are given (YtjlcocalpjeghaaDoorTie.lean); close each card by the builder's one call (the guide's Derived/Test/ToyasCard.lean, 'card_holds'). Laid BY PROGRAM, IN A SANDBOX (cutbox-door.mjs). By AI agents, Wed Nov 11 2026. No macro, syntax, notation, axiom, sorry.
-/
import Derived.Test.YtjlcocalpjeghaaDoorRows
import GoSem.ClaimSeven
namespace Go.Proofs.YtjlcocalpjeghaaDoor
namespace Rows

/-- THE TIED CARD OF 'obelisklaw4.DescrField'. -/
def descrFieldCard : Claim7 := { stood := { row := descrFieldRow, standIns := [], harness := (true, "9467de89e28fe45ff65f48c2e9cf2fa5afff3a8236d3cddc17c64633b5e4109a"), looks := false }, kinds := [], alts := [], laidByText := true, laidKinds := [.data, .pinned], laidTests := true, laidLooks := .later }
def DescrFieldCardSaid : Prop := Claim7.holds Tryd.pinned (.plain (OpenSpec.ofChange descrFieldSpec)) descrFieldCard

/-- THE TIED CARD OF 'obelisklaw4.DescrMethod'. -/
def descrMethodCard : Claim7 := { stood := { row := descrMethodRow, standIns := [], harness := (true, "9467de89e28fe45ff65f48c2e9cf2fa5afff3a8236d3cddc17c64633b5e4109a"), looks := false }, kinds := [], alts := [], laidByText := true, laidKinds := [.data, .pinned], laidTests := true, laidLooks := .later }
def DescrMethodCardSaid : Prop := Claim7.holds Tryd.pinned (.plain (OpenSpec.ofChange descrMethodSpec)) descrMethodCard

/-- THE TIED CARD OF 'obelisklaw4.DescrDims'. -/
def descrDimsCard : Claim7 := { stood := { row := descrDimsRow, standIns := [], harness := (true, "9467de89e28fe45ff65f48c2e9cf2fa5afff3a8236d3cddc17c64633b5e4109a"), looks := false }, kinds := [], alts := [], laidByText := true, laidKinds := [.data, .pinned], laidTests := true, laidLooks := .later }
def DescrDimsCardSaid : Prop := Claim7.holds Tryd.pinned (.plain (OpenSpec.ofChange descrDimsSpec)) descrDimsCard

/-- THE TIED CARD OF 'obelisklaw4.DescrBuild'. -/
def descrBuildCard : Claim7 := { stood := { row := descrBuildRow, standIns := [], harness := (true, "9467de89e28fe45ff65f48c2e9cf2fa5afff3a8236d3cddc17c64633b5e4109a"), looks := false }, kinds := [], alts := [], laidByText := true, laidKinds := [.data, .pinned], laidTests := true, laidLooks := .later }
def DescrBuildCardSaid : Prop := Claim7.holds Tryd.pinned (.plain (OpenSpec.ofChange descrBuildSpec)) descrBuildCard

/-- THE SECOND FORM's CARD OF 'obelisklaw4.DescrField'. -/
def descrFieldUptoCard : Claim7 := { stood := { row := descrFieldUptoRow, standIns := [], harness := (true, "9467de89e28fe45ff65f48c2e9cf2fa5afff3a8236d3cddc17c64633b5e4109a"), looks := false }, kinds := [], alts := [], laidByText := true, laidKinds := [.data, .pinned], laidTests := true, laidLooks := .later }
def DescrFieldUptoCardSaid : Prop := Claim7.holds Tryd.pinned (.plain (OpenSpec.upto descrFieldSpec)) descrFieldUptoCard

/-- THE SECOND FORM's CARD OF 'obelisklaw4.DescrMethod'. -/
def descrMethodUptoCard : Claim7 := { stood := { row := descrMethodUptoRow, standIns := [], harness := (true, "9467de89e28fe45ff65f48c2e9cf2fa5afff3a8236d3cddc17c64633b5e4109a"), looks := false }, kinds := [], alts := [], laidByText := true, laidKinds := [.data, .pinned], laidTests := true, laidLooks := .later }
def DescrMethodUptoCardSaid : Prop := Claim7.holds Tryd.pinned (.plain (OpenSpec.upto descrMethodSpec)) descrMethodUptoCard

/-- THE SECOND FORM's CARD OF 'obelisklaw4.DescrDims'. -/
def descrDimsUptoCard : Claim7 := { stood := { row := descrDimsUptoRow, standIns := [], harness := (true, "9467de89e28fe45ff65f48c2e9cf2fa5afff3a8236d3cddc17c64633b5e4109a"), looks := false }, kinds := [], alts := [], laidByText := true, laidKinds := [.data, .pinned], laidTests := true, laidLooks := .later }
def DescrDimsUptoCardSaid : Prop := Claim7.holds Tryd.pinned (.plain (OpenSpec.upto descrDimsSpec)) descrDimsUptoCard

/-- THE SECOND FORM's CARD OF 'obelisklaw4.DescrBuild'. -/
def descrBuildUptoCard : Claim7 := { stood := { row := descrBuildUptoRow, standIns := [], harness := (true, "9467de89e28fe45ff65f48c2e9cf2fa5afff3a8236d3cddc17c64633b5e4109a"), looks := false }, kinds := [], alts := [], laidByText := true, laidKinds := [.data, .pinned], laidTests := true, laidLooks := .later }
def DescrBuildUptoCardSaid : Prop := Claim7.holds Tryd.pinned (.plain (OpenSpec.upto descrBuildSpec)) descrBuildUptoCard
end Rows
end Go.Proofs.YtjlcocalpjeghaaDoor
