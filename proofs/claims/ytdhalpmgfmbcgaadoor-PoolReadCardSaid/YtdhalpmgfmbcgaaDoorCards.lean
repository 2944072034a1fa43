/-
  DERIVED. GIVEN WITH THE SEED: THE CARDS: each row of YtdhalpmgfmbcgaaDoorRows.lean that lists a variable, with what it lists TIED to the program's text (the seventh form; the later family's looks); each row that meets fmt, with fmt's text TOLD by the authors' own Lean function (tested against real Go, not proved from fmt's source: count such statements apart). THE CARD IS WHAT COUNTS. Prove the row's statement (the work); the ties are given (YtdhalpmgfmbcgaaDoorTie.lean); close each card by the builder's one call (the guide's Derived/Test/ToyasCard.lean, 'card_holds'). Laid BY PROGRAM, IN A SANDBOX (cutbox-door.mjs). By AI agents, Wed Nov 11 2026. No macro, syntax, notation, axiom, sorry.
-/
import Derived.Test.YtdhalpmgfmbcgaaDoorRows
import GoSem.ClaimSeven
namespace Go.Proofs.YtdhalpmgfmbcgaaDoor
namespace Rows

/-- THE TIED CARD OF 'obelisklaw5.PoolRead'. -/
def poolReadCard : Claim7 := { stood := { row := poolReadRow, standIns := [], harness := (true, "bf31766f97ca3f7b54310ce2e33c0cdedd8c22bce3faa1185b2093dd2e4ab2f6"), looks := false }, kinds := [], alts := [], laidByText := true, laidKinds := [.data, .pinned], laidTests := true, laidLooks := .later }
def PoolReadCardSaid : Prop := Claim7.holds Tryd.pinned (.plain (OpenSpec.ofChange poolReadSpec)) poolReadCard

/-- THE TIED CARD OF 'obelisklaw5.PoolTexts'. -/
def poolTextsCard : Claim7 := { stood := { row := poolTextsRow, standIns := [], harness := (true, "bf31766f97ca3f7b54310ce2e33c0cdedd8c22bce3faa1185b2093dd2e4ab2f6"), looks := false }, kinds := [], alts := [], laidByText := true, laidKinds := [.data, .pinned], laidTests := true, laidLooks := .later }
def PoolTextsCardSaid : Prop := Claim7.holds Tryd.pinned (.plain (OpenSpec.ofChange poolTextsSpec)) poolTextsCard

/-- THE TIED CARD OF 'obelisklaw5.PoolWitness'. -/
def poolWitnessCard : Claim7 := { stood := { row := poolWitnessRow, standIns := [], harness := (true, "bf31766f97ca3f7b54310ce2e33c0cdedd8c22bce3faa1185b2093dd2e4ab2f6"), looks := false }, kinds := [], alts := [], laidByText := true, laidKinds := [.data, .pinned], laidTests := true, laidLooks := .later }
def PoolWitnessCardSaid : Prop := Claim7.holds Tryd.pinned (.plain (OpenSpec.ofChange poolWitnessSpec)) poolWitnessCard

/-- THE SECOND FORM's CARD OF 'obelisklaw5.PoolRead'. -/
def poolReadUptoCard : Claim7 := { stood := { row := poolReadUptoRow, standIns := [], harness := (true, "bf31766f97ca3f7b54310ce2e33c0cdedd8c22bce3faa1185b2093dd2e4ab2f6"), looks := false }, kinds := [], alts := [], laidByText := true, laidKinds := [.data, .pinned], laidTests := true, laidLooks := .later }
def PoolReadUptoCardSaid : Prop := Claim7.holds Tryd.pinned (.plain (OpenSpec.upto poolReadSpec)) poolReadUptoCard

/-- THE SECOND FORM's CARD OF 'obelisklaw5.PoolTexts'. -/
def poolTextsUptoCard : Claim7 := { stood := { row := poolTextsUptoRow, standIns := [], harness := (true, "bf31766f97ca3f7b54310ce2e33c0cdedd8c22bce3faa1185b2093dd2e4ab2f6"), looks := false }, kinds := [], alts := [], laidByText := true, laidKinds := [.data, .pinned], laidTests := true, laidLooks := .later }
def PoolTextsUptoCardSaid : Prop := Claim7.holds Tryd.pinned (.plain (OpenSpec.upto poolTextsSpec)) poolTextsUptoCard

/-- THE SECOND FORM's CARD OF 'obelisklaw5.PoolWitness'. -/
def poolWitnessUptoCard : Claim7 := { stood := { row := poolWitnessUptoRow, standIns := [], harness := (true, "bf31766f97ca3f7b54310ce2e33c0cdedd8c22bce3faa1185b2093dd2e4ab2f6"), looks := false }, kinds := [], alts := [], laidByText := true, laidKinds := [.data, .pinned], laidTests := true, laidLooks := .later }
def PoolWitnessUptoCardSaid : Prop := Claim7.holds Tryd.pinned (.plain (OpenSpec.upto poolWitnessSpec)) poolWitnessUptoCard
end Rows
end Go.Proofs.YtdhalpmgfmbcgaaDoor
