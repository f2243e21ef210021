/-
  DERIVED. GIVEN WITH THE SEED: THE CARDS: each row of YtaidboopcoaeeaaDoorRows.lean that lists a variable, with what it lists TIED to the program's text (the seventh form; the later family's looks); each row that meets fmt, with fmt's text TOLD by the authors' own Lean function (tested against real Go, not proved from fmt's source: count such statements apart). THE CARD IS WHAT COUNTS. Prove the row's statement (the work); the ties are given (YtaidboopcoaeeaaDoorTie.lean); close each card by the builder's one call (the guide's Derived/Test/ToyasCard.lean, 'card_holds'). Laid BY PROGRAM, IN A SANDBOX (cutbox-door.mjs). By AI agents, Wed Nov 11 2026. No macro, syntax, notation, axiom, sorry.
-/
import Derived.Test.YtaidboopcoaeeaaDoorRows
import GoSem.ClaimSeven
namespace Go.Proofs.YtaidboopcoaeeaaDoor
namespace Rows

/-- THE TIED CARD OF 'marquetrylaw07.LensBack'. -/
def lensBackCard : Claim7 := { stood := { row := lensBackRow, standIns := [], harness := (true, "6404812eebda6f2c2c5adda24fb6989d71ad3efe3890a9aa876ba93c903343fd"), looks := false }, kinds := [], alts := [], laidByText := true, laidKinds := [.data], laidTests := true, laidLooks := .later }
def LensBackCardSaid : Prop := Claim7.holds Tryd.pinned (.plain (OpenSpec.ofChange lensBackSpec)) lensBackCard

/-- THE TIED CARD OF 'marquetrylaw07.LensSimple'. -/
def lensSimpleCard : Claim7 := { stood := { row := lensSimpleRow, standIns := [], harness := (true, "6404812eebda6f2c2c5adda24fb6989d71ad3efe3890a9aa876ba93c903343fd"), looks := false }, kinds := [], alts := [], laidByText := true, laidKinds := [.data], laidTests := true, laidLooks := .later }
def LensSimpleCardSaid : Prop := Claim7.holds Tryd.pinned (.plain (OpenSpec.ofChange lensSimpleSpec)) lensSimpleCard

/-- THE TIED CARD OF 'marquetrylaw07.LensFlat'. -/
def lensFlatCard : Claim7 := { stood := { row := lensFlatRow, standIns := [], harness := (true, "6404812eebda6f2c2c5adda24fb6989d71ad3efe3890a9aa876ba93c903343fd"), looks := false }, kinds := [], alts := [], laidByText := true, laidKinds := [.data], laidTests := true, laidLooks := .later }
def LensFlatCardSaid : Prop := Claim7.holds Tryd.pinned (.plain (OpenSpec.ofChange lensFlatSpec)) lensFlatCard

/-- THE SECOND FORM's CARD OF 'marquetrylaw07.LensBack'. -/
def lensBackUptoCard : Claim7 := { stood := { row := lensBackUptoRow, standIns := [], harness := (true, "6404812eebda6f2c2c5adda24fb6989d71ad3efe3890a9aa876ba93c903343fd"), looks := false }, kinds := [], alts := [], laidByText := true, laidKinds := [.data], laidTests := true, laidLooks := .later }
def LensBackUptoCardSaid : Prop := Claim7.holds Tryd.pinned (.plain (OpenSpec.upto lensBackSpec)) lensBackUptoCard

/-- THE SECOND FORM's CARD OF 'marquetrylaw07.LensSimple'. -/
def lensSimpleUptoCard : Claim7 := { stood := { row := lensSimpleUptoRow, standIns := [], harness := (true, "6404812eebda6f2c2c5adda24fb6989d71ad3efe3890a9aa876ba93c903343fd"), looks := false }, kinds := [], alts := [], laidByText := true, laidKinds := [.data], laidTests := true, laidLooks := .later }
def LensSimpleUptoCardSaid : Prop := Claim7.holds Tryd.pinned (.plain (OpenSpec.upto lensSimpleSpec)) lensSimpleUptoCard

/-- THE SECOND FORM's CARD OF 'marquetrylaw07.LensFlat'. -/
def lensFlatUptoCard : Claim7 := { stood := { row := lensFlatUptoRow, standIns := [], harness := (true, "6404812eebda6f2c2c5adda24fb6989d71ad3efe3890a9aa876ba93c903343fd"), looks := false }, kinds := [], alts := [], laidByText := true, laidKinds := [.data], laidTests := true, laidLooks := .later }
def LensFlatUptoCardSaid : Prop := Claim7.holds Tryd.pinned (.plain (OpenSpec.upto lensFlatSpec)) lensFlatUptoCard
end Rows
end Go.Proofs.YtaidboopcoaeeaaDoor
