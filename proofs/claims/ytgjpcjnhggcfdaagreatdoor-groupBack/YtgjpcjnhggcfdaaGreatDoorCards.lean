/-
  DERIVED. GIVEN WITH THE SEED: THE CARDS: each row of YtgjpcjnhggcfdaaGreatDoorRows.lean that lists a variable, with what it lists TIED to the program's text (the seventh form; the later family's looks); each row that meets fmt, with fmt's text TOLD by the authors' own Lean function (tested against real Go, not proved from fmt's source: count such statements apart). THE CARD IS WHAT COUNTS. Prove the row's statement (the work); the ties are given (YtgjpcjnhggcfdaaGreatDoorTie.lean); close each card by the builder's one call (the guide's Derived/Test/ToyasCard.lean, 'card_holds'). Laid BY PROGRAM, IN A SANDBOX (cutbox-door.mjs). By AI agents, Wed Nov 11 2026. No macro, syntax, notation, axiom, sorry.
-/
import Derived.Test.YtgjpcjnhggcfdaaGreatDoorRows
import GoSem.ClaimSeven
namespace Go.Proofs.YtgjpcjnhggcfdaaGreatDoor
namespace Rows

/-- THE TIED CARD OF 'marquetrylaw18.GroupBack'. -/
def groupBackCard : Claim7 := { stood := { row := groupBackRow, standIns := [], harness := (true, "d6c965d738d614ebd57168714520173007653c3bdf9150cd517d793938d9e65e"), looks := false }, kinds := [], alts := [], laidByText := true, laidKinds := [.data, .data], laidTests := true, laidLooks := .later }
def GroupBackCardSaid : Prop := Claim7.holds Tryz.pinned (.plain (OpenSpec.ofChange groupBackSpec)) groupBackCard

/-- THE SECOND FORM's CARD OF 'marquetrylaw18.GroupBack'. -/
def groupBackUptoCard : Claim7 := { stood := { row := groupBackUptoRow, standIns := [], harness := (true, "d6c965d738d614ebd57168714520173007653c3bdf9150cd517d793938d9e65e"), looks := false }, kinds := [], alts := [], laidByText := true, laidKinds := [.data, .data], laidTests := true, laidLooks := .later }
def GroupBackUptoCardSaid : Prop := Claim7.holds Tryz.pinned (.plain (OpenSpec.upto groupBackSpec)) groupBackUptoCard
end Rows
end Go.Proofs.YtgjpcjnhggcfdaaGreatDoor
