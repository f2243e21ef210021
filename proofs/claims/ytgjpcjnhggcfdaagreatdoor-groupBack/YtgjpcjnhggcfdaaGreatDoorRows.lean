/-
  NARROWER THAN 'FOR EVERY INPUT', by the rows' own cells (each row's printed sentence says how): GroupBack: laid.
  DERIVED. THE GIVEN ROWS OF THIS SEAT. 1 by the template 'for every input the law returns true; each argument reads behind the call as it read before'; 0 by the template 'total and deterministic' (their statements: YtgjpcjnhggcfdaaGreatDoorTotals.lean).
  GIVEN WITH THE SEED: the statements are not yours to turn. If you find one false, say at which input.
  Laid BY PROGRAM, IN A SANDBOX (cutbox-rows.mjs): the forced cells as the released guide's own fill.sh prints them over the translation 93126f582dd6e5cb… (all of the seat's roots in one cut). By AI agents, Wed Nov 11 2026. No macro, syntax, notation, axiom, sorry.
-/
import Derived.Test.YtgjpcjnhggcfdaaGreatDoorChecked
import GoSem.Claim
import GoSem.ClaimJoined
import GoSem.ClaimMapViews
import Derived.JoinedTies
import Derived.KernelRfl
namespace Go.Proofs.YtgjpcjnhggcfdaaGreatDoor
/- THE CELL 'sum', in the pinned program and in every row, IS THE sha256 OF THE DUMP (.gsa) THAT YtgjpcjnhggcfdaaGreatDoorProg.lean LOADS. Nothing in Lean hashes anything: it is a label: what it is worth is what the hold of that sum in a sandbox is worth. -/
noncomputable def Tryz.pinned : Pinned := { name := "ytgjpcjnhggcfdaagreatdoor", sum := "93126f582dd6e5cb4d64e79b94eed681fb3fe6e2ceae509e25e5bd2068a11953", checked := Tryz.checked }
namespace Rows
def none {H : Type} : Left H := { results := [], args := [] }

/- WHAT THE LISTED PACKAGE-LEVEL VARIABLES READ AS WHEN THE CALL BEGINS. Each datum BY PROGRAM (the guide's laid-datum.mjs) off the statement by which the dump's own 'gosem.cut.vars' lays the variable. In a bare row this is a premise. The card (YtgjpcjnhggcfdaaGreatDoorCards.lean) ties it to the program's text. -/
def laid_marquetry_near_list {H : Type} : DataW H := .agg [.lit (.int .i8 0), .lit (.int .i8 1), .lit (.int .i8 1), .lit (.int .i8 0), .lit (.int .i8 1), .lit (.int .i8 1), .lit (.int .i8 (-1)), .lit (.int .i8 1), .lit (.int .i8 0), .lit (.int .i8 2), .lit (.int .i8 2), .lit (.int .i8 0), .lit (.int .i8 1), .lit (.int .i8 2), .lit (.int .i8 (-1)), .lit (.int .i8 2), .lit (.int .i8 2), .lit (.int .i8 1), .lit (.int .i8 (-2)), .lit (.int .i8 1), .lit (.int .i8 2), .lit (.int .i8 2), .lit (.int .i8 (-2)), .lit (.int .i8 2), .lit (.int .i8 0), .lit (.int .i8 3), .lit (.int .i8 3), .lit (.int .i8 0), .lit (.int .i8 1), .lit (.int .i8 3), .lit (.int .i8 (-1)), .lit (.int .i8 3), .lit (.int .i8 3), .lit (.int .i8 1), .lit (.int .i8 (-3)), .lit (.int .i8 1), .lit (.int .i8 2), .lit (.int .i8 3), .lit (.int .i8 (-2)), .lit (.int .i8 3), .lit (.int .i8 3), .lit (.int .i8 2), .lit (.int .i8 (-3)), .lit (.int .i8 2), .lit (.int .i8 0), .lit (.int .i8 4), .lit (.int .i8 4), .lit (.int .i8 0), .lit (.int .i8 1), .lit (.int .i8 4), .lit (.int .i8 (-1)), .lit (.int .i8 4), .lit (.int .i8 4), .lit (.int .i8 1), .lit (.int .i8 (-4)), .lit (.int .i8 1), .lit (.int .i8 3), .lit (.int .i8 3), .lit (.int .i8 (-3)), .lit (.int .i8 3), .lit (.int .i8 2), .lit (.int .i8 4), .lit (.int .i8 (-2)), .lit (.int .i8 4), .lit (.int .i8 4), .lit (.int .i8 2), .lit (.int .i8 (-4)), .lit (.int .i8 2), .lit (.int .i8 0), .lit (.int .i8 5), .lit (.int .i8 3), .lit (.int .i8 4), .lit (.int .i8 (-3)), .lit (.int .i8 4), .lit (.int .i8 4), .lit (.int .i8 3), .lit (.int .i8 (-4)), .lit (.int .i8 3), .lit (.int .i8 5), .lit (.int .i8 0), .lit (.int .i8 1), .lit (.int .i8 5), .lit (.int .i8 (-1)), .lit (.int .i8 5), .lit (.int .i8 5), .lit (.int .i8 1), .lit (.int .i8 (-5)), .lit (.int .i8 1), .lit (.int .i8 2), .lit (.int .i8 5), .lit (.int .i8 (-2)), .lit (.int .i8 5), .lit (.int .i8 5), .lit (.int .i8 2), .lit (.int .i8 (-5)), .lit (.int .i8 2), .lit (.int .i8 4), .lit (.int .i8 4), .lit (.int .i8 (-4)), .lit (.int .i8 4), .lit (.int .i8 3), .lit (.int .i8 5), .lit (.int .i8 (-3)), .lit (.int .i8 5), .lit (.int .i8 5), .lit (.int .i8 3), .lit (.int .i8 (-5)), .lit (.int .i8 3), .lit (.int .i8 0), .lit (.int .i8 6), .lit (.int .i8 6), .lit (.int .i8 0), .lit (.int .i8 1), .lit (.int .i8 6), .lit (.int .i8 (-1)), .lit (.int .i8 6), .lit (.int .i8 6), .lit (.int .i8 1), .lit (.int .i8 (-6)), .lit (.int .i8 1), .lit (.int .i8 2), .lit (.int .i8 6), .lit (.int .i8 (-2)), .lit (.int .i8 6), .lit (.int .i8 6), .lit (.int .i8 2), .lit (.int .i8 (-6)), .lit (.int .i8 2), .lit (.int .i8 4), .lit (.int .i8 5), .lit (.int .i8 (-4)), .lit (.int .i8 5), .lit (.int .i8 5), .lit (.int .i8 4), .lit (.int .i8 (-5)), .lit (.int .i8 4), .lit (.int .i8 3), .lit (.int .i8 6), .lit (.int .i8 (-3)), .lit (.int .i8 6), .lit (.int .i8 6), .lit (.int .i8 3), .lit (.int .i8 (-6)), .lit (.int .i8 3), .lit (.int .i8 0), .lit (.int .i8 7), .lit (.int .i8 7), .lit (.int .i8 0), .lit (.int .i8 1), .lit (.int .i8 7), .lit (.int .i8 (-1)), .lit (.int .i8 7), .lit (.int .i8 5), .lit (.int .i8 5), .lit (.int .i8 (-5)), .lit (.int .i8 5), .lit (.int .i8 7), .lit (.int .i8 1), .lit (.int .i8 (-7)), .lit (.int .i8 1), .lit (.int .i8 4), .lit (.int .i8 6), .lit (.int .i8 (-4)), .lit (.int .i8 6), .lit (.int .i8 6), .lit (.int .i8 4), .lit (.int .i8 (-6)), .lit (.int .i8 4), .lit (.int .i8 2), .lit (.int .i8 7), .lit (.int .i8 (-2)), .lit (.int .i8 7), .lit (.int .i8 7), .lit (.int .i8 2), .lit (.int .i8 (-7)), .lit (.int .i8 2), .lit (.int .i8 3), .lit (.int .i8 7), .lit (.int .i8 (-3)), .lit (.int .i8 7), .lit (.int .i8 7), .lit (.int .i8 3), .lit (.int .i8 (-7)), .lit (.int .i8 3), .lit (.int .i8 5), .lit (.int .i8 6), .lit (.int .i8 (-5)), .lit (.int .i8 6), .lit (.int .i8 6), .lit (.int .i8 5), .lit (.int .i8 (-6)), .lit (.int .i8 5), .lit (.int .i8 8), .lit (.int .i8 0), .lit (.int .i8 4), .lit (.int .i8 7), .lit (.int .i8 (-4)), .lit (.int .i8 7), .lit (.int .i8 7), .lit (.int .i8 4), .lit (.int .i8 (-7)), .lit (.int .i8 4), .lit (.int .i8 8), .lit (.int .i8 1), .lit (.int .i8 8), .lit (.int .i8 2), .lit (.int .i8 6), .lit (.int .i8 6), .lit (.int .i8 (-6)), .lit (.int .i8 6), .lit (.int .i8 8), .lit (.int .i8 3), .lit (.int .i8 5), .lit (.int .i8 7), .lit (.int .i8 (-5)), .lit (.int .i8 7), .lit (.int .i8 7), .lit (.int .i8 5), .lit (.int .i8 (-7)), .lit (.int .i8 5), .lit (.int .i8 8), .lit (.int .i8 4), .lit (.int .i8 6), .lit (.int .i8 7), .lit (.int .i8 (-6)), .lit (.int .i8 7), .lit (.int .i8 7), .lit (.int .i8 6), .lit (.int .i8 (-7)), .lit (.int .i8 6), .lit (.int .i8 8), .lit (.int .i8 5), .lit (.int .i8 7), .lit (.int .i8 7), .lit (.int .i8 (-7)), .lit (.int .i8 7), .lit (.int .i8 8), .lit (.int .i8 6), .lit (.int .i8 8), .lit (.int .i8 7)]
def laid_marquetry_lens_order {H : Type} : DataW H := .agg [.lit (.int .i64 17), .lit (.int .i64 18), .lit (.int .i64 0), .lit (.int .i64 1), .lit (.int .i64 2), .lit (.int .i64 3), .lit (.int .i64 4), .lit (.int .i64 5), .lit (.int .i64 16), .lit (.int .i64 6), .lit (.int .i64 7), .lit (.int .i64 8), .lit (.int .i64 9), .lit (.int .i64 10), .lit (.int .i64 11), .lit (.int .i64 12), .lit (.int .i64 13), .lit (.int .i64 14), .lit (.int .i64 15)]

/-- 'marquetrylaw18.GroupBack': WHATEVER THE INPUT: true; the input reads as it did. -/
def groupBackSpec : ChangeSpec := { name := "groupBack", fn := fun _ => fun
  | [d1, d2, d3, d4] => { results := [.lit (.bool true)], args := [d1, d2, d3, d4] }
  | _ => none }
def groupBackRow : OpenClaim := { program := "ytgjpcjnhggcfdaagreatdoor", sum := "93126f582dd6e5cb4d64e79b94eed681fb3fe6e2ceae509e25e5bd2068a11953", func := "marquetry/marquetrylaw18.GroupBack", spec := "groupBack", unfollowed := true, recurses := true, named := ["marquetry/near.list", "marquetry/lens.order"], apart := false, laid := [("marquetry/near.list", laid_marquetry_near_list), ("marquetry/lens.order", laid_marquetry_lens_order)] }
def GroupBackSaid : Prop := groupBackRow.holds Tryz.pinned (OpenSpec.ofChange groupBackSpec)

/-- ITS FALSE NEIGHBOUR: 'it returns false'. Refute it at one input. -/
def groupBackWrong : ChangeSpec := { name := "groupBack", fn := fun _ => fun
  | [d1, d2, d3, d4] => { results := [.lit (.bool false)], args := [d1, d2, d3, d4] }
  | _ => none }
def GroupBackWrongFalsely : Prop := groupBackRow.holds Tryz.pinned (OpenSpec.ofChange groupBackWrong)

/- THE SECOND FORM. 'bulk': how many values and letters a reading holds, each counted each time it is reached (what is shared counts as often as it is met; a slice's spare places count too). A statement '..UptoSaid' is the law's where the arguments, and the package variables that the reading takes, are together of bulk at most 1048576: NARROWER than '..Said'. Prove '..Said' where nothing that the law and all that it calls make is longer than what came in: it says more and counts as full. Else prove '..UptoSaid'. A law counts once. -/
mutual
def uptoBulk {H : Type} : DataW H → Nat
  | .lit (.string bytes) => bytes.length + 1
  | .lit _ => 1
  | .nil => 1
  | .ptr d => uptoBulk d + 1
  | .slice elems spare => uptoBulkAll elems + uptoBulkAll spare + 1
  | .agg parts => uptoBulkAll parts + 1
  | .iface _ d => uptoBulk d + 1
  | .map entries => uptoBulkEntries entries + 1
  | .held _ => 1
def uptoBulkAll {H : Type} : List (DataW H) → Nat
  | [] => 0
  | d :: r => uptoBulk d + uptoBulkAll r
def uptoBulkEntries {H : Type} : List (Lit × DataW H) → Nat
  | [] => 0
  | x :: r => uptoBulkEntry x + uptoBulkEntries r
def uptoBulkEntry {H : Type} : Lit × DataW H → Nat
  | (.string bytes, d) => bytes.length + uptoBulk d + 1
  | (_, d) => uptoBulk d + 1
 end
def uptoSmall : (H : Type) → List (DataW H) → Bool := fun _ ds => decide (uptoBulkAll ds ≤ 1048576)
def OpenSpec.upto (s : _root_.Go.ChangeSpec) : _root_.Go.OpenSpec := { _root_.Go.OpenSpec.ofChange s with cond := some uptoSmall }

/-- 'marquetrylaw18.GroupBack', WHERE WHAT IT READS IS OF BULK AT MOST 1048576: true; the input reads as it did. -/
def groupBackUptoRow : OpenClaim := { program := "ytgjpcjnhggcfdaagreatdoor", sum := "93126f582dd6e5cb4d64e79b94eed681fb3fe6e2ceae509e25e5bd2068a11953", func := "marquetry/marquetrylaw18.GroupBack", spec := "groupBack", unfollowed := true, recurses := true, named := ["marquetry/near.list", "marquetry/lens.order"], apart := false, laid := [("marquetry/near.list", laid_marquetry_near_list), ("marquetry/lens.order", laid_marquetry_lens_order)], narrowed := true }
def GroupBackUptoSaid : Prop := groupBackUptoRow.holds Tryz.pinned (OpenSpec.upto groupBackSpec)

end Rows
end Go.Proofs.YtgjpcjnhggcfdaaGreatDoor
