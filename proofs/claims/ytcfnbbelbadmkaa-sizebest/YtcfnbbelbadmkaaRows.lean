/-
  No cell of these rows narrows 'for every input' (looked for: loops, veiled, ifaces, maps, wideKeys, modest, calm, conditions, laid).
  DERIVED. THE GIVEN ROWS OF THIS SEAT. 5 by the template 'for every input the law returns true; each argument reads behind the call as it read before'; 0 by the template 'total and deterministic' (their statements: YtcfnbbelbadmkaaTotals.lean).
  GIVEN WITH THE SEED: the statements are not yours to turn. If you find one false, say at which input.
  Laid BY PROGRAM, IN A SANDBOX (cutbox-rows.mjs): the forced cells as the released guide's own fill.sh prints them over the translation b76a1b77571668cb… (all of the seat's roots in one cut). By AI agents, Wed Nov 11 2026. No macro, syntax, notation, axiom, sorry.
-/
import Derived.Test.YtcfnbbelbadmkaaChecked
import GoSem.Claim
import GoSem.ClaimJoined
import GoSem.ClaimMapViews
import Derived.JoinedTies
import Derived.KernelRfl
namespace Go.Proofs.Ytcfnbbelbadmkaa
/- THE CELL 'sum', in the pinned program and in every row, IS THE sha256 OF THE DUMP (.gsa) THAT YtcfnbbelbadmkaaProg.lean LOADS. Nothing in Lean hashes anything: it is a label: what it is worth is what the hold of that sum in a sandbox is worth. -/
noncomputable def Try.pinned : Pinned := { name := "ytcfnbbelbadmkaa", sum := "b76a1b77571668cb156ea57b3320742cc7b97d28a8e0703986b7b416be674eaa", checked := Try.checked }
namespace Rows
def none {H : Type} : Left H := { results := [], args := [] }

/-- 'marquetrylaw06.SizeBest': WHATEVER THE INPUT: true; the input reads as it did. -/
def sizeBestSpec : ChangeSpec := { name := "sizeBest", fn := fun _ => fun
  | [d1, d2] => { results := [.lit (.bool true)], args := [d1, d2] }
  | _ => none }
def sizeBestRow : OpenClaim := { program := "ytcfnbbelbadmkaa", sum := "b76a1b77571668cb156ea57b3320742cc7b97d28a8e0703986b7b416be674eaa", func := "marquetry/marquetrylaw06.SizeBest", spec := "sizeBest", unfollowed := true, recurses := true, apart := false }
def SizeBestSaid : Prop := sizeBestRow.holds Try.pinned (OpenSpec.ofChange sizeBestSpec)

/-- ITS FALSE NEIGHBOUR: 'it returns false'. Refute it at one input. -/
def sizeBestWrong : ChangeSpec := { name := "sizeBest", fn := fun _ => fun
  | [d1, d2] => { results := [.lit (.bool false)], args := [d1, d2] }
  | _ => none }
def SizeBestWrongFalsely : Prop := sizeBestRow.holds Try.pinned (OpenSpec.ofChange sizeBestWrong)

/-- 'marquetrylaw06.SizeTotals': WHATEVER THE INPUT: true; the input reads as it did. -/
def sizeTotalsSpec : ChangeSpec := { name := "sizeTotals", fn := fun _ => fun
  | [d1, d2] => { results := [.lit (.bool true)], args := [d1, d2] }
  | _ => none }
def sizeTotalsRow : OpenClaim := { program := "ytcfnbbelbadmkaa", sum := "b76a1b77571668cb156ea57b3320742cc7b97d28a8e0703986b7b416be674eaa", func := "marquetry/marquetrylaw06.SizeTotals", spec := "sizeTotals", unfollowed := true, recurses := true, apart := false }
def SizeTotalsSaid : Prop := sizeTotalsRow.holds Try.pinned (OpenSpec.ofChange sizeTotalsSpec)

/-- ITS FALSE NEIGHBOUR: 'it returns false'. Refute it at one input. -/
def sizeTotalsWrong : ChangeSpec := { name := "sizeTotals", fn := fun _ => fun
  | [d1, d2] => { results := [.lit (.bool false)], args := [d1, d2] }
  | _ => none }
def SizeTotalsWrongFalsely : Prop := sizeTotalsRow.holds Try.pinned (OpenSpec.ofChange sizeTotalsWrong)

/-- 'marquetrylaw06.SizeOrder': WHATEVER THE INPUT: true; the input reads as it did. -/
def sizeOrderSpec : ChangeSpec := { name := "sizeOrder", fn := fun _ => fun
  | [d] => { results := [.lit (.bool true)], args := [d] }
  | _ => none }
def sizeOrderRow : OpenClaim := { program := "ytcfnbbelbadmkaa", sum := "b76a1b77571668cb156ea57b3320742cc7b97d28a8e0703986b7b416be674eaa", func := "marquetry/marquetrylaw06.SizeOrder", spec := "sizeOrder", unfollowed := true, recurses := true, apart := false }
def SizeOrderSaid : Prop := sizeOrderRow.holds Try.pinned (OpenSpec.ofChange sizeOrderSpec)

/-- ITS FALSE NEIGHBOUR: 'it returns false'. Refute it at one input. -/
def sizeOrderWrong : ChangeSpec := { name := "sizeOrder", fn := fun _ => fun
  | [d] => { results := [.lit (.bool false)], args := [d] }
  | _ => none }
def SizeOrderWrongFalsely : Prop := sizeOrderRow.holds Try.pinned (OpenSpec.ofChange sizeOrderWrong)

/-- 'marquetrylaw06.SizeWide': WHATEVER THE INPUT: true; the input reads as it did. -/
def sizeWideSpec : ChangeSpec := { name := "sizeWide", fn := fun _ => fun
  | [d1, d2] => { results := [.lit (.bool true)], args := [d1, d2] }
  | _ => none }
def sizeWideRow : OpenClaim := { program := "ytcfnbbelbadmkaa", sum := "b76a1b77571668cb156ea57b3320742cc7b97d28a8e0703986b7b416be674eaa", func := "marquetry/marquetrylaw06.SizeWide", spec := "sizeWide", unfollowed := true, recurses := true, apart := false }
def SizeWideSaid : Prop := sizeWideRow.holds Try.pinned (OpenSpec.ofChange sizeWideSpec)

/-- ITS FALSE NEIGHBOUR: 'it returns false'. Refute it at one input. -/
def sizeWideWrong : ChangeSpec := { name := "sizeWide", fn := fun _ => fun
  | [d1, d2] => { results := [.lit (.bool false)], args := [d1, d2] }
  | _ => none }
def SizeWideWrongFalsely : Prop := sizeWideRow.holds Try.pinned (OpenSpec.ofChange sizeWideWrong)

/-- 'marquetrylaw06.SizeFlat': WHATEVER THE INPUT: true; the input reads as it did. -/
def sizeFlatSpec : ChangeSpec := { name := "sizeFlat", fn := fun _ => fun
  | [d1, d2, d3] => { results := [.lit (.bool true)], args := [d1, d2, d3] }
  | _ => none }
def sizeFlatRow : OpenClaim := { program := "ytcfnbbelbadmkaa", sum := "b76a1b77571668cb156ea57b3320742cc7b97d28a8e0703986b7b416be674eaa", func := "marquetry/marquetrylaw06.SizeFlat", spec := "sizeFlat", unfollowed := true, recurses := true, apart := false }
def SizeFlatSaid : Prop := sizeFlatRow.holds Try.pinned (OpenSpec.ofChange sizeFlatSpec)

/-- ITS FALSE NEIGHBOUR: 'it returns false'. Refute it at one input. -/
def sizeFlatWrong : ChangeSpec := { name := "sizeFlat", fn := fun _ => fun
  | [d1, d2, d3] => { results := [.lit (.bool false)], args := [d1, d2, d3] }
  | _ => none }
def SizeFlatWrongFalsely : Prop := sizeFlatRow.holds Try.pinned (OpenSpec.ofChange sizeFlatWrong)

/- THE SECOND FORM. 'bulk': how many values and letters a reading holds, each counted each time it is reached (what is shared counts as often as it is met; a slice's spare places count too). A statement '..UptoSaid' is the law's where the arguments, and the package variables that the reading takes, are together of bulk at most 1048576: NARROWER than '..Said'. Prove '..Said' where nothing that the law and all that it calls make is longer than what came in: it says more and counts as full. Else prove '..UptoSaid'. A law counts once. -/
mutual
def uptoBulk {H : Type} : DataW H → Nat
  | .lit (.string bytes) => bytes.length + 1
  | .lit _ => 1
  | .nil => 1
  | .ptr d => uptoBulk d + 1
  | .slice elems spare => uptoBulkAll elems + uptoBulkAll spare + 1
  | .agg parts => uptoBulkAll parts + 1
  | .iface _ d => uptoBulk d + 1
  | .map entries => uptoBulkEntries entries + 1
  | .held _ => 1
def uptoBulkAll {H : Type} : List (DataW H) → Nat
  | [] => 0
  | d :: r => uptoBulk d + uptoBulkAll r
def uptoBulkEntries {H : Type} : List (Lit × DataW H) → Nat
  | [] => 0
  | x :: r => uptoBulkEntry x + uptoBulkEntries r
def uptoBulkEntry {H : Type} : Lit × DataW H → Nat
  | (.string bytes, d) => bytes.length + uptoBulk d + 1
  | (_, d) => uptoBulk d + 1
 end
def uptoSmall : (H : Type) → List (DataW H) → Bool := fun _ ds => decide (uptoBulkAll ds ≤ 1048576)
def OpenSpec.upto (s : _root_.Go.ChangeSpec) : _root_.Go.OpenSpec := { _root_.Go.OpenSpec.ofChange s with cond := some uptoSmall }

/-- 'marquetrylaw06.SizeBest', WHERE WHAT IT READS IS OF BULK AT MOST 1048576: true; the input reads as it did. -/
def sizeBestUptoRow : OpenClaim := { program := "ytcfnbbelbadmkaa", sum := "b76a1b77571668cb156ea57b3320742cc7b97d28a8e0703986b7b416be674eaa", func := "marquetry/marquetrylaw06.SizeBest", spec := "sizeBest", unfollowed := true, recurses := true, apart := false, narrowed := true }
def SizeBestUptoSaid : Prop := sizeBestUptoRow.holds Try.pinned (OpenSpec.upto sizeBestSpec)

/-- 'marquetrylaw06.SizeTotals', WHERE WHAT IT READS IS OF BULK AT MOST 1048576: true; the input reads as it did. -/
def sizeTotalsUptoRow : OpenClaim := { program := "ytcfnbbelbadmkaa", sum := "b76a1b77571668cb156ea57b3320742cc7b97d28a8e0703986b7b416be674eaa", func := "marquetry/marquetrylaw06.SizeTotals", spec := "sizeTotals", unfollowed := true, recurses := true, apart := false, narrowed := true }
def SizeTotalsUptoSaid : Prop := sizeTotalsUptoRow.holds Try.pinned (OpenSpec.upto sizeTotalsSpec)

/-- 'marquetrylaw06.SizeOrder', WHERE WHAT IT READS IS OF BULK AT MOST 1048576: true; the input reads as it did. -/
def sizeOrderUptoRow : OpenClaim := { program := "ytcfnbbelbadmkaa", sum := "b76a1b77571668cb156ea57b3320742cc7b97d28a8e0703986b7b416be674eaa", func := "marquetry/marquetrylaw06.SizeOrder", spec := "sizeOrder", unfollowed := true, recurses := true, apart := false, narrowed := true }
def SizeOrderUptoSaid : Prop := sizeOrderUptoRow.holds Try.pinned (OpenSpec.upto sizeOrderSpec)

/-- 'marquetrylaw06.SizeWide', WHERE WHAT IT READS IS OF BULK AT MOST 1048576: true; the input reads as it did. -/
def sizeWideUptoRow : OpenClaim := { program := "ytcfnbbelbadmkaa", sum := "b76a1b77571668cb156ea57b3320742cc7b97d28a8e0703986b7b416be674eaa", func := "marquetry/marquetrylaw06.SizeWide", spec := "sizeWide", unfollowed := true, recurses := true, apart := false, narrowed := true }
def SizeWideUptoSaid : Prop := sizeWideUptoRow.holds Try.pinned (OpenSpec.upto sizeWideSpec)

/-- 'marquetrylaw06.SizeFlat', WHERE WHAT IT READS IS OF BULK AT MOST 1048576: true; the input reads as it did. -/
def sizeFlatUptoRow : OpenClaim := { program := "ytcfnbbelbadmkaa", sum := "b76a1b77571668cb156ea57b3320742cc7b97d28a8e0703986b7b416be674eaa", func := "marquetry/marquetrylaw06.SizeFlat", spec := "sizeFlat", unfollowed := true, recurses := true, apart := false, narrowed := true }
def SizeFlatUptoSaid : Prop := sizeFlatUptoRow.holds Try.pinned (OpenSpec.upto sizeFlatSpec)

end Rows
end Go.Proofs.Ytcfnbbelbadmkaa
