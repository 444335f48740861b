/-
  No cell of these rows narrows 'for every input' (looked for: loops, veiled, ifaces, maps, wideKeys, modest, calm, conditions, laid).
  DERIVED. THE GIVEN ROWS OF THIS SEAT. 10 by the template 'for every input the law returns true; each argument reads behind the call as it read before'; 0 by the template 'total and deterministic' (their statements: YtepklbboejnecaaTotals.lean).
  GIVEN WITH THE SEED: the statements are not yours to turn. If you find one false, say at which input.
  Laid BY PROGRAM, IN A SANDBOX (cutbox-rows.mjs): the forced cells as the released guide's own fill.sh prints them over the translation 644a48a9464ef683… (all of the seat's roots in one cut). By AI agents, Wed Nov 11 2026. No macro, syntax, notation, axiom, sorry.
-/
import Derived.Test.YtepklbboejnecaaChecked
import GoSem.Claim
import GoSem.ClaimJoined
import GoSem.ClaimMapViews
import Derived.JoinedTies
import Derived.KernelRfl
namespace Go.Proofs.Ytepklbboejnecaa
/- THE CELL 'sum', in the pinned program and in every row, IS THE sha256 OF THE DUMP (.gsa) THAT YtepklbboejnecaaProg.lean LOADS. Nothing in Lean hashes anything: it is a label: what it is worth is what the hold of that sum in a sandbox is worth. -/
noncomputable def Try.pinned : Pinned := { name := "ytepklbboejnecaa", sum := "644a48a9464ef6835c3ed6b71e6534ebd299b9a7dfeee60a03905d7fd2c98796", checked := Try.checked }
namespace Rows
def none {H : Type} : Left H := { results := [], args := [] }

/-- 'sedgelaw.Sorted': WHATEVER THE INPUT: true; the input reads as it did. -/
def sortedSpec : ChangeSpec := { name := "sorted", fn := fun _ => fun
  | [d1, d2, d3, d4] => { results := [.lit (.bool true)], args := [d1, d2, d3, d4] }
  | _ => none }
def sortedRow : OpenClaim := { program := "ytepklbboejnecaa", sum := "644a48a9464ef6835c3ed6b71e6534ebd299b9a7dfeee60a03905d7fd2c98796", func := "sedge/sedgelaw.Sorted", spec := "sorted", unfollowed := true, recurses := true, apart := false }
def SortedSaid : Prop := sortedRow.holds Try.pinned (OpenSpec.ofChange sortedSpec)

/-- ITS FALSE NEIGHBOUR: 'it returns false'. Refute it at one input. -/
def sortedWrong : ChangeSpec := { name := "sorted", fn := fun _ => fun
  | [d1, d2, d3, d4] => { results := [.lit (.bool false)], args := [d1, d2, d3, d4] }
  | _ => none }
def SortedWrongFalsely : Prop := sortedRow.holds Try.pinned (OpenSpec.ofChange sortedWrong)

/-- 'sedgelaw.Parted': WHATEVER THE INPUT: true; the input reads as it did. -/
def partedSpec : ChangeSpec := { name := "parted", fn := fun _ => fun
  | [d1, d2, d3, d4] => { results := [.lit (.bool true)], args := [d1, d2, d3, d4] }
  | _ => none }
def partedRow : OpenClaim := { program := "ytepklbboejnecaa", sum := "644a48a9464ef6835c3ed6b71e6534ebd299b9a7dfeee60a03905d7fd2c98796", func := "sedge/sedgelaw.Parted", spec := "parted", unfollowed := true, recurses := true, apart := false }
def PartedSaid : Prop := partedRow.holds Try.pinned (OpenSpec.ofChange partedSpec)

/-- ITS FALSE NEIGHBOUR: 'it returns false'. Refute it at one input. -/
def partedWrong : ChangeSpec := { name := "parted", fn := fun _ => fun
  | [d1, d2, d3, d4] => { results := [.lit (.bool false)], args := [d1, d2, d3, d4] }
  | _ => none }
def PartedWrongFalsely : Prop := partedRow.holds Try.pinned (OpenSpec.ofChange partedWrong)

/-- 'sedgekeep.Ordered': WHATEVER THE INPUT: true; the input reads as it did. -/
def orderedSpec : ChangeSpec := { name := "ordered", fn := fun _ => fun
  | [d] => { results := [.lit (.bool true)], args := [d] }
  | _ => none }
def orderedRow : OpenClaim := { program := "ytepklbboejnecaa", sum := "644a48a9464ef6835c3ed6b71e6534ebd299b9a7dfeee60a03905d7fd2c98796", func := "sedge/sedgekeep.Ordered", spec := "ordered", unfollowed := true, recurses := true, apart := false }
def OrderedSaid : Prop := orderedRow.holds Try.pinned (OpenSpec.ofChange orderedSpec)

/-- ITS FALSE NEIGHBOUR: 'it returns false'. Refute it at one input. -/
def orderedWrong : ChangeSpec := { name := "ordered", fn := fun _ => fun
  | [d] => { results := [.lit (.bool false)], args := [d] }
  | _ => none }
def OrderedWrongFalsely : Prop := orderedRow.holds Try.pinned (OpenSpec.ofChange orderedWrong)

/-- 'sedgekeep.Counted': WHATEVER THE INPUT: true; the input reads as it did. -/
def countedSpec : ChangeSpec := { name := "counted", fn := fun _ => fun
  | [d1, d2, d3, d4] => { results := [.lit (.bool true)], args := [d1, d2, d3, d4] }
  | _ => none }
def countedRow : OpenClaim := { program := "ytepklbboejnecaa", sum := "644a48a9464ef6835c3ed6b71e6534ebd299b9a7dfeee60a03905d7fd2c98796", func := "sedge/sedgekeep.Counted", spec := "counted", unfollowed := true, recurses := true, apart := false }
def CountedSaid : Prop := countedRow.holds Try.pinned (OpenSpec.ofChange countedSpec)

/-- ITS FALSE NEIGHBOUR: 'it returns false'. Refute it at one input. -/
def countedWrong : ChangeSpec := { name := "counted", fn := fun _ => fun
  | [d1, d2, d3, d4] => { results := [.lit (.bool false)], args := [d1, d2, d3, d4] }
  | _ => none }
def CountedWrongFalsely : Prop := countedRow.holds Try.pinned (OpenSpec.ofChange countedWrong)

/-- 'sedgelaw.Found': WHATEVER THE INPUT: true; the input reads as it did. -/
def foundSpec : ChangeSpec := { name := "found", fn := fun _ => fun
  | [d1, d2, d3] => { results := [.lit (.bool true)], args := [d1, d2, d3] }
  | _ => none }
def foundRow : OpenClaim := { program := "ytepklbboejnecaa", sum := "644a48a9464ef6835c3ed6b71e6534ebd299b9a7dfeee60a03905d7fd2c98796", func := "sedge/sedgelaw.Found", spec := "found", unfollowed := true, recurses := true, apart := false }
def FoundSaid : Prop := foundRow.holds Try.pinned (OpenSpec.ofChange foundSpec)

/-- ITS FALSE NEIGHBOUR: 'it returns false'. Refute it at one input. -/
def foundWrong : ChangeSpec := { name := "found", fn := fun _ => fun
  | [d1, d2, d3] => { results := [.lit (.bool false)], args := [d1, d2, d3] }
  | _ => none }
def FoundWrongFalsely : Prop := foundRow.holds Try.pinned (OpenSpec.ofChange foundWrong)

/-- 'sedgelaw.Turned': WHATEVER THE INPUT: true; the input reads as it did. -/
def turnedSpec : ChangeSpec := { name := "turned", fn := fun _ => fun
  | [d1, d2, d3, d4] => { results := [.lit (.bool true)], args := [d1, d2, d3, d4] }
  | _ => none }
def turnedRow : OpenClaim := { program := "ytepklbboejnecaa", sum := "644a48a9464ef6835c3ed6b71e6534ebd299b9a7dfeee60a03905d7fd2c98796", func := "sedge/sedgelaw.Turned", spec := "turned", unfollowed := true, recurses := true, apart := false }
def TurnedSaid : Prop := turnedRow.holds Try.pinned (OpenSpec.ofChange turnedSpec)

/-- ITS FALSE NEIGHBOUR: 'it returns false'. Refute it at one input. -/
def turnedWrong : ChangeSpec := { name := "turned", fn := fun _ => fun
  | [d1, d2, d3, d4] => { results := [.lit (.bool false)], args := [d1, d2, d3, d4] }
  | _ => none }
def TurnedWrongFalsely : Prop := turnedRow.holds Try.pinned (OpenSpec.ofChange turnedWrong)

/-- 'sedgekeep.Everywhere': WHATEVER THE INPUT: true; the input reads as it did. -/
def everywhereSpec : ChangeSpec := { name := "everywhere", fn := fun _ => fun
  | [d1, d2, d3, d4] => { results := [.lit (.bool true)], args := [d1, d2, d3, d4] }
  | _ => none }
def everywhereRow : OpenClaim := { program := "ytepklbboejnecaa", sum := "644a48a9464ef6835c3ed6b71e6534ebd299b9a7dfeee60a03905d7fd2c98796", func := "sedge/sedgekeep.Everywhere", spec := "everywhere", unfollowed := true, recurses := true, apart := false }
def EverywhereSaid : Prop := everywhereRow.holds Try.pinned (OpenSpec.ofChange everywhereSpec)

/-- ITS FALSE NEIGHBOUR: 'it returns false'. Refute it at one input. -/
def everywhereWrong : ChangeSpec := { name := "everywhere", fn := fun _ => fun
  | [d1, d2, d3, d4] => { results := [.lit (.bool false)], args := [d1, d2, d3, d4] }
  | _ => none }
def EverywhereWrongFalsely : Prop := everywhereRow.holds Try.pinned (OpenSpec.ofChange everywhereWrong)

/-- 'sedgekeep.Back': WHATEVER THE INPUT: true; the input reads as it did. -/
def backSpec : ChangeSpec := { name := "back", fn := fun _ => fun
  | [d1, d2, d3] => { results := [.lit (.bool true)], args := [d1, d2, d3] }
  | _ => none }
def backRow : OpenClaim := { program := "ytepklbboejnecaa", sum := "644a48a9464ef6835c3ed6b71e6534ebd299b9a7dfeee60a03905d7fd2c98796", func := "sedge/sedgekeep.Back", spec := "back", unfollowed := true, recurses := true, apart := false }
def BackSaid : Prop := backRow.holds Try.pinned (OpenSpec.ofChange backSpec)

/-- ITS FALSE NEIGHBOUR: 'it returns false'. Refute it at one input. -/
def backWrong : ChangeSpec := { name := "back", fn := fun _ => fun
  | [d1, d2, d3] => { results := [.lit (.bool false)], args := [d1, d2, d3] }
  | _ => none }
def BackWrongFalsely : Prop := backRow.holds Try.pinned (OpenSpec.ofChange backWrong)

/-- 'sedgelaw.Pieced': WHATEVER THE INPUT: true; the input reads as it did. -/
def piecedSpec : ChangeSpec := { name := "pieced", fn := fun _ => fun
  | [d1, d2, d3] => { results := [.lit (.bool true)], args := [d1, d2, d3] }
  | _ => none }
def piecedRow : OpenClaim := { program := "ytepklbboejnecaa", sum := "644a48a9464ef6835c3ed6b71e6534ebd299b9a7dfeee60a03905d7fd2c98796", func := "sedge/sedgelaw.Pieced", spec := "pieced", unfollowed := true, recurses := true, apart := false }
def PiecedSaid : Prop := piecedRow.holds Try.pinned (OpenSpec.ofChange piecedSpec)

/-- ITS FALSE NEIGHBOUR: 'it returns false'. Refute it at one input. -/
def piecedWrong : ChangeSpec := { name := "pieced", fn := fun _ => fun
  | [d1, d2, d3] => { results := [.lit (.bool false)], args := [d1, d2, d3] }
  | _ => none }
def PiecedWrongFalsely : Prop := piecedRow.holds Try.pinned (OpenSpec.ofChange piecedWrong)

/-- 'sedgekeep.Rebuilt': WHATEVER THE INPUT: true; the input reads as it did. -/
def rebuiltSpec : ChangeSpec := { name := "rebuilt", fn := fun _ => fun
  | [d1, d2] => { results := [.lit (.bool true)], args := [d1, d2] }
  | _ => none }
def rebuiltRow : OpenClaim := { program := "ytepklbboejnecaa", sum := "644a48a9464ef6835c3ed6b71e6534ebd299b9a7dfeee60a03905d7fd2c98796", func := "sedge/sedgekeep.Rebuilt", spec := "rebuilt", unfollowed := true, recurses := true, apart := false }
def RebuiltSaid : Prop := rebuiltRow.holds Try.pinned (OpenSpec.ofChange rebuiltSpec)

/-- ITS FALSE NEIGHBOUR: 'it returns false'. Refute it at one input. -/
def rebuiltWrong : ChangeSpec := { name := "rebuilt", fn := fun _ => fun
  | [d1, d2] => { results := [.lit (.bool false)], args := [d1, d2] }
  | _ => none }
def RebuiltWrongFalsely : Prop := rebuiltRow.holds Try.pinned (OpenSpec.ofChange rebuiltWrong)

/- THE SECOND FORM. 'bulk': how many values and letters a reading holds, each counted each time it is reached (what is shared counts as often as it is met; a slice's spare places count too). A statement '..UptoSaid' is the law's where the arguments, and the package variables that the reading takes, are together of bulk at most 1048576: NARROWER than '..Said'. Prove '..Said' where nothing that the law and all that it calls make is longer than what came in: it says more and counts as full. Else prove '..UptoSaid'. A law counts once. -/
mutual
def uptoBulk {H : Type} : DataW H → Nat
  | .lit (.string bytes) => bytes.length + 1
  | .lit _ => 1
  | .nil => 1
  | .ptr d => uptoBulk d + 1
  | .slice elems spare => uptoBulkAll elems + uptoBulkAll spare + 1
  | .agg parts => uptoBulkAll parts + 1
  | .iface _ d => uptoBulk d + 1
  | .map entries => uptoBulkEntries entries + 1
  | .held _ => 1
def uptoBulkAll {H : Type} : List (DataW H) → Nat
  | [] => 0
  | d :: r => uptoBulk d + uptoBulkAll r
def uptoBulkEntries {H : Type} : List (Lit × DataW H) → Nat
  | [] => 0
  | x :: r => uptoBulkEntry x + uptoBulkEntries r
def uptoBulkEntry {H : Type} : Lit × DataW H → Nat
  | (.string bytes, d) => bytes.length + uptoBulk d + 1
  | (_, d) => uptoBulk d + 1
 end
def uptoSmall : (H : Type) → List (DataW H) → Bool := fun _ ds => decide (uptoBulkAll ds ≤ 1048576)
def OpenSpec.upto (s : _root_.Go.ChangeSpec) : _root_.Go.OpenSpec := { _root_.Go.OpenSpec.ofChange s with cond := some uptoSmall }

/-- 'sedgelaw.Sorted', WHERE WHAT IT READS IS OF BULK AT MOST 1048576: true; the input reads as it did. -/
def sortedUptoRow : OpenClaim := { program := "ytepklbboejnecaa", sum := "644a48a9464ef6835c3ed6b71e6534ebd299b9a7dfeee60a03905d7fd2c98796", func := "sedge/sedgelaw.Sorted", spec := "sorted", unfollowed := true, recurses := true, apart := false, narrowed := true }
def SortedUptoSaid : Prop := sortedUptoRow.holds Try.pinned (OpenSpec.upto sortedSpec)

/-- 'sedgelaw.Parted', WHERE WHAT IT READS IS OF BULK AT MOST 1048576: true; the input reads as it did. -/
def partedUptoRow : OpenClaim := { program := "ytepklbboejnecaa", sum := "644a48a9464ef6835c3ed6b71e6534ebd299b9a7dfeee60a03905d7fd2c98796", func := "sedge/sedgelaw.Parted", spec := "parted", unfollowed := true, recurses := true, apart := false, narrowed := true }
def PartedUptoSaid : Prop := partedUptoRow.holds Try.pinned (OpenSpec.upto partedSpec)

/-- 'sedgekeep.Ordered', WHERE WHAT IT READS IS OF BULK AT MOST 1048576: true; the input reads as it did. -/
def orderedUptoRow : OpenClaim := { program := "ytepklbboejnecaa", sum := "644a48a9464ef6835c3ed6b71e6534ebd299b9a7dfeee60a03905d7fd2c98796", func := "sedge/sedgekeep.Ordered", spec := "ordered", unfollowed := true, recurses := true, apart := false, narrowed := true }
def OrderedUptoSaid : Prop := orderedUptoRow.holds Try.pinned (OpenSpec.upto orderedSpec)

/-- 'sedgekeep.Counted', WHERE WHAT IT READS IS OF BULK AT MOST 1048576: true; the input reads as it did. -/
def countedUptoRow : OpenClaim := { program := "ytepklbboejnecaa", sum := "644a48a9464ef6835c3ed6b71e6534ebd299b9a7dfeee60a03905d7fd2c98796", func := "sedge/sedgekeep.Counted", spec := "counted", unfollowed := true, recurses := true, apart := false, narrowed := true }
def CountedUptoSaid : Prop := countedUptoRow.holds Try.pinned (OpenSpec.upto countedSpec)

/-- 'sedgelaw.Found', WHERE WHAT IT READS IS OF BULK AT MOST 1048576: true; the input reads as it did. -/
def foundUptoRow : OpenClaim := { program := "ytepklbboejnecaa", sum := "644a48a9464ef6835c3ed6b71e6534ebd299b9a7dfeee60a03905d7fd2c98796", func := "sedge/sedgelaw.Found", spec := "found", unfollowed := true, recurses := true, apart := false, narrowed := true }
def FoundUptoSaid : Prop := foundUptoRow.holds Try.pinned (OpenSpec.upto foundSpec)

/-- 'sedgelaw.Turned', WHERE WHAT IT READS IS OF BULK AT MOST 1048576: true; the input reads as it did. -/
def turnedUptoRow : OpenClaim := { program := "ytepklbboejnecaa", sum := "644a48a9464ef6835c3ed6b71e6534ebd299b9a7dfeee60a03905d7fd2c98796", func := "sedge/sedgelaw.Turned", spec := "turned", unfollowed := true, recurses := true, apart := false, narrowed := true }
def TurnedUptoSaid : Prop := turnedUptoRow.holds Try.pinned (OpenSpec.upto turnedSpec)

/-- 'sedgekeep.Everywhere', WHERE WHAT IT READS IS OF BULK AT MOST 1048576: true; the input reads as it did. -/
def everywhereUptoRow : OpenClaim := { program := "ytepklbboejnecaa", sum := "644a48a9464ef6835c3ed6b71e6534ebd299b9a7dfeee60a03905d7fd2c98796", func := "sedge/sedgekeep.Everywhere", spec := "everywhere", unfollowed := true, recurses := true, apart := false, narrowed := true }
def EverywhereUptoSaid : Prop := everywhereUptoRow.holds Try.pinned (OpenSpec.upto everywhereSpec)

/-- 'sedgekeep.Back', WHERE WHAT IT READS IS OF BULK AT MOST 1048576: true; the input reads as it did. -/
def backUptoRow : OpenClaim := { program := "ytepklbboejnecaa", sum := "644a48a9464ef6835c3ed6b71e6534ebd299b9a7dfeee60a03905d7fd2c98796", func := "sedge/sedgekeep.Back", spec := "back", unfollowed := true, recurses := true, apart := false, narrowed := true }
def BackUptoSaid : Prop := backUptoRow.holds Try.pinned (OpenSpec.upto backSpec)

/-- 'sedgelaw.Pieced', WHERE WHAT IT READS IS OF BULK AT MOST 1048576: true; the input reads as it did. -/
def piecedUptoRow : OpenClaim := { program := "ytepklbboejnecaa", sum := "644a48a9464ef6835c3ed6b71e6534ebd299b9a7dfeee60a03905d7fd2c98796", func := "sedge/sedgelaw.Pieced", spec := "pieced", unfollowed := true, recurses := true, apart := false, narrowed := true }
def PiecedUptoSaid : Prop := piecedUptoRow.holds Try.pinned (OpenSpec.upto piecedSpec)

/-- 'sedgekeep.Rebuilt', WHERE WHAT IT READS IS OF BULK AT MOST 1048576: true; the input reads as it did. -/
def rebuiltUptoRow : OpenClaim := { program := "ytepklbboejnecaa", sum := "644a48a9464ef6835c3ed6b71e6534ebd299b9a7dfeee60a03905d7fd2c98796", func := "sedge/sedgekeep.Rebuilt", spec := "rebuilt", unfollowed := true, recurses := true, apart := false, narrowed := true }
def RebuiltUptoSaid : Prop := rebuiltUptoRow.holds Try.pinned (OpenSpec.upto rebuiltSpec)

end Rows
end Go.Proofs.Ytepklbboejnecaa
