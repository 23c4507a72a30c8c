/-
  No cell of these rows narrows 'for every input' (looked for: loops, veiled, ifaces, maps, wideKeys, modest, calm, conditions, laid).
  DERIVED. THE GIVEN ROWS OF THIS SEAT. 4 by the template 'for every input the law returns true; each argument reads behind the call as it read before'; 0 by the template 'total and deterministic' (their statements: YtamcocdkhjplfaaTotals.lean).
  GIVEN WITH THE SEED: the statements are not yours to turn. If you find one false, say at which input.
  Laid BY PROGRAM, IN A SANDBOX (cutbox-rows.mjs): the forced cells as the released guide's own fill.sh prints them over the translation 68629431b6636489… (all of the seat's roots in one cut). By AI agents, Wed Nov 11 2026. No macro, syntax, notation, axiom, sorry.
-/
import Derived.Test.YtamcocdkhjplfaaChecked
import GoSem.Claim
import GoSem.ClaimJoined
import GoSem.ClaimMapViews
import Derived.JoinedTies
import Derived.KernelRfl
namespace Go.Proofs.Ytamcocdkhjplfaa
/- THE CELL 'sum', in the pinned program and in every row, IS THE sha256 OF THE DUMP (.gsa) THAT YtamcocdkhjplfaaProg.lean LOADS. Nothing in Lean hashes anything: it is a label: what it is worth is what the hold of that sum in a sandbox is worth. -/
noncomputable def Try.pinned : Pinned := { name := "ytamcocdkhjplfaa", sum := "68629431b6636489b409fa802fe1620acb46133a4f21eeb81d3a773dff567f8f", checked := Try.checked }
namespace Rows
def none {H : Type} : Left H := { results := [], args := [] }

/-- 'watershedlaw07.GroupsHashes': WHATEVER THE INPUT: true; the input reads as it did. -/
def groupsHashesSpec : ChangeSpec := { name := "groupsHashes", fn := fun _ => fun
  | [d] => { results := [.lit (.bool true)], args := [d] }
  | _ => none }
def groupsHashesRow : OpenClaim := { program := "ytamcocdkhjplfaa", sum := "68629431b6636489b409fa802fe1620acb46133a4f21eeb81d3a773dff567f8f", func := "watershed/watershedlaw07.GroupsHashes", spec := "groupsHashes", unfollowed := true, recurses := true, apart := false }
def GroupsHashesSaid : Prop := groupsHashesRow.holds Try.pinned (OpenSpec.ofChange groupsHashesSpec)

/-- ITS FALSE NEIGHBOUR: 'it returns false'. Refute it at one input. -/
def groupsHashesWrong : ChangeSpec := { name := "groupsHashes", fn := fun _ => fun
  | [d] => { results := [.lit (.bool false)], args := [d] }
  | _ => none }
def GroupsHashesWrongFalsely : Prop := groupsHashesRow.holds Try.pinned (OpenSpec.ofChange groupsHashesWrong)

/-- 'watershedlaw07.GroupsOwns': WHATEVER THE INPUT: true; the input reads as it did. -/
def groupsOwnsSpec : ChangeSpec := { name := "groupsOwns", fn := fun _ => fun
  | [d1, d2, d3] => { results := [.lit (.bool true)], args := [d1, d2, d3] }
  | _ => none }
def groupsOwnsRow : OpenClaim := { program := "ytamcocdkhjplfaa", sum := "68629431b6636489b409fa802fe1620acb46133a4f21eeb81d3a773dff567f8f", func := "watershed/watershedlaw07.GroupsOwns", spec := "groupsOwns", unfollowed := true, recurses := true, apart := false }
def GroupsOwnsSaid : Prop := groupsOwnsRow.holds Try.pinned (OpenSpec.ofChange groupsOwnsSpec)

/-- ITS FALSE NEIGHBOUR: 'it returns false'. Refute it at one input. -/
def groupsOwnsWrong : ChangeSpec := { name := "groupsOwns", fn := fun _ => fun
  | [d1, d2, d3] => { results := [.lit (.bool false)], args := [d1, d2, d3] }
  | _ => none }
def GroupsOwnsWrongFalsely : Prop := groupsOwnsRow.holds Try.pinned (OpenSpec.ofChange groupsOwnsWrong)

/-- 'watershedlaw07.GroupsRanges': WHATEVER THE INPUT: true; the input reads as it did. -/
def groupsRangesSpec : ChangeSpec := { name := "groupsRanges", fn := fun _ => fun
  | [d1, d2, d3] => { results := [.lit (.bool true)], args := [d1, d2, d3] }
  | _ => none }
def groupsRangesRow : OpenClaim := { program := "ytamcocdkhjplfaa", sum := "68629431b6636489b409fa802fe1620acb46133a4f21eeb81d3a773dff567f8f", func := "watershed/watershedlaw07.GroupsRanges", spec := "groupsRanges", unfollowed := true, recurses := true, apart := false }
def GroupsRangesSaid : Prop := groupsRangesRow.holds Try.pinned (OpenSpec.ofChange groupsRangesSpec)

/-- ITS FALSE NEIGHBOUR: 'it returns false'. Refute it at one input. -/
def groupsRangesWrong : ChangeSpec := { name := "groupsRanges", fn := fun _ => fun
  | [d1, d2, d3] => { results := [.lit (.bool false)], args := [d1, d2, d3] }
  | _ => none }
def GroupsRangesWrongFalsely : Prop := groupsRangesRow.holds Try.pinned (OpenSpec.ofChange groupsRangesWrong)

/-- 'watershedlaw07.GroupsMoves': WHATEVER THE INPUT: true; the input reads as it did. -/
def groupsMovesSpec : ChangeSpec := { name := "groupsMoves", fn := fun _ => fun
  | [d1, d2] => { results := [.lit (.bool true)], args := [d1, d2] }
  | _ => none }
def groupsMovesRow : OpenClaim := { program := "ytamcocdkhjplfaa", sum := "68629431b6636489b409fa802fe1620acb46133a4f21eeb81d3a773dff567f8f", func := "watershed/watershedlaw07.GroupsMoves", spec := "groupsMoves", unfollowed := true, recurses := true, apart := false }
def GroupsMovesSaid : Prop := groupsMovesRow.holds Try.pinned (OpenSpec.ofChange groupsMovesSpec)

/-- ITS FALSE NEIGHBOUR: 'it returns false'. Refute it at one input. -/
def groupsMovesWrong : ChangeSpec := { name := "groupsMoves", fn := fun _ => fun
  | [d1, d2] => { results := [.lit (.bool false)], args := [d1, d2] }
  | _ => none }
def GroupsMovesWrongFalsely : Prop := groupsMovesRow.holds Try.pinned (OpenSpec.ofChange groupsMovesWrong)

/- THE SECOND FORM. 'bulk': how many values and letters a reading holds, each counted each time it is reached (what is shared counts as often as it is met; a slice's spare places count too). A statement '..UptoSaid' is the law's where the arguments, and the package variables that the reading takes, are together of bulk at most 1048576: NARROWER than '..Said'. Prove '..Said' where nothing that the law and all that it calls make is longer than what came in: it says more and counts as full. Else prove '..UptoSaid'. A law counts once. -/
mutual
def uptoBulk {H : Type} : DataW H → Nat
  | .lit (.string bytes) => bytes.length + 1
  | .lit _ => 1
  | .nil => 1
  | .ptr d => uptoBulk d + 1
  | .slice elems spare => uptoBulkAll elems + uptoBulkAll spare + 1
  | .agg parts => uptoBulkAll parts + 1
  | .iface _ d => uptoBulk d + 1
  | .map entries => uptoBulkEntries entries + 1
  | .held _ => 1
def uptoBulkAll {H : Type} : List (DataW H) → Nat
  | [] => 0
  | d :: r => uptoBulk d + uptoBulkAll r
def uptoBulkEntries {H : Type} : List (Lit × DataW H) → Nat
  | [] => 0
  | x :: r => uptoBulkEntry x + uptoBulkEntries r
def uptoBulkEntry {H : Type} : Lit × DataW H → Nat
  | (.string bytes, d) => bytes.length + uptoBulk d + 1
  | (_, d) => uptoBulk d + 1
 end
def uptoSmall : (H : Type) → List (DataW H) → Bool := fun _ ds => decide (uptoBulkAll ds ≤ 1048576)
def OpenSpec.upto (s : _root_.Go.ChangeSpec) : _root_.Go.OpenSpec := { _root_.Go.OpenSpec.ofChange s with cond := some uptoSmall }

/-- 'watershedlaw07.GroupsHashes', WHERE WHAT IT READS IS OF BULK AT MOST 1048576: true; the input reads as it did. -/
def groupsHashesUptoRow : OpenClaim := { program := "ytamcocdkhjplfaa", sum := "68629431b6636489b409fa802fe1620acb46133a4f21eeb81d3a773dff567f8f", func := "watershed/watershedlaw07.GroupsHashes", spec := "groupsHashes", unfollowed := true, recurses := true, apart := false, narrowed := true }
def GroupsHashesUptoSaid : Prop := groupsHashesUptoRow.holds Try.pinned (OpenSpec.upto groupsHashesSpec)

/-- 'watershedlaw07.GroupsOwns', WHERE WHAT IT READS IS OF BULK AT MOST 1048576: true; the input reads as it did. -/
def groupsOwnsUptoRow : OpenClaim := { program := "ytamcocdkhjplfaa", sum := "68629431b6636489b409fa802fe1620acb46133a4f21eeb81d3a773dff567f8f", func := "watershed/watershedlaw07.GroupsOwns", spec := "groupsOwns", unfollowed := true, recurses := true, apart := false, narrowed := true }
def GroupsOwnsUptoSaid : Prop := groupsOwnsUptoRow.holds Try.pinned (OpenSpec.upto groupsOwnsSpec)

/-- 'watershedlaw07.GroupsRanges', WHERE WHAT IT READS IS OF BULK AT MOST 1048576: true; the input reads as it did. -/
def groupsRangesUptoRow : OpenClaim := { program := "ytamcocdkhjplfaa", sum := "68629431b6636489b409fa802fe1620acb46133a4f21eeb81d3a773dff567f8f", func := "watershed/watershedlaw07.GroupsRanges", spec := "groupsRanges", unfollowed := true, recurses := true, apart := false, narrowed := true }
def GroupsRangesUptoSaid : Prop := groupsRangesUptoRow.holds Try.pinned (OpenSpec.upto groupsRangesSpec)

/-- 'watershedlaw07.GroupsMoves', WHERE WHAT IT READS IS OF BULK AT MOST 1048576: true; the input reads as it did. -/
def groupsMovesUptoRow : OpenClaim := { program := "ytamcocdkhjplfaa", sum := "68629431b6636489b409fa802fe1620acb46133a4f21eeb81d3a773dff567f8f", func := "watershed/watershedlaw07.GroupsMoves", spec := "groupsMoves", unfollowed := true, recurses := true, apart := false, narrowed := true }
def GroupsMovesUptoSaid : Prop := groupsMovesUptoRow.holds Try.pinned (OpenSpec.upto groupsMovesSpec)

end Rows
end Go.Proofs.Ytamcocdkhjplfaa
