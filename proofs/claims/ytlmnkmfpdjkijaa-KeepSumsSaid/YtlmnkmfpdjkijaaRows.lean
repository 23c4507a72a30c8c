/-
  No cell of these rows narrows 'for every input' (looked for: loops, veiled, ifaces, maps, wideKeys, modest, calm, conditions, laid).
  DERIVED. THE GIVEN ROWS OF THIS SEAT. 7 by the template 'for every input the law returns true; each argument reads behind the call as it read before'; 0 by the template 'total and deterministic' (their statements: YtlmnkmfpdjkijaaTotals.lean).
  GIVEN WITH THE SEED: the statements are not yours to turn. If you find one false, say at which input.
  Laid BY PROGRAM, IN A SANDBOX (cutbox-rows.mjs): the forced cells as the released guide's own fill.sh prints them over the translation b1ea9dddfe7f326e… (all of the seat's roots in one cut). By AI agents, Wed Nov 11 2026. No macro, syntax, notation, axiom, sorry.
-/
import Derived.Test.YtlmnkmfpdjkijaaChecked
import GoSem.Claim
import GoSem.ClaimJoined
import GoSem.ClaimMapViews
import Derived.JoinedTies
import Derived.KernelRfl
namespace Go.Proofs.Ytlmnkmfpdjkijaa
/- THE CELL 'sum', in the pinned program and in every row, IS THE sha256 OF THE DUMP (.gsa) THAT YtlmnkmfpdjkijaaProg.lean LOADS. Nothing in Lean hashes anything: it is a label: what it is worth is what the hold of that sum in a sandbox is worth. -/
noncomputable def Try.pinned : Pinned := { name := "ytlmnkmfpdjkijaa", sum := "b1ea9dddfe7f326e4747e0c46ffea7e209b48acfab1fb26397df55cb56b82291", checked := Try.checked }
namespace Rows
def none {H : Type} : Left H := { results := [], args := [] }

/-- 'watershedlaw11.KeepCounts': WHATEVER THE INPUT: true; the input reads as it did. -/
def keepCountsSpec : ChangeSpec := { name := "keepCounts", fn := fun _ => fun
  | [d1, d2] => { results := [.lit (.bool true)], args := [d1, d2] }
  | _ => none }
def keepCountsRow : OpenClaim := { program := "ytlmnkmfpdjkijaa", sum := "b1ea9dddfe7f326e4747e0c46ffea7e209b48acfab1fb26397df55cb56b82291", func := "watershed/watershedlaw11.KeepCounts", spec := "keepCounts", inPlace := ["slices.overlaps[watershed/api.Pane]"], unfollowed := true, recurses := true, apart := false }
def KeepCountsSaid : Prop := keepCountsRow.holds Try.pinned (OpenSpec.ofChange keepCountsSpec)

/-- ITS FALSE NEIGHBOUR: 'it returns false'. Refute it at one input. -/
def keepCountsWrong : ChangeSpec := { name := "keepCounts", fn := fun _ => fun
  | [d1, d2] => { results := [.lit (.bool false)], args := [d1, d2] }
  | _ => none }
def KeepCountsWrongFalsely : Prop := keepCountsRow.holds Try.pinned (OpenSpec.ofChange keepCountsWrong)

/-- 'watershedlaw11.KeepTurns': WHATEVER THE INPUT: true; the input reads as it did. -/
def keepTurnsSpec : ChangeSpec := { name := "keepTurns", fn := fun _ => fun
  | [d1, d2, d3] => { results := [.lit (.bool true)], args := [d1, d2, d3] }
  | _ => none }
def keepTurnsRow : OpenClaim := { program := "ytlmnkmfpdjkijaa", sum := "b1ea9dddfe7f326e4747e0c46ffea7e209b48acfab1fb26397df55cb56b82291", func := "watershed/watershedlaw11.KeepTurns", spec := "keepTurns", inPlace := ["slices.overlaps[watershed/api.Pane]"], unfollowed := true, recurses := true, apart := false }
def KeepTurnsSaid : Prop := keepTurnsRow.holds Try.pinned (OpenSpec.ofChange keepTurnsSpec)

/-- ITS FALSE NEIGHBOUR: 'it returns false'. Refute it at one input. -/
def keepTurnsWrong : ChangeSpec := { name := "keepTurns", fn := fun _ => fun
  | [d1, d2, d3] => { results := [.lit (.bool false)], args := [d1, d2, d3] }
  | _ => none }
def KeepTurnsWrongFalsely : Prop := keepTurnsRow.holds Try.pinned (OpenSpec.ofChange keepTurnsWrong)

/-- 'watershedlaw11.KeepMoves': WHATEVER THE INPUT: true; the input reads as it did. -/
def keepMovesSpec : ChangeSpec := { name := "keepMoves", fn := fun _ => fun
  | [d1, d2, d3, d4, d5] => { results := [.lit (.bool true)], args := [d1, d2, d3, d4, d5] }
  | _ => none }
def keepMovesRow : OpenClaim := { program := "ytlmnkmfpdjkijaa", sum := "b1ea9dddfe7f326e4747e0c46ffea7e209b48acfab1fb26397df55cb56b82291", func := "watershed/watershedlaw11.KeepMoves", spec := "keepMoves", inPlace := ["slices.overlaps[watershed/api.Pane]"], unfollowed := true, recurses := true, apart := false }
def KeepMovesSaid : Prop := keepMovesRow.holds Try.pinned (OpenSpec.ofChange keepMovesSpec)

/-- ITS FALSE NEIGHBOUR: 'it returns false'. Refute it at one input. -/
def keepMovesWrong : ChangeSpec := { name := "keepMoves", fn := fun _ => fun
  | [d1, d2, d3, d4, d5] => { results := [.lit (.bool false)], args := [d1, d2, d3, d4, d5] }
  | _ => none }
def KeepMovesWrongFalsely : Prop := keepMovesRow.holds Try.pinned (OpenSpec.ofChange keepMovesWrong)

/-- 'watershedlaw11.KeepNil': WHATEVER THE INPUT: true; the input reads as it did. -/
def keepNilSpec : ChangeSpec := { name := "keepNil", fn := fun _ => fun
  | [d1, d2, d3] => { results := [.lit (.bool true)], args := [d1, d2, d3] }
  | _ => none }
def keepNilRow : OpenClaim := { program := "ytlmnkmfpdjkijaa", sum := "b1ea9dddfe7f326e4747e0c46ffea7e209b48acfab1fb26397df55cb56b82291", func := "watershed/watershedlaw11.KeepNil", spec := "keepNil", inPlace := ["slices.overlaps[watershed/api.Pane]"], unfollowed := true, recurses := true, apart := false }
def KeepNilSaid : Prop := keepNilRow.holds Try.pinned (OpenSpec.ofChange keepNilSpec)

/-- ITS FALSE NEIGHBOUR: 'it returns false'. Refute it at one input. -/
def keepNilWrong : ChangeSpec := { name := "keepNil", fn := fun _ => fun
  | [d1, d2, d3] => { results := [.lit (.bool false)], args := [d1, d2, d3] }
  | _ => none }
def KeepNilWrongFalsely : Prop := keepNilRow.holds Try.pinned (OpenSpec.ofChange keepNilWrong)

/-- 'watershedlaw11.KeepFinal': WHATEVER THE INPUT: true; the input reads as it did. -/
def keepFinalSpec : ChangeSpec := { name := "keepFinal", fn := fun _ => fun
  | [d1, d2] => { results := [.lit (.bool true)], args := [d1, d2] }
  | _ => none }
def keepFinalRow : OpenClaim := { program := "ytlmnkmfpdjkijaa", sum := "b1ea9dddfe7f326e4747e0c46ffea7e209b48acfab1fb26397df55cb56b82291", func := "watershed/watershedlaw11.KeepFinal", spec := "keepFinal", inPlace := ["slices.overlaps[watershed/api.Pane]"], unfollowed := true, recurses := true, apart := false }
def KeepFinalSaid : Prop := keepFinalRow.holds Try.pinned (OpenSpec.ofChange keepFinalSpec)

/-- ITS FALSE NEIGHBOUR: 'it returns false'. Refute it at one input. -/
def keepFinalWrong : ChangeSpec := { name := "keepFinal", fn := fun _ => fun
  | [d1, d2] => { results := [.lit (.bool false)], args := [d1, d2] }
  | _ => none }
def KeepFinalWrongFalsely : Prop := keepFinalRow.holds Try.pinned (OpenSpec.ofChange keepFinalWrong)

/-- 'watershedlaw11.KeepSums': WHATEVER THE INPUT: true; the input reads as it did. -/
def keepSumsSpec : ChangeSpec := { name := "keepSums", fn := fun _ => fun
  | [d1, d2, d3] => { results := [.lit (.bool true)], args := [d1, d2, d3] }
  | _ => none }
def keepSumsRow : OpenClaim := { program := "ytlmnkmfpdjkijaa", sum := "b1ea9dddfe7f326e4747e0c46ffea7e209b48acfab1fb26397df55cb56b82291", func := "watershed/watershedlaw11.KeepSums", spec := "keepSums", inPlace := ["slices.overlaps[watershed/api.Pane]"], unfollowed := true, recurses := true, apart := false }
def KeepSumsSaid : Prop := keepSumsRow.holds Try.pinned (OpenSpec.ofChange keepSumsSpec)

/-- ITS FALSE NEIGHBOUR: 'it returns false'. Refute it at one input. -/
def keepSumsWrong : ChangeSpec := { name := "keepSums", fn := fun _ => fun
  | [d1, d2, d3] => { results := [.lit (.bool false)], args := [d1, d2, d3] }
  | _ => none }
def KeepSumsWrongFalsely : Prop := keepSumsRow.holds Try.pinned (OpenSpec.ofChange keepSumsWrong)

/-- 'watershedlaw11.KeepApart': WHATEVER THE INPUT: true; the input reads as it did. -/
def keepApartSpec : ChangeSpec := { name := "keepApart", fn := fun _ => fun
  | [d1, d2, d3, d4] => { results := [.lit (.bool true)], args := [d1, d2, d3, d4] }
  | _ => none }
def keepApartRow : OpenClaim := { program := "ytlmnkmfpdjkijaa", sum := "b1ea9dddfe7f326e4747e0c46ffea7e209b48acfab1fb26397df55cb56b82291", func := "watershed/watershedlaw11.KeepApart", spec := "keepApart", inPlace := ["slices.overlaps[watershed/api.Pane]"], unfollowed := true, recurses := true, apart := false }
def KeepApartSaid : Prop := keepApartRow.holds Try.pinned (OpenSpec.ofChange keepApartSpec)

/-- ITS FALSE NEIGHBOUR: 'it returns false'. Refute it at one input. -/
def keepApartWrong : ChangeSpec := { name := "keepApart", fn := fun _ => fun
  | [d1, d2, d3, d4] => { results := [.lit (.bool false)], args := [d1, d2, d3, d4] }
  | _ => none }
def KeepApartWrongFalsely : Prop := keepApartRow.holds Try.pinned (OpenSpec.ofChange keepApartWrong)

/- THE SECOND FORM. 'bulk': how many values and letters a reading holds, each counted each time it is reached (what is shared counts as often as it is met; a slice's spare places count too). A statement '..UptoSaid' is the law's where the arguments, and the package variables that the reading takes, are together of bulk at most 1048576: NARROWER than '..Said'. Prove '..Said' where nothing that the law and all that it calls make is longer than what came in: it says more and counts as full. Else prove '..UptoSaid'. A law counts once. -/
mutual
def uptoBulk {H : Type} : DataW H → Nat
  | .lit (.string bytes) => bytes.length + 1
  | .lit _ => 1
  | .nil => 1
  | .ptr d => uptoBulk d + 1
  | .slice elems spare => uptoBulkAll elems + uptoBulkAll spare + 1
  | .agg parts => uptoBulkAll parts + 1
  | .iface _ d => uptoBulk d + 1
  | .map entries => uptoBulkEntries entries + 1
  | .held _ => 1
def uptoBulkAll {H : Type} : List (DataW H) → Nat
  | [] => 0
  | d :: r => uptoBulk d + uptoBulkAll r
def uptoBulkEntries {H : Type} : List (Lit × DataW H) → Nat
  | [] => 0
  | x :: r => uptoBulkEntry x + uptoBulkEntries r
def uptoBulkEntry {H : Type} : Lit × DataW H → Nat
  | (.string bytes, d) => bytes.length + uptoBulk d + 1
  | (_, d) => uptoBulk d + 1
 end
def uptoSmall : (H : Type) → List (DataW H) → Bool := fun _ ds => decide (uptoBulkAll ds ≤ 1048576)
def OpenSpec.upto (s : _root_.Go.ChangeSpec) : _root_.Go.OpenSpec := { _root_.Go.OpenSpec.ofChange s with cond := some uptoSmall }

/-- 'watershedlaw11.KeepCounts', WHERE WHAT IT READS IS OF BULK AT MOST 1048576: true; the input reads as it did. -/
def keepCountsUptoRow : OpenClaim := { program := "ytlmnkmfpdjkijaa", sum := "b1ea9dddfe7f326e4747e0c46ffea7e209b48acfab1fb26397df55cb56b82291", func := "watershed/watershedlaw11.KeepCounts", spec := "keepCounts", inPlace := ["slices.overlaps[watershed/api.Pane]"], unfollowed := true, recurses := true, apart := false, narrowed := true }
def KeepCountsUptoSaid : Prop := keepCountsUptoRow.holds Try.pinned (OpenSpec.upto keepCountsSpec)

/-- 'watershedlaw11.KeepTurns', WHERE WHAT IT READS IS OF BULK AT MOST 1048576: true; the input reads as it did. -/
def keepTurnsUptoRow : OpenClaim := { program := "ytlmnkmfpdjkijaa", sum := "b1ea9dddfe7f326e4747e0c46ffea7e209b48acfab1fb26397df55cb56b82291", func := "watershed/watershedlaw11.KeepTurns", spec := "keepTurns", inPlace := ["slices.overlaps[watershed/api.Pane]"], unfollowed := true, recurses := true, apart := false, narrowed := true }
def KeepTurnsUptoSaid : Prop := keepTurnsUptoRow.holds Try.pinned (OpenSpec.upto keepTurnsSpec)

/-- 'watershedlaw11.KeepMoves', WHERE WHAT IT READS IS OF BULK AT MOST 1048576: true; the input reads as it did. -/
def keepMovesUptoRow : OpenClaim := { program := "ytlmnkmfpdjkijaa", sum := "b1ea9dddfe7f326e4747e0c46ffea7e209b48acfab1fb26397df55cb56b82291", func := "watershed/watershedlaw11.KeepMoves", spec := "keepMoves", inPlace := ["slices.overlaps[watershed/api.Pane]"], unfollowed := true, recurses := true, apart := false, narrowed := true }
def KeepMovesUptoSaid : Prop := keepMovesUptoRow.holds Try.pinned (OpenSpec.upto keepMovesSpec)

/-- 'watershedlaw11.KeepNil', WHERE WHAT IT READS IS OF BULK AT MOST 1048576: true; the input reads as it did. -/
def keepNilUptoRow : OpenClaim := { program := "ytlmnkmfpdjkijaa", sum := "b1ea9dddfe7f326e4747e0c46ffea7e209b48acfab1fb26397df55cb56b82291", func := "watershed/watershedlaw11.KeepNil", spec := "keepNil", inPlace := ["slices.overlaps[watershed/api.Pane]"], unfollowed := true, recurses := true, apart := false, narrowed := true }
def KeepNilUptoSaid : Prop := keepNilUptoRow.holds Try.pinned (OpenSpec.upto keepNilSpec)

/-- 'watershedlaw11.KeepFinal', WHERE WHAT IT READS IS OF BULK AT MOST 1048576: true; the input reads as it did. -/
def keepFinalUptoRow : OpenClaim := { program := "ytlmnkmfpdjkijaa", sum := "b1ea9dddfe7f326e4747e0c46ffea7e209b48acfab1fb26397df55cb56b82291", func := "watershed/watershedlaw11.KeepFinal", spec := "keepFinal", inPlace := ["slices.overlaps[watershed/api.Pane]"], unfollowed := true, recurses := true, apart := false, narrowed := true }
def KeepFinalUptoSaid : Prop := keepFinalUptoRow.holds Try.pinned (OpenSpec.upto keepFinalSpec)

/-- 'watershedlaw11.KeepSums', WHERE WHAT IT READS IS OF BULK AT MOST 1048576: true; the input reads as it did. -/
def keepSumsUptoRow : OpenClaim := { program := "ytlmnkmfpdjkijaa", sum := "b1ea9dddfe7f326e4747e0c46ffea7e209b48acfab1fb26397df55cb56b82291", func := "watershed/watershedlaw11.KeepSums", spec := "keepSums", inPlace := ["slices.overlaps[watershed/api.Pane]"], unfollowed := true, recurses := true, apart := false, narrowed := true }
def KeepSumsUptoSaid : Prop := keepSumsUptoRow.holds Try.pinned (OpenSpec.upto keepSumsSpec)

/-- 'watershedlaw11.KeepApart', WHERE WHAT IT READS IS OF BULK AT MOST 1048576: true; the input reads as it did. -/
def keepApartUptoRow : OpenClaim := { program := "ytlmnkmfpdjkijaa", sum := "b1ea9dddfe7f326e4747e0c46ffea7e209b48acfab1fb26397df55cb56b82291", func := "watershed/watershedlaw11.KeepApart", spec := "keepApart", inPlace := ["slices.overlaps[watershed/api.Pane]"], unfollowed := true, recurses := true, apart := false, narrowed := true }
def KeepApartUptoSaid : Prop := keepApartUptoRow.holds Try.pinned (OpenSpec.upto keepApartSpec)

end Rows
end Go.Proofs.Ytlmnkmfpdjkijaa
