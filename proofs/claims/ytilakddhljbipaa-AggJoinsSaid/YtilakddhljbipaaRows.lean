/-
  No cell of these rows narrows 'for every input' (looked for: loops, veiled, ifaces, maps, wideKeys, modest, calm, conditions, laid).
  DERIVED. THE GIVEN ROWS OF THIS SEAT. 3 by the template 'for every input the law returns true; each argument reads behind the call as it read before'; 0 by the template 'total and deterministic' (their statements: YtilakddhljbipaaTotals.lean).
  GIVEN WITH THE SEED: the statements are not yours to turn. If you find one false, say at which input.
  Laid BY PROGRAM, IN A SANDBOX (cutbox-rows.mjs): the forced cells as the released guide's own fill.sh prints them over the translation 1f793a38a4f2ebd7… (all of the seat's roots in one cut). By AI agents, Wed Nov 11 2026. No macro, syntax, notation, axiom, sorry.
-/
import Derived.Test.YtilakddhljbipaaChecked
import GoSem.Claim
import GoSem.ClaimJoined
import GoSem.ClaimMapViews
import Derived.JoinedTies
import Derived.KernelRfl
namespace Go.Proofs.Ytilakddhljbipaa
/- THE CELL 'sum', in the pinned program and in every row, IS THE sha256 OF THE DUMP (.gsa) THAT YtilakddhljbipaaProg.lean LOADS. Nothing in Lean hashes anything: it is a label: what it is worth is what the hold of that sum in a sandbox is worth. -/
noncomputable def Try.pinned : Pinned := { name := "ytilakddhljbipaa", sum := "1f793a38a4f2ebd76405cec6db3e2616efa4bee0d751f0184a61d8d564ba39d2", checked := Try.checked }
namespace Rows
def none {H : Type} : Left H := { results := [], args := [] }

/-- 'watershedlaw10.AggFolds': WHATEVER THE INPUT: true; the input reads as it did. -/
def aggFoldsSpec : ChangeSpec := { name := "aggFolds", fn := fun _ => fun
  | [d1, d2] => { results := [.lit (.bool true)], args := [d1, d2] }
  | _ => none }
def aggFoldsRow : OpenClaim := { program := "ytilakddhljbipaa", sum := "1f793a38a4f2ebd76405cec6db3e2616efa4bee0d751f0184a61d8d564ba39d2", func := "watershed/watershedlaw10.AggFolds", spec := "aggFolds", apart := false }
def AggFoldsSaid : Prop := aggFoldsRow.holds Try.pinned (OpenSpec.ofChange aggFoldsSpec)

/-- ITS FALSE NEIGHBOUR: 'it returns false'. Refute it at one input. -/
def aggFoldsWrong : ChangeSpec := { name := "aggFolds", fn := fun _ => fun
  | [d1, d2] => { results := [.lit (.bool false)], args := [d1, d2] }
  | _ => none }
def AggFoldsWrongFalsely : Prop := aggFoldsRow.holds Try.pinned (OpenSpec.ofChange aggFoldsWrong)

/-- 'watershedlaw10.AggSplits': WHATEVER THE INPUT: true; the input reads as it did. -/
def aggSplitsSpec : ChangeSpec := { name := "aggSplits", fn := fun _ => fun
  | [d1, d2] => { results := [.lit (.bool true)], args := [d1, d2] }
  | _ => none }
def aggSplitsRow : OpenClaim := { program := "ytilakddhljbipaa", sum := "1f793a38a4f2ebd76405cec6db3e2616efa4bee0d751f0184a61d8d564ba39d2", func := "watershed/watershedlaw10.AggSplits", spec := "aggSplits", apart := false }
def AggSplitsSaid : Prop := aggSplitsRow.holds Try.pinned (OpenSpec.ofChange aggSplitsSpec)

/-- ITS FALSE NEIGHBOUR: 'it returns false'. Refute it at one input. -/
def aggSplitsWrong : ChangeSpec := { name := "aggSplits", fn := fun _ => fun
  | [d1, d2] => { results := [.lit (.bool false)], args := [d1, d2] }
  | _ => none }
def AggSplitsWrongFalsely : Prop := aggSplitsRow.holds Try.pinned (OpenSpec.ofChange aggSplitsWrong)

/-- 'watershedlaw10.AggJoins': WHATEVER THE INPUT: true; the input reads as it did. -/
def aggJoinsSpec : ChangeSpec := { name := "aggJoins", fn := fun _ => fun
  | [d1, d2, d3] => { results := [.lit (.bool true)], args := [d1, d2, d3] }
  | _ => none }
def aggJoinsRow : OpenClaim := { program := "ytilakddhljbipaa", sum := "1f793a38a4f2ebd76405cec6db3e2616efa4bee0d751f0184a61d8d564ba39d2", func := "watershed/watershedlaw10.AggJoins", spec := "aggJoins", apart := false }
def AggJoinsSaid : Prop := aggJoinsRow.holds Try.pinned (OpenSpec.ofChange aggJoinsSpec)

/-- ITS FALSE NEIGHBOUR: 'it returns false'. Refute it at one input. -/
def aggJoinsWrong : ChangeSpec := { name := "aggJoins", fn := fun _ => fun
  | [d1, d2, d3] => { results := [.lit (.bool false)], args := [d1, d2, d3] }
  | _ => none }
def AggJoinsWrongFalsely : Prop := aggJoinsRow.holds Try.pinned (OpenSpec.ofChange aggJoinsWrong)

/- THE SECOND FORM. 'bulk': how many values and letters a reading holds, each counted each time it is reached (what is shared counts as often as it is met; a slice's spare places count too). A statement '..UptoSaid' is the law's where the arguments, and the package variables that the reading takes, are together of bulk at most 1048576: NARROWER than '..Said'. Prove '..Said' where nothing that the law and all that it calls make is longer than what came in: it says more and counts as full. Else prove '..UptoSaid'. A law counts once. -/
mutual
def uptoBulk {H : Type} : DataW H → Nat
  | .lit (.string bytes) => bytes.length + 1
  | .lit _ => 1
  | .nil => 1
  | .ptr d => uptoBulk d + 1
  | .slice elems spare => uptoBulkAll elems + uptoBulkAll spare + 1
  | .agg parts => uptoBulkAll parts + 1
  | .iface _ d => uptoBulk d + 1
  | .map entries => uptoBulkEntries entries + 1
  | .held _ => 1
def uptoBulkAll {H : Type} : List (DataW H) → Nat
  | [] => 0
  | d :: r => uptoBulk d + uptoBulkAll r
def uptoBulkEntries {H : Type} : List (Lit × DataW H) → Nat
  | [] => 0
  | x :: r => uptoBulkEntry x + uptoBulkEntries r
def uptoBulkEntry {H : Type} : Lit × DataW H → Nat
  | (.string bytes, d) => bytes.length + uptoBulk d + 1
  | (_, d) => uptoBulk d + 1
 end
def uptoSmall : (H : Type) → List (DataW H) → Bool := fun _ ds => decide (uptoBulkAll ds ≤ 1048576)
def OpenSpec.upto (s : _root_.Go.ChangeSpec) : _root_.Go.OpenSpec := { _root_.Go.OpenSpec.ofChange s with cond := some uptoSmall }

/-- 'watershedlaw10.AggFolds', WHERE WHAT IT READS IS OF BULK AT MOST 1048576: true; the input reads as it did. -/
def aggFoldsUptoRow : OpenClaim := { program := "ytilakddhljbipaa", sum := "1f793a38a4f2ebd76405cec6db3e2616efa4bee0d751f0184a61d8d564ba39d2", func := "watershed/watershedlaw10.AggFolds", spec := "aggFolds", apart := false, narrowed := true }
def AggFoldsUptoSaid : Prop := aggFoldsUptoRow.holds Try.pinned (OpenSpec.upto aggFoldsSpec)

/-- 'watershedlaw10.AggSplits', WHERE WHAT IT READS IS OF BULK AT MOST 1048576: true; the input reads as it did. -/
def aggSplitsUptoRow : OpenClaim := { program := "ytilakddhljbipaa", sum := "1f793a38a4f2ebd76405cec6db3e2616efa4bee0d751f0184a61d8d564ba39d2", func := "watershed/watershedlaw10.AggSplits", spec := "aggSplits", apart := false, narrowed := true }
def AggSplitsUptoSaid : Prop := aggSplitsUptoRow.holds Try.pinned (OpenSpec.upto aggSplitsSpec)

/-- 'watershedlaw10.AggJoins', WHERE WHAT IT READS IS OF BULK AT MOST 1048576: true; the input reads as it did. -/
def aggJoinsUptoRow : OpenClaim := { program := "ytilakddhljbipaa", sum := "1f793a38a4f2ebd76405cec6db3e2616efa4bee0d751f0184a61d8d564ba39d2", func := "watershed/watershedlaw10.AggJoins", spec := "aggJoins", apart := false, narrowed := true }
def AggJoinsUptoSaid : Prop := aggJoinsUptoRow.holds Try.pinned (OpenSpec.upto aggJoinsSpec)

end Rows
end Go.Proofs.Ytilakddhljbipaa
