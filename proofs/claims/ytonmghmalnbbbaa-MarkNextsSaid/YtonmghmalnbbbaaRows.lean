/-
  No cell of these rows narrows 'for every input' (looked for: loops, veiled, ifaces, maps, wideKeys, modest, calm, conditions, laid).
  DERIVED. THE GIVEN ROWS OF THIS SEAT. 4 by the template 'for every input the law returns true; each argument reads behind the call as it read before'; 0 by the template 'total and deterministic' (their statements: YtonmghmalnbbbaaTotals.lean).
  GIVEN WITH THE SEED: the statements are not yours to turn. If you find one false, say at which input.
  Laid BY PROGRAM, IN A SANDBOX (cutbox-rows.mjs): the forced cells as the released guide's own fill.sh prints them over the translation 88a032ef0707fbbf… (all of the seat's roots in one cut). By AI agents, Wed Nov 11 2026. No macro, syntax, notation, axiom, sorry.
-/
import Derived.Test.YtonmghmalnbbbaaChecked
import GoSem.Claim
import GoSem.ClaimJoined
import GoSem.ClaimMapViews
import Derived.JoinedTies
import Derived.KernelRfl
namespace Go.Proofs.Ytonmghmalnbbbaa
/- THE CELL 'sum', in the pinned program and in every row, IS THE sha256 OF THE DUMP (.gsa) THAT YtonmghmalnbbbaaProg.lean LOADS. Nothing in Lean hashes anything: it is a label: what it is worth is what the hold of that sum in a sandbox is worth. -/
noncomputable def Try.pinned : Pinned := { name := "ytonmghmalnbbbaa", sum := "88a032ef0707fbbf18700578e306be5e24ca59ce0c562777ceab9bfa76a1498f", checked := Try.checked }
namespace Rows
def none {H : Type} : Left H := { results := [], args := [] }

/-- 'watershedlaw08.MarkNexts': WHATEVER THE INPUT: true; the input reads as it did. -/
def markNextsSpec : ChangeSpec := { name := "markNexts", fn := fun _ => fun
  | [d1, d2, d3] => { results := [.lit (.bool true)], args := [d1, d2, d3] }
  | _ => none }
def markNextsRow : OpenClaim := { program := "ytonmghmalnbbbaa", sum := "88a032ef0707fbbf18700578e306be5e24ca59ce0c562777ceab9bfa76a1498f", func := "watershed/watershedlaw08.MarkNexts", spec := "markNexts", apart := false }
def MarkNextsSaid : Prop := markNextsRow.holds Try.pinned (OpenSpec.ofChange markNextsSpec)

/-- ITS FALSE NEIGHBOUR: 'it returns false'. Refute it at one input. -/
def markNextsWrong : ChangeSpec := { name := "markNexts", fn := fun _ => fun
  | [d1, d2, d3] => { results := [.lit (.bool false)], args := [d1, d2, d3] }
  | _ => none }
def MarkNextsWrongFalsely : Prop := markNextsRow.holds Try.pinned (OpenSpec.ofChange markNextsWrong)

/-- 'watershedlaw08.MarkOnTime': WHATEVER THE INPUT: true; the input reads as it did. -/
def markOnTimeSpec : ChangeSpec := { name := "markOnTime", fn := fun _ => fun
  | [d1, d2] => { results := [.lit (.bool true)], args := [d1, d2] }
  | _ => none }
def markOnTimeRow : OpenClaim := { program := "ytonmghmalnbbbaa", sum := "88a032ef0707fbbf18700578e306be5e24ca59ce0c562777ceab9bfa76a1498f", func := "watershed/watershedlaw08.MarkOnTime", spec := "markOnTime", apart := false }
def MarkOnTimeSaid : Prop := markOnTimeRow.holds Try.pinned (OpenSpec.ofChange markOnTimeSpec)

/-- ITS FALSE NEIGHBOUR: 'it returns false'. Refute it at one input. -/
def markOnTimeWrong : ChangeSpec := { name := "markOnTime", fn := fun _ => fun
  | [d1, d2] => { results := [.lit (.bool false)], args := [d1, d2] }
  | _ => none }
def MarkOnTimeWrongFalsely : Prop := markOnTimeRow.holds Try.pinned (OpenSpec.ofChange markOnTimeWrong)

/-- 'watershedlaw08.MarkRaises': WHATEVER THE INPUT: true; the input reads as it did. -/
def markRaisesSpec : ChangeSpec := { name := "markRaises", fn := fun _ => fun
  | [d1, d2] => { results := [.lit (.bool true)], args := [d1, d2] }
  | _ => none }
def markRaisesRow : OpenClaim := { program := "ytonmghmalnbbbaa", sum := "88a032ef0707fbbf18700578e306be5e24ca59ce0c562777ceab9bfa76a1498f", func := "watershed/watershedlaw08.MarkRaises", spec := "markRaises", apart := false }
def MarkRaisesSaid : Prop := markRaisesRow.holds Try.pinned (OpenSpec.ofChange markRaisesSpec)

/-- ITS FALSE NEIGHBOUR: 'it returns false'. Refute it at one input. -/
def markRaisesWrong : ChangeSpec := { name := "markRaises", fn := fun _ => fun
  | [d1, d2] => { results := [.lit (.bool false)], args := [d1, d2] }
  | _ => none }
def MarkRaisesWrongFalsely : Prop := markRaisesRow.holds Try.pinned (OpenSpec.ofChange markRaisesWrong)

/-- 'watershedlaw08.MarkNil': WHATEVER THE INPUT: true; the input reads as it did. -/
def markNilSpec : ChangeSpec := { name := "markNil", fn := fun _ => fun
  | [d1, d2] => { results := [.lit (.bool true)], args := [d1, d2] }
  | _ => none }
def markNilRow : OpenClaim := { program := "ytonmghmalnbbbaa", sum := "88a032ef0707fbbf18700578e306be5e24ca59ce0c562777ceab9bfa76a1498f", func := "watershed/watershedlaw08.MarkNil", spec := "markNil", apart := false }
def MarkNilSaid : Prop := markNilRow.holds Try.pinned (OpenSpec.ofChange markNilSpec)

/-- ITS FALSE NEIGHBOUR: 'it returns false'. Refute it at one input. -/
def markNilWrong : ChangeSpec := { name := "markNil", fn := fun _ => fun
  | [d1, d2] => { results := [.lit (.bool false)], args := [d1, d2] }
  | _ => none }
def MarkNilWrongFalsely : Prop := markNilRow.holds Try.pinned (OpenSpec.ofChange markNilWrong)

/- THE SECOND FORM. 'bulk': how many values and letters a reading holds, each counted each time it is reached (what is shared counts as often as it is met; a slice's spare places count too). A statement '..UptoSaid' is the law's where the arguments, and the package variables that the reading takes, are together of bulk at most 1048576: NARROWER than '..Said'. Prove '..Said' where nothing that the law and all that it calls make is longer than what came in: it says more and counts as full. Else prove '..UptoSaid'. A law counts once. -/
mutual
def uptoBulk {H : Type} : DataW H → Nat
  | .lit (.string bytes) => bytes.length + 1
  | .lit _ => 1
  | .nil => 1
  | .ptr d => uptoBulk d + 1
  | .slice elems spare => uptoBulkAll elems + uptoBulkAll spare + 1
  | .agg parts => uptoBulkAll parts + 1
  | .iface _ d => uptoBulk d + 1
  | .map entries => uptoBulkEntries entries + 1
  | .held _ => 1
def uptoBulkAll {H : Type} : List (DataW H) → Nat
  | [] => 0
  | d :: r => uptoBulk d + uptoBulkAll r
def uptoBulkEntries {H : Type} : List (Lit × DataW H) → Nat
  | [] => 0
  | x :: r => uptoBulkEntry x + uptoBulkEntries r
def uptoBulkEntry {H : Type} : Lit × DataW H → Nat
  | (.string bytes, d) => bytes.length + uptoBulk d + 1
  | (_, d) => uptoBulk d + 1
 end
def uptoSmall : (H : Type) → List (DataW H) → Bool := fun _ ds => decide (uptoBulkAll ds ≤ 1048576)
def OpenSpec.upto (s : _root_.Go.ChangeSpec) : _root_.Go.OpenSpec := { _root_.Go.OpenSpec.ofChange s with cond := some uptoSmall }

/-- 'watershedlaw08.MarkNexts', WHERE WHAT IT READS IS OF BULK AT MOST 1048576: true; the input reads as it did. -/
def markNextsUptoRow : OpenClaim := { program := "ytonmghmalnbbbaa", sum := "88a032ef0707fbbf18700578e306be5e24ca59ce0c562777ceab9bfa76a1498f", func := "watershed/watershedlaw08.MarkNexts", spec := "markNexts", apart := false, narrowed := true }
def MarkNextsUptoSaid : Prop := markNextsUptoRow.holds Try.pinned (OpenSpec.upto markNextsSpec)

/-- 'watershedlaw08.MarkOnTime', WHERE WHAT IT READS IS OF BULK AT MOST 1048576: true; the input reads as it did. -/
def markOnTimeUptoRow : OpenClaim := { program := "ytonmghmalnbbbaa", sum := "88a032ef0707fbbf18700578e306be5e24ca59ce0c562777ceab9bfa76a1498f", func := "watershed/watershedlaw08.MarkOnTime", spec := "markOnTime", apart := false, narrowed := true }
def MarkOnTimeUptoSaid : Prop := markOnTimeUptoRow.holds Try.pinned (OpenSpec.upto markOnTimeSpec)

/-- 'watershedlaw08.MarkRaises', WHERE WHAT IT READS IS OF BULK AT MOST 1048576: true; the input reads as it did. -/
def markRaisesUptoRow : OpenClaim := { program := "ytonmghmalnbbbaa", sum := "88a032ef0707fbbf18700578e306be5e24ca59ce0c562777ceab9bfa76a1498f", func := "watershed/watershedlaw08.MarkRaises", spec := "markRaises", apart := false, narrowed := true }
def MarkRaisesUptoSaid : Prop := markRaisesUptoRow.holds Try.pinned (OpenSpec.upto markRaisesSpec)

/-- 'watershedlaw08.MarkNil', WHERE WHAT IT READS IS OF BULK AT MOST 1048576: true; the input reads as it did. -/
def markNilUptoRow : OpenClaim := { program := "ytonmghmalnbbbaa", sum := "88a032ef0707fbbf18700578e306be5e24ca59ce0c562777ceab9bfa76a1498f", func := "watershed/watershedlaw08.MarkNil", spec := "markNil", apart := false, narrowed := true }
def MarkNilUptoSaid : Prop := markNilUptoRow.holds Try.pinned (OpenSpec.upto markNilSpec)

end Rows
end Go.Proofs.Ytonmghmalnbbbaa
