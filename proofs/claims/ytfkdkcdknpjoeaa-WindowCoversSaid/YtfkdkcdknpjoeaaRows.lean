/-
  No cell of these rows narrows 'for every input' (looked for: loops, veiled, ifaces, maps, wideKeys, modest, calm, conditions, laid).
  DERIVED. THE GIVEN ROWS OF THIS SEAT. 7 by the template 'for every input the law returns true; each argument reads behind the call as it read before'; 0 by the template 'total and deterministic' (their statements: YtfkdkcdknpjoeaaTotals.lean).
  GIVEN WITH THE SEED: the statements are not yours to turn. If you find one false, say at which input.
  Laid BY PROGRAM, IN A SANDBOX (cutbox-rows.mjs): the forced cells as the released guide's own fill.sh prints them over the translation 5d84225133c00e63… (all of the seat's roots in one cut). By AI agents, Wed Nov 11 2026. No macro, syntax, notation, axiom, sorry.
-/
import Derived.Test.YtfkdkcdknpjoeaaChecked
import GoSem.Claim
import GoSem.ClaimJoined
import GoSem.ClaimMapViews
import Derived.JoinedTies
import Derived.KernelRfl
namespace Go.Proofs.Ytfkdkcdknpjoeaa
/- THE CELL 'sum', in the pinned program and in every row, IS THE sha256 OF THE DUMP (.gsa) THAT YtfkdkcdknpjoeaaProg.lean LOADS. Nothing in Lean hashes anything: it is a label: what it is worth is what the hold of that sum in a sandbox is worth. -/
noncomputable def Try.pinned : Pinned := { name := "ytfkdkcdknpjoeaa", sum := "5d84225133c00e6355ad9ede9710f5011302b8671b62cff8adb4b774c10ceab2", checked := Try.checked }
namespace Rows
def none {H : Type} : Left H := { results := [], args := [] }

/-- 'watershedlaw09.WindowSpans': WHATEVER THE INPUT: true; the input reads as it did. -/
def windowSpansSpec : ChangeSpec := { name := "windowSpans", fn := fun _ => fun
  | [d1, d2, d3] => { results := [.lit (.bool true)], args := [d1, d2, d3] }
  | _ => none }
def windowSpansRow : OpenClaim := { program := "ytfkdkcdknpjoeaa", sum := "5d84225133c00e6355ad9ede9710f5011302b8671b62cff8adb4b774c10ceab2", func := "watershed/watershedlaw09.WindowSpans", spec := "windowSpans", unfollowed := true, recurses := true, apart := false }
def WindowSpansSaid : Prop := windowSpansRow.holds Try.pinned (OpenSpec.ofChange windowSpansSpec)

/-- ITS FALSE NEIGHBOUR: 'it returns false'. Refute it at one input. -/
def windowSpansWrong : ChangeSpec := { name := "windowSpans", fn := fun _ => fun
  | [d1, d2, d3] => { results := [.lit (.bool false)], args := [d1, d2, d3] }
  | _ => none }
def WindowSpansWrongFalsely : Prop := windowSpansRow.holds Try.pinned (OpenSpec.ofChange windowSpansWrong)

/-- 'watershedlaw09.WindowCovers': WHATEVER THE INPUT: true; the input reads as it did. -/
def windowCoversSpec : ChangeSpec := { name := "windowCovers", fn := fun _ => fun
  | [d1, d2, d3] => { results := [.lit (.bool true)], args := [d1, d2, d3] }
  | _ => none }
def windowCoversRow : OpenClaim := { program := "ytfkdkcdknpjoeaa", sum := "5d84225133c00e6355ad9ede9710f5011302b8671b62cff8adb4b774c10ceab2", func := "watershed/watershedlaw09.WindowCovers", spec := "windowCovers", unfollowed := true, recurses := true, apart := false }
def WindowCoversSaid : Prop := windowCoversRow.holds Try.pinned (OpenSpec.ofChange windowCoversSpec)

/-- ITS FALSE NEIGHBOUR: 'it returns false'. Refute it at one input. -/
def windowCoversWrong : ChangeSpec := { name := "windowCovers", fn := fun _ => fun
  | [d1, d2, d3] => { results := [.lit (.bool false)], args := [d1, d2, d3] }
  | _ => none }
def WindowCoversWrongFalsely : Prop := windowCoversRow.holds Try.pinned (OpenSpec.ofChange windowCoversWrong)

/-- 'watershedlaw09.WindowMerges': WHATEVER THE INPUT: true; the input reads as it did. -/
def windowMergesSpec : ChangeSpec := { name := "windowMerges", fn := fun _ => fun
  | [d] => { results := [.lit (.bool true)], args := [d] }
  | _ => none }
def windowMergesRow : OpenClaim := { program := "ytfkdkcdknpjoeaa", sum := "5d84225133c00e6355ad9ede9710f5011302b8671b62cff8adb4b774c10ceab2", func := "watershed/watershedlaw09.WindowMerges", spec := "windowMerges", unfollowed := true, recurses := true, apart := false }
def WindowMergesSaid : Prop := windowMergesRow.holds Try.pinned (OpenSpec.ofChange windowMergesSpec)

/-- ITS FALSE NEIGHBOUR: 'it returns false'. Refute it at one input. -/
def windowMergesWrong : ChangeSpec := { name := "windowMerges", fn := fun _ => fun
  | [d] => { results := [.lit (.bool false)], args := [d] }
  | _ => none }
def WindowMergesWrongFalsely : Prop := windowMergesRow.holds Try.pinned (OpenSpec.ofChange windowMergesWrong)

/-- 'watershedlaw09.WindowOnce': WHATEVER THE INPUT: true; the input reads as it did. -/
def windowOnceSpec : ChangeSpec := { name := "windowOnce", fn := fun _ => fun
  | [d] => { results := [.lit (.bool true)], args := [d] }
  | _ => none }
def windowOnceRow : OpenClaim := { program := "ytfkdkcdknpjoeaa", sum := "5d84225133c00e6355ad9ede9710f5011302b8671b62cff8adb4b774c10ceab2", func := "watershed/watershedlaw09.WindowOnce", spec := "windowOnce", unfollowed := true, recurses := true, apart := false }
def WindowOnceSaid : Prop := windowOnceRow.holds Try.pinned (OpenSpec.ofChange windowOnceSpec)

/-- ITS FALSE NEIGHBOUR: 'it returns false'. Refute it at one input. -/
def windowOnceWrong : ChangeSpec := { name := "windowOnce", fn := fun _ => fun
  | [d] => { results := [.lit (.bool false)], args := [d] }
  | _ => none }
def WindowOnceWrongFalsely : Prop := windowOnceRow.holds Try.pinned (OpenSpec.ofChange windowOnceWrong)

/-- 'watershedlaw09.WindowMore': WHATEVER THE INPUT: true; the input reads as it did. -/
def windowMoreSpec : ChangeSpec := { name := "windowMore", fn := fun _ => fun
  | [d1, d2] => { results := [.lit (.bool true)], args := [d1, d2] }
  | _ => none }
def windowMoreRow : OpenClaim := { program := "ytfkdkcdknpjoeaa", sum := "5d84225133c00e6355ad9ede9710f5011302b8671b62cff8adb4b774c10ceab2", func := "watershed/watershedlaw09.WindowMore", spec := "windowMore", unfollowed := true, recurses := true, apart := false }
def WindowMoreSaid : Prop := windowMoreRow.holds Try.pinned (OpenSpec.ofChange windowMoreSpec)

/-- ITS FALSE NEIGHBOUR: 'it returns false'. Refute it at one input. -/
def windowMoreWrong : ChangeSpec := { name := "windowMore", fn := fun _ => fun
  | [d1, d2] => { results := [.lit (.bool false)], args := [d1, d2] }
  | _ => none }
def WindowMoreWrongFalsely : Prop := windowMoreRow.holds Try.pinned (OpenSpec.ofChange windowMoreWrong)

/-- 'watershedlaw09.WindowChains': WHATEVER THE INPUT: true; the input reads as it did. -/
def windowChainsSpec : ChangeSpec := { name := "windowChains", fn := fun _ => fun
  | [d1, d2, d3] => { results := [.lit (.bool true)], args := [d1, d2, d3] }
  | _ => none }
def windowChainsRow : OpenClaim := { program := "ytfkdkcdknpjoeaa", sum := "5d84225133c00e6355ad9ede9710f5011302b8671b62cff8adb4b774c10ceab2", func := "watershed/watershedlaw09.WindowChains", spec := "windowChains", unfollowed := true, recurses := true, apart := false }
def WindowChainsSaid : Prop := windowChainsRow.holds Try.pinned (OpenSpec.ofChange windowChainsSpec)

/-- ITS FALSE NEIGHBOUR: 'it returns false'. Refute it at one input. -/
def windowChainsWrong : ChangeSpec := { name := "windowChains", fn := fun _ => fun
  | [d1, d2, d3] => { results := [.lit (.bool false)], args := [d1, d2, d3] }
  | _ => none }
def WindowChainsWrongFalsely : Prop := windowChainsRow.holds Try.pinned (OpenSpec.ofChange windowChainsWrong)

/-- 'watershedlaw09.WindowTiles': WHATEVER THE INPUT: true; the input reads as it did. -/
def windowTilesSpec : ChangeSpec := { name := "windowTiles", fn := fun _ => fun
  | [d1, d2] => { results := [.lit (.bool true)], args := [d1, d2] }
  | _ => none }
def windowTilesRow : OpenClaim := { program := "ytfkdkcdknpjoeaa", sum := "5d84225133c00e6355ad9ede9710f5011302b8671b62cff8adb4b774c10ceab2", func := "watershed/watershedlaw09.WindowTiles", spec := "windowTiles", unfollowed := true, recurses := true, apart := false }
def WindowTilesSaid : Prop := windowTilesRow.holds Try.pinned (OpenSpec.ofChange windowTilesSpec)

/-- ITS FALSE NEIGHBOUR: 'it returns false'. Refute it at one input. -/
def windowTilesWrong : ChangeSpec := { name := "windowTiles", fn := fun _ => fun
  | [d1, d2] => { results := [.lit (.bool false)], args := [d1, d2] }
  | _ => none }
def WindowTilesWrongFalsely : Prop := windowTilesRow.holds Try.pinned (OpenSpec.ofChange windowTilesWrong)

/- THE SECOND FORM. 'bulk': how many values and letters a reading holds, each counted each time it is reached (what is shared counts as often as it is met; a slice's spare places count too). A statement '..UptoSaid' is the law's where the arguments, and the package variables that the reading takes, are together of bulk at most 1048576: NARROWER than '..Said'. Prove '..Said' where nothing that the law and all that it calls make is longer than what came in: it says more and counts as full. Else prove '..UptoSaid'. A law counts once. -/
mutual
def uptoBulk {H : Type} : DataW H → Nat
  | .lit (.string bytes) => bytes.length + 1
  | .lit _ => 1
  | .nil => 1
  | .ptr d => uptoBulk d + 1
  | .slice elems spare => uptoBulkAll elems + uptoBulkAll spare + 1
  | .agg parts => uptoBulkAll parts + 1
  | .iface _ d => uptoBulk d + 1
  | .map entries => uptoBulkEntries entries + 1
  | .held _ => 1
def uptoBulkAll {H : Type} : List (DataW H) → Nat
  | [] => 0
  | d :: r => uptoBulk d + uptoBulkAll r
def uptoBulkEntries {H : Type} : List (Lit × DataW H) → Nat
  | [] => 0
  | x :: r => uptoBulkEntry x + uptoBulkEntries r
def uptoBulkEntry {H : Type} : Lit × DataW H → Nat
  | (.string bytes, d) => bytes.length + uptoBulk d + 1
  | (_, d) => uptoBulk d + 1
 end
def uptoSmall : (H : Type) → List (DataW H) → Bool := fun _ ds => decide (uptoBulkAll ds ≤ 1048576)
def OpenSpec.upto (s : _root_.Go.ChangeSpec) : _root_.Go.OpenSpec := { _root_.Go.OpenSpec.ofChange s with cond := some uptoSmall }

/-- 'watershedlaw09.WindowSpans', WHERE WHAT IT READS IS OF BULK AT MOST 1048576: true; the input reads as it did. -/
def windowSpansUptoRow : OpenClaim := { program := "ytfkdkcdknpjoeaa", sum := "5d84225133c00e6355ad9ede9710f5011302b8671b62cff8adb4b774c10ceab2", func := "watershed/watershedlaw09.WindowSpans", spec := "windowSpans", unfollowed := true, recurses := true, apart := false, narrowed := true }
def WindowSpansUptoSaid : Prop := windowSpansUptoRow.holds Try.pinned (OpenSpec.upto windowSpansSpec)

/-- 'watershedlaw09.WindowCovers', WHERE WHAT IT READS IS OF BULK AT MOST 1048576: true; the input reads as it did. -/
def windowCoversUptoRow : OpenClaim := { program := "ytfkdkcdknpjoeaa", sum := "5d84225133c00e6355ad9ede9710f5011302b8671b62cff8adb4b774c10ceab2", func := "watershed/watershedlaw09.WindowCovers", spec := "windowCovers", unfollowed := true, recurses := true, apart := false, narrowed := true }
def WindowCoversUptoSaid : Prop := windowCoversUptoRow.holds Try.pinned (OpenSpec.upto windowCoversSpec)

/-- 'watershedlaw09.WindowMerges', WHERE WHAT IT READS IS OF BULK AT MOST 1048576: true; the input reads as it did. -/
def windowMergesUptoRow : OpenClaim := { program := "ytfkdkcdknpjoeaa", sum := "5d84225133c00e6355ad9ede9710f5011302b8671b62cff8adb4b774c10ceab2", func := "watershed/watershedlaw09.WindowMerges", spec := "windowMerges", unfollowed := true, recurses := true, apart := false, narrowed := true }
def WindowMergesUptoSaid : Prop := windowMergesUptoRow.holds Try.pinned (OpenSpec.upto windowMergesSpec)

/-- 'watershedlaw09.WindowOnce', WHERE WHAT IT READS IS OF BULK AT MOST 1048576: true; the input reads as it did. -/
def windowOnceUptoRow : OpenClaim := { program := "ytfkdkcdknpjoeaa", sum := "5d84225133c00e6355ad9ede9710f5011302b8671b62cff8adb4b774c10ceab2", func := "watershed/watershedlaw09.WindowOnce", spec := "windowOnce", unfollowed := true, recurses := true, apart := false, narrowed := true }
def WindowOnceUptoSaid : Prop := windowOnceUptoRow.holds Try.pinned (OpenSpec.upto windowOnceSpec)

/-- 'watershedlaw09.WindowMore', WHERE WHAT IT READS IS OF BULK AT MOST 1048576: true; the input reads as it did. -/
def windowMoreUptoRow : OpenClaim := { program := "ytfkdkcdknpjoeaa", sum := "5d84225133c00e6355ad9ede9710f5011302b8671b62cff8adb4b774c10ceab2", func := "watershed/watershedlaw09.WindowMore", spec := "windowMore", unfollowed := true, recurses := true, apart := false, narrowed := true }
def WindowMoreUptoSaid : Prop := windowMoreUptoRow.holds Try.pinned (OpenSpec.upto windowMoreSpec)

/-- 'watershedlaw09.WindowChains', WHERE WHAT IT READS IS OF BULK AT MOST 1048576: true; the input reads as it did. -/
def windowChainsUptoRow : OpenClaim := { program := "ytfkdkcdknpjoeaa", sum := "5d84225133c00e6355ad9ede9710f5011302b8671b62cff8adb4b774c10ceab2", func := "watershed/watershedlaw09.WindowChains", spec := "windowChains", unfollowed := true, recurses := true, apart := false, narrowed := true }
def WindowChainsUptoSaid : Prop := windowChainsUptoRow.holds Try.pinned (OpenSpec.upto windowChainsSpec)

/-- 'watershedlaw09.WindowTiles', WHERE WHAT IT READS IS OF BULK AT MOST 1048576: true; the input reads as it did. -/
def windowTilesUptoRow : OpenClaim := { program := "ytfkdkcdknpjoeaa", sum := "5d84225133c00e6355ad9ede9710f5011302b8671b62cff8adb4b774c10ceab2", func := "watershed/watershedlaw09.WindowTiles", spec := "windowTiles", unfollowed := true, recurses := true, apart := false, narrowed := true }
def WindowTilesUptoSaid : Prop := windowTilesUptoRow.holds Try.pinned (OpenSpec.upto windowTilesSpec)

end Rows
end Go.Proofs.Ytfkdkcdknpjoeaa
