/-
  A box of windows, a row of spans in one block: as they lie in memory. Conditions: as each theorem names them.
-/
import Derived.Test.YtlmnkmfpdjkijaaWSmall
namespace Go.Proofs.Ytlmnkmfpdjkijaa.Wi
set_option linter.unusedVariables false
set_option linter.unusedSimpArgs false
open Go.RowKit

/-- The box of the windows. -/
structure WB (w : World) (B : Nat) (k s l : Int) : Prop where
  blk : w.heap[B]? = some (.cells #[.int .i64 k, .int .i64 s, .int .i64 l] 23 (0, 0))
theorem WB.cells {w : World} {B : Nat} {k s l : Int} (h : WB w B k s l) : w.cell? ⟨B, 0, none⟩ = some (.int .i64 k) ∧ w.cell? ⟨B, 1, none⟩ = some (.int .i64 s) ∧ w.cell? ⟨B, 2, none⟩ = some (.int .i64 l) := by
  refine ⟨?_, ?_, ?_⟩
  · rw [cell_of_heap h.blk]; rfl
  · rw [cell_of_heap h.blk]; rfl
  · rw [cell_of_heap h.blk]; rfl
theorem WB.grow {w w' : World} {B : Nat} {k s l : Int} (h : WB w B k s l) (hb : Below w.heap.size w w') : WB w' B k s l := ⟨by rw [hb.block B (lt_of_heap h.blk)]; exact h.blk⟩
theorem WB.append {w w' : World} {B : Nat} {k s l : Int} {r : Option Nat} (h : WB w B k s l) (hr : r ≠ some B) (hg : w.grownBy w' r) : WB w' B k s l := ⟨by rw [hg.block B (lt_of_heap h.blk) (fun e => hr e.symm)]; exact h.blk⟩
theorem wb_new (w : World) (k s l : Int) : WB (w.alloc (.cells #[.int .i64 k, .int .i64 s, .int .i64 l] 23)) w.heap.size k s l := ⟨heap_alloc_new w _⟩
theorem spans_block {w : World} {b n : Nat} {cs : Array Value} {L : List Sp} (h : w.heap[b]? = some (.cells cs 49 (0, 0))) (hc : cs.toList = scs L) (hn : L.length = n) (hs : n ≤ 5000) : SpansAt w (.slice (some ⟨b, 0, none⟩) n n) L := by
  subst hn
  refine ⟨some ⟨b, 0, none⟩, L.length, rfl, Nat.le_refl _, by unfold maxLen; omega, by unfold maxLen; omega, fun _ => ⟨b, 0, rfl, lt_of_heap h, fun i x hi j u hj => ?_⟩⟩
  rw [cell_of_heap h]
  obtain ⟨h1, h2⟩ := flatMap_at (k := 2) L (fun _ _ => rfl) i x hi j u hj
  rw [Nat.zero_add, ← Array.getElem?_toList, hc]
  exact h1
end Go.Proofs.Ytlmnkmfpdjkijaa.Wi
