/-
  The document's Eval and Text: the row of what is known so far. Conditions: as the statements say.
-/
import Derived.Test.YtlkaaembeakicaaDoorRDec
import Derived.Test.YtlkaaembeakicaaDoorETwo
import Derived.BigQuiet
namespace Go.Proofs.YtlkaaembeakicaaDoor.Ex
open Go.RowKit
theorem nd_at : ∀ {L : List Nd} {i : Nat} {nd : Nd}, L[i]? = some nd → ∀ k, k < 4 → (ndCells L)[i * 4 + k]? = (ndC nd)[k]?
  | [], i, nd, h, _, _ => by simp at h
  | q :: L, 0, nd, h, k, hk => by
    simp at h
    subst h
    rw [show ndCells (q :: L) = ndC q ++ ndCells L by simp [ndCells], Nat.zero_mul, Nat.zero_add, List.getElem?_append_left (by simpa [ndC] using hk)]
  | q :: L, i + 1, nd, h, k, hk => by
    simp at h
    rw [show ndCells (q :: L) = ndC q ++ ndCells L by simp [ndCells], List.getElem?_append_right (by simp [ndC]; omega), ← nd_at h k hk]
    congr 1
    simp [ndC]; omega
/-- The loop's row of what is known so far: its block is the first made. -/
structure EV (w : World) (n : Nat) (Ts : List Tree) (F : Tree → Value) (tt : TypeId) (i : Nat) (wr : World) : Prop where
  below : Below w.heap.size w wr
  blk : ∃ cur : Array Value, wr.heap[w.heap.size]? = some (.cells cur tt (0, 0)) ∧ cur.size = n ∧ ∀ j T, j < i → Ts[j]? = some T → cur[j]? = some (F T)
section
variable {w wr : World} {n i : Nat} {Ts : List Tree} {F : Tree → Value} {tt : TypeId}
theorem EV.grow {w' : World} (h : EV w n Ts F tt i wr) (hb : Below wr.heap.size wr w') : EV w n Ts F tt i w' := by
  obtain ⟨h1, cur, h2, h3⟩ := h
  exact ⟨h1.trans (hb.mono h1.size), cur, by rw [hb.block _ (lt_of_heap h2)]; exact h2, h3⟩
theorem EV.lt (h : EV w n Ts F tt i wr) : w.heap.size < wr.heap.size := by obtain ⟨_, cur, h2, _⟩ := h; exact lt_of_heap h2
theorem EV.cell (h : EV w n Ts F tt i wr) {j : Nat} {T : Tree} (hj : j < i) (hT : Ts[j]? = some T) : wr.cell? ⟨w.heap.size, j, none⟩ = some (F T) := by
  obtain ⟨_, cur, h2, _, h3⟩ := h
  rw [cell_of_heap h2]; exact h3 j T hj hT
theorem EV.free (h : EV w n Ts F tt i wr) (j : Nat) : wr.frozen? ⟨w.heap.size, j, none⟩ = false := by
  obtain ⟨_, cur, h2, _⟩ := h
  exact free_of_heap h2 j
theorem EV.has (h : EV w n Ts F tt i wr) {j : Nat} (hj : j < n) : ∃ v, wr.cell? ⟨w.heap.size, j, none⟩ = some v := by
  obtain ⟨_, cur, h2, h3, _⟩ := h
  refine ⟨cur[j]'(by omega), ?_⟩
  rw [cell_of_heap h2]
  exact Array.getElem?_eq_getElem (by omega)
theorem EV.step (h : EV w n Ts F tt i wr) {T : Tree} (hT : Ts[i]? = some T) (hi : i < n) {v : Value} (hv : v = F T) : EV w n Ts F tt (i + 1) (wr.setCell ⟨w.heap.size, i, none⟩ v) := by
  subst hv
  obtain ⟨h1, cur, h2, h3, h4⟩ := h
  refine ⟨h1.setCell (Nat.le_refl _) _, cur.setIfInBounds i (F T), ?_, by simp [h3], ?_⟩
  · rw [heap_setCell_same wr w.heap.size i _ _ _ h2]
  · intro j U hj hU
    rw [Array.getElem?_setIfInBounds]
    by_cases e : i = j
    · subst e
      rw [hT] at hU; injection hU with hU; subst hU
      simp [h3, hi]
    · rw [if_neg e]; exact h4 j U (by omega) hU
theorem EV.start (w : World) (n : Nat) (Ts : List Tree) (F : Tree → Value) (tt : TypeId) (z : Value) : EV w n Ts F tt 0 (w.alloc (.cells (madeCells #[z] n) tt)) :=
  ⟨(Below.refl _ _).alloc (Nat.le_refl _) _, _, heap_alloc_new w _, size_madeCells _ _, fun j T hj => absurd hj (by omega)⟩
end
/-- A part's four cells. -/
theorem node_cells {w0 w wr : World} {g cap i : Nat} {L : List Nd} {nd : Nd} (hr : w.ownsRow w0.heap.size 65 4 (.slice (some ⟨g, 0, none⟩) L.length cap) L.length (ndCells L)) (hg : g < w.heap.size) (hb : Below w.heap.size w wr) (hi : L[i]? = some nd) :
    wr.cell? ⟨g, i * 4, none⟩ = some (.string ⟨nd.op.toArray⟩) ∧ wr.cell? ⟨g, i * 4 + 1, none⟩ = some (.int .i64 nd.n) ∧ wr.cell? ⟨g, i * 4 + 2, none⟩ = some (.int .i64 (nd.l : Int)) ∧ wr.cell? ⟨g, i * 4 + 3, none⟩ = some (.int .i64 (nd.r : Int)) := by
  have hlt : i < L.length := (List.getElem?_eq_some_iff.1 hi).1
  have key : ∀ k, k < 4 → wr.cell? ⟨g, i * 4 + k, none⟩ = (ndC nd)[k]? := by
    intro k hk
    rw [hb.cell (p := ⟨g, i * 4 + k, none⟩) hg]
    rw [← nd_at hi k hk]
    exact hr.cellAt (i * 4 + k) (by omega)
  exact ⟨key 0 (by omega), key 1 (by omega), key 2 (by omega), key 3 (by omega)⟩
end Go.Proofs.YtlkaaembeakicaaDoor.Ex
