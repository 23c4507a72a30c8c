/-
  The parser's stacks grow: what an append leaves. Conditions: as the statements say.
-/
import Derived.Test.YtlkaaembeakicaaDoorEAllow
import Derived.Deep.RegionLaw
import Derived.Deep.AppendLies
namespace Go.Proofs.YtlkaaembeakicaaDoor.Ex
open Go.RowKit
theorem info78 : (Tryd.prog.info? 78).map (fun i => (i.zero, i.size, i.bytes)) = some (some (.agg #[.string ⟨#[]⟩, .int .i64 0]), 2, 24) := by kernel_rfl
theorem info63 : (Tryd.prog.info? 63).map (fun i => (i.zero, i.size, i.bytes)) = some (some (.agg #[.nilFunc, .string ⟨#[]⟩, .int .i64 0]), 3, 32) := by kernel_rfl
theorem news2 {w W : World} (a b : Value) (t : TypeId) (hW : W = (w.alloc (.cells #[a, b] t)).drew) {n : Nat} (hn : n = w.heap.size) : ∀ j u, [a, b][j]? = some u → W.cell? ((⟨n, 0, none⟩ : Addr).add j) = some u := by
  subst hW hn; exact cell_two_new w a b t
theorem news3 {w W : World} (a b c : Value) (t : TypeId) (hW : W = w.alloc (.cells #[a, b, c] t) ∨ W = (w.alloc (.cells #[a, b, c] t)).drew) {n : Nat} (hn : n = w.heap.size) : ∀ j u, [a, b, c][j]? = some u → W.cell? ((⟨n, 0, none⟩ : Addr).add j) = some u := by
  intro j u hj
  have h : (w.alloc (.cells #[a, b, c] t)).cell? ((⟨n, 0, none⟩ : Addr).add j) = some u := by
    subst hn
    match j, hj with
    | 0, hj => simp at hj; subst hj; simp [Addr.add]
    | 1, hj => simp at hj; subst hj; simp [Addr.add]
    | 2, hj => simp at hj; subst hj; simp [Addr.add]
    | j + 3, hj => simp at hj
  rcases hW with rfl | rfl
  · exact h
  · exact h
theorem keep_grown {w w1 : World} {base : Nat} {e : TypeId} {size n : Nat} {v : Value} {xs : List Value} (h : w.ownsRow base e size v n xs) (he : e = 63 ∨ e = 78) (hg : w.grownBy w1 v.ownBlock) : Keep w w1 := by
  intro k cs t fz hk h1 h2 h3
  rw [hg.block k (lt_of_heap hk) (fun ek => row_ne h hk (by rcases he with rfl | rfl <;> assumption) ek.symm)]; exact hk
/-- An operator is pushed. -/
theorem PX.pushW {w0 : World} {p : Nat} {s : St} {vo vp v2 : Value} {es : List Ent} {w w1 : World} {q : Bs × Nat} (h : PX w0 p s vo vp es w) (hg : w.grownBy w1 vp.ownBlock) (ho : w1.ownsRow w0.heap.size 78 2 v2 (s.waits.length + 1) (opCells s.waits ++ opC q)) :
    w1.heap[p]? = some (.cells (pCells vo vp s) 44 (0, 0)) ∧ PX w0 p { s with waits := q :: s.waits } vo v2 es (w1.setCell ⟨p, 1, none⟩ v2) ∧ Keep w (w1.setCell ⟨p, 1, none⟩ v2) := by
  have hb : w1.heap[p]? = some (.cells (pCells vo vp s) 44 (0, 0)) := by
    rw [hg.block p h.lt (fun e => row_ne h.row2 h.blk (by decide) e.symm)]; exact h.blk
  have hne : vo.ownBlock = none ∨ vo.ownBlock ≠ vp.ownBlock := by
    cases hv : vo.ownBlock with
    | none => exact .inl rfl
    | some k =>
      right
      intro e
      obtain ⟨-, hk⟩ := h.row1.lt k hv
      rcases h.row1.2 with ⟨rfl, _⟩ | ⟨g, _, _, rfl, _, hgg, _⟩
      · simp [Value.ownBlock] at hv
      · simp only [Value.ownBlock, Option.some.injEq] at hv
        subst hv
        exact row_ne h.row2 hgg (by decide) e.symm
  have hbel : Below w0.heap.size w0 w1 := h.below.grown hg h.below.size (fun k e => (h.row2.lt k e).1)
  have r1 := h.row1.kept hg hne
  rw [← opCells_cons] at ho
  refine ⟨hb, ⟨hbel.setCell h.hp _, h.hp, ?_, h.vals, ownsRow_setCell_other r1 (row_ne r1 hb (by decide)) _, ownsRow_setCell_other ho (row_ne ho hb (by decide)) _, fun r hr => ((h.clos r hr).keep (keep_grown h.row2 (.inr rfl) hg)).keep (keep_setCell hb (.inl rfl) _)⟩, (keep_grown h.row2 (.inr rfl) hg).trans (keep_setCell hb (.inl rfl) _)⟩
  rw [heap_setCell_same w1 p 1 _ _ _ hb]
  rfl
/-- An operand is pushed. -/
theorem PX.pushV {w0 : World} {p : Nat} {s : St} {vo vp v2 : Value} {es : List Ent} {w w1 : World} {q : Ent} (h : PX w0 p s vo vp es w) (hg : w.grownBy w1 vo.ownBlock) (ho : w1.ownsRow w0.heap.size 63 3 v2 (es.length + 1) (exCells es ++ exC q)) (hc : Clos w q.2 q.1) :
    w1.heap[p]? = some (.cells (pCells vo vp s) 44 (0, 0)) ∧ PX w0 p { s with vals := q.2 :: s.vals } v2 vp (q :: es) (w1.setCell ⟨p, 0, none⟩ v2) ∧ Keep w (w1.setCell ⟨p, 0, none⟩ v2) := by
  have hb : w1.heap[p]? = some (.cells (pCells vo vp s) 44 (0, 0)) := by
    rw [hg.block p h.lt (fun e => row_ne h.row1 h.blk (by decide) e.symm)]; exact h.blk
  have hne : vp.ownBlock = none ∨ vp.ownBlock ≠ vo.ownBlock := by
    cases hv : vp.ownBlock with
    | none => exact .inl rfl
    | some k =>
      right
      intro e
      rcases h.row2.2 with ⟨rfl, _⟩ | ⟨g, _, _, rfl, _, hgg, _⟩
      · simp [Value.ownBlock] at hv
      · simp only [Value.ownBlock, Option.some.injEq] at hv
        subst hv
        exact row_ne h.row1 hgg (by decide) e.symm
  have hbel : Below w0.heap.size w0 w1 := h.below.grown hg h.below.size (fun k e => (h.row1.lt k e).1)
  have r2 := h.row2.kept hg hne
  rw [← exCells_cons] at ho
  have hK := keep_grown h.row1 (.inl rfl) hg
  refine ⟨hb, ⟨hbel.setCell h.hp _, h.hp, ?_, by simp [h.vals], ownsRow_setCell_other ho (row_ne ho hb (by decide)) _, ownsRow_setCell_other r2 (row_ne r2 hb (by decide)) _, fun r hr => ?_⟩, hK.trans (keep_setCell hb (.inl rfl) _)⟩
  · rw [heap_setCell_same w1 p 0 _ _ _ hb]
    rfl
  · simp only [List.mem_cons] at hr
    rcases hr with rfl | hr
    · exact (hc.keep hK).keep (keep_setCell hb (.inl rfl) _)
    · exact ((h.clos r hr).keep hK).keep (keep_setCell hb (.inl rfl) _)
theorem p_cells {w : World} {p : Nat} {vo vp : Value} {s : St} (h : w.heap[p]? = some (.cells (pCells vo vp s) 44 (0, 0))) : w.cell? ⟨p, 0, none⟩ = some vo ∧ w.cell? ⟨p, 1, none⟩ = some vp ∧ w.cell? ⟨p, 2, none⟩ = some (.int .i64 s.opn) ∧ w.cell? ⟨p, 3, none⟩ = some (.int .i64 s.parts) ∧ w.cell? ⟨p, 4, none⟩ = some (.bool s.complete) ∧
    w.frozen? ⟨p, 0, none⟩ = false ∧ w.frozen? ⟨p, 1, none⟩ = false ∧ w.frozen? ⟨p, 2, none⟩ = false ∧ w.frozen? ⟨p, 3, none⟩ = false ∧ w.frozen? ⟨p, 4, none⟩ = false := by
  refine ⟨?_, ?_, ?_, ?_, ?_, free_of_heap h 0, free_of_heap h 1, free_of_heap h 2, free_of_heap h 3, free_of_heap h 4⟩ <;> rw [cell_of_heap h] <;> rfl
/-- The other fields. -/
theorem PX.setField {w0 : World} {p : Nat} {s s' : St} {vo vp : Value} {es : List Ent} {w : World} (h : PX w0 p s vo vp es w) (i : Nat) (v : Value) (hc : (pCells vo vp s).setIfInBounds i v = pCells vo vp s') (hv : s'.vals = s.vals) (hw : s'.waits = s.waits) : PX w0 p s' vo vp es (w.setCell ⟨p, i, none⟩ v) :=
  h.setP i v hc (by rw [hv]; exact h.vals) (fun _ h => h) h.row1 (by rw [hw]; exact h.row2)
end Go.Proofs.YtlkaaembeakicaaDoor.Ex
