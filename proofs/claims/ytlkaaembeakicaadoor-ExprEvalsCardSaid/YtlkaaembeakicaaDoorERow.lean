/-
  The parser's operands: one is replaced. Conditions: as the statements say.
-/
import Derived.Test.YtlkaaembeakicaaDoorEState
namespace Go.Proofs.YtlkaaembeakicaaDoor.Ex
open Go.RowKit
theorem set3 (xs ys : List Value) (a b c x y z : Value) : (((xs ++ a :: b :: c :: ys).set xs.length x).set (xs.length + 1) y).set (xs.length + 2) z = xs ++ x :: y :: z :: ys := by
  simp
def store3 (w : World) (g j : Nat) (x y z : Value) : World := ((w.setCell ⟨g, j, none⟩ x).setCell ⟨g, j + 1, none⟩ y).setCell ⟨g, j + 2, none⟩ z
/-- Three cells of the row of operands are stored into. -/
theorem PX.store {w0 : World} {p : Nat} {s s' : St} {vo vp : Value} {es es' : List Ent} {w : World} (h : PX w0 p s vo vp es w) {g cap j : Nat} (hv : vo = .slice (some ⟨g, 0, none⟩) es.length cap)
    {xs ys : List Value} {a b c x y z : Value} (hj : j = xs.length) (hx : exCells es = xs ++ a :: b :: c :: ys) (hx' : exCells es' = xs ++ x :: y :: z :: ys) (hl : es'.length = es.length)
    (hs : es'.map Prod.snd = s'.vals) (h1 : s'.waits = s.waits) (h2 : s'.opn = s.opn) (h3 : s'.parts = s.parts) (h4 : s'.complete = s.complete) (hc : ∀ q ∈ es', Clos w q.2 q.1) :
    PX w0 p s' vo vp es' (store3 w g j x y z) := by
  subst hv hj
  have r1 := h.row1
  rcases r1.2 with ⟨h0, _⟩ | ⟨g', cap', cur, h0, hb, hg, -⟩
  · cases h0
  cases h0
  obtain ⟨a1, b1⟩ := r1.stored xs.length x
  obtain ⟨a2, b2⟩ := a1.stored (xs.length + 1) y
  obtain ⟨a3, b3⟩ := a2.stored (xs.length + 2) z
  rw [hx, set3, ← hx', ← hl] at a3
  have gg : ∀ k, k ≠ g → (store3 w g xs.length x y z).heap[k]? = w.heap[k]? := fun k hk => by
    unfold store3
    rw [heap_setCell_other _ _ k _ (by simp; omega), heap_setCell_other _ _ k _ (by simp; omega), heap_setCell_other _ _ k _ (by simp; omega)]
  have np : p ≠ g := fun e => by subst e; have := h.blk; rw [hg] at this; injection this with this; injection this with _ this; cases this
  refine ⟨((h.below.setCell hb x).setCell hb y).setCell hb z, h.hp, ?_, hs, ?_, ?_, ?_⟩
  · rw [gg p np, h.blk]; unfold pCells; rw [h2, h3, h4]
  · exact hl ▸ a3
  · rw [h1]
    have e := row_ne h.row2 hg (by decide)
    exact ownsRow_setCell_other (ownsRow_setCell_other (ownsRow_setCell_other h.row2 e x) e y) e z
  · intro q hq
    refine (hc q hq).keep ?_
    intro k cs t fz hk t1 t2 t3
    by_cases e : k = g
    · subst e; rw [hg] at hk; injection hk with hk; injection hk with _ hk; exact absurd hk.symm t2
    · rw [gg k e]; exact hk
/-- The row of operands, looked at from above. -/
theorem PX.row {w0 : World} {p : Nat} {s : St} {vo vp : Value} {es : List Ent} {w : World} (h : PX w0 p s vo vp es w) (h0 : es ≠ []) :
    ∃ g cap, vo = .slice (some ⟨g, 0, none⟩) es.length cap ∧ g < w.heap.size ∧ es.length ≤ cap ∧ w0.heap.size ≤ g ∧ (∀ i, w.frozen? ⟨g, i, none⟩ = false) ∧ (∀ i, i < es.length * 3 → w.cell? ⟨g, i, none⟩ = (exCells es)[i]?) := by
  have r1 := h.row1
  have hl : 0 < es.length := by cases es with | nil => exact absurd rfl h0 | cons => simp
  rcases r1.2 with ⟨_, h1⟩ | ⟨g, cap, cur, rfl, hb, hg, hnc, -⟩
  · omega
  · exact ⟨g, cap, rfl, lt_of_heap hg, hnc, hb, fun i => r1.frozenAt i, fun i hi => r1.cellAt i hi⟩
theorem ex_top (q : Ent) (er : List Ent) : (exCells (q :: er))[er.length * 3]? = some q.1 ∧ (exCells (q :: er))[er.length * 3 + 1]? = some (.string ⟨q.2.text.toArray⟩) ∧ (exCells (q :: er))[er.length * 3 + 2]? = some (.int .i64 q.2.size) := by
  have hl := exCells_length er
  rw [exCells_cons]
  refine ⟨?_, ?_, ?_⟩ <;> rw [List.getElem?_append_right (by omega), hl] <;> simp [exC]
theorem ex_low (q r : Ent) (er : List Ent) {i : Nat} (hi : i < er.length * 3 + 3) : (exCells (q :: r :: er))[i]? = (exCells (r :: er))[i]? := by
  have hl := exCells_length (r :: er)
  rw [exCells_cons q, List.getElem?_append_left (by rw [hl, List.length_cons]; omega)]
/-- The last operand is dropped. -/
theorem PX.drop {w0 : World} {p : Nat} {s : St} {vp : Value} {q : Ent} {er : List Ent} {w : World} {g cap : Nat} (h : PX w0 p s (.slice (some ⟨g, 0, none⟩) (er.length + 1) cap) vp (q :: er) w) :
    PX w0 p { s with vals := s.vals.tail } (.slice (some ⟨g, 0, none⟩) er.length cap) vp er (w.setCell ⟨p, 0, none⟩ (.slice (some ⟨g, 0, none⟩) er.length cap)) := by
  have r1 := h.row1
  rw [exCells_cons] at r1
  exact h.setP (s' := { s with vals := s.vals.tail }) 0 _ (by rfl) (by have := h.vals; simp only [← this]; simp) (fun r hr => by simp [hr]) (ownsRow_pop (by rw [exCells_length]) r1) h.row2
end Go.Proofs.YtlkaaembeakicaaDoor.Ex
