/-
  The document's reader in memory: its three fields, its parts, its rows. Conditions: as the statements say.
-/
import Derived.Test.YtogcickcodlepaaGreatDoorJR1
import Derived.Test.YtogcickcodlepaaGreatDoorJE4
namespace Go.Proofs.YtogcickcodlepaaGreatDoor.Ex
open Go.RowKit
structure Nd where
  op : Bs
  n : Int
  l : Nat
  r : Nat
def ndC (q : Nd) : List Value := [.string ⟨q.op.toArray⟩, .int .i64 q.n, .int .i64 q.l, .int .i64 q.r]
def ndV (q : Nd) : Value := .agg #[.string ⟨q.op.toArray⟩, .int .i64 q.n, .int .i64 q.l, .int .i64 q.r]
def ndCells (L : List Nd) : List Value := L.flatMap ndC
def ixC (i : Nat) : List Value := [.int .i64 i]
def ixCells (is : List Nat) : List Value := is.reverse.flatMap ixC
def wdC (t : Bs) : List Value := [.string ⟨t.toArray⟩]
def wdCells (ws : List Bs) : List Value := ws.reverse.flatMap wdC
theorem ndCells_snoc (L : List Nd) (q : Nd) : ndCells (L ++ [q]) = ndCells L ++ ndC q := by simp [ndCells]
theorem ixCells_cons (i : Nat) (is : List Nat) : ixCells (i :: is) = ixCells is ++ ixC i := by simp [ixCells]
theorem wdCells_cons (t : Bs) (ws : List Bs) : wdCells (t :: ws) = wdCells ws ++ wdC t := by simp [wdCells]
theorem ndCells_length (L : List Nd) : (ndCells L).length = L.length * 4 := by
  induction L with
  | nil => rfl
  | cons q L ih => rw [show ndCells (q :: L) = ndC q ++ ndCells L by simp [ndCells], List.length_append, ih]; simp [ndC]; omega
theorem ixCells_length : ∀ is : List Nat, (ixCells is).length = is.length * 1
  | [] => rfl
  | q :: es => by rw [ixCells_cons, List.length_append, ixCells_length es]; simp [ixC]
theorem wdCells_length : ∀ ws : List Bs, (wdCells ws).length = ws.length * 1
  | [] => rfl
  | q :: es => by rw [wdCells_cons, List.length_append, wdCells_length es]; simp [wdC]
/-- The reader lies at block p, its expression at block x. -/
structure RX (w0 : World) (p x : Nat) (L : List Nd) (is : List Nat) (ws : List Bs) (root : Int) (vL vV vW : Value) (w : World) : Prop where
  below : Below w0.heap.size w0 w
  hp : w0.heap.size ≤ p
  hx : w0.heap.size ≤ x
  blk : w.heap[p]? = some (.cells #[ptr x, vV, vW] 118 (0, 0))
  xblk : w.heap[x]? = some (.cells #[vL, .int .i64 root] 116 (0, 0))
  rowL : w.ownsRow w0.heap.size 143 4 vL L.length (ndCells L)
  rowV : w.ownsRow w0.heap.size 3 1 vV is.length (ixCells is)
  rowW : w.ownsRow w0.heap.size 9 1 vW ws.length (wdCells ws)
variable {w0 : World} {p x : Nat} {L : List Nd} {is : List Nat} {ws : List Bs} {root : Int} {vL vV vW : Value} {w w' w1 : World}
theorem RX.grow (h : RX w0 p x L is ws root vL vV vW w) (hb : Below w.heap.size w w') : RX w0 p x L is ws root vL vV vW w' :=
  ⟨h.below.trans (hb.mono h.below.size), h.hp, h.hx, by rw [hb.block p (lt_of_heap h.blk)]; exact h.blk, by rw [hb.block x (lt_of_heap h.xblk)]; exact h.xblk, ownsRow_below h.rowL hb, ownsRow_below h.rowV hb, ownsRow_below h.rowW hb⟩
theorem RX.drewN (h : RX w0 p x L is ws root vL vV vW w) (n : Nat) : RX w0 p x L is ws root vL vV vW (w.drewN n) := h.grow ⟨rfl, rfl, rfl, Nat.le_refl _, fun _ _ => rfl⟩
theorem own_ne {base : Nat} {e e' : TypeId} {size size' n n' : Nat} {v v' : Value} {xs xs' : List Value} (h : w.ownsRow base e size v n xs) (h' : w.ownsRow base e' size' v' n' xs') (he : e ≠ e') : v.ownBlock = none ∨ v.ownBlock ≠ v'.ownBlock := by
  cases hv : v.ownBlock with
  | none => exact .inl rfl
  | some k =>
    right
    intro eq
    rcases h.2 with ⟨rfl, _⟩ | ⟨g, _, _, rfl, _, hgg, _⟩
    · simp [Value.ownBlock] at hv
    · simp only [Value.ownBlock, Option.some.injEq] at hv
      subst hv
      exact row_ne h' hgg he eq.symm
theorem rx_cells {vA vB vC : Value} (h : w.heap[p]? = some (.cells #[vA, vB, vC] 118 (0, 0))) : w.cell? ⟨p, 0, none⟩ = some vA ∧ w.cell? ⟨p, 1, none⟩ = some vB ∧ w.cell? ⟨p, 2, none⟩ = some vC ∧ w.frozen? ⟨p, 0, none⟩ = false ∧ w.frozen? ⟨p, 1, none⟩ = false ∧ w.frozen? ⟨p, 2, none⟩ = false := by
  refine ⟨?_, ?_, ?_, free_of_heap h 0, free_of_heap h 1, free_of_heap h 2⟩ <;> rw [cell_of_heap h] <;> rfl
theorem xx_cells {vA vB : Value} (h : w.heap[x]? = some (.cells #[vA, vB] 116 (0, 0))) : w.cell? ⟨x, 0, none⟩ = some vA ∧ w.cell? ⟨x, 1, none⟩ = some vB ∧ w.frozen? ⟨x, 0, none⟩ = false ∧ w.frozen? ⟨x, 1, none⟩ = false := by
  refine ⟨?_, ?_, free_of_heap h 0, free_of_heap h 1⟩ <;> rw [cell_of_heap h] <;> rfl
theorem RX.px (h : RX w0 p x L is ws root vL vV vW w) : p ≠ x := by
  rintro rfl; have := h.blk; rw [h.xblk] at this; injection this with this; injection this with _ this; cases this
/-- A part is pushed. -/
theorem RX.pushL {v2 : Value} {q : Nd} (h : RX w0 p x L is ws root vL vV vW w) (hg : w.grownBy w1 vL.ownBlock) (ho : w1.ownsRow w0.heap.size 143 4 v2 (L.length + 1) (ndCells L ++ ndC q)) :
    w1.heap[p]? = some (.cells #[ptr x, vV, vW] 118 (0, 0)) ∧ w1.heap[x]? = some (.cells #[vL, .int .i64 root] 116 (0, 0)) ∧ RX w0 p x (L ++ [q]) is ws root v2 vV vW (w1.setCell ⟨x, 0, none⟩ v2) := by
  have hb : w1.heap[p]? = some (.cells #[ptr x, vV, vW] 118 (0, 0)) := by rw [hg.block p (lt_of_heap h.blk) (fun e => row_ne h.rowL h.blk (by decide) e.symm)]; exact h.blk
  have hxb : w1.heap[x]? = some (.cells #[vL, .int .i64 root] 116 (0, 0)) := by rw [hg.block x (lt_of_heap h.xblk) (fun e => row_ne h.rowL h.xblk (by decide) e.symm)]; exact h.xblk
  have hbel : Below w0.heap.size w0 w1 := h.below.grown hg h.below.size (fun k e => (h.rowL.lt k e).1)
  have rV := h.rowV.kept hg (own_ne h.rowV h.rowL (by decide))
  have rW := h.rowW.kept hg (own_ne h.rowW h.rowL (by decide))
  rw [← ndCells_snoc] at ho
  refine ⟨hb, hxb, hbel.setCell h.hx _, h.hp, h.hx, heap_setCell hb h.px.symm _, ?_, ?_, ownsRow_setCell_other rV (row_ne rV hxb (by decide)) _, ownsRow_setCell_other rW (row_ne rW hxb (by decide)) _⟩
  · rw [heap_setCell_same w1 x 0 _ _ _ hxb]; rfl
  · rw [List.length_append]; exact ownsRow_setCell_other ho (row_ne ho hxb (by decide)) _
/-- A value's number is pushed. -/
theorem RX.pushV {v2 : Value} {i : Nat} (h : RX w0 p x L is ws root vL vV vW w) (hg : w.grownBy w1 vV.ownBlock) (ho : w1.ownsRow w0.heap.size 3 1 v2 (is.length + 1) (ixCells is ++ ixC i)) :
    w1.heap[p]? = some (.cells #[ptr x, vV, vW] 118 (0, 0)) ∧ w1.heap[x]? = some (.cells #[vL, .int .i64 root] 116 (0, 0)) ∧ RX w0 p x L (i :: is) ws root vL v2 vW (w1.setCell ⟨p, 1, none⟩ v2) := by
  have hb : w1.heap[p]? = some (.cells #[ptr x, vV, vW] 118 (0, 0)) := by rw [hg.block p (lt_of_heap h.blk) (fun e => row_ne h.rowV h.blk (by decide) e.symm)]; exact h.blk
  have hxb : w1.heap[x]? = some (.cells #[vL, .int .i64 root] 116 (0, 0)) := by rw [hg.block x (lt_of_heap h.xblk) (fun e => row_ne h.rowV h.xblk (by decide) e.symm)]; exact h.xblk
  have hbel : Below w0.heap.size w0 w1 := h.below.grown hg h.below.size (fun k e => (h.rowV.lt k e).1)
  have rL := h.rowL.kept hg (own_ne h.rowL h.rowV (by decide))
  have rW := h.rowW.kept hg (own_ne h.rowW h.rowV (by decide))
  rw [← ixCells_cons] at ho
  refine ⟨hb, hxb, hbel.setCell h.hp _, h.hp, h.hx, ?_, heap_setCell hxb h.px _, ownsRow_setCell_other rL (row_ne rL hb (by decide)) _, ownsRow_setCell_other ho (row_ne ho hb (by decide)) _, ownsRow_setCell_other rW (row_ne rW hb (by decide)) _⟩
  rw [heap_setCell_same w1 p 1 _ _ _ hb]; rfl
/-- A word is pushed that waits. -/
theorem RX.pushW {v2 : Value} {t : Bs} (h : RX w0 p x L is ws root vL vV vW w) (hg : w.grownBy w1 vW.ownBlock) (ho : w1.ownsRow w0.heap.size 9 1 v2 (ws.length + 1) (wdCells ws ++ wdC t)) :
    w1.heap[p]? = some (.cells #[ptr x, vV, vW] 118 (0, 0)) ∧ w1.heap[x]? = some (.cells #[vL, .int .i64 root] 116 (0, 0)) ∧ RX w0 p x L is (t :: ws) root vL vV v2 (w1.setCell ⟨p, 2, none⟩ v2) := by
  have hb : w1.heap[p]? = some (.cells #[ptr x, vV, vW] 118 (0, 0)) := by rw [hg.block p (lt_of_heap h.blk) (fun e => row_ne h.rowW h.blk (by decide) e.symm)]; exact h.blk
  have hxb : w1.heap[x]? = some (.cells #[vL, .int .i64 root] 116 (0, 0)) := by rw [hg.block x (lt_of_heap h.xblk) (fun e => row_ne h.rowW h.xblk (by decide) e.symm)]; exact h.xblk
  have hbel : Below w0.heap.size w0 w1 := h.below.grown hg h.below.size (fun k e => (h.rowW.lt k e).1)
  have rL := h.rowL.kept hg (own_ne h.rowL h.rowW (by decide))
  have rV := h.rowV.kept hg (own_ne h.rowV h.rowW (by decide))
  rw [← wdCells_cons] at ho
  refine ⟨hb, hxb, hbel.setCell h.hp _, h.hp, h.hx, ?_, heap_setCell hxb h.px _, ownsRow_setCell_other rL (row_ne rL hb (by decide)) _, ownsRow_setCell_other rV (row_ne rV hb (by decide)) _, ownsRow_setCell_other ho (row_ne ho hb (by decide)) _⟩
  rw [heap_setCell_same w1 p 2 _ _ _ hb]; rfl
/-- What waits last is dropped. -/
theorem RX.popW {t : Bs} {g cap : Nat} (h : RX w0 p x L is (t :: ws) root vL vV (.slice (some ⟨g, 0, none⟩) (ws.length + 1) cap) w) :
    RX w0 p x L is ws root vL vV (.slice (some ⟨g, 0, none⟩) ws.length cap) (w.setCell ⟨p, 2, none⟩ (.slice (some ⟨g, 0, none⟩) ws.length cap)) := by
  have r := h.rowW
  rw [wdCells_cons] at r
  have r2 := ownsRow_pop (by rw [wdCells_length]) r
  refine ⟨h.below.setCell h.hp _, h.hp, h.hx, ?_, heap_setCell h.xblk h.px _, ownsRow_setCell_other h.rowL (row_ne h.rowL h.blk (by decide)) _, ownsRow_setCell_other h.rowV (row_ne h.rowV h.blk (by decide)) _, ownsRow_setCell_other r2 (row_ne r2 h.blk (by decide)) _⟩
  rw [heap_setCell_same w p 2 _ _ _ h.blk]; rfl
/-- The last value is dropped. -/
theorem RX.popV {i : Nat} {g cap : Nat} (h : RX w0 p x L (i :: is) ws root vL (.slice (some ⟨g, 0, none⟩) (is.length + 1) cap) vW w) (u : Value) (hu : u = .slice (some ⟨g, 0, none⟩) is.length cap) :
    RX w0 p x L is ws root vL u vW (w.setCell ⟨p, 1, none⟩ u) := by
  subst hu
  have r := h.rowV
  rw [ixCells_cons] at r
  have r2 := ownsRow_pop (by rw [ixCells_length]) r
  refine ⟨h.below.setCell h.hp _, h.hp, h.hx, ?_, heap_setCell h.xblk h.px _, ownsRow_setCell_other h.rowL (row_ne h.rowL h.blk (by decide)) _, ownsRow_setCell_other r2 (row_ne r2 h.blk (by decide)) _, ownsRow_setCell_other h.rowW (row_ne h.rowW h.blk (by decide)) _⟩
  rw [heap_setCell_same w p 1 _ _ _ h.blk]; rfl
theorem info65 : (Tryz.prog.info? 143).map (fun i => (i.zero, i.size, i.bytes)) = some (some (.agg #[.string ⟨#[]⟩, .int .i64 0, .int .i64 0, .int .i64 0]), 4, 40) := by kernel_rfl
theorem info3 : (Tryz.prog.info? 3).map (fun i => (i.zero, i.size, i.bytes)) = some (some (.int .i64 0), 1, 8) := by kernel_rfl
theorem info9 : (Tryz.prog.info? 9).map (fun i => (i.zero, i.size, i.bytes)) = some (some (.string ⟨#[]⟩), 1, 16) := by kernel_rfl
end Go.Proofs.YtogcickcodlepaaGreatDoor.Ex
