/-
  The parser in memory: its five fields, its two rows, the closures of its operands. Conditions: as the statements say.
-/
import Derived.Test.YtlkaaembeakicaaDoorENum
namespace Go.Proofs.YtlkaaembeakicaaDoor.Ex
open Go.RowKit
abbrev Ent := Value × Tree
def exC (q : Ent) : List Value := [q.1, .string ⟨q.2.text.toArray⟩, .int .i64 q.2.size]
def opC (q : Bs × Nat) : List Value := [.string ⟨q.1.toArray⟩, .int .i64 q.2]
def exCells (es : List Ent) : List Value := es.reverse.flatMap exC
def opCells (ws : List (Bs × Nat)) : List Value := ws.reverse.flatMap opC
theorem exCells_cons (q : Ent) (es : List Ent) : exCells (q :: es) = exCells es ++ exC q := by simp [exCells]
theorem opCells_cons (q : Bs × Nat) (ws : List (Bs × Nat)) : opCells (q :: ws) = opCells ws ++ opC q := by simp [opCells]
theorem exCells_length : ∀ es : List Ent, (exCells es).length = es.length * 3
  | [] => rfl
  | q :: es => by rw [exCells_cons, List.length_append, exCells_length es]; simp [exC]; omega
theorem opCells_length : ∀ ws : List (Bs × Nat), (opCells ws).length = ws.length * 2
  | [] => rfl
  | q :: ws => by rw [opCells_cons, List.length_append, opCells_length ws]; simp [opC]; omega
abbrev pCells (vo vp : Value) (s : St) : Array Value := #[vo, vp, .int .i64 s.opn, .int .i64 s.parts, .bool s.complete]
/-- The parser lies at block p, its rows are its own, its operands compute. -/
structure PX (w0 : World) (p : Nat) (s : St) (vo vp : Value) (es : List Ent) (w : World) : Prop where
  below : Below w0.heap.size w0 w
  hp : w0.heap.size ≤ p
  blk : w.heap[p]? = some (.cells (pCells vo vp s) 44 (0, 0))
  vals : es.map Prod.snd = s.vals
  row1 : w.ownsRow w0.heap.size 63 3 vo es.length (exCells es)
  row2 : w.ownsRow w0.heap.size 78 2 vp s.waits.length (opCells s.waits)
  clos : ∀ q ∈ es, Clos w q.2 q.1
def PS (w0 : World) (p : Nat) (s : St) (w : World) : Prop := ∃ vo vp es, PX w0 p s vo vp es w
theorem ownsRow_below {w w' : World} {base : Nat} {e : TypeId} {size : Nat} {v : Value} {n : Nat} {xs : List Value} (h : w.ownsRow base e size v n xs) (hb : Below w.heap.size w w') : w'.ownsRow base e size v n xs :=
  h.kept (row := none) ⟨hb.os, hb.tape, hb.output, hb.size, fun k hk _ => hb.block k hk⟩ (by cases v.ownBlock <;> simp)
theorem PX.grow {w0 : World} {p : Nat} {s : St} {vo vp : Value} {es : List Ent} {w w' : World} (h : PX w0 p s vo vp es w) (hb : Below w.heap.size w w') : PX w0 p s vo vp es w' :=
  ⟨h.below.trans (hb.mono h.below.size), h.hp, by rw [hb.block p (lt_of_heap h.blk)]; exact h.blk, h.vals, ownsRow_below h.row1 hb, ownsRow_below h.row2 hb, fun q hq => (h.clos q hq).keep (Keep.of_below hb)⟩
theorem PX.drewN {w0 : World} {p : Nat} {s : St} {vo vp : Value} {es : List Ent} {w : World} (h : PX w0 p s vo vp es w) (n : Nat) : PX w0 p s vo vp es (w.drewN n) := h.grow ⟨rfl, rfl, rfl, Nat.le_refl _, fun _ _ => rfl⟩
theorem row_ne {w : World} {base : Nat} {e : TypeId} {size : Nat} {v : Value} {n : Nat} {xs : List Value} {p : Nat} {cs : Array Value} {t : TypeId} {fz : Nat × Nat} (h : w.ownsRow base e size v n xs) (hp : w.heap[p]? = some (.cells cs t fz)) (ht : t ≠ e) : v.ownBlock ≠ some p := by
  intro hv
  rcases h.2 with ⟨rfl, _⟩ | ⟨g, cap, cur, rfl, _, hg, _⟩
  · simp [Value.ownBlock] at hv
  · simp only [Value.ownBlock, Option.some.injEq] at hv
    subst hv
    rw [hp] at hg
    injection hg with hg
    injection hg with _ hg
    exact ht hg
/-- Clos behind a store into the parser or into a row. -/
theorem keep_setCell {w : World} {b o : Nat} {cs : Array Value} {t : TypeId} {fz : Nat × Nat} (h : w.heap[b]? = some (.cells cs t fz)) (ht : t = 44 ∨ t = 63 ∨ t = 78) (v : Value) : Keep w (w.setCell ⟨b, o, none⟩ v) := by
  intro k cs' t' fz' hk h1 h2 h3
  by_cases e : b = k
  · subst e
    rw [h] at hk
    injection hk with hk
    injection hk with _ hk
    subst hk
    rcases ht with rfl | rfl | rfl
    · exact absurd rfl h1
    · exact absurd rfl h2
    · exact absurd rfl h3
  · exact heap_setCell hk e v
/-- A field of the parser is stored into: the row values and the state change as is said. -/
theorem PX.setP {w0 : World} {p : Nat} {s s' : St} {vo vp vo' vp' : Value} {es es' : List Ent} {w : World} (h : PX w0 p s vo vp es w) (i : Nat) (v : Value)
    (hc : (pCells vo vp s).setIfInBounds i v = pCells vo' vp' s') (hv : es'.map Prod.snd = s'.vals) (he : ∀ q ∈ es', q ∈ es)
    (h1 : w.ownsRow w0.heap.size 63 3 vo' es'.length (exCells es')) (h2 : w.ownsRow w0.heap.size 78 2 vp' s'.waits.length (opCells s'.waits)) :
    PX w0 p s' vo' vp' es' (w.setCell ⟨p, i, none⟩ v) where
  below := h.below.setCell h.hp v
  hp := h.hp
  blk := by rw [heap_setCell_same w p i _ _ v h.blk, hc]
  vals := hv
  row1 := ownsRow_setCell_other h1 (row_ne h1 h.blk (by decide)) v
  row2 := ownsRow_setCell_other h2 (row_ne h2 h.blk (by decide)) v
  clos := fun q hq => (h.clos q (he q hq)).keep (keep_setCell h.blk (.inl rfl) v)
theorem PX.cell {w0 : World} {p : Nat} {s : St} {vo vp : Value} {es : List Ent} {w : World} (h : PX w0 p s vo vp es w) :
    w.cell? ⟨p, 0, none⟩ = some vo ∧ w.cell? ⟨p, 1, none⟩ = some vp ∧ w.cell? ⟨p, 2, none⟩ = some (.int .i64 s.opn) ∧ w.cell? ⟨p, 3, none⟩ = some (.int .i64 s.parts) ∧ w.cell? ⟨p, 4, none⟩ = some (.bool s.complete) := by
  refine ⟨?_, ?_, ?_, ?_, ?_⟩ <;> rw [cell_of_heap h.blk] <;> rfl
theorem PX.free {w0 : World} {p : Nat} {s : St} {vo vp : Value} {es : List Ent} {w : World} (h : PX w0 p s vo vp es w) (i : Nat) : w.frozen? ⟨p, i, none⟩ = false := free_of_heap h.blk i
theorem PX.lt {w0 : World} {p : Nat} {s : St} {vo vp : Value} {es : List Ent} {w : World} (h : PX w0 p s vo vp es w) : p < w.heap.size := lt_of_heap h.blk

/-! ### pop -/
set_option maxHeartbeats 1000000 in
theorem pop_cells {w : World} {p g n cap : Nat} {sg : ByteArray} {lv : Int} (hp : p < w.heap.size) (hg : g < w.heap.size) (hn : n ≤ 1000) (hc : n + 1 ≤ cap) (c1 : w.cell? ⟨p, 1, none⟩ = some (.slice (some ⟨g, 0, none⟩) (n + 1) cap)) (f1 : w.frozen? ⟨p, 1, none⟩ = false)
    (e0 : w.cell? ⟨g, n * 2, none⟩ = some (.string sg)) (e1 : w.cell? ⟨g, n * 2 + 1, none⟩ = some (.int .i64 lv)) :
    Calls Tryd.prog 46 #[ptr p] w fun e w' => e = .returned (.agg #[.string sg, .int .i64 lv]) ∧ Below w.heap.size (w.setCell ⟨p, 1, none⟩ (.slice (some ⟨g, 0, none⟩) n cap)) w' := by
  go_enter Tryd.func46, Tryd.ntmps46
  go_wp2
  exact bodyPost_ret (v := .agg #[.string sg, .int .i64 lv]) (by simp [results, Tryd.results46, go_sem]) rfl ⟨rfl, ((Below.refl _ _).alloc (by simp) _).alloc (by simp) _⟩
theorem PX.popped {w0 : World} {p : Nat} {s : St} {vo vp : Value} {es : List Ent} {w : World} (h : PX w0 p s vo vp es w) {t : Bs} {l : Nat} {ws : List (Bs × Nat)} (hw : s.waits = (t, l) :: ws) :
    ∃ g cap, vp = .slice (some ⟨g, 0, none⟩) (ws.length + 1) cap ∧ g < w.heap.size ∧ ws.length + 1 ≤ cap ∧ w.cell? ⟨g, ws.length * 2, none⟩ = some (.string ⟨t.toArray⟩) ∧ w.cell? ⟨g, ws.length * 2 + 1, none⟩ = some (.int .i64 l) ∧
      PX w0 p { s with waits := ws } vo (.slice (some ⟨g, 0, none⟩) ws.length cap) es (w.setCell ⟨p, 1, none⟩ (.slice (some ⟨g, 0, none⟩) ws.length cap)) := by
  have h2 := h.row2
  rw [hw, List.length_cons, opCells_cons] at h2
  rcases h2.2 with ⟨_, h0⟩ | ⟨g, cap, cur, rfl, hb, hg, hnc, hcm, hsz, htk⟩
  · omega
  · have hl := opCells_length ws
    have k0 := h2.cellAt (ws.length * 2) (by omega)
    have k1 := h2.cellAt (ws.length * 2 + 1) (by omega)
    rw [List.getElem?_append_right (by omega), hl] at k0 k1
    simp [opC] at k0 k1
    have k1' : w.cell? ⟨g, ws.length * 2 + 1, none⟩ = some (.int .i64 l) := by
      rw [k1]
    refine ⟨g, cap, rfl, lt_of_heap hg, hnc, k0, k1', ?_⟩
    exact h.setP (s' := { s with waits := ws }) 1 _ (by rfl) h.vals (fun q hq => hq) h.row1 (ownsRow_pop (by rw [hl]) h2)
theorem pop_any {w0 : World} {p : Nat} {s : St} {vo vp : Value} {es : List Ent} {w : World} (h : PX w0 p s vo vp es w) {t : Bs} {l : Nat} {ws : List (Bs × Nat)} (hw : s.waits = (t, l) :: ws) (hn : ws.length ≤ 1000) :
    Calls Tryd.prog 46 #[ptr p] w fun e w' => e = .returned (.agg #[.string ⟨t.toArray⟩, .int .i64 l]) ∧ (∃ vp', PX w0 p { s with waits := ws } vo vp' es w') ∧ Keep w w' := by
  obtain ⟨g, cap, rfl, hg, hnc, e0, e1, hx⟩ := h.popped hw
  refine (pop_cells h.lt hg hn hnc h.cell.2.1 (h.free 1) e0 e1).mono ?_
  rintro e w' ⟨rfl, hb⟩
  exact ⟨rfl, ⟨_, hx.grow (by simpa using hb)⟩, (keep_setCell h.blk (.inl rfl) _).trans (Keep.of_below (by simpa using hb))⟩
end Go.Proofs.YtlkaaembeakicaaDoor.Ex
