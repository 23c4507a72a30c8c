/-
  Texts joined into one file. Each part says in its own head what is proved there, and under which conditions.
-/
import Derived.Test.YtfoenfipefhpoaaGreatDoorJR1
import Derived.Test.YtfoenfipefhpoaaGreatDoorJE4
import Derived.BigQuiet
import Derived.Deep.LoopGhost
set_option linter.unusedVariables false
set_option linter.unusedSimpArgs false
/-
  The document's reader in memory: its three fields, its parts, its rows. Conditions: as the statements say.
-/
namespace Go.Proofs.YtfoenfipefhpoaaGreatDoor.Ex
open Go.RowKit
structure Nd where
  op : Bs
  n : Int
  l : Nat
  r : Nat
def ndC (q : Nd) : List Value := [.string ⟨q.op.toArray⟩, .int .i64 q.n, .int .i64 q.l, .int .i64 q.r]
def ndV (q : Nd) : Value := .agg #[.string ⟨q.op.toArray⟩, .int .i64 q.n, .int .i64 q.l, .int .i64 q.r]
def ndCells (L : List Nd) : List Value := L.flatMap ndC
def ixC (i : Nat) : List Value := [.int .i64 i]
def ixCells (is : List Nat) : List Value := is.reverse.flatMap ixC
def wdC (t : Bs) : List Value := [.string ⟨t.toArray⟩]
def wdCells (ws : List Bs) : List Value := ws.reverse.flatMap wdC
theorem ndCells_snoc (L : List Nd) (q : Nd) : ndCells (L ++ [q]) = ndCells L ++ ndC q := by simp [ndCells]
theorem ixCells_cons (i : Nat) (is : List Nat) : ixCells (i :: is) = ixCells is ++ ixC i := by simp [ixCells]
theorem wdCells_cons (t : Bs) (ws : List Bs) : wdCells (t :: ws) = wdCells ws ++ wdC t := by simp [wdCells]
theorem ndCells_length (L : List Nd) : (ndCells L).length = L.length * 4 := by
  induction L with
  | nil => rfl
  | cons q L ih => rw [show ndCells (q :: L) = ndC q ++ ndCells L by simp [ndCells], List.length_append, ih]; simp [ndC]; omega
theorem ixCells_length : ∀ is : List Nat, (ixCells is).length = is.length * 1
  | [] => rfl
  | q :: es => by rw [ixCells_cons, List.length_append, ixCells_length es]; simp [ixC]
theorem wdCells_length : ∀ ws : List Bs, (wdCells ws).length = ws.length * 1
  | [] => rfl
  | q :: es => by rw [wdCells_cons, List.length_append, wdCells_length es]; simp [wdC]
/-- The reader lies at block p, its expression at block x. -/
structure RX (w0 : World) (p x : Nat) (L : List Nd) (is : List Nat) (ws : List Bs) (root : Int) (vL vV vW : Value) (w : World) : Prop where
  below : Below w0.heap.size w0 w
  hp : w0.heap.size ≤ p
  hx : w0.heap.size ≤ x
  blk : w.heap[p]? = some (.cells #[ptr x, vV, vW] 98 (0, 0))
  xblk : w.heap[x]? = some (.cells #[vL, .int .i64 root] 96 (0, 0))
  rowL : w.ownsRow w0.heap.size 110 4 vL L.length (ndCells L)
  rowV : w.ownsRow w0.heap.size 3 1 vV is.length (ixCells is)
  rowW : w.ownsRow w0.heap.size 9 1 vW ws.length (wdCells ws)
variable {w0 : World} {p x : Nat} {L : List Nd} {is : List Nat} {ws : List Bs} {root : Int} {vL vV vW : Value} {w w' w1 : World}
theorem RX.grow (h : RX w0 p x L is ws root vL vV vW w) (hb : Below w.heap.size w w') : RX w0 p x L is ws root vL vV vW w' :=
  ⟨h.below.trans (hb.mono h.below.size), h.hp, h.hx, by rw [hb.block p (lt_of_heap h.blk)]; exact h.blk, by rw [hb.block x (lt_of_heap h.xblk)]; exact h.xblk, ownsRow_below h.rowL hb, ownsRow_below h.rowV hb, ownsRow_below h.rowW hb⟩
theorem RX.drewN (h : RX w0 p x L is ws root vL vV vW w) (n : Nat) : RX w0 p x L is ws root vL vV vW (w.drewN n) := h.grow ⟨rfl, rfl, rfl, Nat.le_refl _, fun _ _ => rfl⟩
theorem own_ne {base : Nat} {e e' : TypeId} {size size' n n' : Nat} {v v' : Value} {xs xs' : List Value} (h : w.ownsRow base e size v n xs) (h' : w.ownsRow base e' size' v' n' xs') (he : e ≠ e') : v.ownBlock = none ∨ v.ownBlock ≠ v'.ownBlock := by
  cases hv : v.ownBlock with
  | none => exact .inl rfl
  | some k =>
    right
    intro eq
    rcases h.2 with ⟨rfl, _⟩ | ⟨g, _, _, rfl, _, hgg, _⟩
    · simp [Value.ownBlock] at hv
    · simp only [Value.ownBlock, Option.some.injEq] at hv
      subst hv
      exact row_ne h' hgg he eq.symm
theorem rx_cells {vA vB vC : Value} (h : w.heap[p]? = some (.cells #[vA, vB, vC] 98 (0, 0))) : w.cell? ⟨p, 0, none⟩ = some vA ∧ w.cell? ⟨p, 1, none⟩ = some vB ∧ w.cell? ⟨p, 2, none⟩ = some vC ∧ w.frozen? ⟨p, 0, none⟩ = false ∧ w.frozen? ⟨p, 1, none⟩ = false ∧ w.frozen? ⟨p, 2, none⟩ = false := by
  refine ⟨?_, ?_, ?_, free_of_heap h 0, free_of_heap h 1, free_of_heap h 2⟩ <;> rw [cell_of_heap h] <;> rfl
theorem xx_cells {vA vB : Value} (h : w.heap[x]? = some (.cells #[vA, vB] 96 (0, 0))) : w.cell? ⟨x, 0, none⟩ = some vA ∧ w.cell? ⟨x, 1, none⟩ = some vB ∧ w.frozen? ⟨x, 0, none⟩ = false ∧ w.frozen? ⟨x, 1, none⟩ = false := by
  refine ⟨?_, ?_, free_of_heap h 0, free_of_heap h 1⟩ <;> rw [cell_of_heap h] <;> rfl
theorem RX.px (h : RX w0 p x L is ws root vL vV vW w) : p ≠ x := by
  rintro rfl; have := h.blk; rw [h.xblk] at this; injection this with this; injection this with _ this; cases this
/-- A part is pushed. -/
theorem RX.pushL {v2 : Value} {q : Nd} (h : RX w0 p x L is ws root vL vV vW w) (hg : w.grownBy w1 vL.ownBlock) (ho : w1.ownsRow w0.heap.size 110 4 v2 (L.length + 1) (ndCells L ++ ndC q)) :
    w1.heap[p]? = some (.cells #[ptr x, vV, vW] 98 (0, 0)) ∧ w1.heap[x]? = some (.cells #[vL, .int .i64 root] 96 (0, 0)) ∧ RX w0 p x (L ++ [q]) is ws root v2 vV vW (w1.setCell ⟨x, 0, none⟩ v2) := by
  have hb : w1.heap[p]? = some (.cells #[ptr x, vV, vW] 98 (0, 0)) := by rw [hg.block p (lt_of_heap h.blk) (fun e => row_ne h.rowL h.blk (by decide) e.symm)]; exact h.blk
  have hxb : w1.heap[x]? = some (.cells #[vL, .int .i64 root] 96 (0, 0)) := by rw [hg.block x (lt_of_heap h.xblk) (fun e => row_ne h.rowL h.xblk (by decide) e.symm)]; exact h.xblk
  have hbel : Below w0.heap.size w0 w1 := h.below.grown hg h.below.size (fun k e => (h.rowL.lt k e).1)
  have rV := h.rowV.kept hg (own_ne h.rowV h.rowL (by decide))
  have rW := h.rowW.kept hg (own_ne h.rowW h.rowL (by decide))
  rw [← ndCells_snoc] at ho
  refine ⟨hb, hxb, hbel.setCell h.hx _, h.hp, h.hx, heap_setCell hb h.px.symm _, ?_, ?_, ownsRow_setCell_other rV (row_ne rV hxb (by decide)) _, ownsRow_setCell_other rW (row_ne rW hxb (by decide)) _⟩
  · rw [heap_setCell_same w1 x 0 _ _ _ hxb]; rfl
  · rw [List.length_append]; exact ownsRow_setCell_other ho (row_ne ho hxb (by decide)) _
/-- A value's number is pushed. -/
theorem RX.pushV {v2 : Value} {i : Nat} (h : RX w0 p x L is ws root vL vV vW w) (hg : w.grownBy w1 vV.ownBlock) (ho : w1.ownsRow w0.heap.size 3 1 v2 (is.length + 1) (ixCells is ++ ixC i)) :
    w1.heap[p]? = some (.cells #[ptr x, vV, vW] 98 (0, 0)) ∧ w1.heap[x]? = some (.cells #[vL, .int .i64 root] 96 (0, 0)) ∧ RX w0 p x L (i :: is) ws root vL v2 vW (w1.setCell ⟨p, 1, none⟩ v2) := by
  have hb : w1.heap[p]? = some (.cells #[ptr x, vV, vW] 98 (0, 0)) := by rw [hg.block p (lt_of_heap h.blk) (fun e => row_ne h.rowV h.blk (by decide) e.symm)]; exact h.blk
  have hxb : w1.heap[x]? = some (.cells #[vL, .int .i64 root] 96 (0, 0)) := by rw [hg.block x (lt_of_heap h.xblk) (fun e => row_ne h.rowV h.xblk (by decide) e.symm)]; exact h.xblk
  have hbel : Below w0.heap.size w0 w1 := h.below.grown hg h.below.size (fun k e => (h.rowV.lt k e).1)
  have rL := h.rowL.kept hg (own_ne h.rowL h.rowV (by decide))
  have rW := h.rowW.kept hg (own_ne h.rowW h.rowV (by decide))
  rw [← ixCells_cons] at ho
  refine ⟨hb, hxb, hbel.setCell h.hp _, h.hp, h.hx, ?_, heap_setCell hxb h.px _, ownsRow_setCell_other rL (row_ne rL hb (by decide)) _, ownsRow_setCell_other ho (row_ne ho hb (by decide)) _, ownsRow_setCell_other rW (row_ne rW hb (by decide)) _⟩
  rw [heap_setCell_same w1 p 1 _ _ _ hb]; rfl
/-- A word is pushed that waits. -/
theorem RX.pushW {v2 : Value} {t : Bs} (h : RX w0 p x L is ws root vL vV vW w) (hg : w.grownBy w1 vW.ownBlock) (ho : w1.ownsRow w0.heap.size 9 1 v2 (ws.length + 1) (wdCells ws ++ wdC t)) :
    w1.heap[p]? = some (.cells #[ptr x, vV, vW] 98 (0, 0)) ∧ w1.heap[x]? = some (.cells #[vL, .int .i64 root] 96 (0, 0)) ∧ RX w0 p x L is (t :: ws) root vL vV v2 (w1.setCell ⟨p, 2, none⟩ v2) := by
  have hb : w1.heap[p]? = some (.cells #[ptr x, vV, vW] 98 (0, 0)) := by rw [hg.block p (lt_of_heap h.blk) (fun e => row_ne h.rowW h.blk (by decide) e.symm)]; exact h.blk
  have hxb : w1.heap[x]? = some (.cells #[vL, .int .i64 root] 96 (0, 0)) := by rw [hg.block x (lt_of_heap h.xblk) (fun e => row_ne h.rowW h.xblk (by decide) e.symm)]; exact h.xblk
  have hbel : Below w0.heap.size w0 w1 := h.below.grown hg h.below.size (fun k e => (h.rowW.lt k e).1)
  have rL := h.rowL.kept hg (own_ne h.rowL h.rowW (by decide))
  have rV := h.rowV.kept hg (own_ne h.rowV h.rowW (by decide))
  rw [← wdCells_cons] at ho
  refine ⟨hb, hxb, hbel.setCell h.hp _, h.hp, h.hx, ?_, heap_setCell hxb h.px _, ownsRow_setCell_other rL (row_ne rL hb (by decide)) _, ownsRow_setCell_other rV (row_ne rV hb (by decide)) _, ownsRow_setCell_other ho (row_ne ho hb (by decide)) _⟩
  rw [heap_setCell_same w1 p 2 _ _ _ hb]; rfl
/-- What waits last is dropped. -/
theorem RX.popW {t : Bs} {g cap : Nat} (h : RX w0 p x L is (t :: ws) root vL vV (.slice (some ⟨g, 0, none⟩) (ws.length + 1) cap) w) :
    RX w0 p x L is ws root vL vV (.slice (some ⟨g, 0, none⟩) ws.length cap) (w.setCell ⟨p, 2, none⟩ (.slice (some ⟨g, 0, none⟩) ws.length cap)) := by
  have r := h.rowW
  rw [wdCells_cons] at r
  have r2 := ownsRow_pop (by rw [wdCells_length]) r
  refine ⟨h.below.setCell h.hp _, h.hp, h.hx, ?_, heap_setCell h.xblk h.px _, ownsRow_setCell_other h.rowL (row_ne h.rowL h.blk (by decide)) _, ownsRow_setCell_other h.rowV (row_ne h.rowV h.blk (by decide)) _, ownsRow_setCell_other r2 (row_ne r2 h.blk (by decide)) _⟩
  rw [heap_setCell_same w p 2 _ _ _ h.blk]; rfl
/-- The last value is dropped. -/
theorem RX.popV {i : Nat} {g cap : Nat} (h : RX w0 p x L (i :: is) ws root vL (.slice (some ⟨g, 0, none⟩) (is.length + 1) cap) vW w) (u : Value) (hu : u = .slice (some ⟨g, 0, none⟩) is.length cap) :
    RX w0 p x L is ws root vL u vW (w.setCell ⟨p, 1, none⟩ u) := by
  subst hu
  have r := h.rowV
  rw [ixCells_cons] at r
  have r2 := ownsRow_pop (by rw [ixCells_length]) r
  refine ⟨h.below.setCell h.hp _, h.hp, h.hx, ?_, heap_setCell h.xblk h.px _, ownsRow_setCell_other h.rowL (row_ne h.rowL h.blk (by decide)) _, ownsRow_setCell_other r2 (row_ne r2 h.blk (by decide)) _, ownsRow_setCell_other h.rowW (row_ne h.rowW h.blk (by decide)) _⟩
  rw [heap_setCell_same w p 1 _ _ _ h.blk]; rfl
theorem info65 : (Tryz.prog.info? 110).map (fun i => (i.zero, i.size, i.bytes)) = some (some (.agg #[.string ⟨#[]⟩, .int .i64 0, .int .i64 0, .int .i64 0]), 4, 40) := by kernel_rfl
theorem info3 : (Tryz.prog.info? 3).map (fun i => (i.zero, i.size, i.bytes)) = some (some (.int .i64 0), 1, 8) := by kernel_rfl
theorem info9 : (Tryz.prog.info? 9).map (fun i => (i.zero, i.size, i.bytes)) = some (some (.string ⟨#[]⟩), 1, 16) := by kernel_rfl
end Go.Proofs.YtfoenfipefhpoaaGreatDoor.Ex
/-
  The document's reader: a value is put on its stack. Conditions: the reader keeps what it keeps.
-/
namespace Go.Proofs.YtfoenfipefhpoaaGreatDoor.Ex
open Go.RowKit
theorem news1 {w W : World} (a : Value) (t : TypeId) (hW : W = (w.alloc (.cells #[a] t)).drew) {n : Nat} (hn : n = w.heap.size) : ∀ j u, [a][j]? = some u → W.cell? ((⟨n, 0, none⟩ : Addr).add j) = some u := by
  subst hW hn
  intro j u hj
  show (w.alloc (.cells #[a] t)).cell? _ = _
  match j, hj with
  | 0, hj => simp at hj; subst hj; simp [Addr.add]
  | j + 1, hj => simp at hj
theorem news4 {w W : World} (a b c d : Value) (t : TypeId) (hW : W = (w.alloc (.cells #[a, b, c, d] t)).drew) {n : Nat} (hn : n = w.heap.size) : ∀ j u, [a, b, c, d][j]? = some u → W.cell? ((⟨n, 0, none⟩ : Addr).add j) = some u := by
  subst hW hn
  intro j u hj
  show (w.alloc (.cells #[a, b, c, d] t)).cell? _ = _
  match j, hj with
  | 0, hj => simp at hj; subst hj; simp [Addr.add]
  | 1, hj => simp at hj; subst hj; simp [Addr.add]
  | 2, hj => simp at hj; subst hj; simp [Addr.add]
  | 3, hj => simp at hj; subst hj; simp [Addr.add]
  | j + 4, hj => simp at hj
theorem one4 (a : ByteArray) (b c d : Int) : ∀ u ∈ [Value.string a, Value.int .i64 b, Value.int .i64 c, Value.int .i64 d], u.oneCell' = true := by intro u hu; simp only [List.mem_cons, List.not_mem_nil, or_false] at hu; rcases hu with rfl | rfl | rfl | rfl <;> rfl
theorem one1s (a : ByteArray) : ∀ u ∈ [Value.string a], u.oneCell' = true := by intro u hu; simp only [List.mem_cons, List.not_mem_nil, or_false] at hu; rcases hu with rfl; rfl
theorem one1i (b : Int) : ∀ u ∈ [Value.int .i64 b], u.oneCell' = true := by intro u hu; simp only [List.mem_cons, List.not_mem_nil, or_false] at hu; rcases hu with rfl; rfl
set_option maxRecDepth 20000 in
set_option maxHeartbeats 4000000 in
theorem value_any {w0 w : World} {p x : Nat} {L : List Nd} {is : List Nat} {ws : List Bs} {root : Int} {vL vV vW : Value} (hX : RX w0 p x L is ws root vL vV vW w) (hL : L.length ≤ 1000) (his : is.length ≤ 1000) (q : Nd) :
    Calls Tryz.prog 70 #[ptr p, ndV q] w fun e w' => e = .returned (.tuple #[]) ∧ ∃ vL' vV', RX w0 p x (L ++ [q]) (L.length :: is) ws root vL' vV' vW w' := by
  obtain ⟨i0, hi0, hz0, hz1, hz2⟩ := info_parts info65
  obtain ⟨i3, hi3, hy0, hy1, hy2⟩ := info_parts info3
  obtain ⟨op, n, l, r⟩ := q
  obtain ⟨c0, c1, c2, f0, f1, f2⟩ := rx_cells hX.blk
  obtain ⟨d0, d1, g0, g1⟩ := xx_cells hX.xblk
  have hp := lt_of_heap hX.blk
  have hx := lt_of_heap hX.xblk
  have hB : w0.heap.size ≤ w.heap.size := hX.below.size
  have HX := Lib.hid hX
  clear hX
  unfold ndV
  simp only
  go_enter Tryz.func70, Tryz.ntmps70
  go_upto_region 1 with fail
  go_cut [] (fun wx => ∃ g cap, RX w0 p x (L ++ [⟨op, n, l, r⟩]) is ws root (.slice (some ⟨g, 0, none⟩) (L.length + 1) cap) vV vW wx)
  case first =>
    go_region_law (first | (refine step_append_lies _ (by rfl) (.tmp 14) (.tmp 16) 94 (by rfl) w0.heap.size 110 i0 (.agg #[.string ⟨#[]⟩, .int .i64 0, .int .i64 0, .int .i64 0]) 4 40 Tryz.underlying94 hi0 hz0 hz1 hz2 rfl (by decide) vL L.length (ndCells L) (by rfl) (ownsRow_below HX.out.rowL (((Below.refl _ _).alloc (Nat.le_refl _) _).alloc (by simp) _).drew) ⟨w.heap.size + 1, 0, none⟩ 1 1 [.string ⟨op.toArray⟩, .int .i64 n, .int .i64 l, .int .i64 r] (by rfl) rfl (news4 _ _ _ _ 110 rfl (by simp)) (one4 _ _ _ _) (by decide) (by unfold maxLen; omega) (by omega) (by simp; omega) _ rfl ?_; intro g2 cap2 w1 hown2 hgrow2 hat2 hlt2; obtain ⟨hp1, hx1, hx2⟩ := (HX.out.grow (((Below.refl _ _).alloc (Nat.le_refl _) _).alloc (by simp) _).drew).pushL (q := ⟨op, n, l, r⟩) hgrow2 hown2; obtain ⟨a0, a1, a2, b0, b1, b2⟩ := rx_cells hp1; obtain ⟨e0, e1, k0, k1⟩ := xx_cells hx1; have HX2 := Lib.hid hx2; clear hown2 hgrow2 hat2 hlt2 hp1 hx1 hx2))
    all_goals go_wp2_with fail
    all_goals go_meet
    all_goals exact ⟨_, _, HX2.out⟩
  case rest =>
    obtain ⟨g, cap, hx3⟩ := hcut
    rename World => wq
    clear c0 c1 c2 f0 f1 f2 d0 d1 g0 g1 hp hx hB
    obtain ⟨c0, c1, c2, f0, f1, f2⟩ := rx_cells hx3.blk
    obtain ⟨d0, d1, g0, g1⟩ := xx_cells hx3.xblk
    have hp := lt_of_heap hx3.blk
    have hx := lt_of_heap hx3.xblk
    have hB : w0.heap.size ≤ wq.heap.size := hx3.below.size
    have HX3 := Lib.hid hx3
    have hwr : IntKind.i64.wrap (L.length : Int) = (L.length : Int) := IntWalk.i64_in _ (by omega)
    clear hx3
    go_upto_region 2 with fail
    go_region_law (first | (refine step_append_lies _ (by rfl) (.tmp 24) (.tmp 34) 30 (by rfl) w0.heap.size 3 i3 (.int .i64 0) 1 8 Tryz.underlying30 hi3 hy0 hy1 hy2 rfl (by decide) vV is.length (ixCells is) (by rfl) (ownsRow_below HX3.out.rowV ((Below.refl _ _).alloc (Nat.le_refl _) _).drew) ⟨wq.heap.size, 0, none⟩ 1 1 [.int .i64 (L.length : Int)] (by rfl) rfl (news1 _ 3 rfl (by simp)) (one1i _) (by decide) (by unfold maxLen; omega) (by omega) (by simp; omega) _ rfl ?_; intro g2 cap2 w1 hown2 hgrow2 hat2 hlt2; obtain ⟨hp1, hx1, hx2⟩ := (HX3.out.grow ((Below.refl _ _).alloc (Nat.le_refl _) _).drew).pushV (i := L.length) hgrow2 hown2; obtain ⟨a0, a1, a2, b0, b1, b2⟩ := rx_cells hp1; obtain ⟨e0, e1, k0, k1⟩ := xx_cells hx1; have HX2 := Lib.hid hx2; clear hown2 hgrow2 hat2 hlt2 hp1 hx1 hx2))
    all_goals go_wp2
    all_goals go_end0
    all_goals exact ⟨rfl, _, _, HX2.out⟩
end Go.Proofs.YtfoenfipefhpoaaGreatDoor.Ex
/-
  The document's reader: the operator that waits last is applied. Conditions: the reader keeps what it keeps.
-/
namespace Go.Proofs.YtfoenfipefhpoaaGreatDoor.Ex
open Go.RowKit
section
variable {w0 : World} {p x : Nat} {L : List Nd} {is : List Nat} {ws : List Bs} {root : Int} {vL vV vW : Value} {w : World}
theorem value_at {u : Value} {q : Nd} (hX : RX w0 p x L is ws root vL vV vW w) (hL : L.length ≤ 1000) (his : is.length ≤ 1000) (hu : ndV q = u) :
    Calls Tryz.prog 70 #[ptr p, u] w fun e w' => e = .returned (.tuple #[]) ∧ ∃ vL' vV', RX w0 p x (L ++ [q]) (L.length :: is) ws root vL' vV' vW w' := by subst hu; exact value_any hX hL his q
/-- The row of what waits, looked at from above. -/
theorem RX.topW {t : Bs} (h : RX w0 p x L is (t :: ws) root vL vV vW w) : ∃ g cap, vW = .slice (some ⟨g, 0, none⟩) (ws.length + 1) cap ∧ g < w.heap.size ∧ ws.length + 1 ≤ cap ∧ w.cell? ⟨g, ws.length, none⟩ = some (.string ⟨t.toArray⟩) := by
  have r := h.rowW
  rcases r.2 with ⟨_, h1⟩ | ⟨g, cap, cur, rfl, hb, hg, hnc, -⟩
  · simp at h1
  · have k := r.cellAt ws.length (by simp)
    rw [wdCells_cons, List.getElem?_append_right (by rw [wdCells_length]; omega), wdCells_length] at k
    simp [wdC] at k
    exact ⟨g, cap, rfl, lt_of_heap hg, hnc, k⟩
theorem RX.topV {i : Nat} (h : RX w0 p x L (i :: is) ws root vL vV vW w) : ∃ g cap, vV = .slice (some ⟨g, 0, none⟩) (is.length + 1) cap ∧ g < w.heap.size ∧ is.length + 1 ≤ cap ∧ w.cell? ⟨g, is.length, none⟩ = some (.int .i64 i) := by
  have r := h.rowV
  rcases r.2 with ⟨_, h1⟩ | ⟨g, cap, cur, rfl, hb, hg, hnc, -⟩
  · simp at h1
  · have k := r.cellAt is.length (by simp)
    rw [ixCells_cons, List.getElem?_append_right (by rw [ixCells_length]; omega), ixCells_length] at k
    simp [ixC] at k
    exact ⟨g, cap, rfl, lt_of_heap hg, hnc, k⟩
theorem RX.top2 {i j : Nat} (h : RX w0 p x L (j :: i :: is) ws root vL vV vW w) : ∃ g cap, vV = .slice (some ⟨g, 0, none⟩) (is.length + 1 + 1) cap ∧ g < w.heap.size ∧ is.length + 1 + 1 ≤ cap ∧ w.cell? ⟨g, is.length, none⟩ = some (.int .i64 i) ∧ w.cell? ⟨g, is.length + 1, none⟩ = some (.int .i64 j) := by
  have r := h.rowV
  obtain ⟨g, cap, rfl, h1, h2, h3⟩ := h.topV
  have k := r.cellAt is.length (by simp; omega)
  rw [ixCells_cons, List.getElem?_append_left (by rw [ixCells_length]; simp), ixCells_cons, List.getElem?_append_right (by rw [ixCells_length]; omega), ixCells_length] at k
  simp [ixC] at k
  exact ⟨g, cap, rfl, h1, h2, k, h3⟩
/-- The last two values are dropped. -/
theorem RX.popV2 {i j : Nat} {g cap : Nat} (h : RX w0 p x L (j :: i :: is) ws root vL (.slice (some ⟨g, 0, none⟩) (is.length + 1 + 1) cap) vW w) (u : Value) (hu : u = .slice (some ⟨g, 0, none⟩) is.length cap) :
    RX w0 p x L is ws root vL u vW (w.setCell ⟨p, 1, none⟩ u) := by
  subst hu
  have r := h.rowV
  rw [ixCells_cons] at r
  have r1 := ownsRow_pop (n := is.length + 1) (by rw [ixCells_length]; simp) r
  rw [ixCells_cons] at r1
  have r2 := ownsRow_pop (by rw [ixCells_length]) r1
  refine ⟨h.below.setCell h.hp _, h.hp, h.hx, ?_, heap_setCell h.xblk h.px _, ownsRow_setCell_other h.rowL (row_ne h.rowL h.blk (by decide)) _, ownsRow_setCell_other r2 (row_ne r2 h.blk (by decide)) _, ownsRow_setCell_other h.rowW (row_ne h.rowW h.blk (by decide)) _⟩
  rw [heap_setCell_same w p 1 _ _ _ h.blk]; rfl
end
set_option maxRecDepth 20000 in
set_option maxHeartbeats 4000000 in
theorem apply_pre {w0 w : World} {p x i : Nat} {t : ByteArray} {L : List Nd} {is : List Nat} {ws : List Bs} {root : Int} {vL vV vW : Value} (ht : t = ⟨#[126]⟩ ∨ t = ⟨#[33]⟩) (hX : RX w0 p x L (i :: is) (t.data.toList :: ws) root vL vV vW w) (hL : L.length ≤ 1000) (his : is.length ≤ 1000) (hws : ws.length ≤ 1000) :
    Calls Tryz.prog 71 #[ptr p] w fun e w' => e = .returned (.tuple #[]) ∧ ∃ vL' vV' vW', RX w0 p x (L ++ [⟨t.data.toList, 0, i, 0⟩]) (L.length :: is) ws root vL' vV' vW' w' := by
  obtain ⟨gw, cw, rfl, w1, w2, w3⟩ := hX.topW
  have ht2 : (⟨t.data.toList.toArray⟩ : ByteArray) = t := by simp
  rw [ht2] at w3
  clear ht2
  obtain ⟨c0, c1, c2, f0, f1, f2⟩ := rx_cells hX.blk
  have hp := lt_of_heap hX.blk
  have k1 : (ws.length : Int) + 1 ≤ (cw : Int) := by omega
  have k2 : IntKind.i64.wrap (ws.length : Int) = (ws.length : Int) := IntWalk.i64_in _ (by omega)
  have HX := Lib.hid hX
  have HTT := Lib.hid ht
  clear hX ht
  go_enter Tryz.func71, Tryz.ntmps71
  go_upto_region 0 with fail
  go_quiet (fail)
  go_upto_region 1 with fail
  have HXq := Lib.hid (HX.out.drewN nq)
  clear HX c0 c1 c2 f0 f1 f2 w1 w3 hp
  generalize w.drewN nq = wq at HXq ⊢
  obtain ⟨c0, c1, c2, f0, f1, f2⟩ := rx_cells HXq.out.blk
  have hp := lt_of_heap HXq.out.blk
  go_cut [] (fun wx => ∃ vW', RX w0 p x L (i :: is) ws root vL vV vW' wx)
  case first =>
    go_region
    all_goals go_wp2_with fail
    all_goals go_meet
    all_goals exact ⟨_, (HXq.out.grow ((Below.refl _ _).drew)).popW⟩
  case rest =>
    obtain ⟨vW', hx3⟩ := hcut
    rename World => wr
    clear c0 c1 c2 f0 f1 f2 hp HXq k1 k2 w2
    obtain ⟨g, cap, rfl, h1, h2, h3⟩ := hx3.topV
    obtain ⟨c0, c1, c2, f0, f1, f2⟩ := rx_cells hx3.blk
    have hp := lt_of_heap hx3.blk
    have HX3 := Lib.hid hx3
    clear hx3
    rcases HTT.out with rfl | rfl
    · go_wp2_with (go_at_call 70; refine (value_at (q := ⟨[126], 0, i, 0⟩) (HX3.out.popV _ rfl) hL his rfl).mono ?_; rintro e w' ⟨rfl, vL', vV', hx4⟩; have HX4 := Lib.hid hx4; clear hx4)
      refine bodyPost_ret (results_none rfl _ _ _) rfl ?_
      exact ⟨rfl, _, _, _, HX4.out⟩
    · go_wp2_with (go_at_call 70; refine (value_at (q := ⟨[33], 0, i, 0⟩) (HX3.out.popV _ rfl) hL his rfl).mono ?_; rintro e w' ⟨rfl, vL', vV', hx4⟩; have HX4 := Lib.hid hx4; clear hx4)
      refine bodyPost_ret (results_none rfl _ _ _) rfl ?_
      exact ⟨rfl, _, _, _, HX4.out⟩
set_option maxRecDepth 20000 in
set_option maxHeartbeats 4000000 in
theorem apply_bin {w0 w : World} {p x i j : Nat} {t : ByteArray} {L : List Nd} {is : List Nat} {ws : List Bs} {root : Int} {vL vV vW : Value} (ht : t.data.toList ∈ ops) (hX : RX w0 p x L (j :: i :: is) (t.data.toList :: ws) root vL vV vW w) (hL : L.length ≤ 1000) (his : is.length ≤ 1000) (hws : ws.length ≤ 1000) :
    Calls Tryz.prog 71 #[ptr p] w fun e w' => e = .returned (.tuple #[]) ∧ ∃ vL' vV' vW', RX w0 p x (L ++ [⟨t.data.toList, 0, i, j⟩]) (L.length :: is) ws root vL' vV' vW' w' := by
  have q1 : (t.toList == [126]) = false := by
    rw [Lib.toList_data]; rw [beq_eq_false_iff_ne]; intro e; rw [e] at ht; revert ht; decide
  have q2 : (t.toList == [33]) = false := by
    rw [Lib.toList_data]; rw [beq_eq_false_iff_ne]; intro e; rw [e] at ht; revert ht; decide
  obtain ⟨gw, cw, rfl, w1, w2, w3⟩ := hX.topW
  have ht2 : (⟨t.data.toList.toArray⟩ : ByteArray) = t := by simp
  rw [ht2] at w3
  clear ht2
  obtain ⟨c0, c1, c2, f0, f1, f2⟩ := rx_cells hX.blk
  have hp := lt_of_heap hX.blk
  have k1 : (ws.length : Int) + 1 ≤ (cw : Int) := by omega
  have k2 : IntKind.i64.wrap (ws.length : Int) = (ws.length : Int) := IntWalk.i64_in _ (by omega)
  have HX := Lib.hid hX
  clear hX ht
  go_enter Tryz.func71, Tryz.ntmps71
  go_upto_region 0 with fail
  go_quiet (fail)
  go_upto_region 1 with fail
  have HXq := Lib.hid (HX.out.drewN nq)
  clear HX c0 c1 c2 f0 f1 f2 w1 w3 hp
  generalize w.drewN nq = wq at HXq ⊢
  obtain ⟨c0, c1, c2, f0, f1, f2⟩ := rx_cells HXq.out.blk
  have hp := lt_of_heap HXq.out.blk
  go_cut [] (fun wx => ∃ vW', RX w0 p x L (j :: i :: is) ws root vL vV vW' wx)
  case first =>
    go_region
    all_goals go_wp2_with fail
    all_goals go_meet
    all_goals exact ⟨_, (HXq.out.grow ((Below.refl _ _).drew)).popW⟩
  case rest =>
    obtain ⟨vW', hx3⟩ := hcut
    rename World => wr
    clear c0 c1 c2 f0 f1 f2 hp HXq k1 k2 w2
    obtain ⟨g, cap, rfl, h1, h2, h3, h4⟩ := hx3.top2
    obtain ⟨c0, c1, c2, f0, f1, f2⟩ := rx_cells hx3.blk
    have hp := lt_of_heap hx3.blk
    have HX3 := Lib.hid hx3
    clear hx3
    have hu : ndV ⟨t.data.toList, 0, i, j⟩ = .agg #[.string t, .int .i64 0, .int .i64 i, .int .i64 j] := by simp [ndV]
    have HU := Lib.hid hu
    clear hu
    go_wp2_with (go_at_call 70; refine (value_at (HX3.out.popV2 _ rfl) hL his HU.out).mono ?_; rintro e w' ⟨rfl, vL', vV', hx4⟩; have HX4 := Lib.hid hx4; clear hx4)
    go_end0
    exact ⟨rfl, _, _, _, HX4.out⟩
end Go.Proofs.YtfoenfipefhpoaaGreatDoor.Ex
/-
  The document's reader holds the same machine: its parts are trees by their numbers. Conditions: as the statements say.
-/
namespace Go.Proofs.YtfoenfipefhpoaaGreatDoor.Ex
open Go.RowKit
def wtx (q : Bs × Nat) : Bs := if q.1 = [45] ∧ q.2 = 6 then [126] else q.1
def pre1 (s : Bs) : Bs := if s = [45] then [126] else s
theorem wtx_rank {q : Bs × Nat} (h : WOK q) : rankOf (wtx q) = q.2 := by
  obtain ⟨t, l⟩ := q
  rcases h with ⟨h1, h2⟩ | ⟨h1, h2 | h2⟩ | ⟨h1, h2, h3, h4⟩
  · simp only at h1 h2; subst h1 h2; rfl
  · simp only at h1 h2; subst h1 h2; rfl
  · simp only at h1 h2; subst h1 h2; rfl
  · simp only at h1 h2 h3 h4
    have e : wtx (t, l) = t := by unfold wtx; rw [if_neg (fun e => by simp only at e; omega)]
    rw [e, h4]
    unfold rankOf
    rw [if_neg]
    rintro (e | e) <;> (subst e; revert h3; decide)
theorem wtx_open {q : Bs × Nat} (h : WOK q) : (wtx q = [40]) ↔ q.2 = 0 := by
  obtain ⟨t, l⟩ := q
  rcases h with ⟨h1, h2⟩ | ⟨h1, h2 | h2⟩ | ⟨h1, h2, h3, h4⟩
  · simp only at h1 h2; subst h1 h2; decide
  · simp only at h1 h2; subst h1 h2; decide
  · simp only at h1 h2; subst h1 h2; decide
  · simp only at h1 h2 h3 h4
    have e : wtx (t, l) = t := by unfold wtx; rw [if_neg (fun e => by simp only at e; omega)]
    rw [e]
    refine ⟨fun e => by subst e; exact absurd h3 (by decide), fun e => by simp only at e; omega⟩
/-- A part stands for a tree, its parts for the tree's. -/
def Fit (Ts : List Tree) (i : Nat) (nd : Nd) : Tree → Prop
  | .num k => nd.op = [48] ∧ nd.n = k
  | .name c => nd.op = [c]
  | .pre s a => nd.op = pre1 s ∧ nd.l < i ∧ Ts[nd.l]? = some a
  | .bin s a b => nd.op = s ∧ nd.l < i ∧ nd.r < i ∧ Ts[nd.l]? = some a ∧ Ts[nd.r]? = some b
theorem get_more {Ts : List Tree} {i : Nat} {T : Tree} (h : Ts[i]? = some T) (M : List Tree) : (Ts ++ M)[i]? = some T := by
  have := (List.getElem?_eq_some_iff.1 h).1
  rw [List.getElem?_append_left this]; exact h
theorem Fit.more {Ts : List Tree} {i : Nat} {nd : Nd} : ∀ {T : Tree}, Fit Ts i nd T → ∀ M, Fit (Ts ++ M) i nd T
  | .num _, h, _ => h
  | .name _, h, _ => h
  | .pre _ _, ⟨a, b, c⟩, M => ⟨a, b, get_more c M⟩
  | .bin _ _ _, ⟨a, b, c, d, e⟩, M => ⟨a, b, c, get_more d M, get_more e M⟩
structure Good (L : List Nd) (Ts : List Tree) : Prop where
  len : L.length = Ts.length
  wf : ∀ T ∈ Ts, T.WF
  fit : ∀ i nd T, L[i]? = some nd → Ts[i]? = some T → Fit Ts i nd T
  small : ∀ T ∈ Ts, T.size ≤ 64
theorem Good.push {L : List Nd} {Ts : List Tree} (h : Good L Ts) {nd : Nd} {T : Tree} (hT : T.WF) (hz : T.size ≤ 64) (hf : Fit Ts L.length nd T) : Good (L ++ [nd]) (Ts ++ [T]) where
  len := by simp [h.len]
  wf := fun U hU => by
    simp only [List.mem_append, List.mem_singleton] at hU
    rcases hU with hU | rfl
    · exact h.wf U hU
    · exact hT
  fit := fun i md U h1 h2 => by
    by_cases hi : i < L.length
    · rw [List.getElem?_append_left hi] at h1
      rw [List.getElem?_append_left (by rw [← h.len]; exact hi)] at h2
      exact (h.fit i md U h1 h2).more _
    · have : i < (L ++ [nd]).length := (List.getElem?_eq_some_iff.1 h1).1
      have e : i = L.length := by simp at this; omega
      subst e
      rw [List.getElem?_append_right (Nat.le_refl _)] at h1
      rw [List.getElem?_append_right (by rw [h.len]; exact Nat.le_refl _), h.len] at h2
      simp at h1 h2
      subst h1 h2
      exact hf.more _
  small := fun U hU => by
    simp only [List.mem_append, List.mem_singleton] at hU
    rcases hU with hU | rfl
    · exact h.small U hU
    · exact hz
def At (Ts : List Tree) : List Nat → List Tree → Prop
  | [], [] => True
  | i :: is, T :: r => Ts[i]? = some T ∧ At Ts is r
  | _, _ => False
theorem At.more {Ts : List Tree} : ∀ {is : List Nat} {r : List Tree}, At Ts is r → ∀ M, At (Ts ++ M) is r
  | [], [], _, _ => trivial
  | _ :: _, _ :: _, ⟨a, b⟩, M => ⟨get_more a M, At.more b M⟩
theorem At.len {Ts : List Tree} : ∀ {is : List Nat} {r : List Tree}, At Ts is r → is.length = r.length
  | [], [], _ => rfl
  | _ :: _, _ :: _, ⟨_, b⟩ => by simp [At.len b]
theorem get_new (Ts : List Tree) (T : Tree) {n : Nat} (h : n = Ts.length) : (Ts ++ [T])[n]? = some T := by subst h; simp
/-- The reader holds the machine's state. -/
def RM (w0 : World) (p x : Nat) (s : St) (w : World) : Prop :=
  ∃ L Ts is vL vV vW, RX w0 p x L is (s.waits.map wtx) 0 vL vV vW w ∧ Good L Ts ∧ At Ts is s.vals ∧ L.length = tot s.vals
theorem RM.grow {w0 w w' : World} {p x : Nat} {s : St} (h : RM w0 p x s w) (hb : Below w.heap.size w w') : RM w0 p x s w' := by
  obtain ⟨L, Ts, is, vL, vV, vW, hx, h1, h2, h3⟩ := h
  exact ⟨L, Ts, is, vL, vV, vW, hx.grow hb, h1, h2, h3⟩
theorem RM.drewN {w0 w : World} {p x : Nat} {s : St} (h : RM w0 p x s w) (n : Nat) : RM w0 p x s (w.drewN n) := h.grow ⟨rfl, rfl, rfl, Nat.le_refl _, fun _ _ => rfl⟩
/-- The operator that waits last is applied. -/
theorem apply_any {w0 w : World} {p x : Nat} {s : St} (h : RM w0 p x s w) (hi : s.Inv) (hc : s.complete = true) {t : Bs} {l : Nat} {ws : List (Bs × Nat)} (hw : s.waits = (t, l) :: ws) (h0 : l ≠ 0) (hn : ws.length ≤ 1000) :
    Calls Tryz.prog 71 #[ptr p] w fun e w' => e = .returned (.tuple #[]) ∧ RM w0 p x { s with vals := app t l s.vals, waits := ws } w' ∧ ({ s with vals := app t l s.vals, waits := ws } : St).Inv := by
  obtain ⟨L, Ts, is, vL, vV, vW, hx, hg, ha, hl⟩ := h
  have h64 : L.length ≤ 64 := by have := hi.few; omega
  by_cases h6 : l = 6
  · subst h6
    obtain ⟨T, r, hv, ht, hi2⟩ := inv_pre hi hc hw
    rw [hv] at ha hl
    obtain ⟨i, is, rfl⟩ : ∃ i js, is = i :: js := by cases is with | nil => exact ha.elim | cons i js => exact ⟨i, js, rfl⟩
    obtain ⟨a1, a2⟩ := ha
    have hlen := a2.len
    have hr : r.length ≤ 64 := by have := tot_len r; simp only [tot] at hl; omega
    have e : wtx (t, 6) = pre1 t := by unfold wtx pre1; simp
    have hpt : (⟨(pre1 t).toArray⟩ : ByteArray) = ⟨#[126]⟩ ∨ (⟨(pre1 t).toArray⟩ : ByteArray) = ⟨#[33]⟩ := by
      rcases ht with rfl | rfl
      · exact .inl rfl
      · exact .inr rfl
    rw [hw, List.map_cons, e] at hx
    have hTW : T.WF := hi.wf T (by rw [hv]; simp)
    refine (apply_pre (t := ⟨(pre1 t).toArray⟩) hpt (by simpa using hx) (by omega) (by omega) (by simpa using hn)).mono ?_
    rintro e w' ⟨rfl, vL', vV', vW', hx'⟩
    have eapp : app t 6 s.vals = .pre t T :: r := by rw [hv]; rfl
    rw [eapp]
    refine ⟨rfl, ⟨_, Ts ++ [.pre t T], _, vL', vV', vW', hx', ?_, ⟨get_new _ _ hg.len, a2.more _⟩, ?_⟩, hi2⟩
    · exact hg.push ⟨ht, hTW⟩ (by have := hi2.few; simp only [tot] at this; omega) ⟨by simp, by rw [hg.len]; exact (List.getElem?_eq_some_iff.1 a1).1, a1⟩
    · simp only [List.length_append, List.length_singleton, tot, Tree.size] at hl ⊢; omega
  · obtain ⟨B, A, r, hv, ht, hi2⟩ := inv_bin hi hc hw h0 h6
    rw [hv] at ha hl
    obtain ⟨j, i, is, rfl⟩ : ∃ j i js, is = j :: i :: js := by
      cases is with
      | nil => exact ha.elim
      | cons j js =>
        cases js with
        | nil => exact ha.2.elim
        | cons i js => exact ⟨j, i, js, rfl⟩
    obtain ⟨a1, a2, a3⟩ := ha
    have hlen := a3.len
    have hr : r.length ≤ 64 := by have := tot_len r; simp only [tot] at hl; omega
    have e : wtx (t, l) = t := by unfold wtx; rw [if_neg (fun e => h6 e.2)]
    rw [hw, List.map_cons, e] at hx
    have hAW : A.WF := hi.wf A (by rw [hv]; simp)
    have hBW : B.WF := hi.wf B (by rw [hv]; simp)
    refine (apply_bin (t := ⟨t.toArray⟩) (by simpa using ht) (by simpa using hx) (by omega) (by omega) (by simpa using hn)).mono ?_
    rintro e w' ⟨rfl, vL', vV', vW', hx'⟩
    have eapp : app t l s.vals = .bin t A B :: r := by rw [hv]; simp [app, h6]
    rw [eapp]
    refine ⟨rfl, ⟨_, Ts ++ [.bin t A B], _, vL', vV', vW', hx', ?_, ⟨get_new _ _ hg.len, a3.more _⟩, ?_⟩, hi2⟩
    · exact hg.push ⟨ht, hAW, hBW⟩ (by have := hi2.few; simp only [tot] at this; omega) ⟨by simp, by rw [hg.len]; exact (List.getElem?_eq_some_iff.1 a2).1, by rw [hg.len]; exact (List.getElem?_eq_some_iff.1 a1).1, a2, a1⟩
    · simp only [List.length_append, List.length_singleton, tot, Tree.size] at hl ⊢; omega
end Go.Proofs.YtfoenfipefhpoaaGreatDoor.Ex
/-
  The document's reader: all that binds as much is applied. Conditions: the reader keeps what it keeps, a value is complete.
-/
namespace Go.Proofs.YtfoenfipefhpoaaGreatDoor.Ex
open Go.RowKit
/-- The state of the loop: what is left to be joined gives what was to be. -/
def DR (w0 : World) (p x level : Nat) (s : St) (k : Nat) (w : World) : Prop :=
  k ≤ 1000 ∧ ∃ st, RM w0 p x st w ∧ st.Inv ∧ st.complete = true ∧ st.opn = s.opn ∧ st.parts = s.parts ∧ joinL level st.vals st.waits = joinL level s.vals s.waits ∧ st.waits.length = k
theorem DR.done {w0 : World} {p x level : Nat} {s : St} {w : World} {st : St} (h : RM w0 p x st w) (hc : st.complete = true) (h1 : st.opn = s.opn) (h2 : st.parts = s.parts)
    (hj : joinL level st.vals st.waits = joinL level s.vals s.waits) (hs : joinL level st.vals st.waits = (st.vals, st.waits)) (hsc : s.complete = true) : RM w0 p x (s.join level) w := by
  have e : s.join level = st := by
    unfold St.join
    rw [← hj, hs, ← h1, ← h2, hsc, ← hc]
  rw [e]; exact h
theorem rank_q {s : ByteArray} {r : Nat} (h : rankOf s.data.toList = r) (W : World) (k : Nat) : Calls Tryz.prog 59 #[.string s] (W.drewN k) fun e w' => e = .returned (.int .i64 (r : Nat)) ∧ ∃ m, w' = W.drewN m :=
  (rank_at s (W.drewN k) h).mono fun _ _ ⟨a, b⟩ => ⟨a, k, b.symm⟩
set_option maxRecDepth 20000 in
set_option maxHeartbeats 4000000 in
theorem down_any {w0 w : World} {p x level : Nat} {s : St} (h : RM w0 p x s w) (hi : s.Inv) (hc : s.complete = true) (hl1 : 1 ≤ level) (hl6 : level ≤ 6) (hn : s.waits.length ≤ 1000) :
    Calls Tryz.prog 61 #[ptr p, .int .i64 level] w fun e w' => e = .returned (.tuple #[]) ∧ RM w0 p x (s.join level) w' := by
  have HS : Hid (DR w0 p x level s s.waits.length w) := Lib.hid ⟨hn, s, h, hi, hc, rfl, rfl, rfl, rfl⟩
  have HC := Lib.hid hc
  clear h hi hc
  go_enter Tryz.func61, Tryz.ntmps61
  go_wp2
  go_loopg [] s.waits.length (fun k wr => DR w0 p x level s k wr)
  case atStart => exact HS.out
  case round =>
    obtain ⟨hk1, st, hm, hi, hc, h1, h2, hj, hk⟩ := hrel
    match hw : st.waits, hk with
    | [], hk =>
      have H : Hid (∀ n, RM w0 p x (s.join level) (wr.drewN n)) := Lib.hid fun n => DR.done (hm.drewN n) hc h1 h2 hj (by rw [hw]; rfl) HC.out
      obtain ⟨L, Ts, is, vL, vV, vW, hx, hg, ha, hl⟩ := hm
      have hv : vW = .slice none 0 0 ∨ ∃ g cap, vW = .slice (some ⟨g, 0, none⟩) 0 cap := by
        have r := hx.rowW
        rw [hw] at r
        rcases r.2 with ⟨e, _⟩ | ⟨g, cap, _, e, _⟩
        · exact .inl e
        · exact .inr ⟨g, cap, e⟩
      obtain ⟨c0, c1, c2, f0, f1, f2⟩ := rx_cells hx.blk
      have hp := lt_of_heap hx.blk
      clear hx hi hc h1 h2 hj hw hk hg ha hl
      rcases hv with rfl | ⟨g, cap, rfl⟩
      all_goals
        go_wp2_with fail
        go_quiet (fail)
        go_wp2
        go_end0
        exact ⟨rfl, H.out _⟩
    | (t, l) :: ws, hk =>
      have hws : ws.length ≤ 1000 := by simp at hk; omega
      have hwok := hi.ws (t, l) (by rw [hw]; simp)
      have hrk := wtx_rank hwok
      have hop := wtx_open hwok
      simp only at hrk hop
      obtain ⟨L, Ts, is, vL, vV, vW, hx, hg, ha, hl⟩ := hm
      have HM : Hid (RM w0 p x st wr) := Lib.hid ⟨L, Ts, is, vL, vV, vW, hx, hg, ha, hl⟩
      have hx' := hx
      rw [hw, List.map_cons] at hx'
      obtain ⟨g, cap, rfl, hgw, hnc, hcell⟩ := hx'.topW
      rw [List.length_map] at hnc hcell
      obtain ⟨o, ho⟩ : ∃ o : ByteArray, o = ⟨(wtx (t, l)).toArray⟩ := ⟨_, rfl⟩
      have hol : o.data.toList = wtx (t, l) := by rw [ho]
      rw [← ho] at hcell
      rw [← hol] at hrk hop
      clear ho
      obtain ⟨c0, c1, c2, f0, f1, f2⟩ := rx_cells hx.blk
      simp only [List.length_map] at c2
      have hp := lt_of_heap hx.blk
      have k2 : IntKind.i64.wrap (ws.length : Int) = (ws.length : Int) := IntWalk.i64_in _ (by omega)
      have HRK := Lib.hid hrk
      clear hx hx' hg ha hl hrk hol
      by_cases hle : level ≤ l
      · have hl0 : l ≠ 0 := by omega
        have q1 : (o.toList == [40]) = false := by
          rw [Lib.toList_data]; rw [beq_eq_false_iff_ne]; intro e; exact hl0 (hop.1 e)
        have q2 : (o.toList != [40]) = true := by rw [bne, q1]; rfl
        have q3 : (level : Int) ≤ (l : Int) := by omega
        have HF := Lib.hid (And.intro hi (And.intro hc (And.intro h1 (And.intro h2 (And.intro hj (And.intro hw hl0))))))
        have HK := Lib.hid hk
        clear hop hi hc h1 h2 hj hw hk hwok
        go_wp2_with fail
        go_quiet (first | (with_reducible exact rank_q HRK.out _ _))
        go_wp2_with (go_at_call 71; refine (apply_any (HM.out.drewN nq) HF.out.1 HF.out.2.1 HF.out.2.2.2.2.2.1 HF.out.2.2.2.2.2.2 hws).mono ?_; rintro e w1 ⟨rfl, hm1, hi1⟩; have HM1 := Lib.hid (And.intro hm1 hi1); clear hm1 hi1)
        go_roundg ws.length
        case measure => have := HK.out; simp at this; omega
        case rel =>
          obtain ⟨hi, hc, h1, h2, hj, hw, hl0⟩ := HF.out
          refine ⟨hws, _, HM1.out.1, HM1.out.2, hc, h1, h2, ?_, rfl⟩
          rw [← hj, hw]
          conv => rhs; unfold joinL
          rw [if_pos hle]
      · have H : Hid (∀ n, RM w0 p x (s.join level) (wr.drewN n)) := Lib.hid fun n => DR.done (HM.out.drewN n) hc h1 h2 hj (by rw [hw, joinL_stop hle]) HC.out
        clear hi hc h1 h2 hj hk hw hwok
        by_cases hl0 : l = 0
        · have q1 : (o.toList == [40]) = true := by
            rw [Lib.toList_data]; simpa using hop.2 hl0
          have q2 : (o.toList != [40]) = false := by rw [bne, q1]; rfl
          clear hop
          go_wp2_with fail
          go_quiet (fail)
          go_wp2
          go_end0
          exact ⟨rfl, H.out _⟩
        · have q1 : (o.toList == [40]) = false := by
            rw [Lib.toList_data]; rw [beq_eq_false_iff_ne]; intro e; exact hl0 (hop.1 e)
          have q2 : (o.toList != [40]) = true := by rw [bne, q1]; rfl
          have q3 : ¬ (level : Int) ≤ (l : Int) := by omega
          have q4 : (l : Int) < (level : Int) := by omega
          clear hop
          go_wp2_with fail
          go_quiet (first | (with_reducible exact rank_q HRK.out _ _))
          go_wp2
          go_end0
          exact ⟨rfl, H.out _⟩
end Go.Proofs.YtfoenfipefhpoaaGreatDoor.Ex
/-
  The document's reader: a word is taken that may stand there. Conditions: the reader keeps what it keeps.
-/
namespace Go.Proofs.YtfoenfipefhpoaaGreatDoor.Ex
open Go.RowKit
theorem RM.same {w0 w : World} {p x : Nat} {s s' : St} (h : RM w0 p x s w) (hv : s'.vals = s.vals) (hw : s'.waits = s.waits) : RM w0 p x s' w := by
  obtain ⟨L, Ts, is, vL, vV, vW, hx, h1, h2, h3⟩ := h
  exact ⟨L, Ts, is, vL, vV, vW, by rw [hw]; exact hx, h1, by rw [hv]; exact h2, by rw [hv]; exact h3⟩
theorem numVal_next {l : Bs} {k : Nat} (h : k < l.length) : numVal (l.take (k + 1)) = 10 * numVal (l.take k) + (l[k].toNat - 48) := by
  unfold numVal
  rw [List.take_succ_eq_append_getElem h, List.foldl_append]; rfl
theorem numVal_take {l : Bs} {k : Nat} (h : ∀ c ∈ l, isDig c = true) (hk : k ≤ 17) : numVal (l.take k) < 100000000000000000 := by
  have h1 := numVal_lt (l.take k) 0 (fun c hc => h c (List.mem_of_mem_take hc))
  have h2 : (l.take k).length ≤ 17 := by rw [List.length_take]; omega
  have h3 : 10 ^ (l.take k).length ≤ 10 ^ 17 := Nat.pow_le_pow_right (by decide) h2
  unfold numVal
  omega
theorem news1p {w W : World} (a : Value) (t : TypeId) (hW : W = w.alloc (.cells #[a] t)) {n : Nat} (hn : n = w.heap.size) : ∀ j u, [a][j]? = some u → W.cell? ((⟨n, 0, none⟩ : Addr).add j) = some u := by
  subst hW hn
  intro j u hj
  match j, hj with
  | 0, hj => simp at hj; subst hj; simp [Addr.add]
  | j + 1, hj => simp at hj
section
variable {w0 w : World} {p x : Nat} {t : ByteArray} {L : List Nd} {is : List Nat} {ws : List Bs} {root : Int} {vL vV vW : Value}
set_option maxRecDepth 20000 in
set_option maxHeartbeats 4000000 in
theorem take_num (hX : RX w0 p x L is ws root vL vV vW w) (hL : L.length ≤ 1000) (his : is.length ≤ 1000) (h0 : 0 < t.size) (h18 : t.size ≤ 18) (hd : ∀ c ∈ t.data.toList, isDig c = true) (b : Bool) :
    Calls Tryz.prog 60 #[ptr p, .string t, .bool b] w fun e w' => e = .returned (.tuple #[]) ∧ ∃ vL' vV', RX w0 p x (L ++ [⟨[48], (numVal t.data.toList : Nat), 0, 0⟩]) (L.length :: is) ws root vL' vV' vW w' := by
  have hd0 : isDig t[0] = true := hd _ (by show t.data.toList[0] ∈ _; exact List.getElem_mem _)
  have HD := Lib.hid hd
  have HX := Lib.hid hX
  clear hd hX
  go_enter Tryz.func60, Tryz.ntmps60
  go_wp2_with (go_at_call 58; (with_reducible refine (rdigit_any _ _).mono ?_); rintro e w' ⟨rfl, rfl⟩)
  go_loop [6, 7] (fun n i => ∃ k : Nat, k ≤ t.size ∧ i = .int .i64 k ∧ n = .int .i64 (numVal (t.data.toList.take k) : Nat)) (fun _ i => t.size - (intOf i).toNat)
  case atStart => exact ⟨0, Nat.zero_le _, rfl, rfl⟩
  case round =>
    obtain ⟨k, hk, rfl, rfl⟩ := hrel
    by_cases hlt : k < t.size
    · have hnx := numVal_next (l := t.data.toList) (k := k) (by simpa using hlt)
      have hb := numVal_take HD.out (k := k) (by omega)
      obtain ⟨m, hm⟩ : ∃ m, numVal (t.data.toList.take k) = m := ⟨_, rfl⟩
      rw [hm] at hnx hb ⊢
      have hdk : isDig t[k] = true := HD.out _ (by show t.data.toList[k] ∈ _; exact List.getElem_mem _)
      simp only [isDig, Bool.and_eq_true, decide_eq_true_eq] at hdk
      obtain ⟨d1, d2⟩ := hdk
      have hnx2 : numVal (t.data.toList.take (k + 1)) = 10 * m + (t[k].toNat - 48) := hnx
      have HN := Lib.hid hnx2
      clear hnx hnx2 hm
      go_wp2
      go_round
      case rel => exact ⟨k + 1, by omega, by go_num, by rw [HN.out]; go_num⟩
      case measure => simp [intOf]; omega
    · have e : k = t.size := by omega
      subst e
      have e2 : t.data.toList.take t.size = t.data.toList := List.take_of_length_le (by simp)
      rw [e2]
      clear e2
      go_wp2_with (go_at_call 70; refine (value_at (q := ⟨[48], (numVal t.data.toList : Nat), 0, 0⟩) HX.out hL his rfl).mono ?_; rintro e w' ⟨rfl, vL', vV', hx4⟩; have HX4 := Lib.hid hx4; clear hx4)
      go_end0
      exact ⟨rfl, _, _, HX4.out⟩
set_option maxRecDepth 20000 in
set_option maxHeartbeats 4000000 in
theorem take_name (hX : RX w0 p x L is ws root vL vV vW w) (hL : L.length ≤ 1000) (his : is.length ≤ 1000) (h0 : 0 < t.size) (hd : isDig t[0] = false) (hl : isLet t[0] = true) (b : Bool) :
    Calls Tryz.prog 60 #[ptr p, .string t, .bool b] w fun e w' => e = .returned (.tuple #[]) ∧ ∃ vL' vV', RX w0 p x (L ++ [⟨t.data.toList, 0, 0, 0⟩]) (L.length :: is) ws root vL' vV' vW w' := by
  have HX := Lib.hid hX
  clear hX
  have hu : ndV ⟨t.data.toList, 0, 0, 0⟩ = .agg #[.string t, .int .i64 0, .int .i64 0, .int .i64 0] := by simp [ndV]
  have HU := Lib.hid hu
  clear hu
  go_enter Tryz.func60, Tryz.ntmps60
  go_wp2_with (first
    | (go_at_call 58; (with_reducible refine (rdigit_any _ _).mono ?_); rintro e w' ⟨rfl, rfl⟩)
    | (go_at_call 69; (with_reducible refine (rletter_any _ _).mono ?_); rintro e w' ⟨rfl, rfl⟩)
    | (go_at_call 70; refine (value_at HX.out hL his HU.out).mono ?_; rintro e w' ⟨rfl, vL', vV', hx4⟩; have HX4 := Lib.hid hx4; clear hx4))
  go_end0
  exact ⟨rfl, _, _, HX4.out⟩
set_option maxRecDepth 20000 in
set_option maxHeartbeats 4000000 in
theorem take_open (hX : RX w0 p x L is ws root vL vV vW w) (hws : ws.length ≤ 1000) (h0 : 0 < t.size) (hd : isDig t[0] = false) (hl : isLet t[0] = false) (q40 : (t.toList == [40]) = true) (b : Bool) :
    Calls Tryz.prog 60 #[ptr p, .string t, .bool b] w fun e w' => e = .returned (.tuple #[]) ∧ ∃ vW', RX w0 p x L is ([40] :: ws) root vL vV vW' w' := by
  obtain ⟨i9, hi9, hy0, hy1, hy2⟩ := info_parts info9
  obtain ⟨c0, c1, c2, f0, f1, f2⟩ := rx_cells hX.blk
  have hp := lt_of_heap hX.blk
  have hB : w0.heap.size ≤ w.heap.size := hX.below.size
  have HX := Lib.hid hX
  clear hX
  go_enter Tryz.func60, Tryz.ntmps60
  go_wp2_with (first
    | (go_at_call 58; (with_reducible refine (rdigit_any _ _).mono ?_); rintro e w' ⟨rfl, rfl⟩)
    | (go_at_call 69; (with_reducible refine (rletter_any _ _).mono ?_); rintro e w' ⟨rfl, rfl⟩)
    | (refine wpList_append_lies _ (by rfl) (.tmp 59) (.tmp 60) 39 (by rfl) w0.heap.size 9 i9 (.string ⟨#[]⟩) 1 16 Tryz.underlying39 hi9 hy0 hy1 hy2 rfl (by decide) vW ws.length (wdCells ws) (by rfl) (ownsRow_below HX.out.rowW ((Below.refl _ _).alloc (Nat.le_refl _) _)) ⟨w.heap.size, 0, none⟩ 1 1 [.string ⟨#[40]⟩] (by rfl) rfl (news1p _ 9 rfl (by simp)) (one1s _) (by decide) (by unfold maxLen; omega) (by omega) (by simp; omega) _ rfl ?_; intro g2 cap2 w1 hown2 hgrow2 hat2 hlt2; obtain ⟨hp1, hx1, hx2⟩ := (HX.out.grow ((Below.refl _ _).alloc (Nat.le_refl _) _)).pushW (t := [40]) hgrow2 hown2; obtain ⟨a0, a1, a2, b0, b1, b2⟩ := rx_cells hp1; have hpz := lt_of_heap hp1; have HX2 := Lib.hid hx2; clear hown2 hgrow2 hat2 hlt2 hp1 hx1 hx2))
  go_end0
  exact ⟨rfl, _, HX2.out⟩
set_option maxRecDepth 20000 in
set_option maxHeartbeats 4000000 in
theorem take_minus (hX : RX w0 p x L is ws root vL vV vW w) (hws : ws.length ≤ 1000) (h0 : 0 < t.size) (hd : isDig t[0] = false) (hl : isLet t[0] = false) (q40 : (t.toList == [40]) = false) (q41 : (t.toList == [41]) = false) (q45 : (t.toList == [45]) = true)  :
    Calls Tryz.prog 60 #[ptr p, .string t, .bool true] w fun e w' => e = .returned (.tuple #[]) ∧ ∃ vW', RX w0 p x L is ([126] :: ws) root vL vV vW' w' := by
  obtain ⟨i9, hi9, hy0, hy1, hy2⟩ := info_parts info9
  obtain ⟨c0, c1, c2, f0, f1, f2⟩ := rx_cells hX.blk
  have hp := lt_of_heap hX.blk
  have hB : w0.heap.size ≤ w.heap.size := hX.below.size
  have HX := Lib.hid hX
  clear hX
  go_enter Tryz.func60, Tryz.ntmps60
  go_wp2_with (first
    | (go_at_call 58; (with_reducible refine (rdigit_any _ _).mono ?_); rintro e w' ⟨rfl, rfl⟩)
    | (go_at_call 69; (with_reducible refine (rletter_any _ _).mono ?_); rintro e w' ⟨rfl, rfl⟩)
    | (refine wpList_append_lies _ (by rfl) (.tmp 93) (.tmp 94) 39 (by rfl) w0.heap.size 9 i9 (.string ⟨#[]⟩) 1 16 Tryz.underlying39 hi9 hy0 hy1 hy2 rfl (by decide) vW ws.length (wdCells ws) (by rfl) (ownsRow_below HX.out.rowW ((Below.refl _ _).alloc (Nat.le_refl _) _)) ⟨w.heap.size, 0, none⟩ 1 1 [.string ⟨#[126]⟩] (by rfl) rfl (news1p _ 9 rfl (by simp)) (one1s _) (by decide) (by unfold maxLen; omega) (by omega) (by simp; omega) _ rfl ?_; intro g2 cap2 w1 hown2 hgrow2 hat2 hlt2; obtain ⟨hp1, hx1, hx2⟩ := (HX.out.grow ((Below.refl _ _).alloc (Nat.le_refl _) _)).pushW (t := [126]) hgrow2 hown2; obtain ⟨a0, a1, a2, b0, b1, b2⟩ := rx_cells hp1; have hpz := lt_of_heap hp1; have HX2 := Lib.hid hx2; clear hown2 hgrow2 hat2 hlt2 hp1 hx1 hx2))
  go_end0
  exact ⟨rfl, _, HX2.out⟩
set_option maxRecDepth 20000 in
set_option maxHeartbeats 4000000 in
theorem take_not (hX : RX w0 p x L is ws root vL vV vW w) (hws : ws.length ≤ 1000) (h0 : 0 < t.size) (hd : isDig t[0] = false) (hl : isLet t[0] = false) (q40 : (t.toList == [40]) = false) (q41 : (t.toList == [41]) = false) (q45 : (t.toList == [45]) = false)  :
    Calls Tryz.prog 60 #[ptr p, .string t, .bool true] w fun e w' => e = .returned (.tuple #[]) ∧ ∃ vW', RX w0 p x L is (t.data.toList :: ws) root vL vV vW' w' := by
  obtain ⟨i9, hi9, hy0, hy1, hy2⟩ := info_parts info9
  obtain ⟨c0, c1, c2, f0, f1, f2⟩ := rx_cells hX.blk
  have hp := lt_of_heap hX.blk
  have hB : w0.heap.size ≤ w.heap.size := hX.below.size
  have HX := Lib.hid hX
  clear hX
  go_enter Tryz.func60, Tryz.ntmps60
  go_wp2_with (first
    | (go_at_call 58; (with_reducible refine (rdigit_any _ _).mono ?_); rintro e w' ⟨rfl, rfl⟩)
    | (go_at_call 69; (with_reducible refine (rletter_any _ _).mono ?_); rintro e w' ⟨rfl, rfl⟩)
    | (refine wpList_append_lies _ (by rfl) (.tmp 104) (.tmp 106) 39 (by rfl) w0.heap.size 9 i9 (.string ⟨#[]⟩) 1 16 Tryz.underlying39 hi9 hy0 hy1 hy2 rfl (by decide) vW ws.length (wdCells ws) (by rfl) (ownsRow_below HX.out.rowW ((Below.refl _ _).alloc (Nat.le_refl _) _)) ⟨w.heap.size, 0, none⟩ 1 1 [.string t] (by rfl) rfl (news1p _ 9 rfl (by simp)) (one1s _) (by decide) (by unfold maxLen; omega) (by omega) (by simp; omega) _ rfl ?_; intro g2 cap2 w1 hown2 hgrow2 hat2 hlt2; obtain ⟨hp1, hx1, hx2⟩ := (HX.out.grow ((Below.refl _ _).alloc (Nat.le_refl _) _)).pushW (t := t.data.toList) hgrow2 (by simpa [wdC] using hown2); obtain ⟨a0, a1, a2, b0, b1, b2⟩ := rx_cells hp1; have hpz := lt_of_heap hp1; have HX2 := Lib.hid hx2; clear hown2 hgrow2 hat2 hlt2 hp1 hx1 hx2))
  go_end0
  exact ⟨rfl, _, HX2.out⟩
end
end Go.Proofs.YtfoenfipefhpoaaGreatDoor.Ex
