/-
  The document's reader: the operator that waits last is applied. Conditions: the reader keeps what it keeps.
-/
import Derived.Test.YtlkaaembeakicaaDoorRValue
import Derived.BigQuiet
namespace Go.Proofs.YtlkaaembeakicaaDoor.Ex
open Go.RowKit
section
variable {w0 : World} {p x : Nat} {L : List Nd} {is : List Nat} {ws : List Bs} {root : Int} {vL vV vW : Value} {w : World}
theorem value_at {u : Value} {q : Nd} (hX : RX w0 p x L is ws root vL vV vW w) (hL : L.length ≤ 1000) (his : is.length ≤ 1000) (hu : ndV q = u) :
    Calls Tryd.prog 35 #[ptr p, u] w fun e w' => e = .returned (.tuple #[]) ∧ ∃ vL' vV', RX w0 p x (L ++ [q]) (L.length :: is) ws root vL' vV' vW w' := by subst hu; exact value_any hX hL his q
/-- The row of what waits, looked at from above. -/
theorem RX.topW {t : Bs} (h : RX w0 p x L is (t :: ws) root vL vV vW w) : ∃ g cap, vW = .slice (some ⟨g, 0, none⟩) (ws.length + 1) cap ∧ g < w.heap.size ∧ ws.length + 1 ≤ cap ∧ w.cell? ⟨g, ws.length, none⟩ = some (.string ⟨t.toArray⟩) := by
  have r := h.rowW
  rcases r.2 with ⟨_, h1⟩ | ⟨g, cap, cur, rfl, hb, hg, hnc, -⟩
  · simp at h1
  · have k := r.cellAt ws.length (by simp)
    rw [wdCells_cons, List.getElem?_append_right (by rw [wdCells_length]; omega), wdCells_length] at k
    simp [wdC] at k
    exact ⟨g, cap, rfl, lt_of_heap hg, hnc, k⟩
theorem RX.topV {i : Nat} (h : RX w0 p x L (i :: is) ws root vL vV vW w) : ∃ g cap, vV = .slice (some ⟨g, 0, none⟩) (is.length + 1) cap ∧ g < w.heap.size ∧ is.length + 1 ≤ cap ∧ w.cell? ⟨g, is.length, none⟩ = some (.int .i64 i) := by
  have r := h.rowV
  rcases r.2 with ⟨_, h1⟩ | ⟨g, cap, cur, rfl, hb, hg, hnc, -⟩
  · simp at h1
  · have k := r.cellAt is.length (by simp)
    rw [ixCells_cons, List.getElem?_append_right (by rw [ixCells_length]; omega), ixCells_length] at k
    simp [ixC] at k
    exact ⟨g, cap, rfl, lt_of_heap hg, hnc, k⟩
theorem RX.top2 {i j : Nat} (h : RX w0 p x L (j :: i :: is) ws root vL vV vW w) : ∃ g cap, vV = .slice (some ⟨g, 0, none⟩) (is.length + 1 + 1) cap ∧ g < w.heap.size ∧ is.length + 1 + 1 ≤ cap ∧ w.cell? ⟨g, is.length, none⟩ = some (.int .i64 i) ∧ w.cell? ⟨g, is.length + 1, none⟩ = some (.int .i64 j) := by
  have r := h.rowV
  obtain ⟨g, cap, rfl, h1, h2, h3⟩ := h.topV
  have k := r.cellAt is.length (by simp; omega)
  rw [ixCells_cons, List.getElem?_append_left (by rw [ixCells_length]; simp), ixCells_cons, List.getElem?_append_right (by rw [ixCells_length]; omega), ixCells_length] at k
  simp [ixC] at k
  exact ⟨g, cap, rfl, h1, h2, k, h3⟩
/-- The last two values are dropped. -/
theorem RX.popV2 {i j : Nat} {g cap : Nat} (h : RX w0 p x L (j :: i :: is) ws root vL (.slice (some ⟨g, 0, none⟩) (is.length + 1 + 1) cap) vW w) (u : Value) (hu : u = .slice (some ⟨g, 0, none⟩) is.length cap) :
    RX w0 p x L is ws root vL u vW (w.setCell ⟨p, 1, none⟩ u) := by
  subst hu
  have r := h.rowV
  rw [ixCells_cons] at r
  have r1 := ownsRow_pop (n := is.length + 1) (by rw [ixCells_length]; simp) r
  rw [ixCells_cons] at r1
  have r2 := ownsRow_pop (by rw [ixCells_length]) r1
  refine ⟨h.below.setCell h.hp _, h.hp, h.hx, ?_, heap_setCell h.xblk h.px _, ownsRow_setCell_other h.rowL (row_ne h.rowL h.blk (by decide)) _, ownsRow_setCell_other r2 (row_ne r2 h.blk (by decide)) _, ownsRow_setCell_other h.rowW (row_ne h.rowW h.blk (by decide)) _⟩
  rw [heap_setCell_same w p 1 _ _ _ h.blk]; rfl
end
set_option maxRecDepth 20000 in
set_option maxHeartbeats 4000000 in
theorem apply_pre {w0 w : World} {p x i : Nat} {t : ByteArray} {L : List Nd} {is : List Nat} {ws : List Bs} {root : Int} {vL vV vW : Value} (ht : t = ⟨#[126]⟩ ∨ t = ⟨#[33]⟩) (hX : RX w0 p x L (i :: is) (t.data.toList :: ws) root vL vV vW w) (hL : L.length ≤ 1000) (his : is.length ≤ 1000) (hws : ws.length ≤ 1000) :
    Calls Tryd.prog 36 #[ptr p] w fun e w' => e = .returned (.tuple #[]) ∧ ∃ vL' vV' vW', RX w0 p x (L ++ [⟨t.data.toList, 0, i, 0⟩]) (L.length :: is) ws root vL' vV' vW' w' := by
  obtain ⟨gw, cw, rfl, w1, w2, w3⟩ := hX.topW
  have ht2 : (⟨t.data.toList.toArray⟩ : ByteArray) = t := by simp
  rw [ht2] at w3
  clear ht2
  obtain ⟨c0, c1, c2, f0, f1, f2⟩ := rx_cells hX.blk
  have hp := lt_of_heap hX.blk
  have k1 : (ws.length : Int) + 1 ≤ (cw : Int) := by omega
  have k2 : IntKind.i64.wrap (ws.length : Int) = (ws.length : Int) := IntWalk.i64_in _ (by omega)
  have HX := Lib.hid hX
  have HTT := Lib.hid ht
  clear hX ht
  go_enter Tryd.func36, Tryd.ntmps36
  go_upto_region 0 with fail
  go_quiet (fail)
  go_upto_region 1 with fail
  have HXq := Lib.hid (HX.out.drewN nq)
  clear HX c0 c1 c2 f0 f1 f2 w1 w3 hp
  generalize w.drewN nq = wq at HXq ⊢
  obtain ⟨c0, c1, c2, f0, f1, f2⟩ := rx_cells HXq.out.blk
  have hp := lt_of_heap HXq.out.blk
  go_cut [] (fun wx => ∃ vW', RX w0 p x L (i :: is) ws root vL vV vW' wx)
  case first =>
    go_region
    all_goals go_wp2_with fail
    all_goals go_meet
    all_goals exact ⟨_, (HXq.out.grow ((Below.refl _ _).drew)).popW⟩
  case rest =>
    obtain ⟨vW', hx3⟩ := hcut
    rename World => wr
    clear c0 c1 c2 f0 f1 f2 hp HXq k1 k2 w2
    obtain ⟨g, cap, rfl, h1, h2, h3⟩ := hx3.topV
    obtain ⟨c0, c1, c2, f0, f1, f2⟩ := rx_cells hx3.blk
    have hp := lt_of_heap hx3.blk
    have HX3 := Lib.hid hx3
    clear hx3
    rcases HTT.out with rfl | rfl
    · go_wp2_with (go_at_call 35; refine (value_at (q := ⟨[126], 0, i, 0⟩) (HX3.out.popV _ rfl) hL his rfl).mono ?_; rintro e w' ⟨rfl, vL', vV', hx4⟩; have HX4 := Lib.hid hx4; clear hx4)
      refine bodyPost_ret (results_none rfl _ _ _) rfl ?_
      exact ⟨rfl, _, _, _, HX4.out⟩
    · go_wp2_with (go_at_call 35; refine (value_at (q := ⟨[33], 0, i, 0⟩) (HX3.out.popV _ rfl) hL his rfl).mono ?_; rintro e w' ⟨rfl, vL', vV', hx4⟩; have HX4 := Lib.hid hx4; clear hx4)
      refine bodyPost_ret (results_none rfl _ _ _) rfl ?_
      exact ⟨rfl, _, _, _, HX4.out⟩
set_option maxRecDepth 20000 in
set_option maxHeartbeats 4000000 in
theorem apply_bin {w0 w : World} {p x i j : Nat} {t : ByteArray} {L : List Nd} {is : List Nat} {ws : List Bs} {root : Int} {vL vV vW : Value} (ht : t.data.toList ∈ ops) (hX : RX w0 p x L (j :: i :: is) (t.data.toList :: ws) root vL vV vW w) (hL : L.length ≤ 1000) (his : is.length ≤ 1000) (hws : ws.length ≤ 1000) :
    Calls Tryd.prog 36 #[ptr p] w fun e w' => e = .returned (.tuple #[]) ∧ ∃ vL' vV' vW', RX w0 p x (L ++ [⟨t.data.toList, 0, i, j⟩]) (L.length :: is) ws root vL' vV' vW' w' := by
  have q1 : (t.toList == [126]) = false := by
    rw [Lib.toList_data]; rw [beq_eq_false_iff_ne]; intro e; rw [e] at ht; revert ht; decide
  have q2 : (t.toList == [33]) = false := by
    rw [Lib.toList_data]; rw [beq_eq_false_iff_ne]; intro e; rw [e] at ht; revert ht; decide
  obtain ⟨gw, cw, rfl, w1, w2, w3⟩ := hX.topW
  have ht2 : (⟨t.data.toList.toArray⟩ : ByteArray) = t := by simp
  rw [ht2] at w3
  clear ht2
  obtain ⟨c0, c1, c2, f0, f1, f2⟩ := rx_cells hX.blk
  have hp := lt_of_heap hX.blk
  have k1 : (ws.length : Int) + 1 ≤ (cw : Int) := by omega
  have k2 : IntKind.i64.wrap (ws.length : Int) = (ws.length : Int) := IntWalk.i64_in _ (by omega)
  have HX := Lib.hid hX
  clear hX ht
  go_enter Tryd.func36, Tryd.ntmps36
  go_upto_region 0 with fail
  go_quiet (fail)
  go_upto_region 1 with fail
  have HXq := Lib.hid (HX.out.drewN nq)
  clear HX c0 c1 c2 f0 f1 f2 w1 w3 hp
  generalize w.drewN nq = wq at HXq ⊢
  obtain ⟨c0, c1, c2, f0, f1, f2⟩ := rx_cells HXq.out.blk
  have hp := lt_of_heap HXq.out.blk
  go_cut [] (fun wx => ∃ vW', RX w0 p x L (j :: i :: is) ws root vL vV vW' wx)
  case first =>
    go_region
    all_goals go_wp2_with fail
    all_goals go_meet
    all_goals exact ⟨_, (HXq.out.grow ((Below.refl _ _).drew)).popW⟩
  case rest =>
    obtain ⟨vW', hx3⟩ := hcut
    rename World => wr
    clear c0 c1 c2 f0 f1 f2 hp HXq k1 k2 w2
    obtain ⟨g, cap, rfl, h1, h2, h3, h4⟩ := hx3.top2
    obtain ⟨c0, c1, c2, f0, f1, f2⟩ := rx_cells hx3.blk
    have hp := lt_of_heap hx3.blk
    have HX3 := Lib.hid hx3
    clear hx3
    have hu : ndV ⟨t.data.toList, 0, i, j⟩ = .agg #[.string t, .int .i64 0, .int .i64 i, .int .i64 j] := by simp [ndV]
    have HU := Lib.hid hu
    clear hu
    go_wp2_with (go_at_call 35; refine (value_at (HX3.out.popV2 _ rfl) hL his HU.out).mono ?_; rintro e w' ⟨rfl, vL', vV', hx4⟩; have HX4 := Lib.hid hx4; clear hx4)
    go_end0
    exact ⟨rfl, _, _, _, HX4.out⟩
end Go.Proofs.YtlkaaembeakicaaDoor.Ex
