/-
  The document's reader: a value is put on its stack. Conditions: the reader keeps what it keeps.
-/
import Derived.Test.YtlkaaembeakicaaDoorRState
namespace Go.Proofs.YtlkaaembeakicaaDoor.Ex
open Go.RowKit
theorem news1 {w W : World} (a : Value) (t : TypeId) (hW : W = (w.alloc (.cells #[a] t)).drew) {n : Nat} (hn : n = w.heap.size) : ∀ j u, [a][j]? = some u → W.cell? ((⟨n, 0, none⟩ : Addr).add j) = some u := by
  subst hW hn
  intro j u hj
  show (w.alloc (.cells #[a] t)).cell? _ = _
  match j, hj with
  | 0, hj => simp at hj; subst hj; simp [Addr.add]
  | j + 1, hj => simp at hj
theorem news4 {w W : World} (a b c d : Value) (t : TypeId) (hW : W = (w.alloc (.cells #[a, b, c, d] t)).drew) {n : Nat} (hn : n = w.heap.size) : ∀ j u, [a, b, c, d][j]? = some u → W.cell? ((⟨n, 0, none⟩ : Addr).add j) = some u := by
  subst hW hn
  intro j u hj
  show (w.alloc (.cells #[a, b, c, d] t)).cell? _ = _
  match j, hj with
  | 0, hj => simp at hj; subst hj; simp [Addr.add]
  | 1, hj => simp at hj; subst hj; simp [Addr.add]
  | 2, hj => simp at hj; subst hj; simp [Addr.add]
  | 3, hj => simp at hj; subst hj; simp [Addr.add]
  | j + 4, hj => simp at hj
theorem one4 (a : ByteArray) (b c d : Int) : ∀ u ∈ [Value.string a, Value.int .i64 b, Value.int .i64 c, Value.int .i64 d], u.oneCell' = true := by intro u hu; simp only [List.mem_cons, List.not_mem_nil, or_false] at hu; rcases hu with rfl | rfl | rfl | rfl <;> rfl
theorem one1s (a : ByteArray) : ∀ u ∈ [Value.string a], u.oneCell' = true := by intro u hu; simp only [List.mem_cons, List.not_mem_nil, or_false] at hu; rcases hu with rfl; rfl
theorem one1i (b : Int) : ∀ u ∈ [Value.int .i64 b], u.oneCell' = true := by intro u hu; simp only [List.mem_cons, List.not_mem_nil, or_false] at hu; rcases hu with rfl; rfl
set_option maxRecDepth 20000 in
set_option maxHeartbeats 4000000 in
theorem value_any {w0 w : World} {p x : Nat} {L : List Nd} {is : List Nat} {ws : List Bs} {root : Int} {vL vV vW : Value} (hX : RX w0 p x L is ws root vL vV vW w) (hL : L.length ≤ 1000) (his : is.length ≤ 1000) (q : Nd) :
    Calls Tryd.prog 35 #[ptr p, ndV q] w fun e w' => e = .returned (.tuple #[]) ∧ ∃ vL' vV', RX w0 p x (L ++ [q]) (L.length :: is) ws root vL' vV' vW w' := by
  obtain ⟨i0, hi0, hz0, hz1, hz2⟩ := info_parts info65
  obtain ⟨i3, hi3, hy0, hy1, hy2⟩ := info_parts info3
  obtain ⟨op, n, l, r⟩ := q
  obtain ⟨c0, c1, c2, f0, f1, f2⟩ := rx_cells hX.blk
  obtain ⟨d0, d1, g0, g1⟩ := xx_cells hX.xblk
  have hp := lt_of_heap hX.blk
  have hx := lt_of_heap hX.xblk
  have hB : w0.heap.size ≤ w.heap.size := hX.below.size
  have HX := Lib.hid hX
  clear hX
  unfold ndV
  simp only
  go_enter Tryd.func35, Tryd.ntmps35
  go_upto_region 1 with fail
  go_cut [] (fun wx => ∃ g cap, RX w0 p x (L ++ [⟨op, n, l, r⟩]) is ws root (.slice (some ⟨g, 0, none⟩) (L.length + 1) cap) vV vW wx)
  case first =>
    go_region_law (first | (refine step_append_lies _ (by rfl) (.tmp 14) (.tmp 16) 51 (by rfl) w0.heap.size 65 i0 (.agg #[.string ⟨#[]⟩, .int .i64 0, .int .i64 0, .int .i64 0]) 4 40 Tryd.underlying51 hi0 hz0 hz1 hz2 rfl (by decide) vL L.length (ndCells L) (by rfl) (ownsRow_below HX.out.rowL (((Below.refl _ _).alloc (Nat.le_refl _) _).alloc (by simp) _).drew) ⟨w.heap.size + 1, 0, none⟩ 1 1 [.string ⟨op.toArray⟩, .int .i64 n, .int .i64 l, .int .i64 r] (by rfl) rfl (news4 _ _ _ _ 65 rfl (by simp)) (one4 _ _ _ _) (by decide) (by unfold maxLen; omega) (by omega) (by simp; omega) _ rfl ?_; intro g2 cap2 w1 hown2 hgrow2 hat2 hlt2; obtain ⟨hp1, hx1, hx2⟩ := (HX.out.grow (((Below.refl _ _).alloc (Nat.le_refl _) _).alloc (by simp) _).drew).pushL (q := ⟨op, n, l, r⟩) hgrow2 hown2; obtain ⟨a0, a1, a2, b0, b1, b2⟩ := rx_cells hp1; obtain ⟨e0, e1, k0, k1⟩ := xx_cells hx1; have HX2 := Lib.hid hx2; clear hown2 hgrow2 hat2 hlt2 hp1 hx1 hx2))
    all_goals go_wp2_with fail
    all_goals go_meet
    all_goals exact ⟨_, _, HX2.out⟩
  case rest =>
    obtain ⟨g, cap, hx3⟩ := hcut
    rename World => wq
    clear c0 c1 c2 f0 f1 f2 d0 d1 g0 g1 hp hx hB
    obtain ⟨c0, c1, c2, f0, f1, f2⟩ := rx_cells hx3.blk
    obtain ⟨d0, d1, g0, g1⟩ := xx_cells hx3.xblk
    have hp := lt_of_heap hx3.blk
    have hx := lt_of_heap hx3.xblk
    have hB : w0.heap.size ≤ wq.heap.size := hx3.below.size
    have HX3 := Lib.hid hx3
    have hwr : IntKind.i64.wrap (L.length : Int) = (L.length : Int) := IntWalk.i64_in _ (by omega)
    clear hx3
    go_upto_region 2 with fail
    go_region_law (first | (refine step_append_lies _ (by rfl) (.tmp 24) (.tmp 34) 39 (by rfl) w0.heap.size 3 i3 (.int .i64 0) 1 8 Tryd.underlying39 hi3 hy0 hy1 hy2 rfl (by decide) vV is.length (ixCells is) (by rfl) (ownsRow_below HX3.out.rowV ((Below.refl _ _).alloc (Nat.le_refl _) _).drew) ⟨wq.heap.size, 0, none⟩ 1 1 [.int .i64 (L.length : Int)] (by rfl) rfl (news1 _ 3 rfl (by simp)) (one1i _) (by decide) (by unfold maxLen; omega) (by omega) (by simp; omega) _ rfl ?_; intro g2 cap2 w1 hown2 hgrow2 hat2 hlt2; obtain ⟨hp1, hx1, hx2⟩ := (HX3.out.grow ((Below.refl _ _).alloc (Nat.le_refl _) _).drew).pushV (i := L.length) hgrow2 hown2; obtain ⟨a0, a1, a2, b0, b1, b2⟩ := rx_cells hp1; obtain ⟨e0, e1, k0, k1⟩ := xx_cells hx1; have HX2 := Lib.hid hx2; clear hown2 hgrow2 hat2 hlt2 hp1 hx1 hx2))
    all_goals go_wp2
    all_goals go_end0
    all_goals exact ⟨rfl, _, _, HX2.out⟩
end Go.Proofs.YtlkaaembeakicaaDoor.Ex
