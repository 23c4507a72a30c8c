/-
  The first pane of a key removed; the record that is told for a pane. Conditions: the keep lies in memory.
-/
import Derived.Test.YtlmnkmfpdjkijaaKDue
import Derived.Test.YtlmnkmfpdjkijaaAProg
namespace Go.Proofs.Ytlmnkmfpdjkijaa.Kp
set_option linter.unusedVariables false
set_option linter.unusedSimpArgs false
open Go.Proofs.Ytlmnkmfpdjkijaa Go.Proofs.Ytlmnkmfpdjkijaa.Ke
open Go.RowKit
open Go.Proofs.Ytlmnkmfpdjkijaa.Ag (Ac jn vl acV)

theorem RowIn.tail {w : World} {g o cap n : Nat} {p : Pn} {r : List Pn} (h : RowIn w (.slice (some ⟨g, o, none⟩) n cap) (p :: r)) : RowIn w (.slice (some ⟨g, o + 7, none⟩) r.length (cap - 1)) r := by
  obtain ⟨g', o', cap', cur, e, h1, h2, h3, h4, h5⟩ := h
  simp only [Value.slice.injEq, Option.some.injEq, Addr.mk.injEq, and_true] at e
  obtain ⟨⟨rfl, rfl⟩, rfl, rfl⟩ := e
  simp only [List.length_cons] at h2 h5
  refine ⟨g, o + 7, cap - 1, cur, rfl, h1, by omega, by omega, by omega, ?_⟩
  have e1 : (cur.toList.drop o).take ((r.length + 1) * 7) = pnC p ++ pns r := h5
  have e2 : ((cur.toList.drop o).take ((r.length + 1) * 7)).drop 7 = pns r := by rw [e1]; rfl
  rw [List.drop_take, List.drop_drop] at e2
  rw [show (r.length + 1) * 7 - 7 = r.length * 7 by omega] at e2
  exact e2
theorem RowIn.form {w : World} {v : Value} {L : List Pn} (h : RowIn w v L) : ∃ g o cap, v = .slice (some ⟨g, o, none⟩) L.length cap ∧ L.length ≤ cap ∧ cap ≤ maxLen := by
  obtain ⟨g, o, cap, cur, e, h1, h2, h3, -⟩ := h
  exact ⟨g, o, cap, e, h2, h3⟩
set_option maxRecDepth 20000 in
set_option maxHeartbeats 2000000 in
theorem removeFirst_mem {w : World} {S : Nat → Prop} {b bm : Nat} {k s lw agg m : Int} {fr : Bool} {ld : Nat → Bool} {D : DataW Value} {V : Ky → Value} {R : Ky → List Pn} {key : Ky} {p : Pn} {r : List Pn} (ht : KTop w b k s lw agg m fr ld bm) (h : RowsV w S bm D V R) (hk : R key = p :: r) (hd : Maps.size D ≤ 4000000) :
    Calls Try.prog 37 #[.pointer (some ⟨b, 0, none⟩), kyV key] w fun e w' => e = .returned (.tuple #[]) ∧ Rws w' S bm (updK R key r) ∧ w.grownBy w' (some bm) := by
  have hne : R key ≠ [] := by rw [hk]; exact List.cons_ne_nil _ _
  have hrow := h.row key hne
  obtain ⟨g, o, cap, hv, hn, hc⟩ := hrow.form
  have hlook := h.look (k := key) (by have := h.key key hne; unfold maxLen; omega)
  unfold rowV at hlook
  rw [if_neg hne, hv] at hlook
  have c22 := ht.c22
  have hkey := h.key key hne
  have hown := h.own
  rw [hk] at hn hlook
  rw [hv, hk] at hrow
  simp only [List.length_cons] at hn hlook
  have HTL := Lib.hid hrow.tail
  have HR := Lib.hid h
  have HK := Lib.hid hk
  have HV := Lib.hid hv
  have HKO := Lib.hid (key_of (k := key) (by unfold maxLen; omega))
  obtain ⟨n, hn2⟩ : ∃ n, r.length = n := ⟨_, rfl⟩
  have HN := Lib.hid hn2
  rw [hn2] at hn hlook
  have hz : n + 1 ≤ maxLen := by omega
  unfold maxLen at hz hc
  clear ht h hk hrow hne hv hn2
  cases n with
  | zero =>
    have e0 : updK R key r = updK R key [] := by rw [List.length_eq_zero_iff.1 HN.out]
    rw [e0]
    clear e0
    by_cases hc1 : cap = 1
    · subst hc1
      go_enter Try.func37, Try.ntmps37
      go_wp2_with (first
        | (at_delete; refine wpList_delete_own _ rfl _ _ 71 9 rfl 82 law Try.underlying71 asIs bm _ D rfl hown _ _ rfl HKO.out ?_; intro w1 hown1 hturn1))
      refine bodyPost_ret (results_none rfl _ _ _) rfl ?_
      exact ⟨rfl, ⟨_, _, HR.out.del hown1 (fun x _ hx => hturn1.grown.block x (by assumption) (fun e => hx (by injection e)))⟩, hturn1.grown⟩
    · go_enter Try.func37, Try.ntmps37
      go_wp2_with (first
        | (at_delete; refine wpList_delete_own _ rfl _ _ 71 9 rfl 82 law Try.underlying71 asIs bm _ D rfl hown _ _ rfl HKO.out ?_; intro w1 hown1 hturn1))
      refine bodyPost_ret (results_none rfl _ _ _) rfl ?_
      exact ⟨rfl, ⟨_, _, HR.out.del hown1 (fun x _ hx => hturn1.grown.block x (by assumption) (fun e => hx (by injection e)))⟩, hturn1.grown⟩
  | succ n =>
    have hc1 : ¬ cap = 1 := by omega
    have hsz : Maps.size D < maxLen := by unfold maxLen; omega
    go_enter Try.func37, Try.ntmps37
    go_wp2_with (first
      | (at_mapUpdate; refine wpList_mapUpdate_own _ rfl _ _ _ 71 rfl 9 82 law Try.underlying71 asIs bm _ D rfl hown hsz _ _ (.string key) rfl rfl HKO.out (.held (.slice (some ⟨g, o + 7, none⟩) (n + 1) (cap - 1))) [] rfl ?_; intro w1 hown1 hgrow1))
    go_end0
    have hne : R key ≠ [] := by rw [HK.out]; exact List.cons_ne_nil _ _
    have hob : (V key).ownBlock = some g := by rw [HV.out]; rfl
    have hr0 : r ≠ [] := fun e => by have := HN.out; rw [e] at this; simp at this
    have hrow1 := HTL.out
    rw [HN.out] at hrow1
    have hgm : g ≠ bm := fun e => HR.out.map_ne hne (by rw [hob, e])
    have hput := HR.out.put hkey hr0 hown1 (hrow1.keep (fun q hq => hgrow1.block q (by injection hq with hq; rw [← hq]; exact HR.out.lt hne hob) (fun e => by injection hq with hq; injection e with e; dsimp only at hq; omega)))
      (fun x hx hxb _ => hgrow1.block x hx (fun e => hxb (by injection e))) (fun q hq => .inl ⟨hne, by rw [hob]; exact hq⟩)
    exact ⟨rfl, ⟨_, _, hput.sub (fun x hx => hx.elim id (fun e => HR.out.rows key x hne (by rw [hob]; exact e)))⟩, hgrow1⟩
/-- The record that is told for a pane. -/
theorem rcd_is (agg : Int) (x : Pn) {v e : Int} (h : vl agg x.a = (v, e)) : rcd agg x = ⟨x.k, min (x.t - 1) 1000000000, v⟩ := by
  unfold rcd; rw [h]
attribute [local go_sem ↓] Go.Proofs.Ytlmnkmfpdjkijaa.Ag.run_min_p
set_option maxRecDepth 20000 in
set_option maxHeartbeats 2000000 in
theorem result_mem {w : World} {b bm : Nat} {k s lw agg m : Int} {fr : Bool} {ld : Nat → Bool} (ht : KTop w b k s lw agg m fr ld bm) {x : Pn} (hx : I64 (x.t - 1)) :
    Calls Try.prog 38 #[.pointer (some ⟨b, 0, none⟩), pnV x] w fun e w' => e = .returned (rcV (rcd agg x)) ∧ Below w.heap.size w w' := by
  have c3 := ht.c3
  have hbt := ht.lt
  obtain ⟨v, e0, hv⟩ : ∃ v e0, vl agg x.a = (v, e0) := ⟨_, _, rfl⟩
  have HV := Lib.hid hv
  rw [rcd_is agg x hv]
  have hw1 : IntKind.i64.wrap (x.t - 1) = x.t - 1 := by rw [IntKind.wrap_i64]; unfold I64 at hx; omega
  clear ht hv
  go_enter Try.func38, Try.ntmps38
  go_upto_region 1 with (fail)
  have hb1 : Below w.heap.size w ((w.alloc (pnO x)).alloc (.cells #[.string ⟨#[]⟩, .int .i64 0, .int .i64 0] 32)) := ((Below.refl _ w).alloc (Nat.le_refl _) _).alloc (by simp) _
  have hp0 : ((w.alloc (pnO x)).alloc (.cells #[.string ⟨#[]⟩, .int .i64 0, .int .i64 0] 32)).heap[w.heap.size]? = some (pnO x) := (Below.heap_alloc _ _ _ (by simp)).trans (heap_alloc_new w _)
  have hq0 : ((w.alloc (pnO x)).alloc (.cells #[.string ⟨#[]⟩, .int .i64 0, .int .i64 0] 32)).heap[w.heap.size + 1]? = some (.cells #[.string ⟨#[]⟩, .int .i64 0, .int .i64 0] 32 (0, 0)) := by
    have := heap_alloc_new (w.alloc (pnO x)) (.cells #[.string ⟨#[]⟩, .int .i64 0, .int .i64 0] 32 (0, 0))
    rw [World.size_alloc] at this
    exact this
  generalize (w.alloc (pnO x)).alloc (.cells #[.string ⟨#[]⟩, .int .i64 0, .int .i64 0] 32) = wz at hb1 hp0 hq0 ⊢
  obtain ⟨bp, hbp⟩ : ∃ bp, w.heap.size = bp := ⟨_, rfl⟩
  obtain ⟨br, hbr⟩ : ∃ br, bp + 1 = br := ⟨_, rfl⟩
  rw [hbp, hbr] at hq0 ⊢
  rw [hbp] at hp0
  have hpl := lt_of_heap hp0
  have hql := lt_of_heap hq0
  have hbl : b < wz.heap.size := Nat.lt_of_lt_of_le hbt hb1.size
  have z3 : wz.cell? ⟨b, 3, none⟩ = some (.int .i64 agg) := (hb1.cell (p := ⟨b, 3, none⟩) hbt).trans c3
  have y3 : wz.cell? ⟨bp, 3, none⟩ = some (.int .i64 x.a.c) := cell_of_heap hp0 3
  have y4 : wz.cell? ⟨bp, 4, none⟩ = some (.int .i64 x.a.s) := cell_of_heap hp0 4
  have y5 : wz.cell? ⟨bp, 5, none⟩ = some (.int .i64 x.a.mn) := cell_of_heap hp0 5
  have y6 : wz.cell? ⟨bp, 6, none⟩ = some (.int .i64 x.a.mx) := cell_of_heap hp0 6
  have HP := Lib.hid hp0
  have HQ := Lib.hid hq0
  have HB1 := Lib.hid hb1
  clear hp0 hq0 hb1 c3
  go_region_held3 (fun X => X.cell? ⟨b, 3, none⟩ = some (.int .i64 agg) ∧ X.cell? ⟨bp, 3, none⟩ = some (.int .i64 x.a.c) ∧ X.cell? ⟨bp, 4, none⟩ = some (.int .i64 x.a.s) ∧ X.cell? ⟨bp, 5, none⟩ = some (.int .i64 x.a.mn) ∧ X.cell? ⟨bp, 6, none⟩ = some (.int .i64 x.a.mx))
    (first | exact ⟨z3, y3, y4, y5, y6⟩ | exact S2)
    (first
    | (go_at_call 54; refine (Ag.value_at HV.out _).mono ?_; rintro e w2 ⟨rfl, hb⟩; have hb : Below wz.heap.size wz w2 := ⟨hb.os, hb.tape, hb.output, hb.size, hb.block⟩; have S2 : w2.cell? ⟨b, 3, none⟩ = some (.int .i64 agg) ∧ w2.cell? ⟨bp, 3, none⟩ = some (.int .i64 x.a.c) ∧ w2.cell? ⟨bp, 4, none⟩ = some (.int .i64 x.a.s) ∧ w2.cell? ⟨bp, 5, none⟩ = some (.int .i64 x.a.mn) ∧ w2.cell? ⟨bp, 6, none⟩ = some (.int .i64 x.a.mx) := ⟨(hb.cell (p := ⟨b, 3, none⟩) hbl).trans z3, (hb.cell (p := ⟨bp, 3, none⟩) hpl).trans y3, (hb.cell (p := ⟨bp, 4, none⟩) hpl).trans y4, (hb.cell (p := ⟨bp, 5, none⟩) hpl).trans y5, (hb.cell (p := ⟨bp, 6, none⟩) hpl).trans y6⟩; have HB2 := Lib.hid hb; clear hb))
  clear S2
  have hp2 : w2.heap[bp]? = some (pnO x) := (HB2.out.block bp hpl).trans HP.out
  have hq2 : w2.heap[br]? = some (.cells #[.string ⟨#[]⟩, .int .i64 0, .int .i64 0] 32 (0, 0)) := (HB2.out.block br hql).trans HQ.out
  have k0 : w2.cell? ⟨bp, 0, none⟩ = some (kyV x.k) := cell_of_heap hp2 0
  have k2 : w2.cell? ⟨bp, 2, none⟩ = some (.int .i64 x.t) := cell_of_heap hp2 2
  have n0 : w2.cell? ⟨br, 0, none⟩ = some (.string ⟨#[]⟩) := cell_of_heap hq2 0
  have n1 : w2.cell? ⟨br, 1, none⟩ = some (.int .i64 0) := cell_of_heap hq2 1
  have n2 : w2.cell? ⟨br, 2, none⟩ = some (.int .i64 0) := cell_of_heap hq2 2
  have f0 : w2.frozen? ⟨br, 0, none⟩ = false := free_of_heap hq2 0
  have f1 : w2.frozen? ⟨br, 1, none⟩ = false := free_of_heap hq2 1
  have f2 : w2.frozen? ⟨br, 2, none⟩ = false := free_of_heap hq2 2
  have HB3 : Hid (Below bp w w2) := Lib.hid (by rw [← hbp]; exact HB1.out.trans (HB2.out.mono HB1.out.size))
  have HQ2 := Lib.hid hq2
  clear hp2 hq2 z3 y3 y4 y5 y6
  go_wp2
  have hf : (((w2.setCell ⟨br, 0, none⟩ (kyV x.k)).setCell ⟨br, 1, none⟩ (.int .i64 (min (x.t - 1) 1000000000))).setCell ⟨br, 2, none⟩ (.int .i64 v)).heap[br]? = some (.cells #[kyV x.k, .int .i64 (min (x.t - 1) 1000000000), .int .i64 v] 32 (0, 0)) := by
    simp [World.setCell, Array.getElem?_modify, HQ2.out]
  have hB : Below w.heap.size w (((w2.setCell ⟨br, 0, none⟩ (kyV x.k)).setCell ⟨br, 1, none⟩ (.int .i64 (min (x.t - 1) 1000000000))).setCell ⟨br, 2, none⟩ (.int .i64 v)) := by
    rw [hbp]
    exact ((HB3.out.setCell (by show bp ≤ br; omega) _).setCell (by show bp ≤ br; omega) _).setCell (by show bp ≤ br; omega) _
  change bodyPost _ _ _ _ _ (((w2.setCell ⟨br, 0, none⟩ (kyV x.k)).setCell ⟨br, 1, none⟩ (.int .i64 (min (x.t - 1) 1000000000))).setCell ⟨br, 2, none⟩ (.int .i64 v))
  generalize ((w2.setCell ⟨br, 0, none⟩ (kyV x.k)).setCell ⟨br, 1, none⟩ (.int .i64 (min (x.t - 1) 1000000000))).setCell ⟨br, 2, none⟩ (.int .i64 v) = W at hf hB ⊢
  have c0 : W.cell? ⟨br, 0, none⟩ = some (kyV x.k) := cell_of_heap hf 0
  have c1 : W.cell? ⟨br, 1, none⟩ = some (.int .i64 (min (x.t - 1) 1000000000)) := cell_of_heap hf 1
  have c2 : W.cell? ⟨br, 2, none⟩ = some (.int .i64 v) := cell_of_heap hf 2
  exact bodyPost_ret (v := rcV ⟨x.k, min (x.t - 1) 1000000000, v⟩) (by simp [results, Try.results38, go_sem, c0, c1, c2]) rfl ⟨rfl, hB⟩
end Go.Proofs.Ytlmnkmfpdjkijaa.Kp
