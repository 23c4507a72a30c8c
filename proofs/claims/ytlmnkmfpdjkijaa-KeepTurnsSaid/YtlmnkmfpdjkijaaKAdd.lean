/-
  One pane put by the program: those that it meets are made one with it. Conditions: the keep lies in memory; at most 4000000 panes, as they may be.
-/
import Derived.Test.YtlmnkmfpdjkijaaKMrk
import Derived.Test.YtlmnkmfpdjkijaaKMet
namespace Go.Proofs.Ytlmnkmfpdjkijaa.Kp
set_option linter.unusedVariables false
set_option linter.unusedSimpArgs false
open Go.Proofs.Ytlmnkmfpdjkijaa Go.Proofs.Ytlmnkmfpdjkijaa.Ke
open Go.RowKit
open Go.Proofs.Ytlmnkmfpdjkijaa.Ag (Ac jn vl acV)

/-- A row cut out of a row. -/
theorem slc {w : World} {sv : Value} {R : List Pn} {a b n : Nat} (h : PnsAt w sv R) (hab : a ≤ b) (hb : b ≤ R.length) (hn : b - a = n) : ∃ ma mc, (∀ W : World, (Instr.slice 82 sv (some (.int .i64 a)) (some (.int .i64 b)) none).run Try.prog W = .ok (.slice ma n mc) W) ∧ (n ≤ mc) ∧
    ∀ j x, ((R.drop a).take n)[j]? = some x → ∃ g o, ma = some ⟨g, o, none⟩ ∧ g < w.heap.size ∧ ∀ q u, (pnC x)[q]? = some u → w.cell? ⟨g, o + j * 7 + q, none⟩ = some u := by
  obtain ⟨ad, cap, rfl, h2, h3, h3', h4⟩ := h
  subst hn
  refine ⟨if cap = a then ad else ad.map (·.add (a * 7)), cap - a, fun W => ?_, by omega, fun j x hx => ?_⟩
  · rw [run_slice_lh W _ _ _ _ (by kernel_rfl) _ _ _ _ (by omega) (by omega) (by omega)]
    have hsz : (sizeOf (Try.prog.elem 82)).run Try.prog W = .ok 7 W := by kernel_rfl
    rw [hsz]
    simp [sliced, Result.andThen]
  · have hj : j < b - a := by
      have := (List.getElem?_eq_some_iff.1 hx).1
      rw [List.length_take, List.length_drop] at this
      omega
    rw [List.getElem?_take_of_lt hj, List.getElem?_drop] at hx
    obtain ⟨g, o, rfl, hg, hc⟩ := h4 (fun e => by rw [e] at hx; simp at hx)
    refine ⟨g, o + a * 7, by rw [if_neg (by omega), Option.map_some, Addr.add_lit], hg, fun q u hu => ?_⟩
    have := hc (a + j) x hx q u hu
    rw [show o + a * 7 + j * 7 + q = o + (a + j) * 7 + q by rw [Nat.add_mul]; omega]
    exact this
theorem mrg_snoc (p x : Pn) (M : List Pn) : mrg p (M ++ [x]) = ⟨(mrg p M).k, min (mrg p M).f x.f, max (mrg p M).t x.t, jn x.a (mrg p M).a⟩ := by
  unfold mrg; rw [List.foldl_append]; rfl
/-- The panes that are met, so far made one with that in the box. -/
structure AddI (w : World) (bp : Nat) (p : Pn) (M : List Pn) (j : Nat) (wr : World) : Prop where
  low : Below bp w wr
  box : wr.heap[bp]? = some (pnO (mrg p (M.take j)))
theorem RowOr.keep {w w' : World} {v : Value} {L : List Pn} (h : RowOr w v L) (hk : ∀ g, v.ownBlock = some g → w'.heap[g]? = w.heap[g]?) : RowOr w' v L :=
  h.imp_right (fun h => ⟨h.1.keep hk, h.2⟩)
theorem rowV_own {w : World} {S : Nat → Prop} {bm : Nat} {D : DataW Value} {V : Ky → Value} {R : Ky → List Pn} (h : RowsV w S bm D V R) {k : Ky} {g : Nat} (hg : (rowV V R k).ownBlock = some g) : R k ≠ [] ∧ (V k).ownBlock = some g := by
  unfold rowV at hg
  split at hg
  · cases hg
  · rename_i hr; exact ⟨hr, hg⟩
attribute [local go_sem ↓] Go.Proofs.Ytlmnkmfpdjkijaa.Ag.run_min_p Go.Proofs.Ytlmnkmfpdjkijaa.Ag.run_max_p
set_option maxRecDepth 20000 in
set_option maxHeartbeats 1000000 in
theorem add_mem {w : World} {S : Nat → Prop} {b bm : Nat} {k s lw agg m : Int} {fr : Bool} {ld : Nat → Bool} {l : List Pn} {p : Pn} (ht : KTop w b k s lw agg m fr ld bm) (hr : Rws w S bm (krow l)) (hSb : S b) (hS : ∀ x, S x → x < w.heap.size) (hl : l.length ≤ 4000000) (hg : Ke.Good (decide (k = 3)) s l) (hp : p.f < p.t) (hz : decide (k = 3) = false → p.t = p.f + s) (hpk : p.k.length ≤ 16) :
    Calls Try.prog 30 #[.pointer (some ⟨b, 0, none⟩), pnV p] w fun e w' => e = .returned (.tuple #[]) ∧ ∃ S', KTop w' b k s lw agg m fr ld bm ∧ Rws w' S' bm (krow (kins (decide (k = 3)) l p)) ∧ (∀ x, S x → S' x) ∧ (∀ x, S' x → x < w'.heap.size) ∧ Upd S S' w w' := by
  have hbm := ht.ne hr
  obtain ⟨D, V, hr⟩ := hr
  have hfew := hr.few (l := l) (fun _ => rfl)
  have hlt := ht.lt
  obtain ⟨R, hRe⟩ : ∃ R, krow l p.k = R := ⟨_, rfl⟩
  have hgR : Ke.Good (decide (k = 3)) s R := by rw [← hRe]; exact krow_good hg _
  have hkR : OneKey R p.k := by rw [← hRe]; exact krow_key l _
  have hRl : R.length ≤ 4000000 := by rw [← hRe]; exact Nat.le_trans (krow_len l _) hl
  obtain ⟨sv, hsv⟩ : ∃ sv, rowV V (krow l) p.k = sv := ⟨_, rfl⟩
  have hown : ∀ g, sv.ownBlock = some g → krow l p.k ≠ [] ∧ (V p.k).ownBlock = some g := fun g e => rowV_own hr (hsv ▸ e)
  have hsl : ∀ g, sv.ownBlock = some g → g < w.heap.size := fun g e => hr.lt (hown g e).1 (hown g e).2
  have hsb : sv.ownBlock ≠ some b := fun e => by
    obtain ⟨g', o', cap', cur, e1, h1, -⟩ := hr.row _ (hown b e).1
    have h2 := (hown b e).2
    rw [e1] at h2
    injection h2 with h2
    dsimp only at h2
    rw [h2, ht] at h1
    injection h1 with h1
    injection h1 with _ h1 _
    exact absurd h1 (by decide)
  have hsm : sv.ownBlock ≠ some bm := fun e => hr.map_ne (hown bm e).1 (hown bm e).2
  have hro : RowOr w sv R := by
    rw [← hsv, ← hRe]
    unfold rowV
    by_cases e : krow l p.k = []
    · rw [if_pos e]; exact .inl ⟨rfl, e⟩
    · rw [if_neg e]; exact .inr ⟨hr.row _ e, e⟩
  obtain ⟨hab, hbl⟩ := met_le (f := p.f) (t := p.t) hgR hkR hp
  have hkm := kins_met hgR hkR hp hz
  obtain ⟨a, ha⟩ : ∃ a, metA (decide (k = 3)) p.f p.t R = a := ⟨_, rfl⟩
  obtain ⟨z, hz2⟩ : ∃ z, metB (decide (k = 3)) p.f p.t R = z := ⟨_, rfl⟩
  rw [ha, hz2] at hkm
  rw [ha, hz2] at hab
  rw [hz2] at hbl
  obtain ⟨n, hn⟩ : ∃ n, z - a = n := ⟨_, rfl⟩
  rw [hn] at hkm
  obtain ⟨M, hM⟩ : ∃ M, (R.drop a).take n = M := ⟨_, rfl⟩
  rw [hM] at hkm
  have hMl : M.length = n := by rw [← hM, List.length_take, List.length_drop]; omega
  have hRs : R = R.take a ++ (M ++ R.drop z) := by rw [← hM, ← hn]; exact take_mid R hab
  -- the box
  obtain ⟨bp, hbp⟩ : ∃ bp, w.heap.size = bp := ⟨_, rfl⟩
  have HB0 : Below w.heap.size w (w.alloc (pnO p)).drew := ((Below.refl _ w).alloc (Nat.le_refl _) (pnO p)).drew
  have hbx : (w.alloc (pnO p)).drew.heap[bp]? = some (pnO p) := by rw [← hbp]; exact heap_alloc_new w (pnO p)
  have hbx0 : (w.alloc (pnO p)).heap[bp]? = some (pnO p) := hbx
  have hk1 : ∀ x, S x → (w.alloc (pnO p)).drew.heap[x]? = w.heap[x]? := fun x hx => HB0.block x (hS x hx)
  have hr1 := hr.keep hk1
  have hlook := hr1.look (k := p.k) (by unfold maxLen; omega)
  rw [hsv] at hlook
  have ht1 : KTop (w.alloc (pnO p)).drew b k s lw agg m fr ld bm := ht.keep (HB0.block b hlt)
  have c22 : (w.alloc (pnO p)).cell? ⟨b, 22, none⟩ = some (.map (some bm)) := ht1.c22
  have x0 : (w.alloc (pnO p)).cell? ⟨bp, 0, none⟩ = some (kyV p.k) := cell_of_heap hbx0 0
  have CM := Lib.hid (met_at (f := p.f) (t := p.t) ht1 (hro.keep (fun g e => HB0.block g (hsl g e))).lst hRl hgR hkR)
  rw [ha, hz2] at CM
  obtain ⟨ma, mc, hslc, hmc, hcell⟩ := slc hro.lst hab hbl hn
  rw [hM] at hcell
  have HCELL := Lib.hid hcell
  have HRO := Lib.hid hro
  have HR := Lib.hid hr
  have HS := Lib.hid hS
  have HT := Lib.hid ht
  have HSL := Lib.hid hsl
  have HSB := Lib.hid hsb
  have HSM := Lib.hid hsm
  have HOWN := Lib.hid hown
  have HKM := Lib.hid hkm
  have HRS := Lib.hid hRs
  have HML := Lib.hid hMl
  have HBX := Lib.hid hbx
  have HRE := Lib.hid hRe
  have HGD := Lib.hid hg
  have HZ := Lib.hid hz
  have HB := Lib.hid HB0
  have HAL : Hid (a ≤ z ∧ z ≤ R.length) := Lib.hid ⟨hab, hbl⟩
  have HNE := Lib.hid hbm
  have HZA := Lib.hid hn
  have HFEW := Lib.hid hfew
  have hn0 : n ≤ 4000000 := by omega
  clear hr hr1 hro hcell hown hsl hsb hsm hkm hRs hMl hM hgR hkR hg hz hS hk1 ht1 hbx hbx0 HB0 ht hbm hab hbl hn hfew
  go_enter Try.func30, Try.ntmps30
  go_upto_region 1 with (fail)
  go_region
  clear c22 x0 hlook
  generalize (w.alloc (pnO p)).drew = W1 at CM HBX HB ⊢
  have y1 : W1.cell? ⟨bp, 1, none⟩ = some (.int .i64 p.f) := cell_of_heap HBX.out 1
  have y2 : W1.cell? ⟨bp, 2, none⟩ = some (.int .i64 p.t) := cell_of_heap HBX.out 2
  go_upto_region 3 with (go_at_call 48; refine CM.out.mono ?_; rintro e w1 ⟨rfl, hb1⟩; have HB1 := Lib.hid hb1; clear hb1)
  have I0 : Hid (AddI w bp p M 0 w1) := Lib.hid ⟨by rw [← hbp]; exact grow_below HB.out HB1.out, (HB1.out.block bp (lt_of_heap HBX.out)).trans HBX.out⟩
  clear y1 y2 HB1 HBX HB CM
  go_wp2
  go_loopw [29] (fun i wv => ∃ j : Nat, j ≤ n ∧ i = .int .i64 j ∧ Hid (AddI w bp p M j wv)) (fun i _ => n - (intOf i).toNat)
  case atStart => exact ⟨0, Nat.zero_le _, rfl, I0⟩
  case round =>
    obtain ⟨j, hj, rfl, I⟩ := hrel
    by_cases hjn : j < n
    · obtain ⟨x, hx⟩ : ∃ x, M[j]? = some x := ⟨_, List.getElem?_eq_getElem (by rw [HML.out]; exact hjn)⟩
      obtain ⟨g, o, rfl, hgl, hc⟩ := HCELL.out j x hx
      have HX := Lib.hid hx
      rw [hbp] at hgl
      have r0 := (I.out.low.cell (p := ⟨g, _, none⟩) hgl).trans (hc 0 _ rfl)
      have r1 := (I.out.low.cell (p := ⟨g, _, none⟩) hgl).trans (hc 1 _ rfl)
      have r2 := (I.out.low.cell (p := ⟨g, _, none⟩) hgl).trans (hc 2 _ rfl)
      have r3 := (I.out.low.cell (p := ⟨g, _, none⟩) hgl).trans (hc 3 _ rfl)
      have r4 := (I.out.low.cell (p := ⟨g, _, none⟩) hgl).trans (hc 4 _ rfl)
      have r5 := (I.out.low.cell (p := ⟨g, _, none⟩) hgl).trans (hc 5 _ rfl)
      have r6 := (I.out.low.cell (p := ⟨g, _, none⟩) hgl).trans (hc 6 _ rfl)
      rw [Nat.add_zero] at r0
      obtain ⟨q, hq⟩ : ∃ q, mrg p (M.take j) = q := ⟨_, rfl⟩
      have HQ := Lib.hid hq
      clear hq hc hx
      go_upto_region 6 with (fail)
      have HZ0 : Hid (Below bp w (wr.alloc (pnO x))) := Lib.hid (I.out.low.alloc (Nat.le_of_lt (lt_of_heap I.out.box)) _)
      have hz0 := heap_alloc_new wr (pnO x)
      have hb0 : (wr.alloc (pnO x)).heap[bp]? = some (pnO q) := by rw [Below.heap_alloc _ _ _ (lt_of_heap I.out.box), I.out.box, HQ.out]
      have hne : ¬ wr.heap.size = bp := by have := lt_of_heap I.out.box; omega
      clear r0 r1 r2 r3 r4 r5 r6
      generalize wr.alloc (pnO x) = wz at HZ0 hz0 hb0 ⊢
      obtain ⟨bz, hbz⟩ : ∃ bz, wr.heap.size = bz := ⟨_, rfl⟩
      rw [hbz] at hz0 hne ⊢
      have z1 : wz.cell? ⟨bz, 1, none⟩ = some (.int .i64 x.f) := cell_of_heap hz0 1
      have z2 : wz.cell? ⟨bz, 2, none⟩ = some (.int .i64 x.t) := cell_of_heap hz0 2
      have q1 : wz.cell? ⟨bp, 1, none⟩ = some (.int .i64 q.f) := cell_of_heap hb0 1
      have q2 : wz.cell? ⟨bp, 2, none⟩ = some (.int .i64 q.t) := cell_of_heap hb0 2
      have f1 : wz.frozen? ⟨bp, 1, none⟩ = false := free_of_heap hb0 1
      have f2 : wz.frozen? ⟨bp, 2, none⟩ = false := free_of_heap hb0 2
      have HZ1 := Lib.hid hz0
      have HB1 := Lib.hid hb0
      clear hz0 hb0
      go_upto_region 7 with (fail)
      obtain ⟨q', hq'⟩ : ∃ q' : Pn, q' = ⟨q.k, min q.f x.f, max q.t x.t, q.a⟩ := ⟨_, rfl⟩
      have hf2 : ((wz.setCell ⟨bp, 1, none⟩ (.int .i64 (min q.f x.f))).setCell ⟨bp, 2, none⟩ (.int .i64 (max q.t x.t))).heap[bp]? = some (pnO q') := by
        rw [hq']
        simp [World.setCell, Array.getElem?_modify, HB1.out]
      have HZ2 : Hid (Below bp w ((wz.setCell ⟨bp, 1, none⟩ (.int .i64 (min q.f x.f))).setCell ⟨bp, 2, none⟩ (.int .i64 (max q.t x.t)))) := Lib.hid ((HZ0.out.setCell (Nat.le_refl _) _).setCell (Nat.le_refl _) _)
      have hz2' : ((wz.setCell ⟨bp, 1, none⟩ (.int .i64 (min q.f x.f))).setCell ⟨bp, 2, none⟩ (.int .i64 (max q.t x.t))).heap[bz]? = some (pnO x) := by
        rw [Below.heap_setCell _ _ _ _ (by exact hne), Below.heap_setCell _ _ _ _ (by exact hne), HZ1.out]
      clear z1 z2 q1 q2 f1 f2
      generalize (wz.setCell ⟨bp, 1, none⟩ (.int .i64 (min q.f x.f))).setCell ⟨bp, 2, none⟩ (.int .i64 (max q.t x.t)) = wy at HZ2 hf2 hz2' ⊢
      have z3 : wy.cell? ⟨bz, 3, none⟩ = some (.int .i64 x.a.c) := cell_of_heap hz2' 3
      have z4 : wy.cell? ⟨bz, 4, none⟩ = some (.int .i64 x.a.s) := cell_of_heap hz2' 4
      have z5 : wy.cell? ⟨bz, 5, none⟩ = some (.int .i64 x.a.mn) := cell_of_heap hz2' 5
      have z6 : wy.cell? ⟨bz, 6, none⟩ = some (.int .i64 x.a.mx) := cell_of_heap hz2' 6
      have q3 : wy.cell? ⟨bp, 3, none⟩ = some (.int .i64 q'.a.c) := cell_of_heap hf2 3
      have q4 : wy.cell? ⟨bp, 4, none⟩ = some (.int .i64 q'.a.s) := cell_of_heap hf2 4
      have q5 : wy.cell? ⟨bp, 5, none⟩ = some (.int .i64 q'.a.mn) := cell_of_heap hf2 5
      have q6 : wy.cell? ⟨bp, 6, none⟩ = some (.int .i64 q'.a.mx) := cell_of_heap hf2 6
      have HF2 := Lib.hid hf2
      obtain ⟨r, hr⟩ : ∃ r, jn x.a q'.a = r := ⟨_, rfl⟩
      have HJ := Lib.hid hr
      have HQ2 := Lib.hid hq'
      clear hf2 hz2' hr hq'
      go_upto_region 8 with (go_at_call 49; refine (Ag.join_at HJ.out _).mono ?_; rintro e w3 ⟨rfl, hb3⟩; have hb3 : Below wy.heap.size wy w3 := ⟨hb3.os, hb3.tape, hb3.output, hb3.size, hb3.block⟩; have HB3 := Lib.hid hb3; have hbx3 := (hb3.block bp (lt_of_heap HF2.out)).trans HF2.out; have g3 : w3.cell? ⟨bp, 3, none⟩ = some (.int .i64 q'.a.c) := cell_of_heap hbx3 3; have g4 : w3.cell? ⟨bp, 4, none⟩ = some (.int .i64 q'.a.s) := cell_of_heap hbx3 4; have g5 : w3.cell? ⟨bp, 5, none⟩ = some (.int .i64 q'.a.mn) := cell_of_heap hbx3 5; have g6 : w3.cell? ⟨bp, 6, none⟩ = some (.int .i64 q'.a.mx) := cell_of_heap hbx3 6; have f3 := free_of_heap hbx3 3; have f4 := free_of_heap hbx3 4; have f5 := free_of_heap hbx3 5; have f6 := free_of_heap hbx3 6; have HX3 := Lib.hid hbx3; clear hb3 hbx3; unfold Ag.acV)
      have hw4 : ((((w3.setCell ⟨bp, 3, none⟩ (.int .i64 r.c)).setCell ⟨bp, 4, none⟩ (.int .i64 r.s)).setCell ⟨bp, 5, none⟩ (.int .i64 r.mn)).setCell ⟨bp, 6, none⟩ (.int .i64 r.mx)).heap[bp]? = some (pnO (mrg p (M.take (j + 1)))) := by
        have e : M.take (j + 1) = M.take j ++ [x] := by rw [List.take_add_one, HX.out]; rfl
        rw [e, mrg_snoc, HQ.out, show jn x.a q.a = r by have := HJ.out; rw [HQ2.out] at this; exact this]
        have := HX3.out
        rw [HQ2.out] at this
        simp [World.setCell, Array.getElem?_modify, this]
      have I2 : Hid (AddI w bp p M (j + 1) ((((w3.setCell ⟨bp, 3, none⟩ (.int .i64 r.c)).setCell ⟨bp, 4, none⟩ (.int .i64 r.s)).setCell ⟨bp, 5, none⟩ (.int .i64 r.mn)).setCell ⟨bp, 6, none⟩ (.int .i64 r.mx))) := Lib.hid
        ⟨((((HZ2.out.trans (HB3.out.mono (Nat.le_of_lt (lt_of_heap HF2.out)))).setCell (Nat.le_refl _) _).setCell (Nat.le_refl _) _).setCell (Nat.le_refl _) _).setCell (Nat.le_refl _) _, hw4⟩
      clear hw4
      go_wp2
      go_roundw
      case rel => exact ⟨j + 1, by omega, by go_num, I2⟩
      case measure => simp [intOf]; omega
    · obtain rfl : j = n := by omega
      have hbox := I.out.box
      rw [List.take_of_length_le (by rw [HML.out]; exact Nat.le_refl _)] at hbox
      obtain ⟨q, hq⟩ : ∃ q, mrg p M = q := ⟨_, rfl⟩
      rw [hq] at hbox
      have HQ := Lib.hid hq
      have hqk : q.k = p.k := by rw [← hq]; exact mrg_k _ _
      have HLOW := Lib.hid I.out.low
      have hbl := lt_of_heap hbox
      have hbb : b < bp := by omega
      -- the world where Replace is called
      obtain ⟨wz, hwz⟩ : ∃ wz, wr.drew.alloc (pnO q) = wz := ⟨_, rfl⟩
      obtain ⟨bq, hbq⟩ : ∃ bq, wr.heap.size = bq := ⟨_, rfl⟩
      have hz0 : wz.heap[bq]? = some (pnO q) := by rw [← hwz, ← hbq]; exact heap_alloc_new wr.drew (pnO q)
      have hLz : Below bp w wz := by rw [← hwz]; exact HLOW.out.drew.alloc (Nat.le_of_lt hbl) _
      have hzb : wz.heap[bp]? = some (pnO q) := by rw [← hwz, Below.heap_alloc wr.drew _ _ hbl]; exact hbox
      have hzs : bp < wz.heap.size := lt_of_heap hzb
      have hblk : ∀ g, g < w.heap.size → wz.heap[g]? = w.heap[g]? := fun g hg => hLz.block g (by omega)
      have CR := Lib.hid (replace_any (w := wz) (A := R.take a) (M := M) (B := R.drop z) (p := q) (bp := bq) (i := a) (j := z) (HRS.out ▸ HRO.out.keep (fun g e => hblk g (HSL.out g e))) (by rw [List.length_take]; have := HAL.out; omega) (by have := HAL.out; have := HZA.out; rw [HML.out]; omega) (by rw [← HRS.out]; exact hRl) hz0 (fun e => by have := HSL.out _ e; omega))
      have hS9 : ∀ X : World, X.heap[b]? = w.heap[b]? → X.heap[bp]? = some (pnO q) → X.cell? ⟨b, 22, none⟩ = some (.map (some bm)) ∧ X.cell? ⟨bp, 0, none⟩ = some (kyV q.k) ∧ X.cell? ⟨bp, 1, none⟩ = some (.int .i64 q.f) ∧ X.cell? ⟨bp, 2, none⟩ = some (.int .i64 q.t) ∧ X.cell? ⟨bp, 3, none⟩ = some (.int .i64 q.a.c) ∧ X.cell? ⟨bp, 4, none⟩ = some (.int .i64 q.a.s) ∧ X.cell? ⟨bp, 5, none⟩ = some (.int .i64 q.a.mn) ∧ X.cell? ⟨bp, 6, none⟩ = some (.int .i64 q.a.mx) := fun X h1 h2 =>
        ⟨(World.cell?_of_block (a := ⟨b, 22, none⟩) h1).trans HT.out.c22, cell_of_heap h2 0, cell_of_heap h2 1, cell_of_heap h2 2, cell_of_heap h2 3, cell_of_heap h2 4, cell_of_heap h2 5, cell_of_heap h2 6⟩
      have S0 := hS9 wr (HLOW.out.block b hbb) hbox
      have S1 := hS9 wz (hblk b hlt) hzb
      have HS9 := Lib.hid hS9
      have HLZ := Lib.hid hLz
      have HZB := Lib.hid hzb
      have HZS := Lib.hid hzs
      have HBLK := Lib.hid hblk
      have HBB := Lib.hid hbb
      have HQK := Lib.hid hqk
      subst hwz hbq
      clear hS9 hLz hzb hzs hblk hbb hqk hbox hq hz0 hbl
      go_upto_region 9 with (fail)
      go_region_held3 (fun X => X.cell? ⟨b, 22, none⟩ = some (.map (some bm)) ∧ X.cell? ⟨bp, 0, none⟩ = some (kyV q.k) ∧ X.cell? ⟨bp, 1, none⟩ = some (.int .i64 q.f) ∧ X.cell? ⟨bp, 2, none⟩ = some (.int .i64 q.t) ∧ X.cell? ⟨bp, 3, none⟩ = some (.int .i64 q.a.c) ∧ X.cell? ⟨bp, 4, none⟩ = some (.int .i64 q.a.s) ∧ X.cell? ⟨bp, 5, none⟩ = some (.int .i64 q.a.mn) ∧ X.cell? ⟨bp, 6, none⟩ = some (.int .i64 q.a.mx))
        (first | exact S0 | exact S1 | exact S2 | exact S3)
        (first
        | (go_at_call 50; refine CR.out.mono ?_; rintro e w2 ⟨v', rfl, hrow, hgr, hvo⟩; obtain ⟨es, clock, hmb, hrest⟩ := HR.out.own; have hown2 : w2.ownsMap Try.prog 9 asIs bm (Maps.size D) D := ⟨es, clock, (hgr.block bm (Nat.lt_of_lt_of_le (HS.out bm HR.out.foot) HLZ.out.size) (fun e => HSM.out e.symm)).trans ((HBLK.out bm (HS.out bm HR.out.foot)).trans hmb), hrest⟩; clear hmb hrest; obtain ⟨w3, hrun, hm3, hgr3⟩ := hown2.update law Try.underlying71 (by have := HFEW.out; unfold maxLen; omega) (key := kyV q.k) (val := v') (key_of (k := q.k) (by rw [HQK.out]; unfold maxLen; omega)) (d := .held v') (ps := []) rfl; have S2 := HS9.out w2 ((hgr.block b (Nat.lt_of_lt_of_le hlt HLZ.out.size) (fun e => HSB.out e.symm)).trans (HBLK.out b hlt)) ((hgr.block bp HZS.out (fun e => absurd (HSL.out bp e.symm) (by omega))).trans HZB.out); have S3 := HS9.out w3 ((hgr3.block b (Nat.lt_of_lt_of_le hlt (Nat.le_trans HLZ.out.size hgr.size)) (fun e => HNE.out (by injection e))).trans ((hgr.block b (Nat.lt_of_lt_of_le hlt HLZ.out.size) (fun e => HSB.out e.symm)).trans (HBLK.out b hlt))) ((hgr3.block bp (Nat.lt_of_lt_of_le HZS.out hgr.size) (fun e => by injection e with e; have := HS.out bm HR.out.foot; omega)).trans ((hgr.block bp HZS.out (fun e => absurd (HSL.out bp e.symm) (by omega))).trans HZB.out)); have HROW := Lib.hid hrow; have HGR := Lib.hid hgr; have HVO := Lib.hid hvo; have HM3 := Lib.hid hm3; have HGR3 := Lib.hid hgr3; clear hrow hgr hvo hm3 hgr3 hown2))
      clear S0 S1 S2 S3
      go_end0
      have hput := HR.out.put (w1 := w3) (k := p.k) (v := v') (L := R.take a ++ q :: R.drop z) hpk (by simp) (by rw [← HQK.out]; exact HM3.out) (HROW.out.keep (fun g e => HGR3.out.block g (HROW.out.lt e) (fun e' => by
          injection e' with e'
          subst e'
          rcases HVO.out g e with e2 | e2
          · exact HSM.out e2
          · have := HS.out g HR.out.foot; have := HLZ.out.size; omega)))
        (fun x hx hxb hxV => (HGR3.out.block x (Nat.lt_of_lt_of_le hx (Nat.le_trans HLZ.out.size HGR.out.size)) (fun e => hxb (by injection e))).trans ((HGR.out.block x (Nat.lt_of_lt_of_le hx HLZ.out.size) (fun e => by obtain ⟨h1, h2⟩ := HOWN.out x e.symm; exact hxV h1 h2)).trans (HBLK.out x hx)))
        (fun g e => (HVO.out g e).imp (fun e2 => HOWN.out g e2) (fun e2 => Nat.le_trans HLZ.out.size e2))
      have hL : R.take a ++ q :: R.drop z = kins (decide (k = 3)) R p := by rw [HKM.out, HQ.out]
      have hput2 := hput.congr (R' := krow (kins (decide (k = 3)) l p)) (fun key => by
        by_cases e : key = p.k
        · subst e
          rw [updK_same, hL, krow_kins_same HGD.out hp HZ.out, HRE.out]
        · rw [updK_other _ _ e, krow_kins_other HGD.out hp HZ.out e])
      have hsz3 : w.heap.size ≤ w3.heap.size := Nat.le_trans HLZ.out.size (Nat.le_trans HGR.out.size HGR3.out.size)
      refine ⟨rfl, fun x => S x ∨ v'.ownBlock = some x, HT.out.keep ((HGR3.out.block b (Nat.lt_of_lt_of_le hlt (Nat.le_trans HLZ.out.size HGR.out.size)) (fun e => HNE.out (by injection e))).trans ((HGR.out.block b (Nat.lt_of_lt_of_le hlt HLZ.out.size) (fun e => HSB.out e.symm)).trans (HBLK.out b hlt))), ⟨_, _, hput2⟩, fun x hx => .inl hx, fun x hx => hx.elim (fun e => Nat.lt_of_lt_of_le (HS.out x e) hsz3) (fun e => Nat.lt_of_lt_of_le (HROW.out.lt e) HGR3.out.size), ?_⟩
      refine ⟨HGR3.out.os.trans (HGR.out.os.trans HLZ.out.os), HGR3.out.tape.trans (HGR.out.tape.trans HLZ.out.tape), HGR3.out.output.trans (HGR.out.output.trans HLZ.out.output), hsz3, fun x hx hxS => ?_, fun x hx => hx.elim .inl (fun e => (HVO.out x e).imp (fun e2 => HR.out.rows p.k x (HOWN.out x e2).1 (HOWN.out x e2).2) (fun e2 => Nat.le_trans HLZ.out.size e2))⟩
      exact (HGR3.out.block x (Nat.lt_of_lt_of_le hx (Nat.le_trans HLZ.out.size HGR.out.size)) (fun e => hxS (by injection e with e; rw [e]; exact HR.out.foot))).trans ((HGR.out.block x (Nat.lt_of_lt_of_le hx HLZ.out.size) (fun e => hxS (HR.out.rows p.k x (HOWN.out x e.symm).1 (HOWN.out x e.symm).2))).trans (HBLK.out x hx))
end Go.Proofs.Ytlmnkmfpdjkijaa.Kp
