/-
  Put by the program: the panes of a record's windows put one behind the other. Conditions: the keep lies in memory; its panes as they may be, and not too many.
-/
import Derived.Test.YtlmnkmfpdjkijaaKAdd
import Derived.Test.YtlmnkmfpdjkijaaKNew
import Derived.Test.YtlmnkmfpdjkijaaWP3
namespace Go.Proofs.Ytlmnkmfpdjkijaa.Wi
set_option linter.unusedVariables false
set_option linter.unusedSimpArgs false
open Go.RowKit

set_option maxRecDepth 20000 in
set_option maxHeartbeats 4000000 in
theorem around_own {t s l : Int} (t0 : 0 ≤ t) (t1 : t ≤ 1000000000) (l1 : 1 ≤ l) (l2 : l ≤ s) (s2 : s ≤ 1000000) (s3 : s ≤ 16 * l) {L : List Sp} (hL : sl t s l 20 (t - s - (t - s) % l) = L) (w : World) : Calls Try.prog 46 #[.int .i64 t, .int .i64 s, .int .i64 l] w fun e w' => ∃ v, e = .returned v ∧ SpansAt w' v L ∧ (∀ g, v.ownBlock = some g → w.heap.size ≤ g) ∧ Below w.heap.size w w' := by
  have hte := Int.tmod_eq_emod_of_nonneg (a := t) (b := l) t0
  have hp0 := Int.emod_nonneg t (show l ≠ 0 by omega)
  have hp1 := Int.emod_lt_of_pos t (show 0 < l by omega)
  have hp2 : t % l ≤ t := by
    have h1 := Int.emod_add_mul_ediv t l
    have h2 : 0 ≤ l * (t / l) := Int.mul_nonneg (by omega) (Int.ediv_nonneg t0 (by omega))
    omega
  have HL := Lib.hid hL
  have HF : Hid (∀ f m : Int, f - l + s ≤ t → t < f + s → f = t - t % l + m * l → t - s - (t - s) % l = f - l) := Lib.hid fun f m => first_is l1
  obtain ⟨p, hp⟩ : ∃ p, t % l = p := ⟨_, rfl⟩
  rw [hp] at HF
  rw [hp] at hte hp0 hp1 hp2
  have e0 : (l == 0) = false := ibne (by omega)
  clear hp hL
  go_enter Try.func46, Try.ntmps46
  go_wp2
  go_loopw [8] (fun z wr => ∃ (f m : Int), z = .int .i64 f ∧ m ≤ 0 ∧ Hid (f = t - p + m * l) ∧ t < f + s ∧ f ≤ t ∧ wr = w) (fun z _ => (intOf z + s - t).toNat)
  case atStart => exact ⟨t - p, 0, rfl, Int.le_refl _, Lib.hid (by simp), by omega, by omega, rfl⟩
  case round =>
    obtain ⟨f, m, rfl, hm, HM, f1, f2, rfl⟩ := hrel
    by_cases hgo : t < f - l + s
    · have HM2 : Hid (f - l = t - p + (m - 1) * l) := Lib.hid (by rw [HM.out, Int.sub_mul]; omega)
      clear HM
      go_wp2
      go_roundw
      case rel => exact ⟨f - l, m - 1, rfl, by omega, HM2, by omega, by omega, trivial⟩
      case measure => simp [intOf]; omega
    · have HE : Hid ([] ++ sl t s l 19 f = L) := Lib.hid (by rw [← HL.out, HF.out f m (by omega) f1 HM.out, sl_from (by omega) (by omega)]; rfl)
      have HQ : Hid (t - f < ((19 : Nat) : Int) * l) := Lib.hid (by omega)
      clear HL HF
      go_wp2
      go_loopw [9, 10] (fun y z wq => ∃ (q : Nat) (acc : List Sp) (g k : Int), z = .int .i64 g ∧ -2000000 ≤ g ∧ g ≤ t + l ∧ acc.length + q ≤ 19 ∧ Hid (g = t - p + k * l) ∧ Hid (acc ++ sl t s l q g = L) ∧ Hid (t - g < (q : Int) * l) ∧ Hid (t < g + s) ∧ Hid (wq.ownsRow wr.heap.size 49 2 y acc.length (scs acc)) ∧ Hid (Below wr.heap.size wr wq)) (fun _ z _ => (t + l + 1 - intOf z).toNat)
      case atStart => exact ⟨19, [], f, m, rfl, by omega, by omega, by simp, HM, HE, HQ, Lib.hid f1, Lib.hid (World.ownsRow_nil _ _ _ _), Lib.hid (Below.refl _ _)⟩
      case round =>
        clear HM HE HQ hgo f1 f2 hm
        obtain ⟨q, acc, g, k, rfl, g1, g2, hq, HK, HN, HQ, HI, HO, HB⟩ := hrel
        rename World => wq
        by_cases hlt : g ≤ t - p
        · obtain ⟨q', rfl⟩ : ∃ q', q = q' + 1 := by
            cases q with
            | zero => have := HQ.out; simp at this; omega
            | succ q' => exact ⟨q', rfl⟩
          have HQ2 : Hid (t - (g + l) < (q' : Int) * l) := Lib.hid (by
            have := HQ.out
            have e : ((q' + 1 : Nat) : Int) * l = (q' : Int) * l + l := by rw [Int.natCast_add, Int.add_mul]; simp
            omega)
          have HK2 : Hid (g + l = t - p + (k + 1) * l) := Lib.hid (by rw [Int.add_mul, Int.one_mul]; have := HK.out; omega)
          have HN2 : Hid (acc ++ [(g, g + s)] ++ sl t s l q' (g + l) = L) := Lib.hid (by rw [← HN.out, sl_in (by omega) HI.out, List.append_assoc]; rfl)
          have HI2 : Hid (t < g + l + s) := Lib.hid (by have := HI.out; omega)
          clear HN HQ HK HI
          go_wp2_with (first
            | (go_at_call 47; refine (spanFrom_at (by omega) (by omega) (by omega) (by omega) _).mono ?_; rintro e w1 ⟨rfl, hb1⟩; have HO1 := Lib.hid (ownsRow_below HO.out hb1); have HB1 := Lib.hid (HB.out.trans (hb1.mono HB.out.size)); clear hb1)
            | (refine wpList_append_span (by rfl) (.tmp 34) (.tmp 38) (by rfl) wr.heap.size _ acc (by rfl) w1 (g, g + s) (by rfl) HO1.out (by rfl) (by omega) HB1.out.size ?_; intro v9 w9 hown9 hgrow9; have HO9 := Lib.hid hown9; have HB9 := Lib.hid (below_grown (HB1.out.trans ((Below.refl _ _).alloc (Nat.le_refl _) _ |>.mono HB1.out.size)) (fun k e => by have := (HO1.out.lt k e).1; omega) hgrow9); clear hown9 hgrow9))
          go_roundw
          case rel => exact ⟨q', acc ++ [(g, g + s)], g + l, k + 1, rfl, by omega, by omega, by simp; omega, HK2, HN2, HQ2, HI2, HO9, HB9⟩
          case measure => simp [intOf]; omega
        · have hgt : ¬ g ≤ t := fun h => by
            have h1 := mult_le (m := k) l1 (by rw [← HK.out]; exact h) hp1 hp0
            have h2 := mult_neg l1 h1
            have := HK.out
            omega
          have HN2 : Hid (acc = L) := Lib.hid (by rw [← HN.out, sl_out hgt, List.append_nil])
          clear HN HQ HK HI hgt
          go_wp2
          go_ret
          exact ⟨_, rfl, by rw [← HN2.out]; exact spans_row HO.out, fun g e => (HO.out.lt g e).1, HB.out⟩
set_option maxRecDepth 20000 in
set_option maxHeartbeats 4000000 in
theorem of_own {k s l t : Int} (h : okW k s l = true) (ht : okT t = true) {L : List Sp} (hL : ofS k s l t = L) (w : World) : Calls Try.prog 28 #[wnV k s l, .int .i64 t] w fun e w' => ∃ v, e = .returned (.tuple #[v, .int .i64 0]) ∧ SpansAt w' v L ∧ (∀ g, v.ownBlock = some g → w.heap.size ≤ g) ∧ Below w.heap.size w w' := by
  have HW := Lib.hid h
  have HL := Lib.hid hL
  obtain ⟨t0, t1⟩ := okT_is ht
  have HB0 : Hid (Below w.heap.size w (w.alloc (.cells #[.int .i64 k, .int .i64 s, .int .i64 l] 23))) := Lib.hid ((Below.refl _ _).alloc (Nat.le_refl _) _)
  have HX0 := Lib.hid (wb_new w k s l)
  have hc := okW_cases h
  clear h ht hL
  rcases hc with ⟨rfl, rfl, rfl⟩ | ⟨rfl, s1, s2, rfl⟩ | ⟨rfl, s1, s2, l1, l2, l3⟩ | ⟨rfl, s1, s2, rfl⟩
  · have HN : Hid (L = []) := Lib.hid (by rw [← HL.out]; rfl)
    go_enter Try.func28, Try.ntmps28
    go_wp2_with (go_at_call 26; refine (right_at HW.out _).mono ?_; rintro e w1 ⟨rfl, hb1⟩; have HB1 := Lib.hid (HB0.out.trans (hb1.mono HB0.out.size)); have HX1 := Lib.hid (HX0.out.grow hb1); obtain ⟨c0, c1, c2⟩ := HX1.out.cells; clear hb1)
    go_ret2
    exact ⟨_, rfl, by rw [HN.out]; exact nil_spans _, (fun g e => by cases e), HB1.out⟩
  · have HN : Hid (sl t s s 20 (t - s - (t - s) % s) = L) := Lib.hid (by rw [← HL.out, sl_tum t0 s1]; rfl)
    clear HL
    go_enter Try.func28, Try.ntmps28
    go_wp2_with (first
      | (go_at_call 26; refine (right_at HW.out _).mono ?_; rintro e w1 ⟨rfl, hb1⟩; have HB1 := Lib.hid (HB0.out.trans (hb1.mono HB0.out.size)); have HX1 := Lib.hid (HX0.out.grow hb1); obtain ⟨c0, c1, c2⟩ := HX1.out.cells; clear hb1)
      | (go_at_call 46; refine (around_own t0 t1 s1 (Int.le_refl s) s2 (by omega) HN.out _).mono ?_; rintro e w2 ⟨v2, rfl, hi2, ho2, hb2⟩; have HI2 := Lib.hid hi2; have HO2 : Hid (∀ g, v2.ownBlock = some g → w.heap.size ≤ g) := Lib.hid (fun g e => Nat.le_trans HB1.out.size (ho2 g e)); have HB2 := Lib.hid (HB1.out.trans (hb2.mono HB1.out.size)); clear hb2 hi2 ho2))
    go_ret2
    exact ⟨_, rfl, HI2.out, HO2.out, HB2.out⟩
  · have HN : Hid (sl t s l 20 (t - s - (t - s) % l) = L) := Lib.hid (by rw [← HL.out]; rfl)
    clear HL
    go_enter Try.func28, Try.ntmps28
    go_wp2_with (first
      | (go_at_call 26; refine (right_at HW.out _).mono ?_; rintro e w1 ⟨rfl, hb1⟩; have HB1 := Lib.hid (HB0.out.trans (hb1.mono HB0.out.size)); have HX1 := Lib.hid (HX0.out.grow hb1); obtain ⟨c0, c1, c2⟩ := HX1.out.cells; clear hb1)
      | (go_at_call 46; refine (around_own t0 t1 l1 l2 s2 l3 HN.out _).mono ?_; rintro e w2 ⟨v2, rfl, hi2, ho2, hb2⟩; have HI2 := Lib.hid hi2; have HO2 : Hid (∀ g, v2.ownBlock = some g → w.heap.size ≤ g) := Lib.hid (fun g e => Nat.le_trans HB1.out.size (ho2 g e)); have HB2 := Lib.hid (HB1.out.trans (hb2.mono HB1.out.size)); clear hb2 hi2 ho2))
    go_ret2
    exact ⟨_, rfl, HI2.out, HO2.out, HB2.out⟩
  · have HN : Hid (L = [(t, t + s)]) := Lib.hid (by rw [← HL.out]; rfl)
    clear HL
    go_enter Try.func28, Try.ntmps28
    go_wp2_with (first
      | (go_at_call 26; refine (right_at HW.out _).mono ?_; rintro e w1 ⟨rfl, hb1⟩; have HB1 := Lib.hid (HB0.out.trans (hb1.mono HB0.out.size)); have HX1 := Lib.hid (HX0.out.grow hb1); obtain ⟨c0, c1, c2⟩ := HX1.out.cells; clear hb1)
      | (go_at_call 47; refine (spanFrom_at (by omega) (by omega) (by omega) (by omega) _).mono ?_; rintro e w2 ⟨rfl, hb2⟩; have HB2 := Lib.hid (HB1.out.trans (hb2.mono HB1.out.size)); clear hb2))
    go_ret2
    exact ⟨_, rfl, by rw [HN.out]; exact spans_block (heap_alloc_new w2 _) rfl rfl (by decide), (fun g e => by injection e with e; rw [← e]; exact HB2.out.size), HB2.out.trans (((Below.refl _ _).alloc (Nat.le_refl _) _).mono HB2.out.size)⟩
end Go.Proofs.Ytlmnkmfpdjkijaa.Wi
namespace Go.Proofs.Ytlmnkmfpdjkijaa.Kp
set_option linter.unusedVariables false
set_option linter.unusedSimpArgs false
open Go.Proofs.Ytlmnkmfpdjkijaa Go.Proofs.Ytlmnkmfpdjkijaa.Ke
open Go.RowKit
open Go.Proofs.Ytlmnkmfpdjkijaa.Ag (Ac jn vl acV)
open Go.Proofs.Ytlmnkmfpdjkijaa.Wi (Sp ofS okW okT okT_is okW_cases cov_of Cov SpansAt)

theorem sl_le (t s l : Int) : ∀ (q : Nat) (f : Int), (Wi.sl t s l q f).length ≤ q
  | 0, _ => Nat.le_refl _
  | q + 1, f => by
    unfold Wi.sl
    have h := sl_le t s l q (f + l)
    split
    · rw [List.length_append]
      split
      · simp only [List.length_cons, List.length_nil]; omega
      · simp only [List.length_nil]; omega
    · exact Nat.zero_le _
theorem ofS_le (k s l t : Int) : (ofS k s l t).length ≤ 20 := by
  unfold ofS
  split
  · exact (by decide : 1 ≤ 20)
  · split
    · exact (by decide : 1 ≤ 20)
    · split
      · exact sl_le _ _ _ _ _
      · exact Nat.zero_le _
theorem len_le {l : List Pn} (h : Pos l) : (l.length : Int) ≤ csum l := by
  induction l with
  | nil => exact Int.le_refl _
  | cons x r ih =>
    have h1 := h x (by simp)
    have h2 := ih (fun y hy => h y (by simp [hy]))
    rw [csum_cons]
    simp only [List.length_cons]
    omega
theorem csum_take_le {l : List Pn} (h : Pos l) (j : Nat) : csum (l.take j) ≤ csum l := by
  induction l generalizing j with
  | nil => simp
  | cons x r ih =>
    have h1 := h x (by simp)
    have hr : Pos r := fun y hy => h y (by simp [hy])
    cases j with
    | zero => rw [List.take_zero]; have := Pos.csum hr; rw [csum_cons]; show (0 : Int) ≤ _; omega
    | succ j => rw [List.take_succ_cons, csum_cons, csum_cons]; have := ih hr j; omega
theorem kall_snoc (ses : Bool) (l qs : List Pn) (p : Pn) : kall ses l (qs ++ [p]) = kins ses (kall ses l qs) p := by rw [kall_append]; rfl
theorem lstKeep {α : Type} {c : Nat} {C : α → List Value} {w w' : World} {v : Value} {L : List α} (h : Lst c C w v L) (hk : ∀ g, v.ownBlock = some g → w'.heap[g]? = w.heap[g]?) (hz : w.heap.size ≤ w'.heap.size) : Lst c C w' v L := by
  obtain ⟨a, cap, rfl, h2, h3, h3', h4⟩ := h
  refine ⟨a, cap, rfl, h2, h3, h3', fun h0 => ?_⟩
  obtain ⟨b, o, rfl, hl, hc⟩ := h4 h0
  exact ⟨b, o, rfl, Nat.lt_of_lt_of_le hl hz, fun i x hi j u hj => (World.cell?_of_block (a := ⟨b, _, none⟩) (hk b rfl)).trans (hc i x hi j u hj)⟩
/-- The first j panes are put. -/
structure PutI (w0 : World) (S0 : Nat → Prop) (b bm : Nat) (k s lw agg m : Int) (ld : Nat → Bool) (l qs : List Pn) (br : Nat) (r : Rc) (sl : Value) (L : List Sp) (j : Nat) (wr : World) : Prop where
  ex : ∃ S', KTop wr b k s lw agg m false ld bm ∧ Rws wr S' bm (krow (kall (decide (k = 3)) l (qs.take j))) ∧ S' b ∧ (∀ x, S' x → x < wr.heap.size) ∧ Upd S0 S' w0 wr ∧ ¬ S' br ∧ ∀ g, sl.ownBlock = some g → ¬ S' g
  box : wr.heap[br]? = some (rcO r)
  spans : SpansAt wr sl L
set_option maxRecDepth 20000 in
set_option maxHeartbeats 1000000 in
theorem put_go {w : World} {S : Nat → Prop} {b bm : Nat} {k s lw agg m : Int} {fr : Bool} {ld : Nat → Bool} {l : List Pn} {r : Rc} (ht : KTop w b k s lw agg m fr ld bm) (hr : Rws w S bm (krow l)) (hSb : S b) (hS : ∀ x, S x → x < w.heap.size) (hI : Inv k s l m) (hw : okW k s lw = true) (hc : 100 + csum l ≤ 1000000) (hkl : r.k.length ≤ 16) (htm : okT r.t = true) (hlate : m ≤ r.t) (hk0 : k ≠ 0) (hv : I64 r.v) :
    Calls Try.prog 13 #[.pointer (some ⟨b, 0, none⟩), rcV r] w fun e' w' => ∃ S', e' = .returned (.tuple #[.slice none 0 0, .int .i64 0]) ∧ KTop w' b k s lw agg m false ld bm ∧ Rws w' S' bm (krow (kall (decide (k = 3)) l (raws k s lw r.k r.t r.v))) ∧ S' b ∧ (∀ x, S' x → x < w'.heap.size) ∧ Upd S S' w w' := by
  obtain ⟨br, hbr⟩ : ∃ br, w.heap.size = br := ⟨_, rfl⟩
  have hlt := ht.lt
  have HB0 : Below w.heap.size w (w.alloc (rcO r)) := (Below.refl _ w).alloc (Nat.le_refl _) (rcO r)
  have hb0 : (w.alloc (rcO r)).heap[br]? = some (rcO r) := by rw [← hbr]; exact heap_alloc_new w (rcO r)
  have ht0 : KTop (w.alloc (rcO r)) b k s lw agg m fr ld bm := ht.keep (HB0.block b hlt)
  have HW := Lib.hid hw
  have HTM := Lib.hid htm
  obtain ⟨L, hL⟩ : ∃ L, ofS k s lw r.t = L := ⟨_, rfl⟩
  have HL := Lib.hid hL
  have hll : L.length ≤ 20 := by rw [← hL]; exact ofS_le _ _ _ _
  have HLT := Lib.hid (decide_eq_false (show ¬ r.t < m by omega))
  have hk00 : (k == 0) = false := by simpa using hk0
  have hk16 : decide ((16 : Int) < (r.k.length : Int)) = false := decide_eq_false (by omega)
  have HT := Lib.hid ht
  have HR := Lib.hid hr
  have HS := Lib.hid hS
  have HI := Lib.hid hI
  have HC := Lib.hid hc
  have HV := Lib.hid hv
  have HLA := Lib.hid hlate
  have HKL := Lib.hid hkl
  clear ht hr hS hI hw hc htm hL hv hlate hkl
  go_enter Try.func13, Try.ntmps13
  go_upto_region 3 with (fail)
  generalize w.alloc (rcO r) = W at HB0 hb0 ht0 ⊢
  have hbl := lt_of_heap hb0
  have hbl2 : b < W.heap.size := ht0.lt
  have d0 := ht0.c0
  have d1 := ht0.c1
  have d2 := ht0.c2
  have d4 := ht0.c4
  have e1 : W.cell? ⟨br, 1, none⟩ = some (.int .i64 r.t) := cell_of_heap hb0 1
  have HT0 := Lib.hid ht0
  have HBX := Lib.hid hb0
  have HBS := Lib.hid hbl
  have HB := Lib.hid HB0
  clear ht0 hb0 HB0
  go_region_held3 (fun X => X.cell? ⟨b, 0, none⟩ = some (.int .i64 k) ∧ X.cell? ⟨b, 1, none⟩ = some (.int .i64 s) ∧ X.cell? ⟨b, 2, none⟩ = some (.int .i64 lw) ∧ X.cell? ⟨br, 1, none⟩ = some (.int .i64 r.t))
    (first | exact ⟨d0, d1, d2, e1⟩ | exact S2)
    (first
    | (go_at_call 28; refine (Wi.of_own HW.out HTM.out HL.out _).mono ?_; rintro e w1 ⟨sl, rfl, hsl, hso, hb⟩; have hso : ∀ g, sl.ownBlock = some g → W.heap.size ≤ g := hso; have HSO := Lib.hid hso; have hb : Below W.heap.size W w1 := ⟨hb.os, hb.tape, hb.output, hb.size, hb.block⟩; have S2 : w1.cell? ⟨b, 0, none⟩ = some (.int .i64 k) ∧ w1.cell? ⟨b, 1, none⟩ = some (.int .i64 s) ∧ w1.cell? ⟨b, 2, none⟩ = some (.int .i64 lw) ∧ w1.cell? ⟨br, 1, none⟩ = some (.int .i64 r.t) := ⟨(hb.cell (p := ⟨b, 0, none⟩) hbl2).trans d0, (hb.cell (p := ⟨b, 1, none⟩) hbl2).trans d1, (hb.cell (p := ⟨b, 2, none⟩) hbl2).trans d2, (hb.cell (p := ⟨br, 1, none⟩) hbl).trans e1⟩; have HSL := Lib.hid hsl; have HB1 := Lib.hid hb; clear hsl hb hso))
  clear S2 d0 d1 d2 d4 e1
  have hb1 : w1.heap[br]? = some (rcO r) := (HB1.out.block br hbl).trans HBX.out
  have ht1 : KTop w1 b k s lw agg m fr ld bm := HT0.out.keep (HB1.out.block b hbl2)
  have x0 : w1.cell? ⟨br, 0, none⟩ = some (kyV r.k) := cell_of_heap hb1 0
  have x1 : w1.cell? ⟨br, 1, none⟩ = some (.int .i64 r.t) := cell_of_heap hb1 1
  have d4 := ht1.c4
  have HBW : Hid (Below br w w1) := Lib.hid (by rw [← hbr]; exact HB.out.trans (HB1.out.mono HB.out.size))
  have HB2 := Lib.hid hb1
  have HT1 := Lib.hid ht1
  have d5 := ht1.c5
  have f5 := ht1.fz 5
  have hz1 : br < w1.heap.size := lt_of_heap hb1
  clear hb1 ht1 HB HB1 HT0 HBX
  go_upto_region 6 with (fail)
  go_region_held3 (fun X => X.cell? ⟨b, 4, none⟩ = some (.int .i64 m) ∧ X.cell? ⟨br, 1, none⟩ = some (.int .i64 r.t))
    (first | exact ⟨d4, x1⟩ | exact S2)
    (first
    | (go_at_call 29; refine (late_at HLT.out _).mono ?_; rintro e w2 ⟨rfl, hw2⟩; rw [hw2]; have S2 : w1.cell? ⟨b, 4, none⟩ = some (.int .i64 m) ∧ w1.cell? ⟨br, 1, none⟩ = some (.int .i64 r.t) := ⟨d4, x1⟩))
  clear S2 x0 x1
  go_upto_region 9 with (fail)
  have ht8 : KTop (w1.setCell ⟨b, 5, none⟩ (.bool false)).drew b k s lw agg m false ld bm := HT1.out.set5 false
  have hb8 : (w1.setCell ⟨b, 5, none⟩ (.bool false)).drew.heap[br]? = some (rcO r) := (Below.heap_setCell _ _ _ _ (by show br ≠ b; omega)).trans HB2.out
  have hk8 : ∀ x, x < w.heap.size → x ≠ b → (w1.setCell ⟨b, 5, none⟩ (.bool false)).drew.heap[x]? = w.heap[x]? := fun x hx hxb => (Below.heap_setCell _ _ _ _ hxb).trans (HBW.out.block x (by omega))
  have hsp8 : SpansAt (w1.setCell ⟨b, 5, none⟩ (.bool false)).drew sl L ∧ ∀ g, sl.ownBlock = some g → br < g := by
    refine ⟨?_, fun g e => Nat.lt_of_lt_of_le HBS.out (HSO.out g e)⟩
    obtain ⟨a, cap, rfl, h2, h3, h3', h4⟩ := HSL.out
    refine ⟨a, cap, rfl, h2, h3, h3', fun h0 => ?_⟩
    obtain ⟨g, o, rfl, hg, hc⟩ := h4 h0
    have hgb := HSO.out g rfl
    refine ⟨g, o, rfl, by simpa [World.setCell] using hg, fun i x hi j u hj => (World.cell?_of_block (a := ⟨g, _, none⟩) (Below.heap_setCell _ _ _ _ (by show g ≠ b; have := HBS.out; omega))).trans (hc i x hi j u hj)⟩
  have hu8 : Upd S S w (w1.setCell ⟨b, 5, none⟩ (.bool false)).drew := ⟨HBW.out.os, HBW.out.tape, HBW.out.output, by show w.heap.size ≤ (w1.setCell _ _).heap.size; simp [World.setCell]; exact HBW.out.size, fun x hx hxs => hk8 x hx (fun e => hxs (e ▸ hSb)), fun x hx => .inl hx⟩
  have hr8 : Rws (w1.setCell ⟨b, 5, none⟩ (.bool false)).drew S bm (krow l) := HR.out.apart HT.out (by decide) (fun q hq hqb => hk8 q hq hqb)
  have hs8 : w.heap.size ≤ (w1.setCell ⟨b, 5, none⟩ (.bool false)).drew.heap.size := hu8.size
  clear d4 d5 f5
  generalize (w1.setCell ⟨b, 5, none⟩ (.bool false)).drew = W8 at ht8 hb8 hsp8 hu8 hr8 hs8 ⊢
  have c0 := ht8.c0
  have hz8 : br < W8.heap.size := lt_of_heap hb8
  obtain ⟨qs, hqs⟩ : ∃ qs, raws k s lw r.k r.t r.v = qs := ⟨_, rfl⟩
  have I0 : Hid (PutI w S b bm k s lw agg m ld l qs br r sl L 0 W8) := Lib.hid ⟨⟨S, ht8, hr8, hSb, fun x hx => Nat.lt_of_lt_of_le (HS.out x hx) hs8, hu8, fun h => by have := HS.out _ h; omega, fun g e h => by have := HS.out _ h; have := hsp8.2 g e; omega⟩, hb8, hsp8.1⟩
  have HQS := Lib.hid hqs
  have hqp : ∀ p ∈ qs, Ke.Put (decide (k = 3)) s p := by rw [← hqs]; exact raws_put HW.out HTM.out HV.out
  have hqc : csum qs ≤ 20 := by rw [← hqs, raws_len, HL.out]; omega
  have HQP := Lib.hid hqp
  have HQC := Lib.hid hqc
  obtain ⟨a, n, cap, rfl, hn⟩ : ∃ a n cap, sl = .slice a n cap ∧ L.length = n := by
    obtain ⟨a, cap, e, -⟩ := hsp8.1
    exact ⟨a, _, cap, e, rfl⟩
  have HN := Lib.hid hn
  have hn20 : n ≤ 20 := by omega
  clear ht8 hb8 hk8 hsp8 hu8 hr8 HSL hqs hqp hqc hn hz8
  go_wp2
  go_loopw [50] (fun i wv => ∃ j : Nat, j ≤ n ∧ i = .int .i64 j ∧ Hid (PutI w S b bm k s lw agg m ld l qs br r (.slice a n cap) L j wv)) (fun i _ => n - (intOf i).toNat)
  case atStart => exact ⟨0, Nat.zero_le _, rfl, I0⟩
  case round =>
    obtain ⟨j, hj, rfl, I⟩ := hrel
    by_cases hjn : j < n
    · obtain ⟨S', T, R, SB, SL, U, NB, NS⟩ := I.out.ex
      have hbx := I.out.box
      obtain ⟨sp, hsp⟩ : ∃ sp, L[j]? = some sp := ⟨_, List.getElem?_eq_getElem (by rw [HN.out]; exact hjn)⟩
      obtain ⟨hjl, esp⟩ := List.getElem?_eq_some_iff.1 hsp
      obtain ⟨g, o, rfl, hgl, r0, r1⟩ := I.out.spans.cells hjl
      rw [esp] at r0 r1
      have HT9 := Lib.hid T
      have HR9 := Lib.hid R
      have HU := Lib.hid U
      have HSL := Lib.hid SL
      have HSP := Lib.hid I.out.spans
      have HBX := Lib.hid hbx
      have HE := Lib.hid hsp
      clear T R U SL hbx hsp esp hjl
      go_upto_region 14 with (fail)
      have HBA : Below wr.heap.size wr (wr.alloc (.cells #[.int .i64 sp.1, .int .i64 sp.2] 49)) := (Below.refl _ wr).alloc (Nat.le_refl _) _
      have hz0 := heap_alloc_new wr (.cells #[.int .i64 sp.1, .int .i64 sp.2] 49 (0, 0))
      have zsz : (wr.alloc (.cells #[.int .i64 sp.1, .int .i64 sp.2] 49)).heap.size = wr.heap.size + 1 := World.size_alloc _ _
      clear r0 r1
      generalize wr.alloc (.cells #[.int .i64 sp.1, .int .i64 sp.2] 49) = wz at HBA hz0 zsz ⊢
      obtain ⟨bz, hbz⟩ : ∃ bz, wr.heap.size = bz := ⟨_, rfl⟩
      have hbrl := lt_of_heap HBX.out
      have hTz : KTop wz b k s lw agg m false ld bm := HT9.out.keep (HBA.block b HT9.out.lt)
      have hRz := HR9.out.keep (fun x hx => HBA.block x (HSL.out x hx))
      have hSz : ∀ x, S' x → x < wz.heap.size := fun x hx => Nat.lt_of_lt_of_le (HSL.out x hx) HBA.size
      have hNz : ¬ S' bz := fun h => by have := HSL.out _ h; omega
      have hbxz := (HBA.block br hbrl).trans HBX.out
      rw [hbz] at hz0 zsz hbrl ⊢
      have hzl : bz < wz.heap.size := by omega
      have hbl : br < wz.heap.size := by omega
      have k0 : wz.cell? ⟨br, 0, none⟩ = some (kyV r.k) := cell_of_heap hbxz 0
      have k2 : wz.cell? ⟨br, 2, none⟩ = some (.int .i64 r.v) := cell_of_heap hbxz 2
      have s0 : wz.cell? ⟨bz, 0, none⟩ = some (.int .i64 sp.1) := cell_of_heap hz0 0
      have s1 : wz.cell? ⟨bz, 1, none⟩ = some (.int .i64 sp.2) := cell_of_heap hz0 1
      obtain ⟨a0, ha0⟩ : ∃ a0, Ag.one r.v = a0 := ⟨_, rfl⟩
      have hq : qs[j]? = some ⟨r.k, sp.1, sp.2, a0⟩ := by
        rw [← HQS.out, ← ha0]
        unfold raws
        rw [HL.out, List.getElem?_map, HE.out]; rfl
      have hqm := HQP.out _ (List.mem_of_getElem? hq)
      have hpos : Pos qs := fun x hx => (HQP.out x hx).pos
      obtain ⟨g1, g2, g3, -⟩ := kall_is (qs.take j) HI.out.good HI.out.pos (fun x hx => HQP.out x (List.mem_of_mem_take hx)) (by have := csum_take_le hpos j; have := HQC.out; have := HC.out; omega)
      have hll2 : (kall (decide (k = 3)) l (qs.take j)).length ≤ 4000000 := by have := len_le g2; have := csum_take_le hpos j; have := HQC.out; have := HC.out; omega
      have HA0 := Lib.hid ha0
      have HQ := Lib.hid hq
      have HADD := Lib.hid (fun (w2 : World) (h1 : KTop w2 b k s lw agg m false ld bm) (h2 : Rws w2 S' bm (krow (kall (decide (k = 3)) l (qs.take j)))) (h3 : ∀ x, S' x → x < w2.heap.size) => add_mem (p := ⟨r.k, sp.1, sp.2, a0⟩) h1 h2 SB h3 hll2 g1 hqm.full hqm.size HKL.out)
      have HTZ := Lib.hid hTz
      have HRZ := Lib.hid hRz
      have HSZ := Lib.hid hSz
      have HNZ := Lib.hid hNz
      have HNB := Lib.hid NB
      have HNS := Lib.hid NS
      have HBAH := Lib.hid HBA
      have hbt := hTz.lt
      have HBXZ := Lib.hid hbxz
      clear hz0 hTz hRz hSz hNz hbxz ha0 hq hqm hpos g1 g2 g3 hll2 NB NS HBA
      go_region_held3 (fun X => X.cell? ⟨br, 0, none⟩ = some (kyV r.k) ∧ X.cell? ⟨br, 2, none⟩ = some (.int .i64 r.v) ∧ X.cell? ⟨bz, 0, none⟩ = some (.int .i64 sp.1) ∧ X.cell? ⟨bz, 1, none⟩ = some (.int .i64 sp.2))
        (first | exact ⟨k0, k2, s0, s1⟩ | exact S2 | exact S3)
        (first
        | (go_at_call 31; refine (Ag.one_at HA0.out _).mono ?_; rintro e w2 ⟨rfl, hb⟩; have hb : Below wz.heap.size wz w2 := ⟨hb.os, hb.tape, hb.output, hb.size, hb.block⟩; have S2 : w2.cell? ⟨br, 0, none⟩ = some (kyV r.k) ∧ w2.cell? ⟨br, 2, none⟩ = some (.int .i64 r.v) ∧ w2.cell? ⟨bz, 0, none⟩ = some (.int .i64 sp.1) ∧ w2.cell? ⟨bz, 1, none⟩ = some (.int .i64 sp.2) := ⟨(hb.cell (p := ⟨br, 0, none⟩) hbl).trans k0, (hb.cell (p := ⟨br, 2, none⟩) hbl).trans k2, (hb.cell (p := ⟨bz, 0, none⟩) hzl).trans s0, (hb.cell (p := ⟨bz, 1, none⟩) hzl).trans s1⟩; have HB2 := Lib.hid hb; clear hb)
        | (go_at_call 30; refine (HADD.out w2 (HTZ.out.keep (HB2.out.block b hbt)) (HRZ.out.keep (fun x hx => HB2.out.block x (HSZ.out x hx))) (fun x hx => Nat.lt_of_lt_of_le (HSZ.out x hx) HB2.out.size)).mono ?_; rintro e w3 ⟨rfl, S'', t3, r3, i3, l3, u3⟩; have S3 : w3.cell? ⟨br, 0, none⟩ = some (kyV r.k) ∧ w3.cell? ⟨br, 2, none⟩ = some (.int .i64 r.v) ∧ w3.cell? ⟨bz, 0, none⟩ = some (.int .i64 sp.1) ∧ w3.cell? ⟨bz, 1, none⟩ = some (.int .i64 sp.2) := ⟨(World.cell?_of_block (a := ⟨br, 0, none⟩) (u3.block br (Nat.lt_of_lt_of_le hbl HB2.out.size) HNB.out)).trans S2.1, (World.cell?_of_block (a := ⟨br, 2, none⟩) (u3.block br (Nat.lt_of_lt_of_le hbl HB2.out.size) HNB.out)).trans S2.2.1, (World.cell?_of_block (a := ⟨bz, 0, none⟩) (u3.block bz (Nat.lt_of_lt_of_le hzl HB2.out.size) HNZ.out)).trans S2.2.2.1, (World.cell?_of_block (a := ⟨bz, 1, none⟩) (u3.block bz (Nat.lt_of_lt_of_le hzl HB2.out.size) HNZ.out)).trans S2.2.2.2⟩; have HT3 := Lib.hid t3; have HR3 := Lib.hid r3; have HI3 := Lib.hid i3; have HL3 := Lib.hid l3; have HU3 := Lib.hid u3; clear t3 r3 i3 l3 u3))
      clear S2 S3 k0 k2 s0 s1
      have hLow : Below wr.heap.size wr w2 := grow_below HBAH.out HB2.out
      have hgl2 : g < w2.heap.size := Nat.lt_of_lt_of_le hgl hLow.size
      have I2 : Hid (PutI w S b bm k s lw agg m ld l qs br r (.slice (some ⟨g, o, none⟩) n cap) L (j + 1) w3) := Lib.hid (by
        have e : qs.take (j + 1) = qs.take j ++ [⟨r.k, sp.1, sp.2, a0⟩] := by rw [List.take_add_one, HQ.out]; rfl
        refine ⟨⟨S'', HT3.out, ?_, HI3.out b SB, HL3.out, HU.out.trans ((Upd.of_below hLow).trans HU3.out), fun h => ?_, fun g' e' h => ?_⟩, ?_, ?_⟩
        · rw [e, kall_snoc]; exact HR3.out
        · rcases HU3.out.foot br h with h1 | h1
          · exact HNB.out h1
          · have := HB2.out.size; omega
        · injection e' with e'
          dsimp only at e'
          subst e'
          rcases HU3.out.foot _ h with h1 | h1
          · exact HNS.out _ rfl h1
          · omega
        · exact (HU3.out.block br (Nat.lt_of_lt_of_le hbl HB2.out.size) HNB.out).trans ((HB2.out.block br hbl).trans HBXZ.out)
        · exact lstKeep HSP.out (fun g' e' => by
            injection e' with e'
            dsimp only at e'
            subst e'
            exact (HU3.out.block _ hgl2 (HNS.out _ rfl)).trans (hLow.block _ hgl)) (Nat.le_trans hLow.size HU3.out.size))
      go_wp2
      go_roundw
      case rel => exact ⟨j + 1, by omega, by go_num, I2⟩
      case measure => simp [intOf]; omega
    · obtain rfl : j = n := by omega
      have hql : qs.length = j := by rw [← HQS.out]; unfold raws; rw [List.length_map, HL.out, HN.out]
      obtain ⟨S', T, R, SB, SL, U, NB, NS⟩ := I.out.ex
      rw [List.take_of_length_le (by rw [hql]; exact Nat.le_refl _)] at R
      have HRF := Lib.hid R
      have HTF := Lib.hid T
      clear hql R T
      go_wp2
      go_ret2
      exact ⟨S', rfl, HTF.out, by rw [HQS.out]; exact HRF.out, SB, SL, U⟩
end Go.Proofs.Ytlmnkmfpdjkijaa.Kp
