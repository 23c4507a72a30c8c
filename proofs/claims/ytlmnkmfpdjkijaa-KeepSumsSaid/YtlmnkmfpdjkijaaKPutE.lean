/-
  Put and Mark by the program: what may not be, what is late, what is told at once, a mark that does not rise. Conditions: the keep lies in memory.
-/
import Derived.Test.YtlmnkmfpdjkijaaKPut
namespace Go.Proofs.Ytlmnkmfpdjkijaa.Kp
set_option linter.unusedVariables false
set_option linter.unusedSimpArgs false
open Go.Proofs.Ytlmnkmfpdjkijaa Go.Proofs.Ytlmnkmfpdjkijaa.Ke
open Go.RowKit
open Go.Proofs.Ytlmnkmfpdjkijaa.Wi (Sp ofS okW okT okT_is okW_cases cov_of Cov SpansAt)

theorem rc_block {w : World} {b : Nat} {q : Rc} (hb : w.heap[b]? = some (rcO q)) : RcsAt w (.slice (some ⟨b, 0, none⟩) 1 1) [q] := by
  refine ⟨some ⟨b, 0, none⟩, 1, rfl, Nat.le_refl _, (by show 1 ≤ maxLen; unfold maxLen; decide), (by unfold maxLen; decide), fun _ => ⟨b, 0, rfl, lt_of_heap hb, fun i x hi j u hj => ?_⟩⟩
  cases i with
  | zero =>
    simp only [List.getElem?_cons_zero, Option.some.injEq] at hi
    subst hi
    rw [cell_of_heap hb, Nat.zero_mul, Nat.add_zero, Nat.zero_add, ← Array.getElem?_toList]
    exact hj
  | succ i => simp at hi
set_option maxRecDepth 20000 in
set_option maxHeartbeats 1000000 in
theorem put_t {w : World} {b bm : Nat} {k s lw agg m : Int} {fr : Bool} {ld : Nat → Bool} {r : Rc} (ht : KTop w b k s lw agg m fr ld bm) (htm : okT r.t = false) : Calls Try.prog 13 #[.pointer (some ⟨b, 0, none⟩), rcV r] w fun e' w' => e' = .returned (.tuple #[.slice none 0 0, .int .i64 1]) ∧ Below w.heap.size w w' := by
  obtain ⟨br, hbr⟩ : ∃ br, w.heap.size = br := ⟨_, rfl⟩
  have hlt := ht.lt
  have HB0 : Below w.heap.size w (w.alloc (rcO r)) := (Below.refl _ w).alloc (Nat.le_refl _) (rcO r)
  have hb0 : (w.alloc (rcO r)).heap[br]? = some (rcO r) := by rw [← hbr]; exact heap_alloc_new w (rcO r)
  have ht0 : KTop (w.alloc (rcO r)) b k s lw agg m fr ld bm := ht.keep (HB0.block b hlt)
  have HNO : Hid ((okW k s lw && okT r.t) = false) := Lib.hid (by rw [htm, Bool.and_false])
  clear ht htm
  go_enter Try.func13, Try.ntmps13
  go_upto_region 3 with (fail)
  generalize w.alloc (rcO r) = W at HB0 hb0 ht0 ⊢
  have hbl := lt_of_heap hb0
  have hbl2 : b < W.heap.size := ht0.lt
  have d0 := ht0.c0
  have d1 := ht0.c1
  have d2 := ht0.c2
  have e1 : W.cell? ⟨br, 1, none⟩ = some (.int .i64 r.t) := cell_of_heap hb0 1
  have HT0 := Lib.hid ht0
  have HBX := Lib.hid hb0
  have HBS := Lib.hid hbl
  have HB := Lib.hid HB0
  clear ht0 hb0 HB0
  go_region_held3 (fun X => X.cell? ⟨b, 0, none⟩ = some (.int .i64 k) ∧ X.cell? ⟨b, 1, none⟩ = some (.int .i64 s) ∧ X.cell? ⟨b, 2, none⟩ = some (.int .i64 lw) ∧ X.cell? ⟨br, 1, none⟩ = some (.int .i64 r.t))
    (first | exact ⟨d0, d1, d2, e1⟩ | exact S2)
    (first
    | (go_at_call 28; refine (Wi.of_no HNO.out _).mono ?_; rintro e w1 ⟨sl, rfl, hsl, hb⟩; have hb : Below W.heap.size W w1 := ⟨hb.os, hb.tape, hb.output, hb.size, hb.block⟩; have S2 : w1.cell? ⟨b, 0, none⟩ = some (.int .i64 k) ∧ w1.cell? ⟨b, 1, none⟩ = some (.int .i64 s) ∧ w1.cell? ⟨b, 2, none⟩ = some (.int .i64 lw) ∧ w1.cell? ⟨br, 1, none⟩ = some (.int .i64 r.t) := ⟨(hb.cell (p := ⟨b, 0, none⟩) hbl2).trans d0, (hb.cell (p := ⟨b, 1, none⟩) hbl2).trans d1, (hb.cell (p := ⟨b, 2, none⟩) hbl2).trans d2, (hb.cell (p := ⟨br, 1, none⟩) hbl).trans e1⟩; have HB1 := Lib.hid hb; clear hb))
  clear S2 d0 d1 d2 e1
  have hb1 : w1.heap[br]? = some (rcO r) := (HB1.out.block br hbl).trans HBX.out
  have ht1 : KTop w1 b k s lw agg m fr ld bm := HT0.out.keep (HB1.out.block b hbl2)
  have x0 : w1.cell? ⟨br, 0, none⟩ = some (kyV r.k) := cell_of_heap hb1 0
  have x1 : w1.cell? ⟨br, 1, none⟩ = some (.int .i64 r.t) := cell_of_heap hb1 1
  have d4 := ht1.c4
  have HBW : Hid (Below br w w1) := Lib.hid (by rw [← hbr]; exact HB.out.trans (HB1.out.mono HB.out.size))
  have HB2 := Lib.hid hb1
  have HT1 := Lib.hid ht1
  have d5 := ht1.c5
  have f5 := ht1.fz 5
  have hz1 : br < w1.heap.size := lt_of_heap hb1
  clear hb1 ht1 HB HB1 HT0 HBX
  go_wp2
  go_ret2
  exact ⟨rfl, by rw [hbr]; exact HBW.out⟩
set_option maxRecDepth 20000 in
set_option maxHeartbeats 1000000 in
theorem put_k {w : World} {b bm : Nat} {k s lw agg m : Int} {fr : Bool} {ld : Nat → Bool} {r : Rc} (ht : KTop w b k s lw agg m fr ld bm) (hw : okW k s lw = true) (htm : okT r.t = true) (hkl : 16 < r.k.length) : Calls Try.prog 13 #[.pointer (some ⟨b, 0, none⟩), rcV r] w fun e' w' => e' = .returned (.tuple #[.slice none 0 0, .int .i64 1]) ∧ Below w.heap.size w w' := by
  obtain ⟨br, hbr⟩ : ∃ br, w.heap.size = br := ⟨_, rfl⟩
  have hlt := ht.lt
  have HB0 : Below w.heap.size w (w.alloc (rcO r)) := (Below.refl _ w).alloc (Nat.le_refl _) (rcO r)
  have hb0 : (w.alloc (rcO r)).heap[br]? = some (rcO r) := by rw [← hbr]; exact heap_alloc_new w (rcO r)
  have ht0 : KTop (w.alloc (rcO r)) b k s lw agg m fr ld bm := ht.keep (HB0.block b hlt)
  have HW := Lib.hid hw
  have HTM := Lib.hid htm
  have hk16 : decide ((16 : Int) < (r.k.length : Int)) = true := decide_eq_true (by omega)
  clear ht htm hw
  go_enter Try.func13, Try.ntmps13
  go_upto_region 3 with (fail)
  generalize w.alloc (rcO r) = W at HB0 hb0 ht0 ⊢
  have hbl := lt_of_heap hb0
  have hbl2 : b < W.heap.size := ht0.lt
  have d0 := ht0.c0
  have d1 := ht0.c1
  have d2 := ht0.c2
  have e1 : W.cell? ⟨br, 1, none⟩ = some (.int .i64 r.t) := cell_of_heap hb0 1
  have HT0 := Lib.hid ht0
  have HBX := Lib.hid hb0
  have HBS := Lib.hid hbl
  have HB := Lib.hid HB0
  clear ht0 hb0 HB0
  go_region_held3 (fun X => X.cell? ⟨b, 0, none⟩ = some (.int .i64 k) ∧ X.cell? ⟨b, 1, none⟩ = some (.int .i64 s) ∧ X.cell? ⟨b, 2, none⟩ = some (.int .i64 lw) ∧ X.cell? ⟨br, 1, none⟩ = some (.int .i64 r.t))
    (first | exact ⟨d0, d1, d2, e1⟩ | exact S2)
    (first
    | (go_at_call 28; refine (Wi.of_own HW.out HTM.out rfl _).mono ?_; rintro e w1 ⟨sl, rfl, hsl, hso, hb⟩; have hb : Below W.heap.size W w1 := ⟨hb.os, hb.tape, hb.output, hb.size, hb.block⟩; have S2 : w1.cell? ⟨b, 0, none⟩ = some (.int .i64 k) ∧ w1.cell? ⟨b, 1, none⟩ = some (.int .i64 s) ∧ w1.cell? ⟨b, 2, none⟩ = some (.int .i64 lw) ∧ w1.cell? ⟨br, 1, none⟩ = some (.int .i64 r.t) := ⟨(hb.cell (p := ⟨b, 0, none⟩) hbl2).trans d0, (hb.cell (p := ⟨b, 1, none⟩) hbl2).trans d1, (hb.cell (p := ⟨b, 2, none⟩) hbl2).trans d2, (hb.cell (p := ⟨br, 1, none⟩) hbl).trans e1⟩; have HB1 := Lib.hid hb; clear hb))
  clear S2 d0 d1 d2 e1
  have hb1 : w1.heap[br]? = some (rcO r) := (HB1.out.block br hbl).trans HBX.out
  have ht1 : KTop w1 b k s lw agg m fr ld bm := HT0.out.keep (HB1.out.block b hbl2)
  have x0 : w1.cell? ⟨br, 0, none⟩ = some (kyV r.k) := cell_of_heap hb1 0
  have x1 : w1.cell? ⟨br, 1, none⟩ = some (.int .i64 r.t) := cell_of_heap hb1 1
  have d4 := ht1.c4
  have HBW : Hid (Below br w w1) := Lib.hid (by rw [← hbr]; exact HB.out.trans (HB1.out.mono HB.out.size))
  have HB2 := Lib.hid hb1
  have HT1 := Lib.hid ht1
  have d5 := ht1.c5
  have f5 := ht1.fz 5
  have hz1 : br < w1.heap.size := lt_of_heap hb1
  clear hb1 ht1 HB HB1 HT0 HBX
  go_wp2
  go_ret2
  exact ⟨rfl, by rw [hbr]; exact HBW.out⟩
set_option maxRecDepth 20000 in
set_option maxHeartbeats 1000000 in
theorem put_late {w : World} {b bm : Nat} {k s lw agg m : Int} {fr : Bool} {ld : Nat → Bool} {r : Rc} (ht : KTop w b k s lw agg m fr ld bm) (hw : okW k s lw = true) (htm : okT r.t = true) (hkl : r.k.length ≤ 16) (hlate : r.t < m) : Calls Try.prog 13 #[.pointer (some ⟨b, 0, none⟩), rcV r] w fun e' w' => e' = .returned (.tuple #[.slice none 0 0, .int .i64 7]) ∧ Below w.heap.size w w' := by
  obtain ⟨br, hbr⟩ : ∃ br, w.heap.size = br := ⟨_, rfl⟩
  have hlt := ht.lt
  have HB0 : Below w.heap.size w (w.alloc (rcO r)) := (Below.refl _ w).alloc (Nat.le_refl _) (rcO r)
  have hb0 : (w.alloc (rcO r)).heap[br]? = some (rcO r) := by rw [← hbr]; exact heap_alloc_new w (rcO r)
  have ht0 : KTop (w.alloc (rcO r)) b k s lw agg m fr ld bm := ht.keep (HB0.block b hlt)
  have HW := Lib.hid hw
  have HTM := Lib.hid htm
  have HLT := Lib.hid (decide_eq_true hlate)
  have hk16 : decide ((16 : Int) < (r.k.length : Int)) = false := decide_eq_false (by omega)
  clear ht htm hw hlate
  go_enter Try.func13, Try.ntmps13
  go_upto_region 3 with (fail)
  generalize w.alloc (rcO r) = W at HB0 hb0 ht0 ⊢
  have hbl := lt_of_heap hb0
  have hbl2 : b < W.heap.size := ht0.lt
  have d0 := ht0.c0
  have d1 := ht0.c1
  have d2 := ht0.c2
  have e1 : W.cell? ⟨br, 1, none⟩ = some (.int .i64 r.t) := cell_of_heap hb0 1
  have HT0 := Lib.hid ht0
  have HBX := Lib.hid hb0
  have HBS := Lib.hid hbl
  have HB := Lib.hid HB0
  clear ht0 hb0 HB0
  go_region_held3 (fun X => X.cell? ⟨b, 0, none⟩ = some (.int .i64 k) ∧ X.cell? ⟨b, 1, none⟩ = some (.int .i64 s) ∧ X.cell? ⟨b, 2, none⟩ = some (.int .i64 lw) ∧ X.cell? ⟨br, 1, none⟩ = some (.int .i64 r.t))
    (first | exact ⟨d0, d1, d2, e1⟩ | exact S2)
    (first
    | (go_at_call 28; refine (Wi.of_own HW.out HTM.out rfl _).mono ?_; rintro e w1 ⟨sl, rfl, hsl, hso, hb⟩; have hb : Below W.heap.size W w1 := ⟨hb.os, hb.tape, hb.output, hb.size, hb.block⟩; have S2 : w1.cell? ⟨b, 0, none⟩ = some (.int .i64 k) ∧ w1.cell? ⟨b, 1, none⟩ = some (.int .i64 s) ∧ w1.cell? ⟨b, 2, none⟩ = some (.int .i64 lw) ∧ w1.cell? ⟨br, 1, none⟩ = some (.int .i64 r.t) := ⟨(hb.cell (p := ⟨b, 0, none⟩) hbl2).trans d0, (hb.cell (p := ⟨b, 1, none⟩) hbl2).trans d1, (hb.cell (p := ⟨b, 2, none⟩) hbl2).trans d2, (hb.cell (p := ⟨br, 1, none⟩) hbl).trans e1⟩; have HB1 := Lib.hid hb; clear hb))
  clear S2 d0 d1 d2 e1
  have hb1 : w1.heap[br]? = some (rcO r) := (HB1.out.block br hbl).trans HBX.out
  have ht1 : KTop w1 b k s lw agg m fr ld bm := HT0.out.keep (HB1.out.block b hbl2)
  have x0 : w1.cell? ⟨br, 0, none⟩ = some (kyV r.k) := cell_of_heap hb1 0
  have x1 : w1.cell? ⟨br, 1, none⟩ = some (.int .i64 r.t) := cell_of_heap hb1 1
  have d4 := ht1.c4
  have HBW : Hid (Below br w w1) := Lib.hid (by rw [← hbr]; exact HB.out.trans (HB1.out.mono HB.out.size))
  have HB2 := Lib.hid hb1
  have HT1 := Lib.hid ht1
  have d5 := ht1.c5
  have f5 := ht1.fz 5
  have hz1 : br < w1.heap.size := lt_of_heap hb1
  clear hb1 ht1 HB HB1 HT0 HBX
  go_upto_region 6 with (fail)
  go_region_held3 (fun X => X.cell? ⟨b, 4, none⟩ = some (.int .i64 m) ∧ X.cell? ⟨br, 1, none⟩ = some (.int .i64 r.t))
    (first | exact ⟨d4, x1⟩ | exact S2)
    (first
    | (go_at_call 29; refine (late_at HLT.out _).mono ?_; rintro e w2 ⟨rfl, hw2⟩; rw [hw2]; have S2 : w1.cell? ⟨b, 4, none⟩ = some (.int .i64 m) ∧ w1.cell? ⟨br, 1, none⟩ = some (.int .i64 r.t) := ⟨d4, x1⟩))
  clear S2 x0 x1
  go_wp2
  go_ret2
  exact ⟨rfl, by rw [hbr]; exact HBW.out.drew⟩
set_option maxRecDepth 20000 in
set_option maxHeartbeats 1000000 in
theorem put_one {w : World} {b bm : Nat} {k s lw agg m : Int} {fr : Bool} {ld : Nat → Bool} {r : Rc} (ht : KTop w b k s lw agg m fr ld bm) {S : Nat → Prop} {l : List Pn} (hr : Rws w S bm (krow l)) (hSb : S b) (hS : ∀ x, S x → x < w.heap.size) (hw : okW k s lw = true) (htm : okT r.t = true) (hkl : r.k.length ≤ 16) (hlate : m ≤ r.t) (hk0 : k = 0) : Calls Try.prog 13 #[.pointer (some ⟨b, 0, none⟩), rcV r] w fun e' w' => ∃ v, e' = .returned (.tuple #[v, .int .i64 0]) ∧ RcsAt w' v [r] ∧ (∀ g, v.ownBlock = some g → w.heap.size ≤ g ∧ g < w'.heap.size) ∧ KTop w' b k s lw agg m false ld bm ∧ Rws w' S bm (krow l) ∧ Upd S S w w' := by
  subst hk0
  obtain ⟨br, hbr⟩ : ∃ br, w.heap.size = br := ⟨_, rfl⟩
  have hlt := ht.lt
  have HB0 : Below w.heap.size w (w.alloc (rcO r)) := (Below.refl _ w).alloc (Nat.le_refl _) (rcO r)
  have hb0 : (w.alloc (rcO r)).heap[br]? = some (rcO r) := by rw [← hbr]; exact heap_alloc_new w (rcO r)
  have ht0 : KTop (w.alloc (rcO r)) b 0 s lw agg m fr ld bm := ht.keep (HB0.block b hlt)
  have HW := Lib.hid hw
  have HTM := Lib.hid htm
  have HLT := Lib.hid (decide_eq_false (show ¬ r.t < m by omega))
  have hk16 : decide ((16 : Int) < (r.k.length : Int)) = false := decide_eq_false (by omega)
  have HT := Lib.hid ht
  have HR := Lib.hid hr
  have HS := Lib.hid hS
  clear ht hr hS htm hw hlate
  go_enter Try.func13, Try.ntmps13
  go_upto_region 3 with (fail)
  generalize w.alloc (rcO r) = W at HB0 hb0 ht0 ⊢
  have hbl := lt_of_heap hb0
  have hbl2 : b < W.heap.size := ht0.lt
  have d0 := ht0.c0
  have d1 := ht0.c1
  have d2 := ht0.c2
  have e1 : W.cell? ⟨br, 1, none⟩ = some (.int .i64 r.t) := cell_of_heap hb0 1
  have HT0 := Lib.hid ht0
  have HBX := Lib.hid hb0
  have HBS := Lib.hid hbl
  have HB := Lib.hid HB0
  clear ht0 hb0 HB0
  go_region_held3 (fun X => X.cell? ⟨b, 0, none⟩ = some (.int .i64 0) ∧ X.cell? ⟨b, 1, none⟩ = some (.int .i64 s) ∧ X.cell? ⟨b, 2, none⟩ = some (.int .i64 lw) ∧ X.cell? ⟨br, 1, none⟩ = some (.int .i64 r.t))
    (first | exact ⟨d0, d1, d2, e1⟩ | exact S2)
    (first
    | (go_at_call 28; refine (Wi.of_own HW.out HTM.out rfl _).mono ?_; rintro e w1 ⟨sl, rfl, hsl, hso, hb⟩; have hb : Below W.heap.size W w1 := ⟨hb.os, hb.tape, hb.output, hb.size, hb.block⟩; have S2 : w1.cell? ⟨b, 0, none⟩ = some (.int .i64 0) ∧ w1.cell? ⟨b, 1, none⟩ = some (.int .i64 s) ∧ w1.cell? ⟨b, 2, none⟩ = some (.int .i64 lw) ∧ w1.cell? ⟨br, 1, none⟩ = some (.int .i64 r.t) := ⟨(hb.cell (p := ⟨b, 0, none⟩) hbl2).trans d0, (hb.cell (p := ⟨b, 1, none⟩) hbl2).trans d1, (hb.cell (p := ⟨b, 2, none⟩) hbl2).trans d2, (hb.cell (p := ⟨br, 1, none⟩) hbl).trans e1⟩; have HB1 := Lib.hid hb; clear hb))
  clear S2 d0 d1 d2 e1
  have hb1 : w1.heap[br]? = some (rcO r) := (HB1.out.block br hbl).trans HBX.out
  have ht1 : KTop w1 b 0 s lw agg m fr ld bm := HT0.out.keep (HB1.out.block b hbl2)
  have x0 : w1.cell? ⟨br, 0, none⟩ = some (kyV r.k) := cell_of_heap hb1 0
  have x1 : w1.cell? ⟨br, 1, none⟩ = some (.int .i64 r.t) := cell_of_heap hb1 1
  have d4 := ht1.c4
  have HBW : Hid (Below br w w1) := Lib.hid (by rw [← hbr]; exact HB.out.trans (HB1.out.mono HB.out.size))
  have HB2 := Lib.hid hb1
  have HT1 := Lib.hid ht1
  have d5 := ht1.c5
  have f5 := ht1.fz 5
  have hz1 : br < w1.heap.size := lt_of_heap hb1
  clear hb1 ht1 HB HB1 HT0 HBX
  go_upto_region 6 with (fail)
  go_region_held3 (fun X => X.cell? ⟨b, 4, none⟩ = some (.int .i64 m) ∧ X.cell? ⟨br, 1, none⟩ = some (.int .i64 r.t))
    (first | exact ⟨d4, x1⟩ | exact S2)
    (first
    | (go_at_call 29; refine (late_at HLT.out _).mono ?_; rintro e w2 ⟨rfl, hw2⟩; rw [hw2]; have S2 : w1.cell? ⟨b, 4, none⟩ = some (.int .i64 m) ∧ w1.cell? ⟨br, 1, none⟩ = some (.int .i64 r.t) := ⟨d4, x1⟩))
  clear S2 x1
  have ht8 : KTop (w1.setCell ⟨b, 5, none⟩ (.bool false)).drew b 0 s lw agg m false ld bm := HT1.out.set5 false
  have hb8 : (w1.setCell ⟨b, 5, none⟩ (.bool false)).drew.heap[br]? = some (rcO r) := (Below.heap_setCell _ _ _ _ (by show br ≠ b; omega)).trans HB2.out
  have hk8 : ∀ x, x < w.heap.size → x ≠ b → (w1.setCell ⟨b, 5, none⟩ (.bool false)).drew.heap[x]? = w.heap[x]? := fun x hx hxb => (Below.heap_setCell _ _ _ _ hxb).trans (HBW.out.block x (by omega))
  have hu8 : Upd S S w (w1.setCell ⟨b, 5, none⟩ (.bool false)).drew := ⟨HBW.out.os, HBW.out.tape, HBW.out.output, by show w.heap.size ≤ (w1.setCell _ _).heap.size; simp [World.setCell]; exact HBW.out.size, fun x hx hxs => hk8 x hx (fun e => hxs (e ▸ hSb)), fun x hx => .inl hx⟩
  have hr8 : Rws (w1.setCell ⟨b, 5, none⟩ (.bool false)).drew S bm (krow l) := HR.out.apart HT.out (by decide) (fun q hq hqb => hk8 q hq hqb)
  go_upto_region 9 with (fail)
  clear d4 d5 f5 x0
  generalize (w1.setCell ⟨b, 5, none⟩ (.bool false)).drew = W8 at ht8 hb8 hu8 hr8 ⊢
  have c0 := ht8.c0
  have x0 : W8.cell? ⟨br, 0, none⟩ = some (kyV r.k) := cell_of_heap hb8 0
  have x1 : W8.cell? ⟨br, 1, none⟩ = some (.int .i64 r.t) := cell_of_heap hb8 1
  have x2 : W8.cell? ⟨br, 2, none⟩ = some (.int .i64 r.v) := cell_of_heap hb8 2
  have H8 := Lib.hid (⟨ht8, hr8, hu8⟩ : _ ∧ _ ∧ _)
  clear ht8 hb8 hk8 hu8 hr8
  go_wp2
  go_ret2
  obtain ⟨t8, r8, u8⟩ := H8.out
  have hB : Below W8.heap.size W8 (W8.alloc (rcO r)) := (Below.refl _ W8).alloc (Nat.le_refl _) _
  exact ⟨_, rfl, rc_block (heap_alloc_new W8 (rcO r)), fun g e => by injection e with e; rw [← e]; exact ⟨u8.size, by rw [World.size_alloc]; exact Nat.lt_succ_self _⟩, t8.keep (hB.block b t8.lt), r8.keep (fun x hx => hB.block x (Nat.lt_of_lt_of_le (HS.out x hx) u8.size)), u8.trans (Upd.of_below hB)⟩
set_option maxHeartbeats 400000 in
theorem mark_no {x : Int} (h : okM x = false) (b : Nat) (w : World) : Calls Try.prog 16 #[.pointer (some ⟨b, 0, none⟩), .int .i64 x] w fun e w' => e = .returned (.tuple #[.slice none 0 0, .int .i64 1]) ∧ w' = w := by
  have H := Lib.hid h
  clear h
  go_enter Try.func16, Try.ntmps16
  go_wp2_with (go_at_call 35; refine (isMark_at H.out _).mono ?_; rintro e w' ⟨rfl, hw⟩; rw [hw])
  go_ret2
  exact ⟨rfl, rfl⟩
set_option maxHeartbeats 400000 in
theorem mark_same {w : World} {b bm : Nat} {k s lw agg m x : Int} {fr : Bool} {ld : Nat → Bool} (ht : KTop w b k s lw agg m fr ld bm) (h : okM x = true) (hx : x ≤ m) : Calls Try.prog 16 #[.pointer (some ⟨b, 0, none⟩), .int .i64 x] w fun e w' => e = .returned (.tuple #[.slice none 0 0, .int .i64 0]) ∧ w' = w := by
  have H := Lib.hid h
  have c4 := ht.c4
  clear h ht
  go_enter Try.func16, Try.ntmps16
  go_wp2_with (go_at_call 35; refine (isMark_at H.out _).mono ?_; rintro e w' ⟨rfl, hw⟩; rw [hw])
  go_ret2
  exact ⟨rfl, rfl⟩
end Go.Proofs.Ytlmnkmfpdjkijaa.Kp
