/-
  WindowCovers: the walk of the law. Conditions: none.
-/
import Derived.Test.YtfkdkcdknpjoeaaWOf
import Derived.Test.YtfkdkcdknpjoeaaWindowSpansWalk
namespace Go.Proofs.Ytfkdkcdknpjoeaa.Wi
set_option linter.unusedVariables false
set_option linter.unusedSimpArgs false
open Go.RowKit

set_option maxRecDepth 20000 in
set_option maxHeartbeats 4000000 in
theorem wc_no {k s l t mark : Int} (h : (okW k s l && okT t) = false) (w : World) : Calls Try.prog 4 #[wnV k s l, .int .i64 t, .int .i64 mark] w fun e w' => e = .returned (.bool true) ∧ Below w.heap.size w w' := by
  have HW := Lib.hid h
  have HB0 : Hid (Below w.heap.size w (w.alloc (.cells #[.int .i64 k, .int .i64 s, .int .i64 l] 23))) := Lib.hid ((Below.refl _ _).alloc (Nat.le_refl _) _)
  have HX0 := Lib.hid (wb_new w k s l)
  cases hr : okW k s l with
  | false =>
    have HR := Lib.hid hr
    clear h hr
    go_enter Try.func4, Try.ntmps4
    go_wp2_with (first
      | (go_at_call 10; refine (of_no HW.out _).mono ?_; rintro e w1 ⟨v1, rfl, hi1, hb1⟩; obtain ⟨a1, c1', rfl⟩ := hi1.val; have HB1 := Lib.hid (grow_below HB0.out hb1); have HX1 := Lib.hid (HX0.out.grow hb1); clear hb1 hi1)
      | (go_at_call 16; refine (awake_any _).mono ?_; rintro e w2 ⟨rfl, hb2⟩; have HB2 := Lib.hid (grow_below HB1.out hb2); have HX2 := Lib.hid (HX1.out.grow hb2); obtain ⟨c0, c1, c2⟩ := HX2.out.cells; clear hb2 HB1)
      | (go_at_call 12; refine (right_at HR.out _).mono ?_; rintro e w3 ⟨rfl, hb3⟩; have HB3 := Lib.hid (grow_below HB2.out hb3); clear hb3 HB2))
    go_ret
    exact ⟨rfl, HB3.out⟩
  | true =>
    have HR := Lib.hid hr
    have HT : Hid (okT t = false) := Lib.hid (by rw [hr] at h; simpa using h)
    clear h hr
    go_enter Try.func4, Try.ntmps4
    go_wp2_with (first
      | (go_at_call 10; refine (of_no HW.out _).mono ?_; rintro e w1 ⟨v1, rfl, hi1, hb1⟩; obtain ⟨a1, c1', rfl⟩ := hi1.val; have HB1 := Lib.hid (grow_below HB0.out hb1); have HX1 := Lib.hid (HX0.out.grow hb1); clear hb1 hi1)
      | (go_at_call 16; refine (awake_any _).mono ?_; rintro e w2 ⟨rfl, hb2⟩; have HB2 := Lib.hid (grow_below HB1.out hb2); have HX2 := Lib.hid (HX1.out.grow hb2); obtain ⟨c0, c1, c2⟩ := HX2.out.cells; clear hb2 HB1)
      | (go_at_call 12; refine (right_at HR.out _).mono ?_; rintro e w3 ⟨rfl, hb3⟩; have HB3 := Lib.hid (grow_below HB2.out hb3); clear hb3 HB2)
      | (go_at_call 17; refine (rtime_at HT.out _).mono ?_; rintro e _ ⟨rfl, rfl⟩))
    go_ret
    exact ⟨rfl, HB3.out⟩
set_option maxRecDepth 20000 in
set_option maxHeartbeats 8000000 in
theorem wc_ok {k s l t mark : Int} (hw : okW k s l = true) (ht : okT t = true) (w : World) : Calls Try.prog 4 #[wnV k s l, .int .i64 t, .int .i64 mark] w fun e w' => e = .returned (.bool true) ∧ Below w.heap.size w w' := by
  obtain ⟨t0, t1⟩ := okT_is ht
  have hcs := okW_cases hw
  have HW := Lib.hid hw
  have HT := Lib.hid ht
  obtain ⟨L, hL⟩ : ∃ L, ofS k s l t = L := ⟨_, rfl⟩
  have HC := Lib.hid (cov_of hw ht hL)
  have HL := Lib.hid hL
  obtain ⟨n, hn⟩ : ∃ n, L.length = n := ⟨_, rfl⟩
  have HN := Lib.hid hn
  have HB0 : Hid (Below w.heap.size w (w.alloc (.cells #[.int .i64 k, .int .i64 s, .int .i64 l] 23))) := Lib.hid ((Below.refl _ _).alloc (Nat.le_refl _) _)
  have HX0 := Lib.hid (wb_new w k s l)
  have HCS := Lib.hid hcs
  have hs2 : s ≤ 1000000 := by omega
  have hs1 : 0 ≤ s := by omega
  have hl1 : 0 ≤ l := by omega
  have hl2 : l ≤ 1000000 := by omega
  clear hw ht hL hn hcs
  go_enter Try.func4, Try.ntmps4
  go_upto_region 4 with (first
    | (go_at_call 10; refine (of_ok HW.out HT.out HL.out _).mono ?_; rintro e w1 ⟨v1, rfl, hi1, hb1⟩; obtain ⟨a1, c1', rfl⟩ := hi1.val; rw [HN.out] at hi1 ⊢; have hlen := Lib.hid hi1.len; have HI1 := Lib.hid hi1; have HB1 := Lib.hid (grow_below HB0.out hb1); have HX1 := Lib.hid (HX0.out.grow hb1); clear hb1 hi1))
  obtain ⟨-, k1, k2, k3⟩ := hlen.out
  unfold maxLen at k2 k3
  clear HB0 HX0 k3 hlen
  go_wp2
  go_loopw [9] (fun z wr => ∃ j : Nat, j ≤ n ∧ z = .int .i64 j ∧ Hid (SpansAt wr (.slice a1 n c1') L) ∧ Hid (WB wr w.heap.size k s l) ∧ Hid (Below w.heap.size w wr)) (fun z _ => n - (intOf z).toNat)
  case atStart => exact ⟨0, Nat.zero_le _, rfl, HI1, HX1, HB1⟩
  case round =>
    clear HI1 HX1 HB1
    obtain ⟨j, hj, rfl, HI, HX, hb⟩ := hrel
    rename World => wr
    by_cases hlt : j < n
    · have hjl : j < L.length := by rw [HN.out]; exact hlt
      obtain ⟨b, o, ha, hbl, y0, y1⟩ := SpansAt.cells HI.out hjl
      subst ha
      obtain ⟨x, hx⟩ : ∃ x, L[j] = x := ⟨_, rfl⟩
      rw [hx] at y0 y1
      obtain ⟨x1, x2⟩ := x
      dsimp only at y0 y1
      have g0 : (0 : Int) ≤ (j : Int) := by omega
      have g1 : (j : Int) < (n : Int) := by omega
      have hx2 : L[j]? = some (x1, x2) := by rw [List.getElem?_eq_getElem hjl, hx]
      have HXX := Lib.hid hx2
      obtain ⟨d1, d2, d3, d4⟩ := HC.out.at_ j _ hx2
      dsimp only at d1 d2 d3 d4
      subst d3
      clear hx hx2 hjl
      go_upto_region 8 with (fail)
      have hb1 : Below wr.heap.size wr (wr.alloc (.cells #[.int .i64 x1, .int .i64 (x1 + s)] 34)) := (Below.refl _ _).alloc (Nat.le_refl _) _
      have HG : Hid ((wr.alloc (.cells #[.int .i64 x1, .int .i64 (x1 + s)] 34)).heap[wr.heap.size]? = some (.cells #[.int .i64 x1, .int .i64 (x1 + s)] 34 (0, 0))) := Lib.hid (heap_alloc_new wr _)
      have HI1 := Lib.hid (HI.out.grow hb1)
      have HX1 := Lib.hid (HX.out.grow hb1)
      have HB1 := Lib.hid (grow_below hb.out hb1)
      obtain ⟨g, hg⟩ : ∃ g, wr.heap.size = g := ⟨_, rfl⟩
      rw [hg] at HG ⊢
      clear hb1 hg HI HX hb y0 y1 hbl
      generalize wr.alloc (.cells #[.int .i64 x1, .int .i64 (x1 + s)] 34) = W at HG HI1 HX1 HB1 ⊢
      have c0 : W.cell? ⟨g, 0, none⟩ = some (.int .i64 x1) := by rw [cell_of_heap HG.out]; rfl
      have c1 : W.cell? ⟨g, 1, none⟩ = some (.int .i64 (x1 + s)) := by rw [cell_of_heap HG.out]; rfl
      obtain ⟨c2, c3, c4⟩ := HX1.out.cells
      have e1 : ¬ t < x1 := by omega
      have e2 : ¬ x1 + s ≤ t := by omega
      have e3 : x1 + s - x1 = s := by omega
      have e4 : (s != s) = false := inebf rfl
      obtain ⟨d, hd⟩ : ∃ d, (decide (x1 + s ≤ mark) || decide (mark = 1000000001)) = d := ⟨_, rfl⟩
      have HD := Lib.hid hd
      have key : d = true → ¬ mark ≤ t := fun e => by
        rw [e] at hd
        simp only [Bool.or_eq_true, decide_eq_true_eq] at hd
        omega
      have HKY := Lib.hid key
      clear hd key
      cases d
      case' true => have e5 : ¬ mark ≤ t := HKY.out rfl
      case' false => have e5 : True := trivial
      all_goals
        go_upto_region 10 with (go_at_call 15; refine (due_at (s := (x1, x1 + s)) HD.out _).mono ?_; rintro e w2 ⟨rfl, hb2⟩; have HG2 := Lib.hid ((hb2.block g (lt_of_heap HG.out)).trans HG.out); have HI2 := Lib.hid (HI1.out.grow hb2); have HX2 := Lib.hid (HX1.out.grow hb2); have HB2 := Lib.hid (grow_below HB1.out hb2); clear hb2 HG HI1 HX1 HB1)
        clear c0 c1 c2 c3 c4 e1 e2 e3 e5 HKY HD
        rename World => W2
        have c0 : W2.cell? ⟨g, 0, none⟩ = some (.int .i64 x1) := by rw [cell_of_heap HG2.out]; rfl
        obtain ⟨c2, c3, c4⟩ := HX2.out.cells
        have e5 : (l != l) = false := inebf rfl
        by_cases hj0 : j = 0
        · subst hj0
          go_quiet (fail)
          go_upto_region 12 with (fail)
          have hb3 := drewN_below (B := W2.heap.size) W2 nq
          have HG3 : Hid ((W2.drewN nq).heap[g]? = some (.cells #[.int .i64 x1, .int .i64 (x1 + s)] 34 (0, 0))) := HG2
          have HI3 := Lib.hid (HI2.out.grow hb3)
          have HX3 := Lib.hid (HX2.out.grow hb3)
          have HB3 := Lib.hid (grow_below HB2.out hb3)
          clear hb3 HG2 HI2 HX2 HB2 c0 c2 c3 c4
          generalize W2.drewN nq = W3 at HG3 HI3 HX3 HB3 ⊢
          have c0 : W3.cell? ⟨g, 0, none⟩ = some (.int .i64 x1) := by rw [cell_of_heap HG3.out]; rfl
          obtain ⟨c2, c3, c4⟩ := HX3.out.cells
          rcases HCS.out with ⟨hk, -, -⟩ | ⟨hk, s1, s2, -⟩ | ⟨hk, s1, s2, l1, l2, -⟩ | ⟨hk, s1, s2, -⟩
          · exfalso
            have := HC.out.non hk
            have h2 := HN.out
            omega
          · have m1 := HC.out.tum hk _ _ HXX.out
            have m2 : (s == 0) = false := ibne (by omega)
            dsimp only at m1
            subst hk
            go_wp2
            go_roundw
            case rel => exact ⟨1, by omega, by go_num, HI3, HX3, HB3⟩
            case measure => simp [intOf]; omega
          · have m1 := HC.out.sli hk _ _ HXX.out
            have m2 : (l == 0) = false := ibne (by omega)
            dsimp only at m1
            subst hk
            go_wp2
            go_roundw
            case rel => exact ⟨1, by omega, by go_num, HI3, HX3, HB3⟩
            case measure => simp [intOf]; omega
          · have m1 := HC.out.ses hk _ _ HXX.out
            have m2 : (x1 != t) = false := inebf m1
            subst hk
            go_wp2
            go_roundw
            case rel => exact ⟨1, by omega, by go_num, HI3, HX3, HB3⟩
            case measure => simp [intOf]; omega
        · obtain ⟨p, rfl⟩ : ∃ p, j = p + 1 := ⟨j - 1, by omega⟩
          have hpl : p < L.length := by rw [HN.out]; omega
          obtain ⟨b', o', ha', hbl', z0, -⟩ := SpansAt.cells HI2.out hpl
          injection ha' with ha'
          injection ha' with q1 q2
          subst q1 q2
          obtain ⟨y, hy⟩ : ∃ y, L[p] = y := ⟨_, rfl⟩
          rw [hy] at z0
          have hy2 : L[p]? = some y := by rw [List.getElem?_eq_getElem hpl, hy]
          have e1 := HC.out.step p _ _ HXX.out hy2
          have e2 := (HC.out.at_ p _ hy2).2.2.2
          have e3 := (HC.out.at_ p _ hy2).1
          dsimp only at e1
          obtain ⟨y1, hy1⟩ : ∃ z, y.1 = z := ⟨_, rfl⟩
          rw [hy1] at e1 e2 e3 z0
          have e6 : ((p + 1 : Nat) : Int) - 1 = (p : Int) := by omega
          have e7 : (0 : Int) ≤ (p : Int) := by omega
          have e8 : (p : Int) < (n : Int) := by omega
          have e9 : 0 < p + 1 := by omega
          clear hy hy2 hy1 hpl hj0
          go_quiet (fail)
          go_upto_region 12 with (fail)
          have hb3 := drewN_below (B := W2.heap.size) W2 nq
          have HG3 : Hid ((W2.drewN nq).heap[g]? = some (.cells #[.int .i64 x1, .int .i64 (x1 + s)] 34 (0, 0))) := HG2
          have HI3 := Lib.hid (HI2.out.grow hb3)
          have HX3 := Lib.hid (HX2.out.grow hb3)
          have HB3 := Lib.hid (grow_below HB2.out hb3)
          clear hb3 HG2 HI2 HX2 HB2 c0 c2 c3 c4
          clear e1 e2 e3 e6 e7 e8 e9 z0
          generalize W2.drewN nq = W3 at HG3 HI3 HX3 HB3 ⊢
          have c0 : W3.cell? ⟨g, 0, none⟩ = some (.int .i64 x1) := by rw [cell_of_heap HG3.out]; rfl
          obtain ⟨c2, c3, c4⟩ := HX3.out.cells
          rcases HCS.out with ⟨hk, -, -⟩ | ⟨hk, s1, s2, -⟩ | ⟨hk, s1, s2, l1, l2, -⟩ | ⟨hk, s1, s2, -⟩
          · exfalso
            have := HC.out.non hk
            have h2 := HN.out
            omega
          · have m1 := HC.out.tum hk _ _ HXX.out
            have m2 : (s == 0) = false := ibne (by omega)
            dsimp only at m1
            subst hk
            go_wp2
            go_roundw
            case rel => exact ⟨p + 1 + 1, by omega, by go_num, HI3, HX3, HB3⟩
            case measure => simp [intOf]; omega
          · have m1 := HC.out.sli hk _ _ HXX.out
            have m2 : (l == 0) = false := ibne (by omega)
            dsimp only at m1
            subst hk
            go_wp2
            go_roundw
            case rel => exact ⟨p + 1 + 1, by omega, by go_num, HI3, HX3, HB3⟩
            case measure => simp [intOf]; omega
          · have m1 := HC.out.ses hk _ _ HXX.out
            have m2 : (x1 != t) = false := inebf m1
            subst hk
            go_wp2
            go_roundw
            case rel => exact ⟨p + 1 + 1, by omega, by go_num, HI3, HX3, HB3⟩
            case measure => simp [intOf]; omega
    · obtain ⟨c2, c3, c4⟩ := HX.out.cells
      rcases HCS.out with ⟨hk, -, -⟩ | ⟨hk, s1, s2, -⟩ | ⟨hk, s1, s2, l1, l2, -⟩ | ⟨hk, s1, s2, -⟩
      · have hn0 : n = 0 := by rw [← HN.out]; exact HC.out.non hk
        subst hk
        have e1 : ((n : Int) == 0) = true := ibeq (by omega)
        clear hn0
        go_wp2_with (go_at_call 16; refine (awake_any _).mono ?_; rintro e w2 ⟨rfl, hb2⟩; have HB2 := Lib.hid (grow_below hb.out hb2); clear hb2)
        go_ret
        exact ⟨rfl, HB2.out⟩
      · have hn1 : n = 1 := by rw [← HN.out]; exact HC.out.one (.inl hk)
        subst hk
        have e1 : ((n : Int) == 1) = true := ibeq (by omega)
        clear hn1
        go_wp2_with (go_at_call 16; refine (awake_any _).mono ?_; rintro e w2 ⟨rfl, hb2⟩; have HB2 := Lib.hid (grow_below hb.out hb2); clear hb2)
        go_ret
        exact ⟨rfl, HB2.out⟩
      · have hnn := HC.out.num hk
        rw [HN.out] at hnn
        subst hk
        have e0 : (l == 0) = false := ibne (by omega)
        obtain ⟨q, hq⟩ : ∃ q, s.tdiv l = q := ⟨_, rfl⟩
        rw [hq] at hnn
        have q0 : 0 ≤ q := by rw [← hq]; exact Int.tdiv_nonneg (by omega) (by omega)
        have q1 : q ≤ 1000000 := by
          rw [← hq, Int.tdiv_eq_ediv_of_nonneg (by omega)]
          exact Int.le_trans (Int.ediv_le_self l (by omega)) hs2
        rcases hnn with hnn | ⟨hnn, hm⟩
        · have e1 : ((n : Int) == q) = true := ibeq hnn
          clear hnn
          go_wp2_with (go_at_call 16; refine (awake_any _).mono ?_; rintro e w2 ⟨rfl, hb2⟩; have HB2 := Lib.hid (grow_below hb.out hb2); clear hb2)
          go_ret
          exact ⟨rfl, HB2.out⟩
        · have e1 : ((n : Int) == q) = false := ibne (by omega)
          have e2 : ((n : Int) == q + 1) = true := ibeq hnn
          obtain ⟨r, hr⟩ : ∃ r, s.tmod l = r := ⟨_, rfl⟩
          rw [hr] at hm
          have e3 : (r != 0) = true := inebt hm
          clear hnn hm
          go_wp2_with (go_at_call 16; refine (awake_any _).mono ?_; rintro e w2 ⟨rfl, hb2⟩; have HB2 := Lib.hid (grow_below hb.out hb2); have HX2 := Lib.hid (HX.out.grow hb2); clear hb2; obtain ⟨c5, c6, c7⟩ := HX2.out.cells)
          go_ret
          exact ⟨rfl, HB2.out⟩
      · have hn1 : n = 1 := by rw [← HN.out]; exact HC.out.one (.inr hk)
        subst hk
        have e1 : ((n : Int) == 1) = true := ibeq (by omega)
        clear hn1
        go_wp2_with (go_at_call 16; refine (awake_any _).mono ?_; rintro e w2 ⟨rfl, hb2⟩; have HB2 := Lib.hid (grow_below hb.out hb2); clear hb2)
        go_ret
        exact ⟨rfl, HB2.out⟩
theorem windowCovers_walk (k s l t mark : Int) (w : World) : Calls Try.prog 4 #[wnV k s l, .int .i64 t, .int .i64 mark] w fun e w' => e = .returned (.bool true) ∧ Below w.heap.size w w' := by
  cases h : (okW k s l && okT t) with
  | false => exact wc_no h w
  | true =>
    simp only [Bool.and_eq_true] at h
    exact wc_ok h.1 h.2 w
end Go.Proofs.Ytfkdkcdknpjoeaa.Wi
