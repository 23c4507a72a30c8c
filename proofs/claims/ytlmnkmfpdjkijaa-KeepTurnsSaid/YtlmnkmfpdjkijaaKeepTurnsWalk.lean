/-
  KeepTurns: the walk of the law. Conditions: the script lies in memory, its numbers are ints.
-/
import Derived.Test.YtlmnkmfpdjkijaaKDuo
namespace Go.Proofs.Ytlmnkmfpdjkijaa.Ke
set_option linter.unusedVariables false
set_option linter.unusedSimpArgs false
open Go.RowKit
open Go.Proofs.Ytlmnkmfpdjkijaa.Wi (Sp ofS okW okT okT_is okW_cases cov_of Cov sl)

theorem okA_w {C : Cfg} (h : okA C = true) : okW C.k C.s C.l = true := by
  unfold okA at h
  simp only [Bool.and_eq_true] at h
  exact h.1
/-- The calls from f to i. -/
def blk (L : List Ob) (f i : Nat) : List Ob := (L.take i).drop f
theorem blk_nil (L : List Ob) (f : Nat) : blk L f f = [] := by
  unfold blk
  rw [List.drop_eq_nil_iff]
  rw [List.length_take]
  omega
theorem blk_next {L : List Ob} {f i : Nat} (hf : f ≤ i) (hi : i < L.length) {x : Ob} (hx : L[i] = x) : blk L f (i + 1) = blk L f i ++ [x] := by
  unfold blk
  rw [List.take_succ_eq_append_getElem hi, List.drop_append_of_le_length (by rw [List.length_take]; omega), hx]
theorem blk_len {L : List Ob} {f i : Nat} (hf : f ≤ i) (hi : i ≤ L.length) : (blk L f i).length = i - f := by
  unfold blk
  rw [List.length_drop, List.length_take]
  omega
theorem blk_mem {L : List Ob} {f i : Nat} {o : Ob} (h : o ∈ blk L f i) : o ∈ L := List.mem_of_mem_take (List.mem_of_mem_drop h)
theorem blk_rev {L : List Ob} {f i j : Nat} (hf : f ≤ i) (hi : i ≤ L.length) (hj : j < i - f) {x : Ob} (hx : L[i - 1 - j]'(by omega) = x) : (blk L f i).reverse.take (j + 1) = (blk L f i).reverse.take j ++ [x] := by
  have hl : j < (blk L f i).reverse.length := by rw [List.length_reverse, blk_len hf hi]; exact hj
  rw [List.take_succ_eq_append_getElem hl]
  congr 2
  rw [List.getElem_reverse, ← hx]
  unfold blk
  rw [List.getElem_drop, List.getElem_take]
  congr 1
  rw [List.length_drop, List.length_take]
  omega
set_option maxRecDepth 20000 in
set_option maxHeartbeats 4000000 in
theorem kt_at {w : World} {a : Option Addr} {n c : Nat} {L : List Ob} (C : Cfg) (h : ObsAt w (.slice a n c) L) (hs : smF L = true) (hk0 : C.k ≠ 0) : Calls Try.prog 4 #[winV C.k C.s C.l, .int .i64 C.agg, .slice a n c] w fun e w' => e = .returned (.bool true) ∧ Below w.heap.size w w' := by
  obtain ⟨hnl, k1, k2, k3⟩ := Lst.len h.1
  unfold maxLen at k2 k3
  have hn := smF_le hs
  rw [← hnl] at hn
  have HI := Lib.hid h
  have HN := Lib.hid hnl
  have HS := Lib.hid hs
  have HK0 := Lib.hid hk0
  have e0 : (C.k == 0) = false := ibne hk0
  clear h hnl k2 k3 hs
  go_enter Try.func4, Try.ntmps4
  go_upto_region 3 with (go_at_call 10; refine (small_at (HI.out.grow ((Below.refl _ _).alloc (Nat.le_refl _) _)) HS.out).mono ?_; rintro e w1 ⟨rfl, rfl⟩)
  have hb0 : Below w.heap.size w (w.alloc (.cells #[.int .i64 C.k, .int .i64 C.s, .int .i64 C.l] 23)) := (Below.refl _ _).alloc (Nat.le_refl _) _
  have hB := heap_alloc_new w (.cells #[.int .i64 C.k, .int .i64 C.s, .int .i64 C.l] 23)
  generalize w.alloc (.cells #[.int .i64 C.k, .int .i64 C.s, .int .i64 C.l] 23) = W at hb0 hB ⊢
  have hBl := lt_of_heap hB
  have b0 := cell_of_heap hB 0
  have b1 := cell_of_heap hB 1
  have b2 := cell_of_heap hB 2
  simp only [List.getElem?_toArray, List.getElem?_cons_zero, List.getElem?_cons_succ] at b0 b1 b2
  cases hok : okA C with
  | false =>
    have HO := Lib.hid hok
    have HB0 := Lib.hid hb0
    clear hok hb0
    go_upto_region 4 with (go_at_call 11; refine (new_no HO.out _).mono ?_; rintro e w2 ⟨rfl, hb2⟩; have HB2 := Lib.hid (grow_below HB0.out hb2); have hB2 := (hb2.block _ hBl).trans hB; clear hb2)
    clear hB b0 b1 b2
    have b0 := cell_of_heap hB2 0
    have b1 := cell_of_heap hB2 1
    have b2 := cell_of_heap hB2 2
    simp only [List.getElem?_toArray, List.getElem?_cons_zero, List.getElem?_cons_succ] at b0 b1 b2
    go_wp2_with (first
      | (go_at_call 11; refine (new_no HO.out _).mono ?_; rintro e w3 ⟨rfl, hb3⟩; have HB3 := Lib.hid (grow_below HB2.out hb3); clear hb3)
      | (go_at_call 12; refine (awake_any _).mono ?_; rintro e w4 ⟨rfl, hb4⟩; have HB4 := Lib.hid (grow_below HB3.out hb4); clear hb4))
    go_ret
    exact ⟨rfl, HB4.out⟩
  | true =>
    have HO := Lib.hid hok
    have HCW := Lib.hid (okA_w hok)
    have HF0 := Lib.hid (Fam.none w hb0 C (fun _ => 0) (fun _ => []) (fun _ => 0))
    clear hok hb0
    go_upto_region 4 with (go_at_call 11; refine (HF0.out.new HO.out).mono ?_; rintro e w2 ⟨g, rfl, hf2, hb2⟩; have HF2 := Lib.hid hf2; have hB2 := (hb2.block _ hBl).trans hB; clear hb2 hf2)
    clear hB b0 b1 b2 HF0
    have b0 := cell_of_heap hB2 0
    have b1 := cell_of_heap hB2 1
    have b2 := cell_of_heap hB2 2
    simp only [List.getElem?_toArray, List.getElem?_cons_zero, List.getElem?_cons_succ] at b0 b1 b2
    go_upto_region 5 with (go_at_call 11; refine (duo_new HF2.out (upd_same _ _ _) (upd_same _ _ _) (upd_same _ _ _) HO.out).mono ?_; rintro e w3 ⟨g', rfl, hd3⟩; have HD3 := Lib.hid hd3; clear hd3)
    clear hB2 b0 b1 b2 HF2 e0 hBl
    go_wp2
    go_loopw [11, 12] (fun v11 v12 wL => ∃ (i f : Nat) (l0 : List Pn) (m : Int), f ≤ i ∧ i ≤ n + 1 ∧ v12 = .int .i64 i ∧ v11 = .int .i64 f ∧ Hid (i ≤ n → Duo w (fun _ => False) g g' C wL (kall (decide (C.k = 3)) l0 (accs C m (blk L f i))) l0 m m) ∧ Hid (csum l0 ≤ 20 * (f : Int)) ∧ Hid (Below w.heap.size w wL) ) (fun _ v12 _ => n + 1 - (intOf v12).toNat)
    case atStart => exact ⟨0, 0, [], 0, Nat.le_refl _, by omega, rfl, rfl, Lib.hid (fun _ => by rw [blk_nil]; exact HD3.out), Lib.hid (Int.le_refl _), Lib.hid HD3.out.below⟩
    case round =>
      clear HD3
      obtain ⟨i, f, l0, m, hfi, hin, rfl, rfl, HD, HCS, HB⟩ := hrel
      rename World => wr2
      by_cases hlt : i ≤ n
      · have HD1 := Lib.hid (HD.out hlt)
        have HIv := Lib.hid HD1.out.inv.2
        have hil : i ≤ L.length := by rw [← HN.out]; exact hlt
        have HV : Hid (∀ o ∈ L, I64 o.r.v) := Lib.hid (fun o ho => (HI.out.2 o ho).v)
        have hbl := blk_len hfi hil
        have hcs0 := HCS.out
        have HKC := Lib.hid (kall_csum (O := blk L f i) HIv.out HCW.out (fun o ho => HV.out o (blk_mem ho)) (by rw [hbl]; omega))
        rw [hbl] at HKC
        have HBL := Lib.hid hbl
        clear HD hbl hcs0
        by_cases hin2 : i < n
        · have hkl : i < L.length := by rw [← HN.out]; exact hin2
          obtain ⟨b, o, ha, hblk, y0, y1, y2, y3, y4, y5⟩ := ObsAt.cells (HI.out.grow HB.out) hkl
          subst ha
          obtain ⟨x, hx⟩ : ∃ x, L[i] = x := ⟨_, rfl⟩
          rw [hx] at y0 y1 y2 y3 y4 y5
          have HRV := Lib.hid (HV.out x (by rw [← hx]; exact List.getElem_mem hkl))
          have HNX := Lib.hid (blk_next hfi hkl hx)
          obtain ⟨kd, ⟨ky, rt, rv⟩, xat, xb⟩ := x
          simp only at y0 y1 y2 y3 y4 y5
          have g0 : (0 : Int) ≤ (i : Int) := by omega
          have g1 : (i : Int) < (n : Int) := by omega
          have g2 : (i : Int) ≤ (n : Int) := by omega
          have HX : Hid (L[i]? = some ⟨kd, ⟨ky, rt, rv⟩, xat, xb⟩) := Lib.hid (by rw [List.getElem?_eq_getElem hkl, hx])
          have HKL := Lib.hid hkl
          clear hx hkl
          by_cases hk1 : kd = 1
          · subst hk1
            have e1 : ((1 : Int) != 1) = false := rfl
            clear y5 y1 y2 y3
            go_upto_region 17 with (fail)
            go_loopw [13] (fun v13 wL => ∃ (j : Nat) (z : Int), z = (i : Int) - 1 - (j : Int) ∧ j ≤ i - f ∧ v13 = .int .i64 z ∧ Hid (Duo w (fun _ => False) g g' C wL (kall (decide (C.k = 3)) l0 (accs C m (blk L f i))) (kall (decide (C.k = 3)) l0 (accs C m ((blk L f i).reverse.take j))) m m)) (fun v13 _ => (intOf v13 + 1 - f).toNat)
            case atStart => exact ⟨0, (i : Int) - 1, by omega, Nat.zero_le _, rfl, HD1⟩
            case round =>
              clear HD1
              obtain ⟨j, z, hz, hj, rfl, HD5⟩ := hrel
              rename World => wq
              by_cases hjt : j < i - f
              · obtain ⟨q, hq⟩ : ∃ q : Nat, z = (q : Int) := ⟨i - 1 - j, by omega⟩
                subst hq
                have hqj : i - 1 - j = q := by omega
                have hql : q < L.length := by omega
                obtain ⟨b6, o6, ha6, -, r0, r1, r2, r3, -, -⟩ := ObsAt.cells (HI.out.grow HD5.out.below) hql
                injection ha6 with ha6; injection ha6 with hb6 ho6; subst hb6 ho6
                obtain ⟨y, hy⟩ : ∃ y, L[q] = y := ⟨_, rfl⟩
                rw [hy] at r0 r1 r2 r3
                have HRV6 := Lib.hid (HV.out y (by rw [← hy]; exact List.getElem_mem hql))
                have HREV := Lib.hid (blk_rev hfi hil hjt (x := y) (by rw [← hy]; congr 1))
                have HKC6 := Lib.hid (kall_csum (m := m) (O := (blk L f i).reverse.take j) HIv.out HCW.out (fun o ho => HV.out o (blk_mem (List.mem_reverse.1 (List.mem_of_mem_take ho)))) (by have := HCS.out; rw [List.length_take, List.length_reverse, HBL.out]; omega))
                rw [List.length_take, List.length_reverse, HBL.out] at HKC6
                obtain ⟨kd6, ⟨ky6, rt6, rv6⟩, xat6, xb6⟩ := y
                simp only at r0 r1 r2 r3
                have g5 : (0 : Int) ≤ (q : Int) := by omega
                have g6 : (q : Int) < (n : Int) := by omega
                have g7 : (f : Int) ≤ (q : Int) := by omega
                have HZ := Lib.hid hz
                clear hy hql hz hqj
                by_cases hk6 : kd6 = 0
                · subst hk6
                  obtain ⟨e6, hsp6⟩ := sPut_acc HK0.out (kall (decide (C.k = 3)) l0 (accs C m ((blk L f i).reverse.take j))) m ⟨ky6, rt6, rv6⟩
                  have HSP6 := Lib.hid hsp6
                  have HM6 : Hid (100 + csum (kall (decide (C.k = 3)) l0 (accs C m ((blk L f i).reverse.take j))) ≤ 1000000) := Lib.hid (by have := HKC6.out; have := HCS.out; omega)
                  clear hsp6
                  go_wp2_with (go_at_call 13; refine (HD5.out.put1 (r := ⟨ky6, rt6, rv6⟩) HRV6.out HM6.out HSP6.out).mono ?_; rintro e' w6 ⟨v6, rfl, -, hd6, -⟩; have HD6 := Lib.hid (hd6.low (X' := fun _ => False) (fun _ h => h.elim)); clear hd6)
                  go_roundw
                  case rel => exact ⟨j + 1, (q : Int) - 1, by have := HZ.out; omega, by omega, rfl, by rw [HREV.out, accs_append, accs_one, if_pos rfl, kall_append]; exact HD6⟩
                  case measure => simp [intOf]; omega
                · have e6 : (kd6 == 0) = false := ibne hk6
                  have HK6 : Hid (kd6 ≠ 0) := Lib.hid hk6
                  clear hk6
                  go_wp2
                  go_roundw
                  case rel => exact ⟨j + 1, (q : Int) - 1, by have := HZ.out; omega, by omega, rfl, by rw [HREV.out, accs_append, accs_one, if_neg HK6.out, List.append_nil]; exact HD5⟩
                  case measure => simp [intOf]; omega
              · have hzf : ¬ (f : Int) ≤ z := by omega
                have HT : Hid (kall (decide (C.k = 3)) l0 (accs C m ((blk L f i).reverse.take j)) = kall (decide (C.k = 3)) l0 (accs C m (blk L f i))) := Lib.hid (by
                  rw [List.take_of_length_le (by rw [List.length_reverse, HBL.out]; omega)]
                  exact (accs_turn HIv.out HCW.out (fun o ho => HV.out o (blk_mem ho)) (by rw [HBL.out]; have := HCS.out; omega)).symm)
                rw [HT.out] at HD5
                obtain ⟨lk, hlk⟩ : ∃ lk, kall (decide (C.k = 3)) l0 (accs C m (blk L f i)) = lk := ⟨_, rfl⟩
                rw [hlk] at HD5 HKC
                clear hlk HT
                go_upto_region 22 with (fail)
                clear hz hzf hjt hj
                go_upto_region 24 with (first
                  | (go_at_call 17; refine (HD7.out.open1).mono ?_; rintro e w8 ⟨v8, rfl, hp8, hd8, hb8⟩; have HD8 := Lib.hid hd8; have HP8 := Lib.hid hp8; have HP9 := Lib.hid (HP7.out.grow hb8); clear hd8 hp8 hb8)
                  | (go_at_call 17; refine (HD5.out.open0).mono ?_; rintro e w7 ⟨v7, rfl, hp7, hd7, -⟩; have HD7 := Lib.hid hd7; have HP7 := Lib.hid hp7; clear hd7 hp7)
                  | (go_at_call 18; refine (samePns_at HP9.out HP8.out (r := true) (decide_eq_true rfl)).mono ?_; rintro e w9 ⟨rfl, hb9⟩; have HD9 := Lib.hid (HD8.out.grow hb9).1; clear hb9))
                have hkl3 := HKL.out
                obtain ⟨b9, o9, ha9, -, -, -, -, -, y4, -⟩ := ObsAt.cells (HI.out.grow HD9.out.below) hkl3
                injection ha9 with ha9
                injection ha9 with hb9 ho9
                subst hb9 ho9
                have hx3 : L[i] = ⟨1, ⟨ky, rt, rv⟩, xat, xb⟩ := by have := HX.out; rw [List.getElem?_eq_getElem hkl3] at this; injection this
                rw [hx3] at y4
                simp only at y4
                clear hx3 hkl3
                obtain ⟨⟨l5, m5, T, e5⟩, hsm⟩ : ∃ z, sMark C lk m xat = z := ⟨_, rfl⟩
                have HSM := Lib.hid hsm
                have HC5 : Hid (csum l5 ≤ 20 * ((i : Int) + 1)) := Lib.hid (by have h1 := sMark_csum HD9.out.inv.1.pos hsm; have := HKC.out; have := HCS.out; omega)
                clear hsm
                go_upto_region 26 with (go_at_call 16; refine (HD9.out.mark0 (x := xat) HSM.out).mono ?_; rintro e w10 ⟨v10, rfl, hr10, hd10, hk10⟩; have HD10 := Lib.hid hd10; have HR10 := Lib.hid hr10; clear hd10 hr10 hk10)
                clear y4
                obtain ⟨b9, o9, ha9, -, -, -, -, -, y4, -⟩ := ObsAt.cells (HI.out.grow HD10.out.below) (i := i) HKL.out
                injection ha9 with ha9
                injection ha9 with hb9 ho9
                subst hb9 ho9
                rw [show L[i]'HKL.out = ⟨1, ⟨ky, rt, rv⟩, xat, xb⟩ by have := HX.out; rw [List.getElem?_eq_getElem HKL.out] at this; injection this] at y4
                simp only at y4
                go_upto_region 27 with (go_at_call 16; refine (HD10.out.mark1 (x := xat) HSM.out).mono ?_; rintro e w11 ⟨v11, rfl, hr11, hd11, hk11⟩; have HR12 := Lib.hid (Lst.kept HR10.out hk11 (fun g e => .inr e)); have HD11 := Lib.hid (hd11.low (X' := fun _ => False) (fun _ h => h.elim)); have HR11 := Lib.hid hr11; clear hd11 hr11 hk11)
                have e6 : (e5 != e5) = false := inebf rfl
                go_wp2_with (go_at_call 19; refine (sameRcs_at HR12.out HR11.out (r := true) (decide_eq_true rfl)).mono ?_; rintro e w12 ⟨rfl, hb12⟩; have HD12 := Lib.hid (HD11.out.grow hb12).1; clear hb12)
                go_roundw
                case rel => exact ⟨i + 1, i + 1, l5, m5, Nat.le_refl _, by omega, by go_num, by go_num, Lib.hid (fun _ => by rw [blk_nil]; exact HD12.out), Lib.hid (by have := HC5.out; omega), Lib.hid HD12.out.below⟩
                case measure => simp [intOf]; omega
          · have e1 : (kd != 1) = true := inebt hk1
            by_cases hk0 : kd = 0
            · subst hk0
              obtain ⟨e, hsp⟩ := sPut_acc HK0.out (kall (decide (C.k = 3)) l0 (accs C m (blk L f i))) m ⟨ky, rt, rv⟩
              have HSP := Lib.hid hsp
              have HM1 : Hid (100 + csum (kall (decide (C.k = 3)) l0 (accs C m (blk L f i))) ≤ 1000000) := Lib.hid (by have := HKC.out; have := HCS.out; omega)
              clear hsp
              go_wp2_with (go_at_call 13; refine (HD1.out.put0 (r := ⟨ky, rt, rv⟩) HRV.out HM1.out HSP.out).mono ?_; rintro e' w4 ⟨v4, rfl, -, hd4, -⟩; have HD4 := Lib.hid (hd4.low (X' := fun _ => False) (fun _ h => h.elim)); clear hd4)
              go_roundw
              case rel => exact ⟨i + 1, f, l0, m, by omega, by omega, by go_num, rfl, Lib.hid (fun _ => by rw [HNX.out, accs_append, accs_one, if_pos rfl, kall_append]; exact HD4.out), HCS, Lib.hid HD4.out.below⟩
              case measure => simp [intOf]; omega
            · have e0 : (kd == 0) = false := ibne hk0
              have HK : Hid (kd ≠ 0) := Lib.hid hk0
              clear hk0 hk1
              go_wp2
              go_roundw
              case rel => exact ⟨i + 1, f, l0, m, by omega, by omega, by go_num, rfl, Lib.hid (fun _ => by rw [HNX.out, accs_append, accs_one, if_neg HK.out, List.append_nil]; exact HD1.out), HCS, HB⟩
              case measure => simp [intOf]; omega
        · have g1 : ¬ (i : Int) < (n : Int) := by omega
          have g2 : (i : Int) ≤ (n : Int) := by omega
          go_upto_region 17 with (fail)
          go_loopw [13] (fun v13 wL => ∃ (j : Nat) (z : Int), z = (i : Int) - 1 - (j : Int) ∧ j ≤ i - f ∧ v13 = .int .i64 z ∧ Hid (Duo w (fun _ => False) g g' C wL (kall (decide (C.k = 3)) l0 (accs C m (blk L f i))) (kall (decide (C.k = 3)) l0 (accs C m ((blk L f i).reverse.take j))) m m)) (fun v13 _ => (intOf v13 + 1 - f).toNat)
          case atStart => exact ⟨0, (i : Int) - 1, by omega, Nat.zero_le _, rfl, HD1⟩
          case round =>
            clear HD1
            obtain ⟨j, z, hz, hj, rfl, HD5⟩ := hrel
            rename World => wq
            by_cases hjt : j < i - f
            · obtain ⟨q, hq⟩ : ∃ q : Nat, z = (q : Int) := ⟨i - 1 - j, by omega⟩
              subst hq
              have hqj : i - 1 - j = q := by omega
              have hql : q < L.length := by omega
              obtain ⟨b6, o6, ha6, -, r0, r1, r2, r3, -, -⟩ := ObsAt.cells (HI.out.grow HD5.out.below) hql
              subst ha6
              obtain ⟨y, hy⟩ : ∃ y, L[q] = y := ⟨_, rfl⟩
              rw [hy] at r0 r1 r2 r3
              have HRV6 := Lib.hid (HV.out y (by rw [← hy]; exact List.getElem_mem hql))
              have HREV := Lib.hid (blk_rev hfi hil hjt (x := y) (by rw [← hy]; congr 1))
              have HKC6 := Lib.hid (kall_csum (m := m) (O := (blk L f i).reverse.take j) HIv.out HCW.out (fun o ho => HV.out o (blk_mem (List.mem_reverse.1 (List.mem_of_mem_take ho)))) (by have := HCS.out; rw [List.length_take, List.length_reverse, HBL.out]; omega))
              rw [List.length_take, List.length_reverse, HBL.out] at HKC6
              obtain ⟨kd6, ⟨ky6, rt6, rv6⟩, xat6, xb6⟩ := y
              simp only at r0 r1 r2 r3
              have g5 : (0 : Int) ≤ (q : Int) := by omega
              have g6 : (q : Int) < (n : Int) := by omega
              have g7 : (f : Int) ≤ (q : Int) := by omega
              have HZ := Lib.hid hz
              clear hy hql hz hqj
              by_cases hk6 : kd6 = 0
              · subst hk6
                obtain ⟨e6, hsp6⟩ := sPut_acc HK0.out (kall (decide (C.k = 3)) l0 (accs C m ((blk L f i).reverse.take j))) m ⟨ky6, rt6, rv6⟩
                have HSP6 := Lib.hid hsp6
                have HM6 : Hid (100 + csum (kall (decide (C.k = 3)) l0 (accs C m ((blk L f i).reverse.take j))) ≤ 1000000) := Lib.hid (by have := HKC6.out; have := HCS.out; omega)
                clear hsp6
                go_wp2_with (go_at_call 13; refine (HD5.out.put1 (r := ⟨ky6, rt6, rv6⟩) HRV6.out HM6.out HSP6.out).mono ?_; rintro e' w6 ⟨v6, rfl, -, hd6, -⟩; have HD6 := Lib.hid (hd6.low (X' := fun _ => False) (fun _ h => h.elim)); clear hd6)
                go_roundw
                case rel => exact ⟨j + 1, (q : Int) - 1, by have := HZ.out; omega, by omega, rfl, by rw [HREV.out, accs_append, accs_one, if_pos rfl, kall_append]; exact HD6⟩
                case measure => simp [intOf]; omega
              · have e6 : (kd6 == 0) = false := ibne hk6
                have HK6 : Hid (kd6 ≠ 0) := Lib.hid hk6
                clear hk6
                go_wp2
                go_roundw
                case rel => exact ⟨j + 1, (q : Int) - 1, by have := HZ.out; omega, by omega, rfl, by rw [HREV.out, accs_append, accs_one, if_neg HK6.out, List.append_nil]; exact HD5⟩
                case measure => simp [intOf]; omega
            · have hzf : ¬ (f : Int) ≤ z := by omega
              have HT : Hid (kall (decide (C.k = 3)) l0 (accs C m ((blk L f i).reverse.take j)) = kall (decide (C.k = 3)) l0 (accs C m (blk L f i))) := Lib.hid (by
                rw [List.take_of_length_le (by rw [List.length_reverse, HBL.out]; omega)]
                exact (accs_turn HIv.out HCW.out (fun o ho => HV.out o (blk_mem ho)) (by rw [HBL.out]; have := HCS.out; omega)).symm)
              rw [HT.out] at HD5
              obtain ⟨lk, hlk⟩ : ∃ lk, kall (decide (C.k = 3)) l0 (accs C m (blk L f i)) = lk := ⟨_, rfl⟩
              rw [hlk] at HD5 HKC
              clear hlk HT
              go_upto_region 22 with (fail)
              clear hz hzf hjt hj
              go_upto_region 24 with (first
                | (go_at_call 17; refine (HD7.out.open1).mono ?_; rintro e w8 ⟨v8, rfl, hp8, hd8, hb8⟩; have HD8 := Lib.hid hd8; have HP8 := Lib.hid hp8; have HP9 := Lib.hid (HP7.out.grow hb8); clear hd8 hp8 hb8)
                | (go_at_call 17; refine (HD5.out.open0).mono ?_; rintro e w7 ⟨v7, rfl, hp7, hd7, -⟩; have HD7 := Lib.hid hd7; have HP7 := Lib.hid hp7; clear hd7 hp7)
                | (go_at_call 18; refine (samePns_at HP9.out HP8.out (r := true) (decide_eq_true rfl)).mono ?_; rintro e w9 ⟨rfl, hb9⟩; have HD9 := Lib.hid (HD8.out.grow hb9).1; clear hb9))
              go_wp2
              go_roundw
              case rel => exact ⟨i + 1, i + 1, [], m, Nat.le_refl _, by omega, by go_num, by go_num, Lib.hid (fun h => by omega), Lib.hid (by show (0 : Int) ≤ _; omega), Lib.hid HD9.out.below⟩
              case measure => simp [intOf]; omega
      · go_wp2_with (go_at_call 12; refine (awake_any _).mono ?_; rintro e w7 ⟨rfl, hb7⟩; have HB7 := Lib.hid (grow_below HB.out hb7); clear hb7)
        go_ret
        exact ⟨rfl, HB7.out⟩
set_option maxRecDepth 20000 in
set_option maxHeartbeats 1000000 in
theorem keepTurns_walk {w : World} {a : Option Addr} {n c : Nat} {L : List Ob} (k s l agg : Int) (h : ObsAt w (.slice a n c) L) : Calls Try.prog 4 #[winV k s l, .int .i64 agg, .slice a n c] w fun e w' => e = .returned (.bool true) ∧ Below w.heap.size w w' := by
  have HB0 : Hid (Below w.heap.size w (w.alloc (.cells #[.int .i64 k, .int .i64 s, .int .i64 l] 23))) := Lib.hid ((Below.refl _ _).alloc (Nat.le_refl _) _)
  cases hs : smF L with
  | true =>
    by_cases hk : k = 0
    · subst hk
      have HI := Lib.hid (h.grow ((Below.refl w.heap.size w).alloc (Nat.le_refl _) (.cells #[.int .i64 0, .int .i64 s, .int .i64 l] 23)))
      have HS := Lib.hid hs
      clear h hs
      go_enter Try.func4, Try.ntmps4
      go_wp2_with (go_at_call 10; refine (small_at HI.out HS.out).mono ?_; rintro e w1 ⟨rfl, rfl⟩)
      go_ret
      exact ⟨rfl, HB0.out⟩
    · exact kt_at ⟨k, s, l, agg⟩ h hs hk
  | false =>
    have HI := Lib.hid (h.grow ((Below.refl w.heap.size w).alloc (Nat.le_refl _) (.cells #[.int .i64 k, .int .i64 s, .int .i64 l] 23)))
    have HS := Lib.hid hs
    clear h hs
    go_enter Try.func4, Try.ntmps4
    go_wp2_with (go_at_call 10; refine (small_at HI.out HS.out).mono ?_; rintro e w1 ⟨rfl, rfl⟩)
    go_ret
    exact ⟨rfl, HB0.out⟩
end Go.Proofs.Ytlmnkmfpdjkijaa.Ke
