/-
  KeepSums: the walk of the law. Conditions: the script lies in memory, its numbers are ints.
-/
import Derived.Test.YtlmnkmfpdjkijaaKOne
namespace Go.Proofs.Ytlmnkmfpdjkijaa.Ke
set_option linter.unusedVariables false
set_option linter.unusedSimpArgs false
open Go.RowKit
open Go.Proofs.Ytlmnkmfpdjkijaa.Ag (Ac jn vl wr wr_in wr_add wr_add2 ac_ext)
open Go.Proofs.Ytlmnkmfpdjkijaa.Wi (Sp ofS okW okT okT_is okW_cases cov_of Cov)

set_option maxRecDepth 20000 in
set_option maxHeartbeats 2000000 in
theorem ks_at {w : World} {a : Option Addr} {n c : Nat} {L : List Ob} (ses : Bool) (size : Int) (h : ObsAt w (.slice a n c) L) (hs : smF L = true) : Calls Try.prog 8 #[.bool ses, .int .i64 size, .slice a n c] w fun e w' => e = .returned (.bool true) ∧ Below w.heap.size w w' := by
  obtain ⟨hnl, k1, k2, k3⟩ := Lst.len h.1
  unfold maxLen at k2 k3
  have hn := smF_le hs
  rw [← hnl] at hn
  have HI := Lib.hid h
  have HN := Lib.hid hnl
  have HS := Lib.hid hs
  clear h hnl k2 k3 hs
  cases ses
  · go_enter Try.func8, Try.ntmps8
    go_upto_region 6 with (go_at_call 10; refine (small_at HI.out HS.out).mono ?_; rintro e w1 ⟨rfl, rfl⟩)
    have hb0 : Below w.heap.size w (w.alloc (.cells #[.int .i64 1, .int .i64 size, .int .i64 0] 23)) := (Below.refl _ _).alloc (Nat.le_refl _) _
    cases hok : okA ⟨1, size, 0, 2⟩ with
    | false =>
      have HO := Lib.hid hok
      have HB0 := Lib.hid hb0
      clear hok hb0
      go_wp2_with (first
        | (go_at_call 11; refine (new_no (C := ⟨1, size, 0, 2⟩) HO.out _).mono ?_; rintro e w2 ⟨rfl, hb2⟩; have HB2 := Lib.hid (grow_below HB0.out hb2); clear hb2)
        | (go_at_call 12; refine (awake_any _).mono ?_; rintro e w3 ⟨rfl, hb3⟩; have HB3 := Lib.hid (grow_below HB2.out hb3); clear hb3))
      go_ret
      exact ⟨rfl, HB3.out⟩
    | true =>
      have HO := Lib.hid hok
      have HCK : Hid (∃ C : Cfg, (⟨1, size, 0, 2⟩ : Cfg) = C ∧ C.k = 1 ∧ C.s = size ∧ C.l = 0 ∧ C.agg = 2 ∧ okW C.k C.s C.l = true) := Lib.hid ⟨_, rfl, rfl, rfl, rfl, rfl, by unfold okA at hok; simp only [Bool.and_eq_true] at hok; exact hok.1⟩
      have HB0 := Lib.hid hb0
      clear hok hb0
      go_upto_region 9 with (go_at_call 11; refine (one_new (C := ⟨1, size, 0, 2⟩) HB0.out HO.out).mono ?_; rintro e w2 ⟨g, rfl, hf2⟩; have H2 := Lib.hid hf2; clear hf2)
      obtain ⟨C, hC, hck, hcs, hcl, hca, hcw⟩ := HCK.out
      rw [hC] at H2
      clear HCK hC HO
      go_wp2
      have hrng : ∀ t, okT t = true → ((ofS C.k C.s C.l t).length : Int) = 1 := fun t ht => by
        have := (cov_of (k := C.k) hcw ht rfl).one (by rw [hck]; simp)
        omega
      have HRN := Lib.hid hrng
      have HCW := Lib.hid hcw
      have HCK2 := Lib.hid hck
      have HCA := Lib.hid hca
      clear hrng hcw hck hcs hcl hca
      go_loopw [10, 11, 12] (fun v10 v11 v12 wL => ∃ (k : Nat) (W H : Int) (l : List Pn) (m : Int), k ≤ n ∧ v12 = .int .i64 k ∧ v10 = .int .i64 W ∧ v11 = .int .i64 H ∧ Hid (One w (fun _ => False) g C wL l m) ∧ Hid (csum l ≤ k) ∧ Hid (Pos l) ∧ Hid (Ag.wr (H + ssum l) = W) ∧ Hid (Ag.wr H = H)) (fun _ _ v12 _ => n - (intOf v12).toNat)
      case atStart => exact ⟨0, 0, 0, [], 0, Nat.zero_le _, rfl, rfl, rfl, H2, Lib.hid (Int.le_refl _), Lib.hid (fun x h => by cases h), Lib.hid (wr_in (n := 0) (by omega)), Lib.hid (wr_in (n := 0) (by omega))⟩
      case round =>
        clear H2
        obtain ⟨k, W, H, l, m, hk, rfl, rfl, rfl, HOne, HCS, HPos, HEq, HNr⟩ := hrel
        rename World => wr2
        by_cases hlt : k < n
        · have hkl : k < L.length := by rw [← HN.out]; exact hlt
          obtain ⟨b, o, ha, hbl, y0, y1, y2, y3, y4, y5⟩ := ObsAt.cells (HI.out.grow HOne.out.below) hkl
          subst ha
          have hopk := HI.out.2 L[k] (List.getElem_mem hkl)
          obtain ⟨x, hx⟩ : ∃ x, L[k] = x := ⟨_, rfl⟩
          rw [hx] at y0 y1 y2 y3 y4 y5 hopk
          obtain ⟨kd, ⟨ky, rt, rv⟩, xat, xb⟩ := x
          obtain ⟨bx, nx, cx, hob, -⟩ := hopk.b
          simp only at hob
          subst hob
          have hrv := hopk.v
          have g0 : (0 : Int) ≤ (k : Int) := by omega
          have g1 : (k : Int) < (n : Int) := by omega
          have hm1 : 100 + csum l ≤ 1000000 := by have := HCS.out; omega
          have HM1 := Lib.hid hm1
          have HRV := Lib.hid hrv
          have hblk := HOne.out.block (.cells #[.int .i64 kd, kyV ky, .int .i64 rt, .int .i64 rv, .int .i64 xat, .slice bx nx cx] 35)
          have hcpy : Cpy (wr2.alloc (.cells #[.int .i64 kd, kyV ky, .int .i64 rt, .int .i64 rv, .int .i64 xat, .slice bx nx cx] 35)) wr2.heap.size ⟨kd, ⟨ky, rt, rv⟩, xat, .slice bx nx cx⟩ := ⟨heap_alloc_new wr2 _⟩
          clear hx hopk hrv hm1 hkl
          simp only at y0 y1 y2 y3 y4 y5
          go_upto_region 15 with (fail)
          obtain ⟨q, hq⟩ : ∃ q, wr2.heap.size = q := ⟨_, rfl⟩
          rw [hq] at hblk hcpy ⊢
          have HOne3 := Lib.hid hblk
          have HC3 := Lib.hid hcpy
          clear y0 y1 y2 y3 y4 y5 hblk hcpy hq HOne hbl
          generalize wr2.alloc (.cells #[.int .i64 kd, kyV ky, .int .i64 rt, .int .i64 rv, .int .i64 xat, .slice bx nx cx] 35) = w3 at HOne3 HC3 ⊢
          obtain ⟨c0, c1, c2, c3, c4⟩ := HC3.out.cells
          simp only at c0 c1 c2 c3 c4
          by_cases hk0 : kd = 0
          · subst hk0
            rcases sPut_cases C l m ⟨ky, rt, rv⟩ (by rw [HCK2.out]; decide) with ⟨e, he, hsp⟩ | ⟨ht, hmt, hsp⟩
            · have HSP := Lib.hid hsp
              have e1 : (e == 0) = false := ibne he
              clear hsp he
              go_upto_region 19 with (go_at_call 13; refine (HOne3.out.put (r := ⟨ky, rt, rv⟩) HRV.out HM1.out HSP.out).mono ?_; rintro e w4 ⟨v4, rfl, -, hf4, hk4⟩; have HOne4 := Lib.hid hf4; have HC4 := Lib.hid (HC3.out.kept hk4 (.inr rfl)); clear hf4 hk4 HOne3 HC3)
              clear c0 c1 c2 c3 c4
              obtain ⟨c0, c1, c2, c3, c4⟩ := HC4.out.cells
              simp only at c0 c1 c2 c3 c4
              go_wp2
              go_roundw
              case rel => exact ⟨k + 1, W, H, l, m, by omega, by go_num, rfl, rfl, Lib.hid (HOne4.out.low (fun _ h => h.elim)), Lib.hid (by have := HCS.out; omega), HPos, HEq, HNr⟩
              case measure => simp [intOf]; omega
            · have HSP := Lib.hid hsp
              have hinv := HOne3.out.inv.put (key := ky) (v := rv) HCW.out ht HRV.out hmt (by rw [HRN.out rt ht]; have := HCS.out; omega)
              obtain ⟨hi1, hi2, hi3⟩ := hinv
              rw [HRN.out rt ht] at hi2 hi3
              rw [Int.one_mul] at hi3
              have HI2 := Lib.hid hi2
              have HI3 := Lib.hid hi3
              have HP2 := Lib.hid hi1.pos
              obtain ⟨l2, hl2⟩ : ∃ l2, kall (decide (C.k = 3)) l (raws C.k C.s C.l ky rt rv) = l2 := ⟨_, rfl⟩
              simp only at hsp
              rw [hl2] at HI2 HI3 HP2
              have HSP2 : Hid (sPut C l m ⟨ky, rt, rv⟩ = (l2, [], 0)) := Lib.hid (by rw [HSP.out]; exact congrArg (fun z => (z, ([] : List Rc), (0 : Int))) hl2)
              obtain ⟨W2, hW2⟩ : ∃ W2, IntKind.i64.wrap (W + rv) = W2 := ⟨_, rfl⟩
              have hW3 : wrap64 (W + rv) = W2 := by rw [← IntWalk.i64_left]; exact hW2
              have HEq2 : Hid (Ag.wr (H + ssum l2) = W2) := Lib.hid (by
                rw [← hW2]
                show _ = Ag.wr (W + rv)
                rw [← HEq.out, wr_add, Int.add_comm H, ← wr_add, HI3.out, wr_add]
                congr 1
                omega)
              clear hsp hi1 hi2 hi3 hl2 HSP
              go_upto_region 17 with (go_at_call 13; refine (HOne3.out.put (r := ⟨ky, rt, rv⟩) HRV.out HM1.out HSP2.out).mono ?_; rintro e w4 ⟨v4, rfl, -, hf4, hk4⟩; have HOne4 := Lib.hid hf4; have HC4 := Lib.hid (HC3.out.kept hk4 (.inr rfl)); clear hf4 hk4 HOne3 HC3)
              clear c0 c1 c2 c3 c4
              obtain ⟨c0, c1, c2, c3, c4⟩ := HC4.out.cells
              simp only at c0 c1 c2 c3 c4
              go_wp2
              go_roundw
              case rel => exact ⟨k + 1, W2, H, l2, m, by omega, by go_num, rfl, rfl, Lib.hid (HOne4.out.low (fun _ h => h.elim)), Lib.hid (by rw [HI2.out]; have := HCS.out; omega), HP2, HEq2, HNr⟩
              case measure => simp [intOf]; omega
          · have e0 : (kd == 0) = false := ibne hk0
            by_cases hk1 : kd = 1
            · subst hk1
              have hmk : ∃ l' m' T e, sMark C l m xat = (l', m', T, e) ∧ csum l' ≤ (k : Int) ∧ Pos l' ∧ vsum T + ssum l' = ssum l := by
                rcases sMark_cases C l m xat with ⟨e, hsm⟩ | ⟨-, -, hsm⟩
                · exact ⟨l, m, [], e, hsm, HCS.out, HPos.out, by show 0 + ssum l = ssum l; omega⟩
                · refine ⟨_, _, _, _, hsm, ?_, HPos.out.filter _, ?_⟩
                  · have h1 := csum_filter_le HPos.out (fun x => !due xat x)
                    have h2 := HCS.out
                    show csum (rest xat l) ≤ (k : Int)
                    unfold rest
                    omega
                  · rw [HCA.out, told_sum HPos.out, split_sum xat l]
              obtain ⟨l5, m5, T, e, hsm, hcs5, hpos5, hvs⟩ := hmk
              have HSM := Lib.hid hsm
              have HCS5 := Lib.hid hcs5
              have HPos5 := Lib.hid hpos5
              have HVS := Lib.hid hvs
              obtain ⟨tn, htn⟩ : ∃ tn, T.length = tn := ⟨_, rfl⟩
              have HTN := Lib.hid htn
              clear hsm hcs5 hpos5 hvs htn
              go_upto_region 21 with (go_at_call 16; refine (HOne3.out.mark (x := xat) HSM.out).mono ?_; rintro e w5 ⟨v5, rfl, hr5, hf5, -⟩; obtain ⟨a5, c5, rfl⟩ := Lst.val hr5; rw [HTN.out] at hr5 ⊢; have hlen5 := (Lst.len hr5).2; have HOne5 := Lib.hid hf5; have HR5 := Lib.hid hr5; clear hf5 hr5 HOne3 HC3)
              clear c0 c1 c2 c3 c4
              obtain ⟨z1, z2, z3⟩ := hlen5
              unfold maxLen at z2 z3
              go_wp2
              go_loopw [11, 18] (fun v11 v18 wL => ∃ (j : Nat) (Hj : Int), j ≤ tn ∧ v18 = .int .i64 j ∧ v11 = .int .i64 Hj ∧ Hid (Hj = Ag.wr (H + vsum (T.take j))) ∧ wL = w5) (fun _ v18 _ => tn - (intOf v18).toNat)
              case atStart => exact ⟨0, H, Nat.zero_le _, rfl, rfl, Lib.hid (by show H = Ag.wr (H + 0); rw [Int.add_zero]; exact HNr.out.symm), rfl⟩
              case round =>
                obtain ⟨j, Hj, hj, rfl, rfl, HJ, rfl⟩ := hrel
                by_cases hjt : j < tn
                · have hjl : j < T.length := by rw [HTN.out]; exact hjt
                  obtain ⟨b5, o5, ha5, -, r0, r1, r2⟩ := RcsAt.cells HR5.out hjl
                  subst ha5
                  obtain ⟨tv, htv⟩ : ∃ tv, T[j].v = tv := ⟨_, rfl⟩
                  rw [htv] at r2
                  have g2 : (0 : Int) ≤ (j : Int) := by omega
                  have g3 : (j : Int) < (tn : Int) := by omega
                  obtain ⟨H2, hH2⟩ : ∃ H2, IntKind.i64.wrap (Hj + tv) = H2 := ⟨_, rfl⟩
                  have hH3 : wrap64 (Hj + tv) = H2 := by rw [← IntWalk.i64_left]; exact hH2
                  have HN2 : Hid (H2 = Ag.wr (H + vsum (T.take (j + 1)))) := Lib.hid (by
                    rw [← hH2, vsum_take hjl, htv]
                    show Ag.wr (Hj + tv) = _
                    rw [HJ.out, wr_add]
                    congr 1
                    omega)
                  clear htv hjl HJ r0 r1
                  go_wp2
                  go_roundw
                  case rel => exact ⟨j + 1, H2, by omega, by go_num, rfl, HN2, trivial⟩
                  case measure => simp [intOf]; omega
                · have HH : Hid (Ag.wr (Hj + ssum l5) = W) := Lib.hid (by
                    have h1 := HJ.out
                    rw [List.take_of_length_le (by rw [HTN.out]; omega)] at h1
                    rw [h1, wr_add, ← HEq.out, ← HVS.out]
                    congr 1
                    omega)
                  have HN2 : Hid (Ag.wr Hj = Hj) := Lib.hid (by rw [HJ.out]; exact wr_wr _)
                  clear HJ
                  go_wp2
                  go_roundw
                  case rel => exact ⟨k + 1, W, Hj, l5, m5, by omega, by go_num, rfl, rfl, Lib.hid (HOne5.out.low (fun _ h => h.elim)), Lib.hid (by have := HCS5.out; omega), HPos5, HH, HN2⟩
                  case measure => simp [intOf]; omega
            · have e1 : (kd == 1) = false := ibne hk1
              clear hk0 hk1
              go_wp2
              go_roundw
              case rel => exact ⟨k + 1, W, H, l, m, by omega, by go_num, rfl, rfl, Lib.hid (HOne3.out.low (fun _ h => h.elim)), Lib.hid (by have := HCS.out; omega), HPos, HEq, HNr⟩
              case measure => simp [intOf]; omega
        · obtain ⟨pn, hpn⟩ : ∃ pn, l.length = pn := ⟨_, rfl⟩
          have HPN := Lib.hid hpn
          clear hpn
          go_upto_region 26 with (go_at_call 17; refine (HOne.out.open_).mono ?_; rintro e w6 ⟨v6, rfl, hp6, hf6, -⟩; obtain ⟨a6, c6, rfl⟩ := Lst.val hp6; rw [HPN.out] at hp6 ⊢; have hlen6 := (Lst.len hp6).2; have HB6 := Lib.hid hf6.below; have HP6 := Lib.hid hp6; clear hf6 hp6 HOne)
          obtain ⟨z1, z2, z3⟩ := hlen6
          unfold maxLen at z2 z3
          go_wp2
          go_loopw [11, 20] (fun v11 v20 wL => ∃ (j : Nat) (Hj : Int), j ≤ pn ∧ v20 = .int .i64 j ∧ v11 = .int .i64 Hj ∧ Hid (Hj = Ag.wr (H + ssum (l.take j))) ∧ wL = w6) (fun _ v20 _ => pn - (intOf v20).toNat)
          case atStart => exact ⟨0, H, Nat.zero_le _, rfl, rfl, Lib.hid (by show H = Ag.wr (H + 0); rw [Int.add_zero]; exact HNr.out.symm), rfl⟩
          case round =>
            obtain ⟨j, Hj, hj, rfl, rfl, HJ, rfl⟩ := hrel
            by_cases hjt : j < pn
            · have hjl : j < l.length := by rw [HPN.out]; exact hjt
              obtain ⟨b6, o6, ha6, -, r0, r1, r2, r3, r4, r5, r6⟩ := PnsAt.cells HP6.out hjl
              subst ha6
              obtain ⟨tv, htv⟩ : ∃ tv, l[j].a.s = tv := ⟨_, rfl⟩
              rw [htv] at r4
              have g2 : (0 : Int) ≤ (j : Int) := by omega
              have g3 : (j : Int) < (pn : Int) := by omega
              obtain ⟨H2, hH2⟩ : ∃ H2, IntKind.i64.wrap (Hj + tv) = H2 := ⟨_, rfl⟩
              have hH3 : wrap64 (Hj + tv) = H2 := by rw [← IntWalk.i64_left]; exact hH2
              have HN2 : Hid (H2 = Ag.wr (H + ssum (l.take (j + 1)))) := Lib.hid (by
                rw [← hH2, ssum_take hjl, htv]
                show Ag.wr (Hj + tv) = _
                rw [HJ.out, wr_add]
                congr 1
                omega)
              clear htv hjl HJ r0 r1 r2 r3 r5 r6
              go_wp2
              go_roundw
              case rel => exact ⟨j + 1, H2, by omega, by go_num, rfl, HN2, trivial⟩
              case measure => simp [intOf]; omega
            · have hWH : (W == Hj) = true := ibeq (by
                have h1 := HJ.out
                rw [List.take_of_length_le (by rw [HPN.out]; omega)] at h1
                rw [h1, ← HEq.out])
              clear HJ
              go_wp2_with (go_at_call 12; refine (awake_any _).mono ?_; rintro e w7 ⟨rfl, hb7⟩; have HB7 := Lib.hid (grow_below HB6.out hb7); clear hb7)
              go_ret
              exact ⟨rfl, HB7.out⟩
  · go_enter Try.func8, Try.ntmps8
    go_upto_region 6 with (go_at_call 10; refine (small_at HI.out HS.out).mono ?_; rintro e w1 ⟨rfl, rfl⟩)
    have hb0 : Below w.heap.size w (w.alloc (.cells #[.int .i64 3, .int .i64 size, .int .i64 0] 23)) := (Below.refl _ _).alloc (Nat.le_refl _) _
    cases hok : okA ⟨3, size, 0, 2⟩ with
    | false =>
      have HO := Lib.hid hok
      have HB0 := Lib.hid hb0
      clear hok hb0
      go_wp2_with (first
        | (go_at_call 11; refine (new_no (C := ⟨3, size, 0, 2⟩) HO.out _).mono ?_; rintro e w2 ⟨rfl, hb2⟩; have HB2 := Lib.hid (grow_below HB0.out hb2); clear hb2)
        | (go_at_call 12; refine (awake_any _).mono ?_; rintro e w3 ⟨rfl, hb3⟩; have HB3 := Lib.hid (grow_below HB2.out hb3); clear hb3))
      go_ret
      exact ⟨rfl, HB3.out⟩
    | true =>
      have HO := Lib.hid hok
      have HCK : Hid (∃ C : Cfg, (⟨3, size, 0, 2⟩ : Cfg) = C ∧ C.k = 3 ∧ C.s = size ∧ C.l = 0 ∧ C.agg = 2 ∧ okW C.k C.s C.l = true) := Lib.hid ⟨_, rfl, rfl, rfl, rfl, rfl, by unfold okA at hok; simp only [Bool.and_eq_true] at hok; exact hok.1⟩
      have HB0 := Lib.hid hb0
      clear hok hb0
      go_upto_region 9 with (go_at_call 11; refine (one_new (C := ⟨3, size, 0, 2⟩) HB0.out HO.out).mono ?_; rintro e w2 ⟨g, rfl, hf2⟩; have H2 := Lib.hid hf2; clear hf2)
      obtain ⟨C, hC, hck, hcs, hcl, hca, hcw⟩ := HCK.out
      rw [hC] at H2
      clear HCK hC HO
      go_wp2
      have hrng : ∀ t, okT t = true → ((ofS C.k C.s C.l t).length : Int) = 1 := fun t ht => by
        have := (cov_of (k := C.k) hcw ht rfl).one (by rw [hck]; simp)
        omega
      have HRN := Lib.hid hrng
      have HCW := Lib.hid hcw
      have HCK2 := Lib.hid hck
      have HCA := Lib.hid hca
      clear hrng hcw hck hcs hcl hca
      go_loopw [10, 11, 12] (fun v10 v11 v12 wL => ∃ (k : Nat) (W H : Int) (l : List Pn) (m : Int), k ≤ n ∧ v12 = .int .i64 k ∧ v10 = .int .i64 W ∧ v11 = .int .i64 H ∧ Hid (One w (fun _ => False) g C wL l m) ∧ Hid (csum l ≤ k) ∧ Hid (Pos l) ∧ Hid (Ag.wr (H + ssum l) = W) ∧ Hid (Ag.wr H = H)) (fun _ _ v12 _ => n - (intOf v12).toNat)
      case atStart => exact ⟨0, 0, 0, [], 0, Nat.zero_le _, rfl, rfl, rfl, H2, Lib.hid (Int.le_refl _), Lib.hid (fun x h => by cases h), Lib.hid (wr_in (n := 0) (by omega)), Lib.hid (wr_in (n := 0) (by omega))⟩
      case round =>
        clear H2
        obtain ⟨k, W, H, l, m, hk, rfl, rfl, rfl, HOne, HCS, HPos, HEq, HNr⟩ := hrel
        rename World => wr2
        by_cases hlt : k < n
        · have hkl : k < L.length := by rw [← HN.out]; exact hlt
          obtain ⟨b, o, ha, hbl, y0, y1, y2, y3, y4, y5⟩ := ObsAt.cells (HI.out.grow HOne.out.below) hkl
          subst ha
          have hopk := HI.out.2 L[k] (List.getElem_mem hkl)
          obtain ⟨x, hx⟩ : ∃ x, L[k] = x := ⟨_, rfl⟩
          rw [hx] at y0 y1 y2 y3 y4 y5 hopk
          obtain ⟨kd, ⟨ky, rt, rv⟩, xat, xb⟩ := x
          obtain ⟨bx, nx, cx, hob, -⟩ := hopk.b
          simp only at hob
          subst hob
          have hrv := hopk.v
          have g0 : (0 : Int) ≤ (k : Int) := by omega
          have g1 : (k : Int) < (n : Int) := by omega
          have hm1 : 100 + csum l ≤ 1000000 := by have := HCS.out; omega
          have HM1 := Lib.hid hm1
          have HRV := Lib.hid hrv
          have hblk := HOne.out.block (.cells #[.int .i64 kd, kyV ky, .int .i64 rt, .int .i64 rv, .int .i64 xat, .slice bx nx cx] 35)
          have hcpy : Cpy (wr2.alloc (.cells #[.int .i64 kd, kyV ky, .int .i64 rt, .int .i64 rv, .int .i64 xat, .slice bx nx cx] 35)) wr2.heap.size ⟨kd, ⟨ky, rt, rv⟩, xat, .slice bx nx cx⟩ := ⟨heap_alloc_new wr2 _⟩
          clear hx hopk hrv hm1 hkl
          simp only at y0 y1 y2 y3 y4 y5
          go_upto_region 15 with (fail)
          obtain ⟨q, hq⟩ : ∃ q, wr2.heap.size = q := ⟨_, rfl⟩
          rw [hq] at hblk hcpy ⊢
          have HOne3 := Lib.hid hblk
          have HC3 := Lib.hid hcpy
          clear y0 y1 y2 y3 y4 y5 hblk hcpy hq HOne hbl
          generalize wr2.alloc (.cells #[.int .i64 kd, kyV ky, .int .i64 rt, .int .i64 rv, .int .i64 xat, .slice bx nx cx] 35) = w3 at HOne3 HC3 ⊢
          obtain ⟨c0, c1, c2, c3, c4⟩ := HC3.out.cells
          simp only at c0 c1 c2 c3 c4
          by_cases hk0 : kd = 0
          · subst hk0
            rcases sPut_cases C l m ⟨ky, rt, rv⟩ (by rw [HCK2.out]; decide) with ⟨e, he, hsp⟩ | ⟨ht, hmt, hsp⟩
            · have HSP := Lib.hid hsp
              have e1 : (e == 0) = false := ibne he
              clear hsp he
              go_upto_region 19 with (go_at_call 13; refine (HOne3.out.put (r := ⟨ky, rt, rv⟩) HRV.out HM1.out HSP.out).mono ?_; rintro e w4 ⟨v4, rfl, -, hf4, hk4⟩; have HOne4 := Lib.hid hf4; have HC4 := Lib.hid (HC3.out.kept hk4 (.inr rfl)); clear hf4 hk4 HOne3 HC3)
              clear c0 c1 c2 c3 c4
              obtain ⟨c0, c1, c2, c3, c4⟩ := HC4.out.cells
              simp only at c0 c1 c2 c3 c4
              go_wp2
              go_roundw
              case rel => exact ⟨k + 1, W, H, l, m, by omega, by go_num, rfl, rfl, Lib.hid (HOne4.out.low (fun _ h => h.elim)), Lib.hid (by have := HCS.out; omega), HPos, HEq, HNr⟩
              case measure => simp [intOf]; omega
            · have HSP := Lib.hid hsp
              have hinv := HOne3.out.inv.put (key := ky) (v := rv) HCW.out ht HRV.out hmt (by rw [HRN.out rt ht]; have := HCS.out; omega)
              obtain ⟨hi1, hi2, hi3⟩ := hinv
              rw [HRN.out rt ht] at hi2 hi3
              rw [Int.one_mul] at hi3
              have HI2 := Lib.hid hi2
              have HI3 := Lib.hid hi3
              have HP2 := Lib.hid hi1.pos
              obtain ⟨l2, hl2⟩ : ∃ l2, kall (decide (C.k = 3)) l (raws C.k C.s C.l ky rt rv) = l2 := ⟨_, rfl⟩
              simp only at hsp
              rw [hl2] at HI2 HI3 HP2
              have HSP2 : Hid (sPut C l m ⟨ky, rt, rv⟩ = (l2, [], 0)) := Lib.hid (by rw [HSP.out]; exact congrArg (fun z => (z, ([] : List Rc), (0 : Int))) hl2)
              obtain ⟨W2, hW2⟩ : ∃ W2, IntKind.i64.wrap (W + rv) = W2 := ⟨_, rfl⟩
              have hW3 : wrap64 (W + rv) = W2 := by rw [← IntWalk.i64_left]; exact hW2
              have HEq2 : Hid (Ag.wr (H + ssum l2) = W2) := Lib.hid (by
                rw [← hW2]
                show _ = Ag.wr (W + rv)
                rw [← HEq.out, wr_add, Int.add_comm H, ← wr_add, HI3.out, wr_add]
                congr 1
                omega)
              clear hsp hi1 hi2 hi3 hl2 HSP
              go_upto_region 17 with (go_at_call 13; refine (HOne3.out.put (r := ⟨ky, rt, rv⟩) HRV.out HM1.out HSP2.out).mono ?_; rintro e w4 ⟨v4, rfl, -, hf4, hk4⟩; have HOne4 := Lib.hid hf4; have HC4 := Lib.hid (HC3.out.kept hk4 (.inr rfl)); clear hf4 hk4 HOne3 HC3)
              clear c0 c1 c2 c3 c4
              obtain ⟨c0, c1, c2, c3, c4⟩ := HC4.out.cells
              simp only at c0 c1 c2 c3 c4
              go_wp2
              go_roundw
              case rel => exact ⟨k + 1, W2, H, l2, m, by omega, by go_num, rfl, rfl, Lib.hid (HOne4.out.low (fun _ h => h.elim)), Lib.hid (by rw [HI2.out]; have := HCS.out; omega), HP2, HEq2, HNr⟩
              case measure => simp [intOf]; omega
          · have e0 : (kd == 0) = false := ibne hk0
            by_cases hk1 : kd = 1
            · subst hk1
              have hmk : ∃ l' m' T e, sMark C l m xat = (l', m', T, e) ∧ csum l' ≤ (k : Int) ∧ Pos l' ∧ vsum T + ssum l' = ssum l := by
                rcases sMark_cases C l m xat with ⟨e, hsm⟩ | ⟨-, -, hsm⟩
                · exact ⟨l, m, [], e, hsm, HCS.out, HPos.out, by show 0 + ssum l = ssum l; omega⟩
                · refine ⟨_, _, _, _, hsm, ?_, HPos.out.filter _, ?_⟩
                  · have h1 := csum_filter_le HPos.out (fun x => !due xat x)
                    have h2 := HCS.out
                    show csum (rest xat l) ≤ (k : Int)
                    unfold rest
                    omega
                  · rw [HCA.out, told_sum HPos.out, split_sum xat l]
              obtain ⟨l5, m5, T, e, hsm, hcs5, hpos5, hvs⟩ := hmk
              have HSM := Lib.hid hsm
              have HCS5 := Lib.hid hcs5
              have HPos5 := Lib.hid hpos5
              have HVS := Lib.hid hvs
              obtain ⟨tn, htn⟩ : ∃ tn, T.length = tn := ⟨_, rfl⟩
              have HTN := Lib.hid htn
              clear hsm hcs5 hpos5 hvs htn
              go_upto_region 21 with (go_at_call 16; refine (HOne3.out.mark (x := xat) HSM.out).mono ?_; rintro e w5 ⟨v5, rfl, hr5, hf5, -⟩; obtain ⟨a5, c5, rfl⟩ := Lst.val hr5; rw [HTN.out] at hr5 ⊢; have hlen5 := (Lst.len hr5).2; have HOne5 := Lib.hid hf5; have HR5 := Lib.hid hr5; clear hf5 hr5 HOne3 HC3)
              clear c0 c1 c2 c3 c4
              obtain ⟨z1, z2, z3⟩ := hlen5
              unfold maxLen at z2 z3
              go_wp2
              go_loopw [11, 18] (fun v11 v18 wL => ∃ (j : Nat) (Hj : Int), j ≤ tn ∧ v18 = .int .i64 j ∧ v11 = .int .i64 Hj ∧ Hid (Hj = Ag.wr (H + vsum (T.take j))) ∧ wL = w5) (fun _ v18 _ => tn - (intOf v18).toNat)
              case atStart => exact ⟨0, H, Nat.zero_le _, rfl, rfl, Lib.hid (by show H = Ag.wr (H + 0); rw [Int.add_zero]; exact HNr.out.symm), rfl⟩
              case round =>
                obtain ⟨j, Hj, hj, rfl, rfl, HJ, rfl⟩ := hrel
                by_cases hjt : j < tn
                · have hjl : j < T.length := by rw [HTN.out]; exact hjt
                  obtain ⟨b5, o5, ha5, -, r0, r1, r2⟩ := RcsAt.cells HR5.out hjl
                  subst ha5
                  obtain ⟨tv, htv⟩ : ∃ tv, T[j].v = tv := ⟨_, rfl⟩
                  rw [htv] at r2
                  have g2 : (0 : Int) ≤ (j : Int) := by omega
                  have g3 : (j : Int) < (tn : Int) := by omega
                  obtain ⟨H2, hH2⟩ : ∃ H2, IntKind.i64.wrap (Hj + tv) = H2 := ⟨_, rfl⟩
                  have hH3 : wrap64 (Hj + tv) = H2 := by rw [← IntWalk.i64_left]; exact hH2
                  have HN2 : Hid (H2 = Ag.wr (H + vsum (T.take (j + 1)))) := Lib.hid (by
                    rw [← hH2, vsum_take hjl, htv]
                    show Ag.wr (Hj + tv) = _
                    rw [HJ.out, wr_add]
                    congr 1
                    omega)
                  clear htv hjl HJ r0 r1
                  go_wp2
                  go_roundw
                  case rel => exact ⟨j + 1, H2, by omega, by go_num, rfl, HN2, trivial⟩
                  case measure => simp [intOf]; omega
                · have HH : Hid (Ag.wr (Hj + ssum l5) = W) := Lib.hid (by
                    have h1 := HJ.out
                    rw [List.take_of_length_le (by rw [HTN.out]; omega)] at h1
                    rw [h1, wr_add, ← HEq.out, ← HVS.out]
                    congr 1
                    omega)
                  have HN2 : Hid (Ag.wr Hj = Hj) := Lib.hid (by rw [HJ.out]; exact wr_wr _)
                  clear HJ
                  go_wp2
                  go_roundw
                  case rel => exact ⟨k + 1, W, Hj, l5, m5, by omega, by go_num, rfl, rfl, Lib.hid (HOne5.out.low (fun _ h => h.elim)), Lib.hid (by have := HCS5.out; omega), HPos5, HH, HN2⟩
                  case measure => simp [intOf]; omega
            · have e1 : (kd == 1) = false := ibne hk1
              clear hk0 hk1
              go_wp2
              go_roundw
              case rel => exact ⟨k + 1, W, H, l, m, by omega, by go_num, rfl, rfl, Lib.hid (HOne3.out.low (fun _ h => h.elim)), Lib.hid (by have := HCS.out; omega), HPos, HEq, HNr⟩
              case measure => simp [intOf]; omega
        · obtain ⟨pn, hpn⟩ : ∃ pn, l.length = pn := ⟨_, rfl⟩
          have HPN := Lib.hid hpn
          clear hpn
          go_upto_region 26 with (go_at_call 17; refine (HOne.out.open_).mono ?_; rintro e w6 ⟨v6, rfl, hp6, hf6, -⟩; obtain ⟨a6, c6, rfl⟩ := Lst.val hp6; rw [HPN.out] at hp6 ⊢; have hlen6 := (Lst.len hp6).2; have HB6 := Lib.hid hf6.below; have HP6 := Lib.hid hp6; clear hf6 hp6 HOne)
          obtain ⟨z1, z2, z3⟩ := hlen6
          unfold maxLen at z2 z3
          go_wp2
          go_loopw [11, 20] (fun v11 v20 wL => ∃ (j : Nat) (Hj : Int), j ≤ pn ∧ v20 = .int .i64 j ∧ v11 = .int .i64 Hj ∧ Hid (Hj = Ag.wr (H + ssum (l.take j))) ∧ wL = w6) (fun _ v20 _ => pn - (intOf v20).toNat)
          case atStart => exact ⟨0, H, Nat.zero_le _, rfl, rfl, Lib.hid (by show H = Ag.wr (H + 0); rw [Int.add_zero]; exact HNr.out.symm), rfl⟩
          case round =>
            obtain ⟨j, Hj, hj, rfl, rfl, HJ, rfl⟩ := hrel
            by_cases hjt : j < pn
            · have hjl : j < l.length := by rw [HPN.out]; exact hjt
              obtain ⟨b6, o6, ha6, -, r0, r1, r2, r3, r4, r5, r6⟩ := PnsAt.cells HP6.out hjl
              subst ha6
              obtain ⟨tv, htv⟩ : ∃ tv, l[j].a.s = tv := ⟨_, rfl⟩
              rw [htv] at r4
              have g2 : (0 : Int) ≤ (j : Int) := by omega
              have g3 : (j : Int) < (pn : Int) := by omega
              obtain ⟨H2, hH2⟩ : ∃ H2, IntKind.i64.wrap (Hj + tv) = H2 := ⟨_, rfl⟩
              have hH3 : wrap64 (Hj + tv) = H2 := by rw [← IntWalk.i64_left]; exact hH2
              have HN2 : Hid (H2 = Ag.wr (H + ssum (l.take (j + 1)))) := Lib.hid (by
                rw [← hH2, ssum_take hjl, htv]
                show Ag.wr (Hj + tv) = _
                rw [HJ.out, wr_add]
                congr 1
                omega)
              clear htv hjl HJ r0 r1 r2 r3 r5 r6
              go_wp2
              go_roundw
              case rel => exact ⟨j + 1, H2, by omega, by go_num, rfl, HN2, trivial⟩
              case measure => simp [intOf]; omega
            · have hWH : (W == Hj) = true := ibeq (by
                have h1 := HJ.out
                rw [List.take_of_length_le (by rw [HPN.out]; omega)] at h1
                rw [h1, ← HEq.out])
              clear HJ
              go_wp2_with (go_at_call 12; refine (awake_any _).mono ?_; rintro e w7 ⟨rfl, hb7⟩; have HB7 := Lib.hid (grow_below HB6.out hb7); clear hb7)
              go_ret
              exact ⟨rfl, HB7.out⟩
set_option maxRecDepth 20000 in
theorem keepSums_walk {w : World} {a : Option Addr} {n c : Nat} {L : List Ob} (ses : Bool) (size : Int) (h : ObsAt w (.slice a n c) L) : Calls Try.prog 8 #[.bool ses, .int .i64 size, .slice a n c] w fun e w' => e = .returned (.bool true) ∧ Below w.heap.size w w' := by
  cases hs : smF L with
  | true => exact ks_at ses size h hs
  | false =>
    have HI := Lib.hid h
    have HS := Lib.hid hs
    clear h hs
    go_enter Try.func8, Try.ntmps8
    go_wp2_with (go_at_call 10; refine (small_at HI.out HS.out).mono ?_; rintro e w1 ⟨rfl, rfl⟩)
    go_ret
    exact ⟨rfl, Below.refl _ _⟩
end Go.Proofs.Ytlmnkmfpdjkijaa.Ke
