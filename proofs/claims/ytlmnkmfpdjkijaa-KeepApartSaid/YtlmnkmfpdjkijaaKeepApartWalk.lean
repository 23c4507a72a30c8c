/-
  KeepApart: the walk of the law. Conditions: the script lies in memory, its numbers are ints.
-/
import Derived.Test.YtlmnkmfpdjkijaaKDuo
import Derived.Test.YtlmnkmfpdjkijaaKRow
namespace Go.Proofs.Ytlmnkmfpdjkijaa.Ke
set_option linter.unusedVariables false
set_option linter.unusedSimpArgs false
open Go.RowKit
open Go.Proofs.Ytlmnkmfpdjkijaa.Wi (Sp ofS okW okT okT_is okW_cases cov_of Cov sl)

theorem okA_w2 {C : Cfg} (h : okA C = true) : okW C.k C.s C.l = true := by
  unfold okA at h
  simp only [Bool.and_eq_true] at h
  exact h.1
theorem str_is {y : Ky} {xs ks : ByteArray} (h : (⟨y.toArray⟩ : ByteArray) = xs) : (xs.toList == ks.toList) = decide (y = ks.toList) := by
  rw [← h, ByteArray.toList_eq]
  by_cases e : y = ks.toList
  · rw [decide_eq_true e, ← e]; simp
  · rw [decide_eq_false e]; simp [e]
abbrev isK (ks : ByteArray) (y : Ky) : Bool := decide (y = ks.toList)
def fl (ks : ByteArray) (l : List Pn) : List Pn := l.filter fun x => isK ks x.k
def fr (ks : ByteArray) (T : List Rc) : List Rc := T.filter fun x => isK ks x.k
theorem fr_take {ks : ByteArray} {T : List Rc} {j : Nat} (h : j < T.length) {x : Rc} (hx : T[j] = x) : fr ks (T.take (j + 1)) = fr ks (T.take j) ++ (if isK ks x.k = true then [x] else []) := by
  unfold fr
  rw [List.take_succ_eq_append_getElem h, List.filter_append, hx]
  congr 1
  cases hk : isK ks x.k <;> simp [hk]
theorem fr_len (ks : ByteArray) (T : List Rc) : (fr ks T).length ≤ T.length := List.length_filter_le _ _
/-- What a put leaves of one key. -/
theorem apart_put {C : Cfg} {l : List Pn} {m : Int} {r : Rc} {ks : ByteArray} (hI : Inv C.k C.s l m) (hw : okW C.k C.s C.l = true) (hv : I64 r.v) (hm : 20 + csum l ≤ 1000000000) :
    ∃ l' out e, sPut C l m r = (l', out, e) ∧ csum l' ≤ 20 + csum l ∧ out.length ≤ 1 ∧ (r.k = ks.toList → sPut C (fl ks l) m r = (fl ks l', out, e) ∧ fr ks out = out) ∧ (r.k ≠ ks.toList → fl ks l' = fl ks l ∧ fr ks out = []) := by
  by_cases h0 : C.k = 0
  · unfold sPut
    split
    · exact ⟨_, _, _, rfl, by omega, Nat.zero_le _, fun _ => ⟨rfl, rfl⟩, fun _ => ⟨rfl, rfl⟩⟩
    · split
      · exact ⟨_, _, _, rfl, by omega, Nat.zero_le _, fun _ => ⟨rfl, rfl⟩, fun _ => ⟨rfl, rfl⟩⟩
      · refine ⟨_, _, _, rfl, by omega, Nat.le_refl _, fun e => ⟨rfl, ?_⟩, fun e => ⟨rfl, ?_⟩⟩
        · unfold fr isK; simp [e]
        · unfold fr isK; simp [e]
  · have hp := acc_put (m := m) hw hv
    have hc := acc_csum C m r
    have hf : fl ks (kall (decide (C.k = 3)) l (acc C m r)) = kall (decide (C.k = 3)) (fl ks l) ((acc C m r).filter fun x => isK ks x.k) := kall_filter (isK ks) _ hI.good hI.pos hp (by omega)
    have hr : (acc C m r).filter (fun x => isK ks x.k) = if isK ks r.k = true then acc C m r else [] := by
      unfold acc
      split
      · simp
      · exact raws_filter _ _ _ _ _ _ _
    have hs : ∀ l0, ∃ e, sPut C l0 m r = (kall (decide (C.k = 3)) l0 (acc C m r), [], e) ∧ e = (if 16 < r.k.length ∨ okT r.t = false then 1 else if r.t < m then 7 else 0) := fun l0 => by
      unfold sPut acc
      by_cases h1 : 16 < r.k.length ∨ okT r.t = false
      · rw [if_pos h1, if_pos (h1.imp_right .inl)]
        exact ⟨1, rfl, by rw [if_pos h1]⟩
      · rw [if_neg h1]
        by_cases h2 : r.t < m
        · rw [if_pos h2, if_pos (.inr (.inr h2))]
          exact ⟨7, rfl, by rw [if_neg h1, if_pos h2]⟩
        · rw [if_neg h2, if_neg h0, if_neg (fun h => h.elim (fun e => h1 (.inl e)) (fun h => h.elim (fun e => h1 (.inr e)) h2))]
          exact ⟨0, rfl, by rw [if_neg h1, if_neg h2]⟩
    obtain ⟨e, h1, he⟩ := hs l
    obtain ⟨e2, h2, he2⟩ := hs (fl ks l)
    refine ⟨_, _, _, h1, ?_, Nat.zero_le _, fun ek => ⟨?_, rfl⟩, fun ek => ⟨?_, rfl⟩⟩
    · rw [(kall_is _ hI.good hI.pos hp (by omega)).2.2.1]; omega
    · rw [h2, he2, ← he, hf, hr, if_pos (by simp [isK, ek])]
    · rw [hf, hr, if_neg (by simp [isK, ek])]
      rfl
theorem apart_mark {C : Cfg} {l : List Pn} {m x : Int} {ks : ByteArray} (hI : Inv C.k C.s l m) : ∃ l' m' T e, sMark C l m x = (l', m', T, e) ∧ csum l' ≤ csum l ∧ T.length ≤ l.length ∧ sMark C (fl ks l) m x = (fl ks l', m', fr ks T, e) := by
  have hc := fun l' m' T e h => sMark_csum (C := C) (m := m) (x := x) hI.pos (l' := l') (m' := m') (e := e) (T := T) h
  unfold sMark at hc ⊢
  split
  · exact ⟨_, _, _, _, rfl, Int.le_refl _, Nat.zero_le _, rfl⟩
  · split
    · exact ⟨_, _, _, _, rfl, Int.le_refl _, Nat.zero_le _, rfl⟩
    · refine ⟨_, _, _, _, rfl, csum_filter_le hI.pos _, ?_, ?_⟩
      · rw [told_len]; exact List.length_filter_le _ _
      · unfold fl fr
        rw [rest_filter x l (isK ks), told_filter hI.good.sd (isK ks)]
theorem len_le {l : List Pn} {z : Int} (h : Pos l) (hc : csum l ≤ z) : (l.length : Int) ≤ z := Int.le_trans (len_csum h) hc
theorem below_row {WC w w' : World} {v : Value} {M : List Rc} {o : Obj} (hb : Below WC.heap.size WC w) (h : w.ownsRow WC.heap.size 32 3 v M.length (rcs M)) (hg : (w.alloc o).grownBy w' v.ownBlock) : Below WC.heap.size WC w' :=
  (hb.trans (((Below.refl _ _).alloc (Nat.le_refl _) o).mono hb.size)).grown hg (by have := hb.size; simp; omega) (fun k e => (h.lt k e).1)
set_option maxRecDepth 20000 in
set_option maxHeartbeats 4000000 in
theorem ka_at {w : World} {a : Option Addr} {n c : Nat} {L : List Ob} (C : Cfg) (ks : ByteArray) (h : ObsAt w (.slice a n c) L) (hs : smF L = true) (hks : ks.size ≤ 64) : Calls Try.prog 9 #[winV C.k C.s C.l, .int .i64 C.agg, .slice a n c, .string ks] w fun e w' => e = .returned (.bool true) ∧ Below w.heap.size w w' := by
  obtain ⟨hnl, k1, k2, k3⟩ := Lst.len h.1
  unfold maxLen at k2 k3
  have hn := smF_le hs
  rw [← hnl] at hn
  have HI := Lib.hid h
  have HN := Lib.hid hnl
  have HS := Lib.hid hs
  have hk6 : ¬ (64 : Int) < (ks.size : Int) := by omega
  clear h hnl k2 k3 hs hks
  go_enter Try.func9, Try.ntmps9
  go_upto_region 3 with (go_at_call 10; refine (small_at (HI.out.grow ((Below.refl _ _).alloc (Nat.le_refl _) _)) HS.out).mono ?_; rintro e w1 ⟨rfl, rfl⟩)
  have hb0 : Below w.heap.size w (w.alloc (.cells #[.int .i64 C.k, .int .i64 C.s, .int .i64 C.l] 23)) := (Below.refl _ _).alloc (Nat.le_refl _) _
  have hB := heap_alloc_new w (.cells #[.int .i64 C.k, .int .i64 C.s, .int .i64 C.l] 23)
  generalize w.alloc (.cells #[.int .i64 C.k, .int .i64 C.s, .int .i64 C.l] 23) = W at hb0 hB ⊢
  have hBl := lt_of_heap hB
  have b0 := cell_of_heap hB 0
  have b1 := cell_of_heap hB 1
  have b2 := cell_of_heap hB 2
  simp only [List.getElem?_toArray, List.getElem?_cons_zero, List.getElem?_cons_succ] at b0 b1 b2
  cases hok : okA C with
  | false =>
    have HO := Lib.hid hok
    have HB0 := Lib.hid hb0
    clear hok hb0
    go_upto_region 4 with (go_at_call 11; refine (new_no HO.out _).mono ?_; rintro e w2 ⟨rfl, hb2⟩; have HB2 := Lib.hid (grow_below HB0.out hb2); have hB2 := (hb2.block _ hBl).trans hB; clear hb2)
    clear hB b0 b1 b2
    have b0 := cell_of_heap hB2 0
    have b1 := cell_of_heap hB2 1
    have b2 := cell_of_heap hB2 2
    simp only [List.getElem?_toArray, List.getElem?_cons_zero, List.getElem?_cons_succ] at b0 b1 b2
    go_wp2_with (first
      | (go_at_call 11; refine (new_no HO.out _).mono ?_; rintro e w3 ⟨rfl, hb3⟩; have HB3 := Lib.hid (grow_below HB2.out hb3); clear hb3)
      | (go_at_call 12; refine (awake_any _).mono ?_; rintro e w4 ⟨rfl, hb4⟩; have HB4 := Lib.hid (grow_below HB3.out hb4); clear hb4))
    go_ret
    exact ⟨rfl, HB4.out⟩
  | true =>
    have HO := Lib.hid hok
    have HCW := Lib.hid (okA_w2 hok)
    have HF0 := Lib.hid (Fam.none w hb0 C (fun _ => 0) (fun _ => []) (fun _ => 0))
    clear hok hb0
    go_upto_region 4 with (go_at_call 11; refine (HF0.out.new HO.out).mono ?_; rintro e w2 ⟨g, rfl, hf2, hb2⟩; have HF2 := Lib.hid hf2; have hB2 := (hb2.block _ hBl).trans hB; clear hb2 hf2)
    clear hB b0 b1 b2 HF0
    have b0 := cell_of_heap hB2 0
    have b1 := cell_of_heap hB2 1
    have b2 := cell_of_heap hB2 2
    simp only [List.getElem?_toArray, List.getElem?_cons_zero, List.getElem?_cons_succ] at b0 b1 b2
    go_upto_region 5 with (go_at_call 11; refine (duo_new HF2.out (upd_same _ _ _) (upd_same _ _ _) (upd_same _ _ _) HO.out).mono ?_; rintro e w3 ⟨g', rfl, hd3⟩; have HD3 := Lib.hid hd3; clear hd3)
    clear hB2 b0 b1 b2 HF2 hBl hk6
    go_wp2
    go_loopw [13] (fun v13 wL => ∃ (i : Nat) (l : List Pn) (m : Int), i ≤ n ∧ v13 = .int .i64 i ∧ Hid (Duo w (fun _ => False) g g' C wL l (fl ks l) m m) ∧ Hid (csum l ≤ 20 * (i : Int))) (fun v13 _ => n - (intOf v13).toNat)
    case atStart => exact ⟨0, [], 0, Nat.zero_le _, rfl, HD3, Lib.hid (Int.le_refl _)⟩
    case round =>
      clear HD3
      obtain ⟨i, l, m, hin, rfl, HD1, HCS⟩ := hrel
      rename World => wr2
      by_cases hlt : i < n
      · have hkl : i < L.length := by rw [← HN.out]; exact hlt
        obtain ⟨b, o, ha, hbl, y0, y1, y2, y3, y4, y5⟩ := ObsAt.cells (HI.out.grow HD1.out.below) hkl
        subst ha
        have hopk := HI.out.2 L[i] (List.getElem_mem hkl)
        obtain ⟨x, hx⟩ : ∃ x, L[i] = x := ⟨_, rfl⟩
        rw [hx] at y0 y1 y2 y3 y4 y5 hopk
        obtain ⟨kd, ⟨ky, rt, rv⟩, xat, xb⟩ := x
        obtain ⟨bx, nx, cx, hob, -⟩ := hopk.b
        simp only at hob
        subst hob
        have HRV := Lib.hid hopk.v
        have g0 : (0 : Int) ≤ (i : Int) := by omega
        have g1 : (i : Int) < (n : Int) := by omega
        have hcs := HCS.out
        have HM1 : Hid (100 + csum l ≤ 1000000) := Lib.hid (by omega)
        have HIv := Lib.hid HD1.out.inv.1
        have hblk := HD1.out.block (.cells #[.int .i64 kd, kyV ky, .int .i64 rt, .int .i64 rv, .int .i64 xat, .slice bx nx cx] 35)
        have hcpy : Cpy (wr2.alloc (.cells #[.int .i64 kd, kyV ky, .int .i64 rt, .int .i64 rv, .int .i64 xat, .slice bx nx cx] 35)) wr2.heap.size ⟨kd, ⟨ky, rt, rv⟩, xat, .slice bx nx cx⟩ := ⟨heap_alloc_new wr2 _⟩
        clear hx hopk hkl hcs
        simp only at y0 y1 y2 y3 y4 y5
        go_upto_region 14 with (fail)
        obtain ⟨q, hq⟩ : ∃ q, wr2.heap.size = q := ⟨_, rfl⟩
        rw [hq] at hblk hcpy ⊢
        have HD3 := Lib.hid hblk
        have HC3 := Lib.hid hcpy
        clear y0 y1 y2 y3 y4 y5 hblk hcpy hq HD1 hbl
        generalize wr2.alloc (.cells #[.int .i64 kd, kyV ky, .int .i64 rt, .int .i64 rv, .int .i64 xat, .slice bx nx cx] 35) = w3 at HD3 HC3 ⊢
        obtain ⟨c0, c1, c2, c3, c4⟩ := HC3.out.cells
        simp only at c0 c1 c2 c3 c4
        by_cases hk0 : kd = 0
        · subst hk0
          obtain ⟨l5, T, e5, hsp, hcs5, htl, hkeq, hkne⟩ := apart_put (ks := ks) (r := ⟨ky, rt, rv⟩) HIv.out HCW.out HRV.out (by have := HM1.out; omega)
          have HSP := Lib.hid hsp
          have CS5 : Hid (csum l5 ≤ 20 * ((i + 1 : Nat) : Int)) := Lib.hid (by have := HCS.out; omega)
          obtain ⟨tn, htn⟩ : ∃ tn, T.length = tn := ⟨_, rfl⟩
          have HTN := Lib.hid htn
          have htl5 : tn ≤ 80000 := by omega
          have HM5 : Hid (100 + csum (fl ks l) ≤ 1000000) := Lib.hid (by have h1 := csum_filter_le HIv.out.pos (fun x => isK ks x.k); have := HM1.out; show 100 + csum (l.filter fun x => isK ks x.k) ≤ 1000000; omega)
          clear hsp hcs5 htl htn
          go_upto_region 16 with (go_at_call 13; refine (HD3.out.put0 (r := ⟨ky, rt, rv⟩) HRV.out HM1.out HSP.out).mono ?_; rintro e w4 ⟨v4, rfl, hr4, hd4, hk4⟩; obtain ⟨a4, c4', rfl⟩ := Lst.val hr4; have HD4 := Lib.hid hd4; have HC4 := Lib.hid (HC3.out.kept hk4 (.inr rfl)); have HR4 := Lib.hid hr4; clear hd4 hk4 hr4)
          rw [HTN.out] at HR4 HD4 ⊢
          clear c0 c1 c2 c3 c4 HC3
          have hl4 := (Lst.len HR4.out).2
          unfold maxLen at hl4
          obtain ⟨z1, z2, z3⟩ := hl4
          obtain ⟨c0, c1, c2, c3, c4⟩ := HC4.out.cells
          simp only at c0 c1 c2 c3 c4
          obtain ⟨xs, hxs⟩ : ∃ xs : ByteArray, (⟨ky.toArray⟩ : ByteArray) = xs := ⟨_, rfl⟩
          have hst := str_is (ks := ks) hxs
          change _ = some (Value.string ⟨ky.toArray⟩) at c1
          rw [hxs] at c1
          by_cases hkk : ky = ks.toList
          · rw [decide_eq_true hkk] at hst
            obtain ⟨hs2, hf2⟩ := hkeq hkk
            have HSP2 := Lib.hid hs2
            have HF2 := Lib.hid hf2
            clear hkeq hkne hkk hs2 hf2
            go_upto_region 17 with (fail)
            clear c1 hst
            obtain ⟨-, c1, -⟩ := HC4.out.cells
            simp only at c1
            clear hxs
            go_upto_region 18 with (go_at_call 13; refine (HD4.out.put1 (r := ⟨ky, rt, rv⟩) HRV.out HM5.out HSP2.out).mono ?_; rintro e w5 ⟨v5, rfl, hr5, hd5, hk5⟩; have HD5 := Lib.hid hd5; have HC5 := Lib.hid (HC4.out.kept hk5 (.inl (.inr rfl))); have HRA := Lib.hid (Lst.kept HR4.out hk5 (fun g e => .inr e)); have HRB : Hid (RcsAt w5 v5 (fr ks T)) := Lib.hid (by rw [HF2.out]; exact hr5); clear hd5 hk5 hr5)
            clear c0 c1 c2 c3 c4 HC4
            obtain ⟨c0, c1, c2, c3, c4⟩ := HC5.out.cells
            simp only at c0 c1 c2 c3 c4
            go_upto_region 23 with (fail)
            go_loopw [17, 18] (fun v17 v18 wL => ∃ j : Nat, j ≤ tn ∧ v18 = .int .i64 j ∧ Hid (wL.ownsRow w5.heap.size 32 3 v17 (fr ks (T.take j)).length (rcs (fr ks (T.take j)))) ∧ Hid (Below w5.heap.size w5 wL)) (fun _ v18 _ => tn - (intOf v18).toNat)
            case atStart => exact ⟨0, Nat.zero_le _, rfl, Lib.hid (World.ownsRow_nil _ _ _ _), Lib.hid (Below.refl _ _)⟩
            case round =>
              obtain ⟨j, hj, rfl, HO6, HB6⟩ := hrel
              rename World => wr6
              by_cases hjt : j < tn
              · have hjl : j < T.length := by have := HTN.out; omega
                obtain ⟨b5, o5, ha5, hbl5, t0, t1, t2⟩ := RcsAt.cells (HRA.out.grow HB6.out) hjl
                subst ha5
                obtain ⟨x, hx⟩ : ∃ x, T[j] = x := ⟨_, rfl⟩
                have HFT := Lib.hid (fr_take (ks := ks) hjl hx)
                rw [hx] at t0 t1 t2
                obtain ⟨xk, xt, xv⟩ := x
                simp only at t0 t1 t2
                have hln : (fr ks (T.take j)).length ≤ 90000 := by
                  have h1 := fr_len ks (T.take j)
                  rw [List.length_take] at h1
                  omega
                have g2 : (0 : Int) ≤ (j : Int) := by omega
                have g3 : (j : Int) < (tn : Int) := by omega
                obtain ⟨N, hN⟩ : ∃ N, fr ks (T.take j) = N := ⟨_, rfl⟩
                rw [hN] at HO6 HFT hln
                obtain ⟨nn, hnn⟩ : ∃ nn, N.length = nn := ⟨_, rfl⟩
                have HLN : Hid (N.length ≤ 90000) := Lib.hid hln
                clear hx hjl hN hln
                by_cases hkk : xk = ks.toList
                · have hst : (xk == ks.toList) = true := by rw [hkk]; exact beq_self_eq_true _
                  have HFT2 : Hid (fr ks (T.take (j + 1)) = N ++ [⟨xk, xt, xv⟩]) := Lib.hid (by rw [HFT.out, if_pos (decide_eq_true hkk)])
                  clear hkk HFT hnn
                  go_upto_region 26 with (fail)
                  clear hst
                  go_wp2_with (refine wpList_append_rc (by rfl) (.tmp 119) (.tmp 124) (by rfl) w5.heap.size _ N (by rfl) wr6 ⟨xk, xt, xv⟩ (by rfl) HO6.out (by rfl) HLN.out HB6.out.size ?_; intro v9 w9 hown9 hgrow9 hv9; have HO9 := Lib.hid hown9; have HB9 := Lib.hid (below_row HB6.out HO6.out hgrow9); clear hown9 hgrow9 hv9)
                  go_roundw
                  case rel => exact ⟨j + 1, by omega, by go_num, by rw [HFT2.out]; exact HO9, HB9⟩
                  case measure => simp [intOf]; omega
                · have hst : (xk == ks.toList) = false := by simp [hkk]
                  have HFT2 : Hid (fr ks (T.take (j + 1)) = N) := Lib.hid (by rw [HFT.out, if_neg (by simp [isK, hkk]), List.append_nil])
                  clear hkk HFT hnn
                  go_wp2
                  go_roundw
                  case rel => exact ⟨j + 1, by omega, by go_num, by rw [HFT2.out]; exact HO6, HB6⟩
                  case measure => simp [intOf]; omega
              · have hTT : T.take j = T := List.take_of_length_le (by have := HTN.out; omega)
                rw [hTT] at HO6
                clear hTT
                go_wp2_with (go_at_call 19; refine (sameRcs_at (rcs_row HO6.out) (HRB.out.grow HB6.out) (r := true) (decide_eq_true rfl)).mono ?_; rintro e w8 ⟨rfl, hb8⟩; have HD8 := Lib.hid ((HD5.out.grow (HB6.out.trans (hb8.mono HB6.out.size))).1.low (X' := fun _ => False) (fun _ h => h.elim)); clear hb8)
                go_roundw
                case rel => exact ⟨i + 1, l5, m, by omega, by go_num, HD8, CS5⟩
                case measure => simp [intOf]; omega
          · rw [decide_eq_false hkk] at hst
            obtain ⟨hs2, hf2⟩ := hkne hkk
            have HRB : Hid (RcsAt w4 (.slice none 0 0) (fr ks T)) := Lib.hid (by rw [hf2]; exact nil_rcs _)
            have HD5 : Hid (Duo w _ g g' C w4 l5 (fl ks l5) m m) := Lib.hid (by rw [hs2]; exact HD4.out)
            clear hkeq hkne hkk hs2 hf2 HD4
            go_upto_region 18 with (fail)
            clear c1 hst
            obtain ⟨-, c1, -⟩ := HC4.out.cells
            simp only at c1
            clear hxs
            go_upto_region 23 with (fail)
            go_loopw [17, 18] (fun v17 v18 wL => ∃ j : Nat, j ≤ tn ∧ v18 = .int .i64 j ∧ Hid (wL.ownsRow w4.heap.size 32 3 v17 (fr ks (T.take j)).length (rcs (fr ks (T.take j)))) ∧ Hid (Below w4.heap.size w4 wL)) (fun _ v18 _ => tn - (intOf v18).toNat)
            case atStart => exact ⟨0, Nat.zero_le _, rfl, Lib.hid (World.ownsRow_nil _ _ _ _), Lib.hid (Below.refl _ _)⟩
            case round =>
              obtain ⟨j, hj, rfl, HO6, HB6⟩ := hrel
              rename World => wr6
              by_cases hjt : j < tn
              · have hjl : j < T.length := by have := HTN.out; omega
                obtain ⟨b5, o5, ha5, hbl5, t0, t1, t2⟩ := RcsAt.cells (HR4.out.grow HB6.out) hjl
                subst ha5
                obtain ⟨x, hx⟩ : ∃ x, T[j] = x := ⟨_, rfl⟩
                have HFT := Lib.hid (fr_take (ks := ks) hjl hx)
                rw [hx] at t0 t1 t2
                obtain ⟨xk, xt, xv⟩ := x
                simp only at t0 t1 t2
                have hln : (fr ks (T.take j)).length ≤ 90000 := by
                  have h1 := fr_len ks (T.take j)
                  rw [List.length_take] at h1
                  omega
                have g2 : (0 : Int) ≤ (j : Int) := by omega
                have g3 : (j : Int) < (tn : Int) := by omega
                obtain ⟨N, hN⟩ : ∃ N, fr ks (T.take j) = N := ⟨_, rfl⟩
                rw [hN] at HO6 HFT hln
                obtain ⟨nn, hnn⟩ : ∃ nn, N.length = nn := ⟨_, rfl⟩
                have HLN : Hid (N.length ≤ 90000) := Lib.hid hln
                clear hx hjl hN hln
                by_cases hkk : xk = ks.toList
                · have hst : (xk == ks.toList) = true := by rw [hkk]; exact beq_self_eq_true _
                  have HFT2 : Hid (fr ks (T.take (j + 1)) = N ++ [⟨xk, xt, xv⟩]) := Lib.hid (by rw [HFT.out, if_pos (decide_eq_true hkk)])
                  clear hkk HFT hnn
                  go_upto_region 26 with (fail)
                  clear hst
                  go_wp2_with (refine wpList_append_rc (by rfl) (.tmp 119) (.tmp 124) (by rfl) w4.heap.size _ N (by rfl) wr6 ⟨xk, xt, xv⟩ (by rfl) HO6.out (by rfl) HLN.out HB6.out.size ?_; intro v9 w9 hown9 hgrow9 hv9; have HO9 := Lib.hid hown9; have HB9 := Lib.hid (below_row HB6.out HO6.out hgrow9); clear hown9 hgrow9 hv9)
                  go_roundw
                  case rel => exact ⟨j + 1, by omega, by go_num, by rw [HFT2.out]; exact HO9, HB9⟩
                  case measure => simp [intOf]; omega
                · have hst : (xk == ks.toList) = false := by simp [hkk]
                  have HFT2 : Hid (fr ks (T.take (j + 1)) = N) := Lib.hid (by rw [HFT.out, if_neg (by simp [isK, hkk]), List.append_nil])
                  clear hkk HFT hnn
                  go_wp2
                  go_roundw
                  case rel => exact ⟨j + 1, by omega, by go_num, by rw [HFT2.out]; exact HO6, HB6⟩
                  case measure => simp [intOf]; omega
              · have hTT : T.take j = T := List.take_of_length_le (by have := HTN.out; omega)
                rw [hTT] at HO6
                clear hTT
                go_wp2_with (go_at_call 19; refine (sameRcs_at (rcs_row HO6.out) (HRB.out.grow HB6.out) (r := true) (decide_eq_true rfl)).mono ?_; rintro e w8 ⟨rfl, hb8⟩; have HD8 := Lib.hid ((HD5.out.grow (HB6.out.trans (hb8.mono HB6.out.size))).1.low (X' := fun _ => False) (fun _ h => h.elim)); clear hb8)
                go_roundw
                case rel => exact ⟨i + 1, l5, m, by omega, by go_num, HD8, CS5⟩
                case measure => simp [intOf]; omega
        · have e0 : (kd == 0) = false := ibne hk0
          by_cases hk1 : kd = 1
          · subst hk1
            obtain ⟨l5, m5, T, e5, hsm, hcs5, htl, hsm2⟩ := apart_mark (x := xat) (ks := ks) HIv.out
            have HSM := Lib.hid hsm
            have HSM2 := Lib.hid hsm2
            have CS5 : Hid (csum l5 ≤ 20 * ((i + 1 : Nat) : Int)) := Lib.hid (by have := HCS.out; omega)
            obtain ⟨tn, htn⟩ : ∃ tn, T.length = tn := ⟨_, rfl⟩
            have HTN := Lib.hid htn
            have htl5 : tn ≤ 80000 := by have h1 := len_le HIv.out.pos HCS.out; omega
            clear hsm hsm2 hcs5 htl htn
            go_upto_region 20 with (go_at_call 16; refine (HD3.out.mark0 (x := xat) HSM.out).mono ?_; rintro e w4 ⟨v4, rfl, hr4, hd4, hk4⟩; obtain ⟨a4, c4', rfl⟩ := Lst.val hr4; have HD4 := Lib.hid hd4; have HC4 := Lib.hid (HC3.out.kept hk4 (.inr rfl)); have HR4 := Lib.hid hr4; clear hd4 hk4 hr4)
            rw [HTN.out] at HR4 HD4 ⊢
            clear c0 c1 c2 c3 c4 HC3
            have hl4 := (Lst.len HR4.out).2
            unfold maxLen at hl4
            obtain ⟨z1, z2, z3⟩ := hl4
            obtain ⟨c0, c1, c2, c3, c4⟩ := HC4.out.cells
            simp only at c0 c1 c2 c3 c4
            go_upto_region 21 with (go_at_call 16; refine (HD4.out.mark1 (x := xat) HSM2.out).mono ?_; rintro e w5 ⟨v5, rfl, hr5, hd5, hk5⟩; have HD5 := Lib.hid hd5; have HRA := Lib.hid (Lst.kept HR4.out hk5 (fun g e => .inr e)); have HRB := Lib.hid hr5; clear hd5 hk5 hr5)
            clear c0 c1 c2 c3 c4 HC4
            go_upto_region 23 with (fail)
            go_loopw [17, 18] (fun v17 v18 wL => ∃ j : Nat, j ≤ tn ∧ v18 = .int .i64 j ∧ Hid (wL.ownsRow w5.heap.size 32 3 v17 (fr ks (T.take j)).length (rcs (fr ks (T.take j)))) ∧ Hid (Below w5.heap.size w5 wL)) (fun _ v18 _ => tn - (intOf v18).toNat)
            case atStart => exact ⟨0, Nat.zero_le _, rfl, Lib.hid (World.ownsRow_nil _ _ _ _), Lib.hid (Below.refl _ _)⟩
            case round =>
              obtain ⟨j, hj, rfl, HO6, HB6⟩ := hrel
              rename World => wr6
              by_cases hjt : j < tn
              · have hjl : j < T.length := by have := HTN.out; omega
                obtain ⟨b5, o5, ha5, hbl5, t0, t1, t2⟩ := RcsAt.cells (HRA.out.grow HB6.out) hjl
                subst ha5
                obtain ⟨x, hx⟩ : ∃ x, T[j] = x := ⟨_, rfl⟩
                have HFT := Lib.hid (fr_take (ks := ks) hjl hx)
                rw [hx] at t0 t1 t2
                obtain ⟨xk, xt, xv⟩ := x
                simp only at t0 t1 t2
                have hln : (fr ks (T.take j)).length ≤ 90000 := by
                  have h1 := fr_len ks (T.take j)
                  rw [List.length_take] at h1
                  omega
                have g2 : (0 : Int) ≤ (j : Int) := by omega
                have g3 : (j : Int) < (tn : Int) := by omega
                obtain ⟨N, hN⟩ : ∃ N, fr ks (T.take j) = N := ⟨_, rfl⟩
                rw [hN] at HO6 HFT hln
                obtain ⟨nn, hnn⟩ : ∃ nn, N.length = nn := ⟨_, rfl⟩
                have HLN : Hid (N.length ≤ 90000) := Lib.hid hln
                clear hx hjl hN hln
                by_cases hkk : xk = ks.toList
                · have hst : (xk == ks.toList) = true := by rw [hkk]; exact beq_self_eq_true _
                  have HFT2 : Hid (fr ks (T.take (j + 1)) = N ++ [⟨xk, xt, xv⟩]) := Lib.hid (by rw [HFT.out, if_pos (decide_eq_true hkk)])
                  clear hkk HFT hnn
                  go_upto_region 26 with (fail)
                  clear hst
                  go_wp2_with (refine wpList_append_rc (by rfl) (.tmp 119) (.tmp 124) (by rfl) w5.heap.size _ N (by rfl) wr6 ⟨xk, xt, xv⟩ (by rfl) HO6.out (by rfl) HLN.out HB6.out.size ?_; intro v9 w9 hown9 hgrow9 hv9; have HO9 := Lib.hid hown9; have HB9 := Lib.hid (below_row HB6.out HO6.out hgrow9); clear hown9 hgrow9 hv9)
                  go_roundw
                  case rel => exact ⟨j + 1, by omega, by go_num, by rw [HFT2.out]; exact HO9, HB9⟩
                  case measure => simp [intOf]; omega
                · have hst : (xk == ks.toList) = false := by simp [hkk]
                  have HFT2 : Hid (fr ks (T.take (j + 1)) = N) := Lib.hid (by rw [HFT.out, if_neg (by simp [isK, hkk]), List.append_nil])
                  clear hkk HFT hnn
                  go_wp2
                  go_roundw
                  case rel => exact ⟨j + 1, by omega, by go_num, by rw [HFT2.out]; exact HO6, HB6⟩
                  case measure => simp [intOf]; omega
              · have hTT : T.take j = T := List.take_of_length_le (by have := HTN.out; omega)
                rw [hTT] at HO6
                clear hTT
                go_wp2_with (go_at_call 19; refine (sameRcs_at (rcs_row HO6.out) (HRB.out.grow HB6.out) (r := true) (decide_eq_true rfl)).mono ?_; rintro e w8 ⟨rfl, hb8⟩; have HD8 := Lib.hid ((HD5.out.grow (HB6.out.trans (hb8.mono HB6.out.size))).1.low (X' := fun _ => False) (fun _ h => h.elim)); clear hb8)
                go_roundw
                case rel => exact ⟨i + 1, l5, m5, by omega, by go_num, HD8, CS5⟩
                case measure => simp [intOf]; omega
          · have e1 : (kd == 1) = false := ibne hk1
            have HRA : Hid (RcsAt w3 (.slice none 0 0) []) := Lib.hid (nil_rcs _)
            have HRB : Hid (RcsAt w3 (.slice none 0 0) (fr ks [])) := Lib.hid (nil_rcs _)
            have HTN : Hid (([] : List Rc).length = 0) := Lib.hid rfl
            have CS5 : Hid (csum l ≤ 20 * ((i + 1 : Nat) : Int)) := Lib.hid (by have := HCS.out; omega)
            clear hk0 hk1
            go_upto_region 23 with (fail)
            go_loopw [17, 18] (fun v17 v18 wL => ∃ j : Nat, j ≤ 0 ∧ v18 = .int .i64 j ∧ Hid (wL.ownsRow w3.heap.size 32 3 v17 (fr ks (([] : List Rc).take j)).length (rcs (fr ks (([] : List Rc).take j)))) ∧ Hid (Below w3.heap.size w3 wL)) (fun _ v18 _ => 0 - (intOf v18).toNat)
            case atStart => exact ⟨0, Nat.zero_le _, rfl, Lib.hid (World.ownsRow_nil _ _ _ _), Lib.hid (Below.refl _ _)⟩
            case round =>
              obtain ⟨j, hj, rfl, HO6, HB6⟩ := hrel
              rename World => wr6
              by_cases hjt : j < 0
              · exact absurd hjt (Nat.not_lt_zero _)
              · have hTT : ([] : List Rc).take j = ([] : List Rc) := List.take_of_length_le (by have := HTN.out; omega)
                rw [hTT] at HO6
                clear hTT
                go_wp2_with (go_at_call 19; refine (sameRcs_at (rcs_row HO6.out) (HRB.out.grow HB6.out) (r := true) (decide_eq_true rfl)).mono ?_; rintro e w8 ⟨rfl, hb8⟩; have HD8 := Lib.hid ((HD3.out.grow (HB6.out.trans (hb8.mono HB6.out.size))).1.low (X' := fun _ => False) (fun _ h => h.elim)); clear hb8)
                go_roundw
                case rel => exact ⟨i + 1, l, m, by omega, by go_num, HD8, CS5⟩
                case measure => simp [intOf]; omega
      · go_wp2_with (go_at_call 12; refine (awake_any _).mono ?_; rintro e w7 ⟨rfl, hb7⟩; have HB7 := Lib.hid (grow_below HD1.out.below hb7); clear hb7)
        go_ret
        exact ⟨rfl, HB7.out⟩
set_option maxRecDepth 20000 in
set_option maxHeartbeats 1000000 in
theorem keepApart_walk {w : World} {a : Option Addr} {n c : Nat} {L : List Ob} (k s l agg : Int) (ks : ByteArray) (hks : ks.size ≤ maxLen) (h : ObsAt w (.slice a n c) L) : Calls Try.prog 9 #[winV k s l, .int .i64 agg, .slice a n c, .string ks] w fun e w' => e = .returned (.bool true) ∧ Below w.heap.size w w' := by
  have HB0 : Hid (Below w.heap.size w (w.alloc (.cells #[.int .i64 k, .int .i64 s, .int .i64 l] 23))) := Lib.hid ((Below.refl _ _).alloc (Nat.le_refl _) _)
  have HI := Lib.hid (h.grow ((Below.refl w.heap.size w).alloc (Nat.le_refl _) (.cells #[.int .i64 k, .int .i64 s, .int .i64 l] 23)))
  unfold maxLen at hks
  cases hs : smF L with
  | true =>
    by_cases hk : ks.size ≤ 64
    · exact ka_at ⟨k, s, l, agg⟩ ks h hs hk
    · have hk6 : (64 : Int) < (ks.size : Int) := by omega
      have HS := Lib.hid hs
      clear h hs hk
      go_enter Try.func9, Try.ntmps9
      go_wp2_with (go_at_call 10; refine (small_at HI.out HS.out).mono ?_; rintro e w1 ⟨rfl, rfl⟩)
      go_ret
      exact ⟨rfl, HB0.out⟩
  | false =>
    have HS := Lib.hid hs
    clear h hs
    go_enter Try.func9, Try.ntmps9
    go_wp2_with (go_at_call 10; refine (small_at HI.out HS.out).mono ?_; rintro e w1 ⟨rfl, rfl⟩)
    go_ret
    exact ⟨rfl, HB0.out⟩
end Go.Proofs.Ytlmnkmfpdjkijaa.Ke
