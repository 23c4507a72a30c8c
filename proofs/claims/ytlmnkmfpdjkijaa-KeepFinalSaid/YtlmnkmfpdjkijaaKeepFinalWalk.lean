/-
  KeepFinal: the walk of the law. Conditions: the script lies in memory, its numbers are ints.
-/
import Derived.Test.YtlmnkmfpdjkijaaKRow
namespace Go.Proofs.Ytlmnkmfpdjkijaa.Ke
set_option linter.unusedVariables false
set_option linter.unusedSimpArgs false
open Go.RowKit
open Go.Proofs.Ytlmnkmfpdjkijaa.Wi (Sp ofS okW okT okT_is okW_cases cov_of Cov)

/-- What a mark tells, of tumbling windows. -/
theorem mark_final {C : Cfg} {l : List Pn} {m x : Int} {k : Nat} {M : List Rc} (hk : C.k ≠ 3) (hI : Inv C.k C.s l m) (hp : Pos l) (hM : ∀ r ∈ M, r.t < m) (hl : (M.length : Int) + csum l ≤ k) :
    ∃ l' m' T e, sMark C l m x = (l', m', T, e) ∧ Pos l' ∧ (∀ r ∈ M ++ T, r.t < m') ∧ ((M ++ T).length : Int) + csum l' ≤ k ∧
      ∀ j (h : j < T.length), m ≤ T[j].t ∧ ∀ r ∈ M ++ T.take j, r.k = T[j].k → r.t = T[j].t → T[j].t = 1000000000 := by
  rcases sMark_cases C l m x with ⟨e, hs⟩ | ⟨h1, h2, hs⟩
  · exact ⟨_, _, _, _, hs, hp, by rw [List.append_nil]; exact hM, by rw [List.append_nil]; exact hl, fun j h => by simp at h⟩
  · have hT : ∀ r ∈ told C.agg x l, m ≤ r.t ∧ r.t < x := fun r hr => told_time hI h1 hr h2
    refine ⟨_, _, _, _, hs, hp.filter _, fun r hr => ?_, ?_, fun j h => ⟨(hT _ (List.getElem_mem h)).1, fun r hr hk' ht => ?_⟩⟩
    · rcases List.mem_append.1 hr with hr | hr
      · have := hM r hr; omega
      · exact (hT r hr).2
    · have q1 := len_csum (hp.filter (due x))
      have q2 := csum_split (due x) l
      have q3 := told_len C.agg x l
      rw [List.length_append]
      show ((M.length + (told C.agg x l).length : Nat) : Int) + csum (l.filter fun y => !due x y) ≤ k
      omega
    · rcases List.mem_append.1 hr with hr | hr
      · have := hM r hr
        have := (hT _ (List.getElem_mem h)).1
        omega
      · obtain ⟨i, hi, rfl⟩ := List.getElem_of_mem hr
        rw [List.length_take] at hi
        rw [List.getElem_take] at hk' ht
        have hg : Good false C.s l := by
          have := hI.good
          rw [show decide (C.k = 3) = false by simp [hk]] at this
          exact this
        have := List.pairwise_iff_getElem.1 (told_apart (agg := C.agg) (m := x) hg) i j (by omega) h (by omega) hk' ht
        omega
theorem str_iff {x y : Ky} : ((⟨x.toArray⟩ : ByteArray).toList == (⟨y.toArray⟩ : ByteArray).toList) = decide (x = y) := by
  rw [ByteArray.toList_eq, ByteArray.toList_eq]
  by_cases h : x = y
  · subst h; simp
  · simp [h]
set_option maxRecDepth 20000 in
set_option maxHeartbeats 2000000 in
theorem kf_at {w : World} {a : Option Addr} {n c : Nat} {L : List Ob} (size : Int) (h : ObsAt w (.slice a n c) L) (hs : smF L = true) : Calls Try.prog 7 #[.int .i64 size, .slice a n c] w fun e w' => e = .returned (.bool true) ∧ Below w.heap.size w w' := by
  obtain ⟨hnl, k1, k2, k3⟩ := Lst.len h.1
  unfold maxLen at k2 k3
  have hn := smF_le hs
  rw [← hnl] at hn
  have HI := Lib.hid h
  have HN := Lib.hid hnl
  have HS := Lib.hid hs
  clear h hnl k2 k3 hs
  go_enter Try.func7, Try.ntmps7
  go_upto_region 3 with (go_at_call 10; refine (small_at HI.out HS.out).mono ?_; rintro e w1 ⟨rfl, rfl⟩)
  have hb0 := Below.refl w.heap.size w
  cases hok : okA ⟨1, size, 0, 4⟩ with
  | false =>
    have HO := Lib.hid hok
    have HB0 := Lib.hid hb0
    clear hok hb0
    go_wp2_with (first
      | (go_at_call 11; refine (new_no (C := ⟨1, size, 0, 4⟩) HO.out _).mono ?_; rintro e w2 ⟨rfl, hb2⟩; have HB2 := Lib.hid (grow_below HB0.out hb2); clear hb2)
      | (go_at_call 12; refine (awake_any _).mono ?_; rintro e w3 ⟨rfl, hb3⟩; have HB3 := Lib.hid (grow_below HB2.out hb3); clear hb3))
    go_ret
    exact ⟨rfl, HB3.out⟩
  | true =>
    have HO := Lib.hid hok
    have HCK : Hid (∃ C : Cfg, (⟨1, size, 0, 4⟩ : Cfg) = C ∧ C.k = 1 ∧ okW C.k C.s C.l = true) := Lib.hid ⟨_, rfl, rfl, by unfold okA at hok; simp only [Bool.and_eq_true] at hok; exact hok.1⟩
    have HB0 := Lib.hid hb0
    clear hok hb0
    go_upto_region 6 with (go_at_call 11; refine (one_new (C := ⟨1, size, 0, 4⟩) HB0.out HO.out).mono ?_; rintro e w2 ⟨g, rfl, hf2⟩; have H2 := Lib.hid (Fin.nil hf2); clear hf2)
    obtain ⟨C, hC, hck, hcw⟩ := HCK.out
    rw [hC] at H2
    clear HCK hC HO
    have hrng : ∀ t, okT t = true → ((ofS C.k C.s C.l t).length : Int) = 1 := fun t ht => by
      have := (cov_of (k := C.k) hcw ht rfl).one (by rw [hck]; simp)
      omega
    have HRN := Lib.hid hrng
    have HCW := Lib.hid hcw
    have HCK2 := Lib.hid hck
    clear hrng hcw hck
    go_wp2
    go_loopw [7, 8] (fun v7 v8 wL => ∃ (k : Nat) (l : List Pn) (m : Int) (M : List Rc), k ≤ n ∧ v8 = .int .i64 k ∧ Hid (Fin w (fun _ => False) g C wL l m v7 M) ∧ Hid (Pos l) ∧ Hid (∀ r ∈ M, r.t < m) ∧ Hid ((M.length : Int) + csum l ≤ k)) (fun _ v8 _ => n - (intOf v8).toNat)
    case atStart => exact ⟨0, [], 0, [], Nat.zero_le _, rfl, H2, Lib.hid (fun x h => by cases h), Lib.hid (fun x h => by cases h), Lib.hid (Int.le_refl _)⟩
    case round =>
      clear H2
      obtain ⟨k, l, m, M, hk, rfl, HF, HPos, HM, HCS⟩ := hrel
      rename World => wr2
      by_cases hlt : k < n
      · have hkl : k < L.length := by rw [← HN.out]; exact hlt
        obtain ⟨b, o, ha, hbl, y0, y1, y2, y3, y4, y5⟩ := ObsAt.cells (HI.out.grow HF.out.one.below) hkl
        subst ha
        have hopk := HI.out.2 L[k] (List.getElem_mem hkl)
        obtain ⟨x, hx⟩ : ∃ x, L[k] = x := ⟨_, rfl⟩
        rw [hx] at y0 y1 y2 y3 y4 y5 hopk
        obtain ⟨kd, ⟨ky, rt, rv⟩, xat, xb⟩ := x
        obtain ⟨bx, nx, cx, hob, -⟩ := hopk.b
        simp only at hob
        subst hob
        have hrv := hopk.v
        have g0 : (0 : Int) ≤ (k : Int) := by omega
        have g1 : (k : Int) < (n : Int) := by omega
        have hm1 : 100 + csum l ≤ 1000000 := by have := HCS.out; omega
        have HM1 := Lib.hid hm1
        have HRV := Lib.hid hrv
        have hblk := HF.out.block (.cells #[.int .i64 kd, kyV ky, .int .i64 rt, .int .i64 rv, .int .i64 xat, .slice bx nx cx] 35)
        have hcpy : Cpy (wr2.alloc (.cells #[.int .i64 kd, kyV ky, .int .i64 rt, .int .i64 rv, .int .i64 xat, .slice bx nx cx] 35)) wr2.heap.size ⟨kd, ⟨ky, rt, rv⟩, xat, .slice bx nx cx⟩ := ⟨heap_alloc_new wr2 _⟩
        clear hx hopk hrv hm1 hkl
        simp only at y0 y1 y2 y3 y4 y5
        go_upto_region 11 with (fail)
        obtain ⟨q, hq⟩ : ∃ q, wr2.heap.size = q := ⟨_, rfl⟩
        rw [hq] at hblk hcpy ⊢
        have HF3 := Lib.hid hblk
        have HC3 := Lib.hid hcpy
        clear y0 y1 y2 y3 y4 y5 hblk hcpy hq HF hbl
        generalize wr2.alloc (.cells #[.int .i64 kd, kyV ky, .int .i64 rt, .int .i64 rv, .int .i64 xat, .slice bx nx cx] 35) = w3 at HF3 HC3 ⊢
        obtain ⟨c0, c1, c2, c3, c4⟩ := HC3.out.cells
        simp only at c0 c1 c2 c3 c4
        by_cases hk0 : kd = 0
        · subst hk0
          obtain ⟨l', e, HSP, HPos', HCS'⟩ : ∃ l' e, Hid (sPut C l m ⟨ky, rt, rv⟩ = (l', [], e)) ∧ Hid (Pos l') ∧ Hid ((M.length : Int) + csum l' ≤ (k : Int) + 1) := by
            rcases sPut_cases C l m ⟨ky, rt, rv⟩ (by rw [HCK2.out]; decide) with ⟨e, he, hsp⟩ | ⟨ht, hmt, hsp⟩
            · exact ⟨_, _, Lib.hid hsp, HPos, Lib.hid (by have := HCS.out; omega)⟩
            · obtain ⟨hi1, hi2, hi3⟩ := HF3.out.one.inv.put (key := ky) (v := rv) HCW.out ht HRV.out hmt (by rw [HRN.out rt ht]; have := HM1.out; omega)
              rw [HRN.out rt ht] at hi2
              exact ⟨_, _, Lib.hid hsp, Lib.hid hi1.pos, Lib.hid (by rw [hi2]; have := HCS.out; omega)⟩
          go_upto_region 13 with (go_at_call 13; refine (HF3.out.put (r := ⟨ky, rt, rv⟩) HRV.out HM1.out HSP.out).mono ?_; rintro e w4 ⟨v4, rfl, hf4, hk4⟩; have HF4 := Lib.hid hf4; have HC4 := Lib.hid (HC3.out.kept hk4 (.inr rfl)); clear hf4 hk4 HF3 HC3)
          clear c0 c1 c2 c3 c4
          obtain ⟨c0, c1, c2, c3, c4⟩ := HC4.out.cells
          simp only at c0 c1 c2 c3 c4
          go_wp2
          go_roundw
          case rel => exact ⟨k + 1, l', m, M, by omega, by go_num, Lib.hid (HF4.out.low (fun _ h => h.elim)), HPos', HM, Lib.hid (by have := HCS'.out; omega)⟩
          case measure => simp [intOf]; omega
        · have e0 : (kd == 0) = false := ibne hk0
          by_cases hk1 : kd = 1
          · subst hk1
            obtain ⟨l5, m5, T, e, hsm, hpos5, hM5, hcs5, hT5⟩ := mark_final (x := xat) (by rw [HCK2.out]; decide) HF3.out.one.inv HPos.out HM.out HCS.out
            have HSM := Lib.hid hsm
            have HPos5 := Lib.hid hpos5
            have HM5 := Lib.hid hM5
            have HCS5 := Lib.hid hcs5
            have HT5 := Lib.hid hT5
            obtain ⟨tn, htn⟩ : ∃ tn, T.length = tn := ⟨_, rfl⟩
            have HTN := Lib.hid htn
            clear hsm hpos5 hM5 hcs5 hT5 htn
            go_upto_region 16 with (first
              | (go_at_call 14; refine (HF3.out.at_).mono ?_; rintro e w4 ⟨rfl, hf4, hk4⟩; have HF4 := Lib.hid hf4; have HC4 := Lib.hid (HC3.out.kept hk4 (.inr rfl)); clear hf4 hk4 HF3 HC3 c0 c1 c2 c3 c4; obtain ⟨c0, c1, c2, c3, c4⟩ := HC4.out.cells; simp only at c0 c1 c2 c3 c4)
              | (go_at_call 16; refine (HF4.out.mark (x := xat) HSM.out).mono ?_; rintro e w5 ⟨v5, rfl, hr5, hf5, hv5⟩; obtain ⟨a5, cp5, rfl⟩ := Lst.val hr5; rw [HTN.out] at hr5 hv5 ⊢; have hlen5 := (Lst.len hr5).2; have HF5 := Lib.hid hf5; have HR5 := Lib.hid hr5; have HV5 : Hid (T ≠ [] → _) := Lib.hid (fun _ => hv5); clear hf5 hr5 hv5 HF4 HC4))
            clear c0 c1 c2 c3 c4
            obtain ⟨z1, z2, z3⟩ := hlen5
            unfold maxLen at z2 z3
            go_wp2
            go_loopw [7, 13] (fun v7 v13 wL => ∃ (j : Nat), j ≤ tn ∧ v13 = .int .i64 j ∧ Hid (Fin w (fun _ => False) g C wL l5 m5 v7 (M ++ T.take j)) ∧ Hid (RcsAt wL (.slice a5 tn cp5) T) ∧ Hid (T ≠ [] → ∀ b, v7.ownBlock = some b → ¬ (Value.slice a5 tn cp5).ownBlock = some b)) (fun _ v13 _ => tn - (intOf v13).toNat)
            case atStart => exact ⟨0, Nat.zero_le _, rfl, by rw [List.take_zero, List.append_nil]; exact HF5, HR5, HV5⟩
            case round =>
              clear HF5 HR5 HV5
              obtain ⟨j, hj, rfl, HF6, HR6, HV6⟩ := hrel
              obtain ⟨a7, c7, rfl, hml⟩ := row_slice HF6.out.row
              unfold maxLen at hml
              rename World => wr6
              by_cases hjt : j < tn
              · have hjl : j < T.length := by rw [HTN.out]; exact hjt
                obtain ⟨hT1, hT2⟩ := HT5.out j hjl
                obtain ⟨x, hx⟩ : ∃ x, T[j] = x := ⟨_, rfl⟩
                have hsn : M ++ T.take (j + 1) = M ++ T.take j ++ [x] := by rw [List.take_succ_eq_append_getElem hjl, hx, List.append_assoc]
                have hln : (M ++ T.take j).length ≤ 90000 := by
                  have h1 := HCS5.out
                  have h2 := HPos5.out.csum
                  rw [List.length_append] at h1 ⊢
                  rw [List.length_take]
                  omega
                obtain ⟨N, hN⟩ : ∃ N, M ++ T.take j = N := ⟨_, rfl⟩
                rw [hN] at HF6 HV6 hsn hln hml hT2 ⊢
                obtain ⟨b5, o5, ha5, hbl5, t0, t1, t2⟩ := RcsAt.cells HR6.out hjl
                subst ha5
                rw [hx] at t0 t1 t2 hT1 hT2
                obtain ⟨xk, xt, xv⟩ := x
                simp only at t0 t1 t2 hT1 hT2
                obtain ⟨xs, hxs⟩ : ∃ xs : ByteArray, (⟨xk.toArray⟩ : ByteArray) = xs := ⟨_, rfl⟩
                have HXS := Lib.hid hxs
                change _ = some (Value.string ⟨xk.toArray⟩) at t0
                rw [hxs] at t0
                have HSN := Lib.hid hsn
                have HLN := Lib.hid hln
                have HT2 := Lib.hid hT2
                obtain ⟨nn, hnn⟩ : ∃ nn, N.length = nn := ⟨_, rfl⟩
                have HNN := Lib.hid hnn
                rw [hnn] at hml HF6 HV6 ⊢
                have g2 : (0 : Int) ≤ (j : Int) := by omega
                have g3 : (j : Int) < (tn : Int) := by omega
                have g4 : ¬ xt < m := by omega
                clear hjl hx hsn hln hN hxs hT1 hT2 hnn
                go_wp2
                go_loopw [14] (fun v14 wL => ∃ p : Nat, p ≤ nn ∧ v14 = .int .i64 p ∧ Hid (Below wr6.heap.size wr6 wL)) (fun v14 _ => nn - (intOf v14).toNat)
                case atStart => exact ⟨0, Nat.zero_le _, rfl, Lib.hid (Below.refl _ _)⟩
                case round =>
                  obtain ⟨p, hp, rfl, HB8⟩ := hrel
                  rename World => wq
                  by_cases hpt : p < nn
                  · have hpl : p < N.length := by rw [HNN.out]; exact hpt
                    have hrows := (rcs_row HF6.out.row).grow HB8.out
                    obtain ⟨b7, o7, ha7, hbl7, r0, r1, r2⟩ := RcsAt.cells hrows hpl
                    subst ha7
                    obtain ⟨y, hy⟩ : ∃ y, N[p] = y := ⟨_, rfl⟩
                    have hyM : y ∈ N := by rw [← hy]; exact List.getElem_mem hpl
                    rw [hy] at r0 r1 r2
                    obtain ⟨yk, yt, yv⟩ := y
                    have hfin := HT2.out _ hyM
                    simp only at r0 r1 r2 hfin
                    obtain ⟨ys, hys⟩ : ∃ ys : ByteArray, (⟨yk.toArray⟩ : ByteArray) = ys := ⟨_, rfl⟩
                    have hst : (ys.toList == xs.toList) = decide (yk = xk) := by rw [← hys, ← HXS.out]; exact str_iff
                    change _ = some (Value.string ⟨yk.toArray⟩) at r0
                    rw [hys] at r0
                    have s0 := (HB8.out.cell (p := ⟨b5, _, none⟩) hbl5).trans t0
                    have s1 := (HB8.out.cell (p := ⟨b5, _, none⟩) hbl5).trans t1
                    have g5 : (0 : Int) ≤ (p : Int) := by omega
                    have g6 : (p : Int) < (nn : Int) := by omega
                    clear hrows hpl hy hyM hys r2
                    by_cases hkk : yk = xk
                    · rw [decide_eq_true hkk] at hst
                      by_cases htt : yt = xt
                      · have hmx := hfin hkk htt
                        have e5 : (yt == xt) = true := ibeq htt
                        have e6 : (xt != 1000000000) = false := inebf hmx
                        clear hfin hkk htt hmx t0 t1 t2
                        go_wp2
                        go_region_held3 (fun X => X.cell? ⟨b7, o7 + p * 3, none⟩ = some (.string ys) ∧ X.cell? ⟨b7, o7 + p * 3 + 1, none⟩ = some (.int .i64 yt) ∧ X.cell? ⟨b5, o5 + j * 3, none⟩ = some (.string xs) ∧ X.cell? ⟨b5, o5 + j * 3 + 1, none⟩ = some (.int .i64 xt) ∧ Hid (Below wq.heap.size wq X))
                          (exact ⟨r0, r1, s0, s1, Lib.hid (Below.refl _ _).drew⟩)
                          (fail)
                        obtain ⟨-, -, -, -, hh⟩ := ‹_ ∧ _ ∧ _ ∧ _ ∧ Hid (Below wq.heap.size wq _)›
                        have HB9 := Lib.hid (grow_below HB8.out hh.out)
                        clear hh r0 r1 s0 s1
                        go_wp2
                        go_roundw
                        case rel => exact ⟨p + 1, by omega, by go_num, HB9⟩
                        case measure => simp [intOf]; omega
                      · have e5 : (yt == xt) = false := ibne htt
                        clear hfin hkk htt t0 t1 t2
                        go_wp2
                        go_region
                        go_wp2
                        go_roundw
                        case rel => exact ⟨p + 1, by omega, by go_num, Lib.hid (grow_below HB8.out (Below.refl _ _).drew)⟩
                        case measure => simp [intOf]; omega
                    · rw [decide_eq_false hkk] at hst
                      clear hfin hkk t0 t1 t2
                      go_wp2
                      go_region
                      go_wp2
                      go_roundw
                      case rel => exact ⟨p + 1, by omega, by go_num, Lib.hid (grow_below HB8.out (Below.refl _ _).drew)⟩
                      case measure => simp [intOf]; omega
                  · have hT0 : T ≠ [] := fun e => by
                      have h1 := HTN.out
                      rw [e] at h1
                      simp at h1
                      omega
                    have HV7 := Lib.hid (HV6.out hT0)
                    have HF7 := Lib.hid (HF6.out.grow HB8.out).1
                    have HR7 := Lib.hid (HR6.out.grow HB8.out)
                    have s0 : wq.cell? ⟨b5, o5 + j * 3, none⟩ = some (kyV xk) := (HB8.out.cell (p := ⟨b5, _, none⟩) hbl5).trans (t0.trans (by rw [← HXS.out]))
                    have s1 := (HB8.out.cell (p := ⟨b5, _, none⟩) hbl5).trans t1
                    have s2 := (HB8.out.cell (p := ⟨b5, _, none⟩) hbl5).trans t2
                    clear t0 t1 t2 HF6 HV6 HR6 hT0 HB8
                    go_wp2_with (refine wpList_append_rc (by rfl) (.tmp 119) (.tmp 124) (by rfl) w.heap.size _ N (by rfl) wq ⟨xk, xt, xv⟩ (by rfl) HF7.out.row (by rfl) HLN.out HF7.out.one.below.size ?_; intro v9 w9 hown9 hgrow9 hv9; have HF9 := Lib.hid (HF7.out.add hown9 hgrow9 hv9); have HR9 := Lib.hid (rcs_add HR7.out hgrow9 HV7.out hv9).1; have HV9 := Lib.hid (rcs_add HR7.out hgrow9 HV7.out hv9).2; clear hown9 hgrow9 hv9)
                    go_roundw
                    case rel => exact ⟨j + 1, by omega, by go_num, by rw [HSN.out]; exact HF9, HR9, HV9⟩
                    case measure => simp [intOf]; omega
              · have hTT : T.take j = T := List.take_of_length_le (by rw [HTN.out]; omega)
                rw [hTT] at HF6 ⊢
                go_wp2
                go_roundw
                case rel => exact ⟨k + 1, l5, m5, M ++ T, by omega, by go_num, HF6, HPos5, HM5, Lib.hid (by have := HCS5.out; omega)⟩
                case measure => simp [intOf]; omega
          · have e1 : (kd == 1) = false := ibne hk1
            clear hk0 hk1
            go_wp2
            go_roundw
            case rel => exact ⟨k + 1, l, m, M, by omega, by go_num, Lib.hid (HF3.out.low (fun _ h => h.elim)), HPos, HM, Lib.hid (by have := HCS.out; omega)⟩
            case measure => simp [intOf]; omega
      · go_wp2_with (go_at_call 12; refine (awake_any _).mono ?_; rintro e w7 ⟨rfl, hb7⟩; have HB7 := Lib.hid (grow_below HF.out.one.below hb7); clear hb7)
        go_ret
        exact ⟨rfl, HB7.out⟩
set_option maxRecDepth 20000 in
theorem keepFinal_walk {w : World} {a : Option Addr} {n c : Nat} {L : List Ob} (size : Int) (h : ObsAt w (.slice a n c) L) : Calls Try.prog 7 #[.int .i64 size, .slice a n c] w fun e w' => e = .returned (.bool true) ∧ Below w.heap.size w w' := by
  cases hs : smF L with
  | true => exact kf_at size h hs
  | false =>
    have HI := Lib.hid h
    have HS := Lib.hid hs
    clear h hs
    go_enter Try.func7, Try.ntmps7
    go_wp2_with (go_at_call 10; refine (small_at HI.out HS.out).mono ?_; rintro e w1 ⟨rfl, rfl⟩)
    go_ret
    exact ⟨rfl, Below.refl _ _⟩
end Go.Proofs.Ytlmnkmfpdjkijaa.Ke
