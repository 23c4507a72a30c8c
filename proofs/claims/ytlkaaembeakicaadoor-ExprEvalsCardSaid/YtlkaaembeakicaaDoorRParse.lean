/-
  The document's Parse: of any text the expression that the machine says, or its first error and the place. Conditions: none.
-/
import Derived.Test.YtlkaaembeakicaaDoorRFits
import Derived.Deep.CutBlock
import Derived.Deep.DeepCutAuto
namespace Go.Proofs.YtlkaaembeakicaaDoor.Ex
open Go.RowKit
theorem no_le : ∀ ws : List (Bs × Nat), no ws ≤ ws.length
  | [] => Nat.le_refl _
  | q :: r => by have := no_le r; simp only [no, List.length_cons]; split <;> omega
theorem err_40 {s : St} {k : Nat} {t : Bs} (h : s.allows k t = false) (hk : k ≠ 1) : s.errOf k t = 40 := by unfold St.errOf; rw [if_pos h, if_neg hk]
theorem err_5 {s : St} {k : Nat} {t : Bs} (h : s.allows k t = true) (hp : isPart k t = true) (h64 : s.parts = 64) : s.errOf k t = 5 := by unfold St.errOf; rw [if_neg (by simp [h]), if_pos ⟨hp, h64⟩]
theorem err_0 {s : St} {k : Nat} {t : Bs} (h : s.allows k t = true) (hp : ¬ (isPart k t = true ∧ s.parts = 64)) : s.errOf k t = 0 := by unfold St.errOf; rw [if_neg (by simp [h]), if_neg hp]
theorem way_open {s : St} {k : Nat} (h : Way s k [40]) : s.complete = false := by
  cases h with
  | num _ _ _ hd => have := hd 40 (by simp); cases this
  | name _ hn => cases hn
  | opn hc => exact hc
  | bin _ _ hm => exact absurd hm (by decide)
  | sign _ hc => exact hc
theorem way_close {s : St} {k : Nat} (h : Way s k [41]) : s.complete = true ∧ 0 < s.opn := by
  cases h with
  | num _ _ _ hd => have := hd 41 (by simp); cases this
  | name _ hn => cases hn
  | close hc ho => exact ⟨hc, ho⟩
  | bin _ _ hm => exact absurd hm (by decide)
  | sign _ hc hm => rcases hm with h | h <;> cases h
theorem way_val {s : St} {k : Nat} {t : Bs} (h : Way s k t) (hk : k = 2 ∨ k = 3) : s.complete = false := by
  cases h with
  | num _ _ _ _ hc => exact hc
  | name _ _ hc => exact hc
  | _ => rcases hk with h | h <;> cases h
theorem part_of {k : Nat} {t : Bs} (hk : k ≠ 1) : isPart k t = !(t == [40] || t == [41]) := by
  rw [Bool.eq_iff_iff]
  simp [isPart, hk]
theorem RM.below {w0 w : World} {p x : Nat} {s : St} (h : RM w0 p x s w) : Below w0.heap.size w0 w := by obtain ⟨_, _, _, _, _, _, hx, _⟩ := h; exact hx.below
theorem way_ne {s : St} {k : Nat} {t : Bs} (h : Way s k t) (hk : k ≠ 1) : t ≠ [] := by
  cases h with
  | fin => exact absurd rfl hk
  | num _ h0 => exact h0
  | name _ hn => rintro rfl; cases hn
  | opn => simp
  | close => simp
  | bin _ _ hm => rintro rfl; exact absurd hm (by decide)
  | sign _ _ hm => rcases hm with rfl | rfl <;> simp
set_option maxRecDepth 20000 in
set_option maxHeartbeats 8000000 in
theorem rparse_any {s : ByteArray} {w : World} (hs : s.size ≤ maxLen) : Calls Tryd.prog 11 #[.string s] w fun e w' => RParsed w (parse s.data.toList) e w' := by
  unfold maxLen at hs
  have hlen : s.data.toList.length = s.size := by simp
  by_cases h2 : 200 < s.size
  · have H : Hid (parse s.data.toList = .err 0 2) := Lib.hid (by unfold parse; rw [hlen, if_pos h2])
    rw [H.out]
    clear hlen
    go_enter Tryd.func11, Tryd.ntmps11
    go_wp2
    go_ret3
    exact ⟨Below.refl _ _, rfl⟩
  · obtain ⟨R, hR⟩ : ∃ R, parse s.data.toList = R := ⟨_, rfl⟩
    rw [hR]
    have hRL : RL w s.size s.data.toList R s.size 0 St.init ((w.alloc (.cells #[.slice none 0 0, .int .i64 0] 53)).alloc (.cells #[ptr w.heap.size, .slice none 0 0, .slice none 0 0] 55)) := by
      unfold parse at hR
      rw [hlen, if_neg h2] at hR
      exact ⟨_, s.size + 1, Nat.zero_le _, rfl, by simp, RM.init w, init_inv.1, init_inv.2, by simp [St.init]; omega, by simp, hR⟩
    have HRL := Lib.hid hRL
    have hs2 : s.size ≤ 200 := by omega
    clear hRL hR hlen
    go_enter Tryd.func11, Tryd.ntmps11
    go_wp2
    go_loopg [6, 7, 8, 9] s.size (fun k v6 v7 v8 v9 wr => ∃ (a : Nat) (st : St), v6 = .bool (!st.complete) ∧ v7 = .int .i64 st.opn ∧ v8 = .int .i64 st.parts ∧ v9 = .int .i64 a ∧ RL w s.size s.data.toList R k a st wr)
    case atStart => exact ⟨0, St.init, rfl, rfl, rfl, rfl, HRL.out⟩
    case round =>
      obtain ⟨a, st, rfl, rfl, rfl, rfl, rest, f, ha, hrest, hk, hrm, hi, hb, hw, hf, hgo⟩ := hrel
      obtain ⟨kk, hkk⟩ : ∃ kk, kindOf (skip rest) = kk := ⟨_, rfl⟩
      obtain ⟨tl, htl⟩ : ∃ tl, wordOf (skip rest) = tl := ⟨_, rfl⟩
      obtain ⟨ps, hps0⟩ : ∃ ps, s.size - (skip rest).length = ps := ⟨_, rfl⟩
      obtain ⟨n, hn⟩ : ∃ n, st.errOf kk tl = n := ⟨_, rfl⟩
      obtain ⟨f, rfl⟩ : ∃ f', f = f' + 1 := ⟨f - 1, by omega⟩
      simp only [go] at hgo
      rw [hkk, htl, hn, hps0] at hgo
      have htok : TokOK kk tl := by rw [← hkk, ← htl]; exact tok_ok _
      have hps2 : ps ≤ 200 := by omega
      have hsk : s.data.toList.drop ps = skip rest ∧ ps ≤ s.size ∧ (skip rest).length = s.size - ps := by
        obtain ⟨j, hj, hje⟩ := skip_suffix rest
        have hrl : rest.length = s.size - a := by rw [← hrest, List.length_drop]; simp
        have h1 : skip rest = s.data.toList.drop (a + j) := by rw [hje, ← hrest, List.drop_drop]
        have h3 : (skip rest).length = s.size - (a + j) := by rw [h1, List.length_drop]; simp
        have e : ps = a + j := by omega
        refine ⟨by rw [e, h1], by omega, by omega⟩
      have hop : st.opn ≤ 200 ∧ st.parts ≤ 64 ∧ st.waits.length ≤ 900 := by
        have h1 := hi.opn
        have h3 := no_le st.waits
        have h4 := hi.few
        unfold St.Bal at hb
        omega
      obtain ⟨o200, p64, w900⟩ := hop
      have hps1 := hsk.2.1
      have HA := Lib.hid (And.intro hrest (And.intro hkk (And.intro hps0 hsk)))
      have HTL := Lib.hid htl
      have HK := Lib.hid htok
      have HE := Lib.hid hn
      have HP := Lib.hid hrm
      have HI := Lib.hid (And.intro hi hb)
      have HF := Lib.hid (And.intro hf (And.intro hk hw))
      have HG := Lib.hid hgo
      clear hrest hkk hrm hi hb hgo hk hw hf htl htok hn hps0 hsk
      go_upto_block 2 with fail
      go_cut [9] (fun v9 wx => v9 = .int .i64 ps ∧ wr = wx)
      case first =>
        go_wp2_with fail
        go_loop [9] (fun i => ∃ k : Nat, k ≤ s.size ∧ i = .int .i64 k ∧ skip (s.data.toList.drop k) = skip rest) (fun i => s.size - (intOf i).toNat)
        case atStart => exact ⟨a, ha, rfl, by rw [HA.out.1]⟩
        case round =>
          obtain ⟨k, hk, rfl, hr⟩ := hrel
          by_cases hlt : k < s.size
          · have hst := skip_cons (l := s.data.toList) (k := k) (by simpa using hlt)
            by_cases hp : s[k] = 32
            · have HR : Hid (skip (s.data.toList.drop (k + 1)) = skip rest) := Lib.hid (by
                have : s.data.toList[k] = 32 := hp
                rw [if_pos (by rw [this]; rfl)] at hst; rw [← hr, hst])
              have hb : ((s[k].toNat : Int) == 32) = true := by rw [hp]; rfl
              clear hr hst hp
              go_wp2_with fail
              go_round
              case rel => exact ⟨k + 1, by omega, by go_num, HR.out⟩
              case measure => simp [intOf]; omega
            · have hq : k = ps := by
                have : ¬ s.data.toList[k] = 32 := hp
                rw [if_neg (by simpa using this)] at hst
                have h3 := HA.out.2.2.2.2.2
                rw [← hr, hst, List.length_drop] at h3
                simp at h3
                omega
              have hb : ((s[k].toNat : Int) == 32) = false := by
                have := beq_u8 s[k] 32 (by omega)
                refine Eq.trans this ?_
                simpa using hp
              subst hq
              clear hr hst hp
              go_wp2_with fail
              go_meet
              exact ⟨rfl, rfl⟩
          · have hq : k = ps := by
              have h3 := HA.out.2.2.2.2.2
              rw [← hr, skip_nil (by simpa using hlt)] at h3
              simp at h3
              omega
            subst hq
            clear hr
            go_wp2_with fail
            go_meet
            exact ⟨rfl, rfl⟩
      case rest =>
        obtain ⟨rfl, rfl⟩ := hcut
        by_cases hend : ps = s.size
        · have hrest0 : skip rest = [] := by
            have h3 := HA.out.2.2.2.2.2
            rw [hend] at h3
            exact List.eq_nil_of_length_eq_zero (by omega)
          obtain rfl : kk = 1 := by rw [← HA.out.2.1, hrest0]; rfl
          obtain rfl : tl = [] := by rw [← HTL.out, hrest0]; rfl
          have e1 : ((ps : Int) == (s.size : Int)) = true := by rw [hend]; simp
          have hal : st.allows 1 [] = (st.complete && decide (st.opn = 0)) := by unfold St.allows; rw [if_pos rfl]
          obtain ⟨cp, hcp⟩ : ∃ b, st.complete = b := ⟨_, rfl⟩
          rw [hcp] at hal ⊢
          have HCP := Lib.hid hcp
          clear hcp hrest0
          have h41 : st.allows 1 [] = false → R = .err s.size 41 := by
            intro h
            have h1 : n = 41 := by rw [← HE.out]; unfold St.errOf; rw [if_pos h]; rfl
            have := HG.out
            rw [h1, if_pos (by decide), hend] at this
            exact this.symm
          have H41 := Lib.hid h41
          clear h41
          cases cp
          · have HR : Hid (R = .err s.size 41) := Lib.hid (H41.out hal)
            clear hal
            go_wp2_with fail
            go_ret3
            rw [HR.out]
            exact ⟨HP.out.below, rfl⟩
          · by_cases ho : st.opn = 0
            · have hoi : (st.opn : Int) = 0 := by omega
              have hn0 : n = 0 := by rw [← HE.out]; exact err_0 (by rw [hal, ho]; rfl) (fun h => by have := h.1; simp [isPart] at this)
              obtain ⟨T, hT, hwf, hsz, hT64⟩ := fin_one HI.out.1 HCP.out ho
              have hR : R = .ok T := by
                have := HG.out
                rw [if_neg (by simpa using hn0), if_pos rfl] at this
                rw [← this]
                have e : (st.count 1 []).put 1 [] = st.join 1 := by simp [St.count, isPart, St.put]
                rw [e, hT]; rfl
              have HR := Lib.hid (And.intro hR (And.intro hT (And.intro hwf hT64)))
              rw [hoi]
              clear hal hn0 hT hwf hsz hT64 hR hoi
              go_upto_region 36 with (go_at_call 27; refine (down_any (level := 1) HP.out HI.out.1 HCP.out (by omega) (by omega) (by omega)).mono ?_; rintro e w1 ⟨rfl, hm1⟩; have HM1 := Lib.hid hm1; clear hm1)
              obtain ⟨L, Ts, is, vL, vV, vW, hx, hg, hat, hl'⟩ := HM1.out
              rw [HR.out.2.1] at hat hl'
              obtain ⟨i, rfl⟩ : ∃ i, is = [i] := by
                match is, hat with
                | [i], _ => exact ⟨i, rfl⟩
                | _ :: _ :: _, h => exact h.2.elim
              obtain ⟨g, cap, rfl, h1, h2', h3⟩ := hx.topV
              obtain ⟨c0, c1, c2, f0, f1, f2⟩ := rx_cells hx.blk
              obtain ⟨d0, d1, g0, g1⟩ := xx_cells hx.xblk
              simp only [List.length_nil, Nat.zero_add] at c1 h2' h3
              have hp := lt_of_heap hx.blk
              have hxl := lt_of_heap hx.xblk
              have HX := Lib.hid hx
              have HAT := Lib.hid (And.intro hg (And.intro hat hl'))
              clear hx hg hat hl'
              go_region
              all_goals go_wp2
              all_goals go_ret3
              all_goals
                have hx2 := (HX.out.root (i : Int)).grow ((Below.refl _ _).drew)
                rw [HR.out.1]
                refine ⟨hx2.below, HR.out.2.2.1, HR.out.2.2.2, w.heap.size, rfl, L, Ts, i, vL, hx2.xblk, hx2.rowL, HAT.out.1, HAT.out.2.1.1, ?_⟩
                rw [HAT.out.2.2]; simp [tot]
            · have HR : Hid (R = .err s.size 41) := Lib.hid (H41.out (by rw [hal]; simp [ho]))
              have hoi : (0 : Int) < (st.opn : Int) := by omega
              clear hal
              go_wp2_with fail
              go_ret3
              rw [HR.out]
              exact ⟨HP.out.below, rfl⟩
        · have hlt : ps < s.size := by omega
          have e1 : ((ps : Int) == (s.size : Int)) = false := ne_beq hend
          have hne : skip rest ≠ [] := by
            intro e
            have h3 := HA.out.2.2.2.2.2
            rw [e] at h3; simp at h3; omega
          have hk1 : kk ≠ 1 := by
            intro e
            have h3 := HA.out.2.1
            rw [e] at h3
            unfold kindOf at h3
            rw [if_neg hne] at h3
            have := meas_kind (skip rest)
            omega
          have hl200 : (skip rest).length ≤ 200 := by have := HA.out.2.2.2.2.2; omega
          have HNE := Lib.hid hne
          clear hne hend
          go_upto_region 12 with (go_at_call 23; refine (word_at (l := skip rest) (tl := tl) _ ((ext_drop _ _).trans HA.out.2.2.2.1) HNE.out hl200 HTL.out).mono ?_; rintro e w' ⟨t, ht, rfl, rfl⟩; have HT := Lib.hid ht; clear ht)
          obtain ⟨nb, hnb⟩ : ∃ b, decide (kk = 2) = b := ⟨_, rfl⟩
          obtain ⟨nm, hnm⟩ : ∃ b, isNm tl = b := ⟨_, rfl⟩
          obtain ⟨sg, hsg⟩ : ∃ b, sgn tl = b := ⟨_, rfl⟩
          obtain ⟨bn, hbn⟩ : ∃ b, decide (levelOf tl ≠ 0) = b := ⟨_, rfl⟩
          obtain ⟨o1, ho1⟩ : ∃ b, (t.toList == [40]) = b := ⟨_, rfl⟩
          obtain ⟨c1, hc1⟩ : ∃ b, (t.toList == [41]) = b := ⟨_, rfl⟩
          obtain ⟨ft, hft⟩ : ∃ b, st.allows kk tl = b := ⟨_, rfl⟩
          have HNB := Lib.hid hnb
          have HNM := Lib.hid hnm
          have HSG := Lib.hid hsg
          have HBN := Lib.hid hbn
          have HFT := Lib.hid hft
          clear hnb hnm hsg hbn hft
          have htt : t.toList = tl := by rw [Lib.toList_data, HT.out]
          have HTT := Lib.hid htt
          clear htt
          go_cut [11] (fun v wx => v = .bool nb ∧ wr = wx)
          case first =>
            by_cases he : tl = []
            · have z1 : (t.toList == []) = true := by rw [HTT.out, he]; rfl
              have z2 : (t.toList != []) = false := by rw [bne, z1]; rfl
              have hnb0 : nb = false := by
                rw [← HNB.out]
                rcases HK.out with ⟨h, _⟩ | ⟨h, _⟩ | ⟨_, h, _⟩ | ⟨_, h⟩ | ⟨h, _⟩
                · rw [h]; rfl
                · rw [h]; rfl
                · exact absurd he h
                · rw [he] at h; cases h
                · rw [h]; rfl
              subst hnb0
              clear he
              go_wp2_with fail
              go_meet
              exact ⟨rfl, rfl⟩
            · obtain ⟨c, r, hcr⟩ : ∃ c r, tl = c :: r := by
                cases htl0 : tl with
                | nil => exact absurd htl0 he
                | cons c r => exact ⟨c, r, rfl⟩
              have z1 : (t.toList == []) = false := by rw [HTT.out, hcr]; rfl
              have z2 : (t.toList != []) = true := by rw [bne, z1]; rfl
              obtain ⟨h0, hc0⟩ := head_at (HT.out.trans hcr)
              have hd : isDig t[0] = nb := by
                rw [hc0, ← HNB.out]
                have := HK.out
                rw [hcr] at this
                exact nb_of this
              clear he hcr hc0
              go_wp2_with (go_at_call 24; (with_reducible refine (rdigit_any _ _).mono ?_); rintro e w' ⟨rfl, rfl⟩)
              go_meet
              exact ⟨rfl, rfl⟩
          case rest =>
            obtain ⟨rfl, rfl⟩ := hcut
            go_upto_region 13 with fail
            go_cut [12] (fun v wx => v = .bool nm ∧ wr = wx)
            case first =>
              have hnm : (t.toList == [110] || t.toList == [116] || t.toList == [118]) = nm := by rw [HTT.out]; exact HNM.out
              cases h1 : (t.toList == [110])
              · cases h2 : (t.toList == [116])
                · rw [h1, h2] at hnm
                  simp only [Bool.false_or] at hnm
                  go_wp2_with fail
                  go_meet
                  exact ⟨rfl, rfl⟩
                · rw [h1, h2] at hnm
                  simp only [Bool.false_or, Bool.true_or] at hnm
                  subst hnm
                  go_wp2_with fail
                  go_meet
                  exact ⟨rfl, rfl⟩
              · rw [h1] at hnm
                simp only [Bool.true_or] at hnm
                subst hnm
                go_wp2_with fail
                go_meet
                exact ⟨rfl, rfl⟩
            case rest =>
              obtain ⟨rfl, rfl⟩ := hcut
              go_upto_region 14 with fail
              go_cut [13] (fun v wx => v = .bool sg ∧ wr = wx)
              case first =>
                have hsg : (t.toList == [45] || t.toList == [33]) = sg := by rw [HTT.out]; exact HSG.out
                cases h1 : (t.toList == [45])
                · rw [h1] at hsg
                  simp only [Bool.false_or] at hsg
                  go_wp2_with fail
                  go_meet
                  exact ⟨rfl, rfl⟩
                · rw [h1] at hsg
                  simp only [Bool.true_or] at hsg
                  subst hsg
                  go_wp2_with fail
                  go_meet
                  exact ⟨rfl, rfl⟩
              case rest =>
                obtain ⟨rfl, rfl⟩ := hcut
                go_upto_region 15 with fail
                go_cut [14] (fun v wx => v = .bool bn ∧ wr = wx)
                case first =>
                  have hbn := (bn_of HK.out).trans HBN.out
                  obtain ⟨rk, hrk⟩ : ∃ r, rankOf tl = r := ⟨_, rfl⟩
                  rw [hrk] at hbn
                  have HRK : Hid (rankOf t.data.toList = rk) := Lib.hid (by rw [HT.out, hrk])
                  clear hrk
                  by_cases r0 : 0 < rk
                  · have r0i : (0 : Int) < (rk : Int) := by omega
                    by_cases r6 : rk < 6
                    · have r6i : (rk : Int) < 6 := by omega
                      have : bn = true := by rw [← hbn]; simp [r0, r6]
                      subst this
                      clear hbn
                      go_wp2_with (go_at_call 25; (with_reducible refine (rank_at _ _ HRK.out).mono ?_); rintro e w' ⟨rfl, rfl⟩)
                      go_meet
                      exact ⟨rfl, rfl⟩
                    · have r6i : ¬ (rk : Int) < 6 := by omega
                      have : bn = false := by rw [← hbn]; simp [r6]
                      subst this
                      clear hbn
                      go_wp2_with (go_at_call 25; (with_reducible refine (rank_at _ _ HRK.out).mono ?_); rintro e w' ⟨rfl, rfl⟩)
                      go_meet
                      exact ⟨congrArg Value.bool (decide_eq_false (by omega)), rfl⟩
                  · obtain rfl : rk = 0 := by omega
                    have : bn = false := by rw [← hbn]; rfl
                    subst this
                    clear hbn
                    go_wp2_with (go_at_call 25; (with_reducible refine (rank_at _ _ HRK.out).mono ?_); rintro e w' ⟨rfl, rfl⟩)
                    go_meet
                    exact ⟨rfl, rfl⟩
                case rest =>
                  obtain ⟨rfl, rfl⟩ := hcut
                  go_upto_region 16 with fail
                  have hfit : ft = ((!st.complete && (nb || nm || sg || o1)) || (st.complete && (bn || (c1 && decide (0 < st.opn))))) := by
                    rw [← HFT.out, fits_eq HK.out hk1, HNB.out, HNM.out, HSG.out, HBN.out, ← ho1, ← hc1, HTT.out]
                  have HFIT := Lib.hid hfit
                  clear hfit
                  obtain ⟨cp, hcp⟩ : ∃ b, st.complete = b := ⟨_, rfl⟩
                  rw [hcp]
                  have HCP := Lib.hid hcp
                  clear hcp
                  go_cut [15] (fun v wx => v = .bool ft ∧ wr = wx)
                  case first =>
                    have hfit := HFIT.out
                    rw [HCP.out] at hfit
                    cases cp
                    · simp only [Bool.not_false, Bool.true_and, Bool.false_and, Bool.or_false] at hfit
                      cases nb
                      · cases nm
                        · cases sg
                          · cases o1
                            · simp at hfit; subst hfit
                              go_wp2_with fail
                              go_meet
                              exact ⟨rfl, rfl⟩
                            · simp at hfit; subst hfit
                              go_wp2_with fail
                              go_meet
                              exact ⟨rfl, rfl⟩
                          · simp at hfit; subst hfit
                            go_wp2_with fail
                            go_meet
                            exact ⟨rfl, rfl⟩
                        · simp at hfit; subst hfit
                          go_wp2_with fail
                          go_meet
                          exact ⟨rfl, rfl⟩
                      · simp at hfit; subst hfit
                        go_wp2_with fail
                        go_meet
                        exact ⟨rfl, rfl⟩
                    · simp only [Bool.not_true, Bool.true_and, Bool.false_and, Bool.false_or] at hfit
                      cases bn
                      · cases c1
                        · simp at hfit; subst hfit
                          go_wp2_with fail
                          go_meet
                          exact ⟨rfl, rfl⟩
                        · by_cases hop : 0 < st.opn
                          · have hopi : (0 : Int) < (st.opn : Int) := by omega
                            simp [hop] at hfit; subst hfit
                            go_wp2_with fail
                            go_meet
                            exact ⟨rfl, rfl⟩
                          · have hopi : ¬ (0 : Int) < (st.opn : Int) := by omega
                            simp [hop] at hfit; subst hfit
                            go_wp2_with fail
                            go_meet
                            exact ⟨rfl, rfl⟩
                      · simp at hfit; subst hfit
                        go_wp2_with fail
                        go_meet
                        exact ⟨rfl, rfl⟩
                  case rest =>
                    obtain ⟨rfl, rfl⟩ := hcut
                    cases ft
                    · have h40 := err_40 HFT.out hk1
                      obtain rfl : n = 40 := by rw [← HE.out, h40]
                      have hR : R = .err ps 40 := by have := HG.out; rw [if_pos (by decide)] at this; exact this.symm
                      have HR := Lib.hid hR
                      clear hR h40
                      by_cases he : tl = []
                      · have z1 : (t.toList == []) = true := by rw [HTT.out, he]; rfl
                        clear he
                        go_wp2_with fail
                        go_ret3
                        rw [HR.out]
                        exact ⟨HP.out.below, rfl⟩
                      · have z1 : (t.toList == []) = false := by rw [HTT.out, beq_eq_false_iff_ne]; exact he
                        clear he
                        go_wp2_with fail
                        go_ret3
                        rw [HR.out]
                        exact ⟨HP.out.below, rfl⟩
                    · have hway := way_of HK.out HFT.out
                      have z1 : (t.toList == []) = false := by rw [HTT.out, beq_eq_false_iff_ne]; exact way_ne hway hk1
                      have hpt := part_of (t := tl) hk1
                      have hts : t.size = tl.length := by rw [← HT.out]; simp
                      have ht200 : (t.size : Int) ≤ 200 := by
                        have h1 := wordOf_le (skip rest)
                        rw [HTL.out] at h1
                        omega
                      have HTS := Lib.hid hts
                      have HWAY := Lib.hid hway
                      have PF := put_flags hway hk1
                      obtain ⟨s', hs'⟩ : ∃ s', (st.count kk tl).put kk tl = s' := ⟨_, rfl⟩
                      rw [hs'] at PF
                      have HS' := Lib.hid hs'
                      clear hts hway hs'
                      have hne0 : n = 0 → go f s.size ((skip rest).drop tl.length) s' = R := by
                        intro h
                        have := HG.out
                        rw [if_neg (by simpa using h), if_neg hk1, HS'.out] at this
                        exact this
                      have HN0 := Lib.hid hne0
                      clear hne0
                      cases o1
                      · cases c1
                        · rw [← HTT.out, ho1, hc1] at hpt
                          have n40 : tl ≠ [40] := by rw [← HTT.out]; intro e; rw [e] at ho1; cases ho1
                          have n41 : tl ≠ [41] := by rw [← HTT.out]; intro e; rw [e] at hc1; cases hc1
                          rw [if_neg (by simp [n40, n41]), if_neg n40, if_neg n41, if_neg (by simp [n40, n41]), HNB.out, ← nm_of HK.out, HNM.out] at PF
                          rw [HTT.out] at hpt
                          have q1 : (t.toList != [40]) = true := by rw [bne, ho1]; rfl
                          have q2 : (t.toList != [41]) = true := by rw [bne, hc1]; rfl
                          by_cases h64 : st.parts = 64
                          · have h5 := err_5 HFT.out hpt h64
                            obtain rfl : n = 5 := by rw [← HE.out, h5]
                            have hR : R = .err ps 5 := by have := HG.out; rw [if_pos (by decide)] at this; exact this.symm
                            have HR := Lib.hid hR
                            have h64i : (st.parts : Int) = 64 := by omega
                            rw [h64i]
                            clear hR h5 hpt n40 n41 PF h64 h64i
                            go_wp2_with fail
                            go_ret3
                            rw [HR.out]
                            exact ⟨HP.out.below, rfl⟩
                          · have h0 := err_0 HFT.out (fun h => h64 h.2)
                            obtain rfl : n = 0 := by rw [← HE.out, h0]
                            have h64i : (st.parts : Int) < 64 := by omega
                            have HPF := Lib.hid PF
                            clear h0 hpt n40 n41 PF h64
                            cases nb
                            · cases nm
                              · cases cp
                                · go_wp2_with (go_at_call 26; refine (rtake_any HP.out HI.out.1 HWAY.out HT.out hk1 w900 (b := true) (by rw [HCP.out]; rfl)).mono ?_; rintro e w1 ⟨rfl, hm1⟩; have HM1 := Lib.hid hm1; clear hm1)
                                  have R2 := rnext (R := R) (by simp) HI.out.1 HI.out.2 HK.out HE.out hk1 HA.out.2.1 HTL.out HA.out.2.2.1 ha HA.out.1 HF.out.2.1 HF.out.2.2 HF.out.1 (by rw [HS'.out]; exact HN0.out (by trivial)) HM1.out
                                  rw [HS'.out] at R2
                                  go_roundg ((skip rest).drop tl.length).length
                                  case measure => exact R2.1
                                  case rel => exact ⟨ps + tl.length, s', by rw [HPF.out.2.2]; rfl, by rw [HPF.out.2.1], by rw [HPF.out.1]; go_num, by rw [HTS.out]; go_num, R2.2⟩
                                · go_wp2_with (go_at_call 26; refine (rtake_any HP.out HI.out.1 HWAY.out HT.out hk1 w900 (b := false) (by rw [HCP.out]; rfl)).mono ?_; rintro e w1 ⟨rfl, hm1⟩; have HM1 := Lib.hid hm1; clear hm1)
                                  have R2 := rnext (R := R) (by simp) HI.out.1 HI.out.2 HK.out HE.out hk1 HA.out.2.1 HTL.out HA.out.2.2.1 ha HA.out.1 HF.out.2.1 HF.out.2.2 HF.out.1 (by rw [HS'.out]; exact HN0.out (by trivial)) HM1.out
                                  rw [HS'.out] at R2
                                  go_roundg ((skip rest).drop tl.length).length
                                  case measure => exact R2.1
                                  case rel => exact ⟨ps + tl.length, s', by rw [HPF.out.2.2]; rfl, by rw [HPF.out.2.1], by rw [HPF.out.1]; go_num, by rw [HTS.out]; go_num, R2.2⟩
                              · obtain rfl : cp = false := by rw [← HCP.out]; exact way_val HWAY.out (.inr (by have := nm_of HK.out; rw [HNM.out] at this; simpa using this.symm))
                                go_wp2_with (go_at_call 26; refine (rtake_any HP.out HI.out.1 HWAY.out HT.out hk1 w900 (b := true) (by rw [HCP.out]; rfl)).mono ?_; rintro e w1 ⟨rfl, hm1⟩; have HM1 := Lib.hid hm1; clear hm1)
                                have R2 := rnext (R := R) (by simp) HI.out.1 HI.out.2 HK.out HE.out hk1 HA.out.2.1 HTL.out HA.out.2.2.1 ha HA.out.1 HF.out.2.1 HF.out.2.2 HF.out.1 (by rw [HS'.out]; exact HN0.out (by trivial)) HM1.out
                                rw [HS'.out] at R2
                                go_roundg ((skip rest).drop tl.length).length
                                case measure => exact R2.1
                                case rel => exact ⟨ps + tl.length, s', by rw [HPF.out.2.2]; rfl, by rw [HPF.out.2.1], by rw [HPF.out.1]; go_num, by rw [HTS.out]; go_num, R2.2⟩
                            · obtain rfl : cp = false := by rw [← HCP.out]; exact way_val HWAY.out (.inl (by have := HNB.out; simpa using this))
                              go_wp2_with (go_at_call 26; refine (rtake_any HP.out HI.out.1 HWAY.out HT.out hk1 w900 (b := true) (by rw [HCP.out]; rfl)).mono ?_; rintro e w1 ⟨rfl, hm1⟩; have HM1 := Lib.hid hm1; clear hm1)
                              have R2 := rnext (R := R) (by simp) HI.out.1 HI.out.2 HK.out HE.out hk1 HA.out.2.1 HTL.out HA.out.2.2.1 ha HA.out.1 HF.out.2.1 HF.out.2.2 HF.out.1 (by rw [HS'.out]; exact HN0.out (by trivial)) HM1.out
                              rw [HS'.out] at R2
                              go_roundg ((skip rest).drop tl.length).length
                              case measure => exact R2.1
                              case rel => exact ⟨ps + tl.length, s', by rw [HPF.out.2.2]; rfl, by rw [HPF.out.2.1], by rw [HPF.out.1]; go_num, by rw [HTS.out]; go_num, R2.2⟩
                        · have e41 : tl = [41] := by rw [← HTT.out]; exact eq_of_beq hc1
                          have hcl := way_close (e41 ▸ HWAY.out)
                          obtain rfl : cp = true := by rw [← HCP.out]; exact hcl.1
                          have hop : (0 : Int) < (st.opn : Int) := by omega
                          rw [if_pos (.inr e41), if_neg (by rw [e41]; decide), if_pos e41, if_pos (.inr e41), HCP.out] at PF
                          have h0 := err_0 HFT.out (fun h => by rw [hpt, e41] at h; exact absurd h.1 (by decide))
                          obtain rfl : n = 0 := by rw [← HE.out, h0]
                          have HPF := Lib.hid PF
                          have q1 : (t.toList != [40]) = true := by rw [bne, ho1]; rfl
                          have q2 : (t.toList != [41]) = false := by rw [bne, hc1]; rfl
                          clear h0 hpt PF hcl e41
                          go_wp2_with (go_at_call 26; refine (rtake_any HP.out HI.out.1 HWAY.out HT.out hk1 w900 (b := false) (by rw [HCP.out]; rfl)).mono ?_; rintro e w1 ⟨rfl, hm1⟩; have HM1 := Lib.hid hm1; clear hm1)
                          have R2 := rnext (R := R) (by simp) HI.out.1 HI.out.2 HK.out HE.out hk1 HA.out.2.1 HTL.out HA.out.2.2.1 ha HA.out.1 HF.out.2.1 HF.out.2.2 HF.out.1 (by rw [HS'.out]; exact HN0.out (by trivial)) HM1.out
                          rw [HS'.out] at R2
                          go_roundg ((skip rest).drop tl.length).length
                          case measure => exact R2.1
                          case rel => exact ⟨ps + tl.length, s', by rw [HPF.out.2.2]; rfl, by rw [HPF.out.2.1]; go_num, by rw [HPF.out.1]; rfl, by rw [HTS.out]; go_num, R2.2⟩
                      · have e40 : tl = [40] := by rw [← HTT.out]; exact eq_of_beq ho1
                        obtain rfl : cp = false := by rw [← HCP.out]; exact way_open (e40 ▸ HWAY.out)
                        rw [if_pos (.inl e40), if_pos e40, if_pos (.inl e40), HCP.out] at PF
                        have h0 := err_0 HFT.out (fun h => by rw [hpt, e40] at h; exact absurd h.1 (by decide))
                        obtain rfl : n = 0 := by rw [← HE.out, h0]
                        have HPF := Lib.hid PF
                        have q1 : (t.toList != [40]) = false := by rw [bne, ho1]; rfl
                        clear h0 hpt PF e40
                        go_wp2_with (go_at_call 26; refine (rtake_any HP.out HI.out.1 HWAY.out HT.out hk1 w900 (b := true) (by rw [HCP.out]; rfl)).mono ?_; rintro e w1 ⟨rfl, hm1⟩; have HM1 := Lib.hid hm1; clear hm1)
                        have R2 := rnext (R := R) (by simp) HI.out.1 HI.out.2 HK.out HE.out hk1 HA.out.2.1 HTL.out HA.out.2.2.1 ha HA.out.1 HF.out.2.1 HF.out.2.2 HF.out.1 (by rw [HS'.out]; exact HN0.out (by trivial)) HM1.out
                        rw [HS'.out] at R2
                        go_roundg ((skip rest).drop tl.length).length
                        case measure => exact R2.1
                        case rel => exact ⟨ps + tl.length, s', by rw [HPF.out.2.2]; rfl, by rw [HPF.out.2.1]; go_num, by rw [HPF.out.1]; rfl, by rw [HTS.out]; go_num, R2.2⟩
end Go.Proofs.YtlkaaembeakicaaDoor.Ex
