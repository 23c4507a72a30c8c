/-
  GraphReaches's walk: what the program tells of a flow is what the document says. Conditions: the plan lies in memory; the number is a machine's; the library's table of powers holds what it was laid with.
-/
import Derived.Test.YtfoenfipefhpoaaGreatDoorJG5
import Derived.Test.YtfoenfipefhpoaaGreatDoorJG3
import Derived.Test.YtfoenfipefhpoaaGreatDoorJQ2
set_option linter.unusedVariables false
set_option linter.unusedSimpArgs false
namespace Go.Proofs.YtfoenfipefhpoaaGreatDoor.Gr
open Go.RowKit Go.Proofs.YtfoenfipefhpoaaGreatDoor.Ex Go.Proofs.YtfoenfipefhpoaaGreatDoor.Pl

theorem gList_err (F : List Flw → Nat → List Nat) (p : Pln) (i : Int) : (gList F p i).2 = (gSource p i).2 := by
  unfold gList gSource
  split
  · split <;> rfl
  · rfl
theorem gExt_err (p : Pln) : (gExt p).2 = (check p).2 := by
  unfold gExt
  split
  · rename_i h; exact h.symm
  · rfl
theorem NamesAt.cell {w : World} {a : Option Addr} {n c : Nat} {L : List Bs} (h : NamesAt w (.slice a n c) L) {i : Nat} (hi : i < L.length) : ∃ b o, a = some ⟨b, o, none⟩ ∧ b < w.heap.size ∧ w.cell? ⟨b, o + i, none⟩ = some (sv L[i]) := by
  obtain ⟨b, o, e, hl, hc⟩ := h.at_ hi
  refine ⟨b, o, e, hl, ?_⟩
  have := hc 0 _ rfl
  rwa [Nat.mul_one, Nat.add_zero] at this
set_option maxRecDepth 20000 in
set_option maxHeartbeats 8000000 in
theorem graphReaches_walk {v : Value} {p : Pln} (i : Int) (w : World) (hT : Tab w) (hp : PlnAt w v p) (lo : -9223372036854775808 ≤ i) (hi : i ≤ 9223372036854775807) : Calls Tryz.prog 4 #[v, .int .i64 i] w fun e w' => e = .returned (.bool true) ∧ Below w.heap.size w w' := by
  obtain ⟨a, n, c, b, m, d, rfl⟩ := pln_two hp
  obtain ⟨hmp, hmm⟩ := pln_len hp
  obtain ⟨l, hl⟩ : ∃ l, (check p).1 = l := ⟨_, rfl⟩
  obtain ⟨E, hE⟩ : ∃ E, (check p).2 = E := ⟨_, rfl⟩
  have hc : check p = (l, E) := by rw [← hl, ← hE]
  obtain ⟨s, hs⟩ : ∃ s, (gSource p i).1 = s := ⟨_, rfl⟩
  obtain ⟨E1, hE1⟩ : ∃ E1, (gSource p i).2 = E1 := ⟨_, rfl⟩
  obtain ⟨LA, hLA⟩ : ∃ L, (gList aheadOf p i).1 = L := ⟨_, rfl⟩
  obtain ⟨LB, hLB⟩ : ∃ L, (gList behindOf p i).1 = L := ⟨_, rfl⟩
  obtain ⟨LX, hLX⟩ : ∃ L, (gExt p).1 = L := ⟨_, rfl⟩
  have HC := Lib.hid hc
  have HS : Hid (gSource p i = (s, E1)) := Lib.hid (by rw [← hs, ← hE1])
  have HA : Hid (gList aheadOf p i = (LA, E1)) := Lib.hid (by rw [← hLA, ← hE1, ← gList_err aheadOf])
  have HBh : Hid (gList behindOf p i = (LB, E1)) := Lib.hid (by rw [← hLB, ← hE1, ← gList_err behindOf])
  have HXt : Hid (gExt p = (LX, E)) := Lib.hid (by rw [← hLX, ← hE, ← gExt_err])
  have HMP := Lib.hid hmp
  have HMM := Lib.hid hmm
  clear hl hE hc hs hE1 hLA hLB hLX hmp hmm
  have hw0 := GW.start hT hp
  obtain ⟨p0, p1⟩ := hw0.box.cells
  have H0 := Lib.hid hw0
  clear hw0 hT hp
  go_enter Tryz.func4, Tryz.ntmps4
  go_wp2_with (go_at_call 6; refine (small_at H0.out.pln).mono ?_; rintro e w1 ⟨bb, rfl, hsm, hb1⟩; have HSm := Lib.hid hsm; have H1 := Lib.hid (H0.out.grow hb1); clear hsm hb1; refine Hid.out ?_)
  clear H0 p0 p1
  cases bb with
  | false =>
    refine Lib.hid ?_
    go_wp2
    go_ret
    exact ⟨rfl, H1.out.bel⟩
  | true =>
    obtain ⟨p0, p1⟩ := H1.out.box.cells
    have hm100 : p.flws.length ≤ 100 := (HSm.out rfl).flws
    have ht100 : p.tops.length ≤ 100 := (HSm.out rfl).tops
    refine Lib.hid ?_
    go_upto_region 8 with (first
      | (go_at_call 7; refine (rcheck_at H1.out.pln HC.out).mono ?_; rintro e w2 ⟨rfl, hb⟩; have H2 := Lib.hid (H1.out.grow hb); obtain ⟨q0, q1⟩ := H2.out.box.cells; clear hb)
      | (go_at_call 12; refine (psource_at H2.out.pln H2.out.tab lo hi HS.out).mono ?_; rintro e w3 ⟨rfl, hb⟩; have H3 := Lib.hid (H2.out.grow hb); obtain ⟨r0, r1⟩ := H3.out.box.cells; clear hb)
      | (go_at_call 13; refine (pahead_at H3.out.pln H3.out.tab lo hi HA.out).mono ?_; rintro e w4 ⟨u4, rfl, hi4, hb⟩; obtain ⟨a4, c4, rfl⟩ := ints_form hi4; have H4 := Lib.hid (H3.out.grow hb); have HI4 := Lib.hid hi4; obtain ⟨s0, s1⟩ := H4.out.box.cells; clear hb hi4)
      | (go_at_call 14; refine (pbehind_at H4.out.pln H4.out.tab lo hi HBh.out).mono ?_; rintro e w5 ⟨u5, rfl, hi5, hb⟩; obtain ⟨a5, c5, rfl⟩ := ints_form hi5; have H5 := Lib.hid (H4.out.grow hb); have HI5 := Lib.hid (Lst.grow HI4.out hb); have HJ5 := Lib.hid hi5; obtain ⟨t0, t1⟩ := H5.out.box.cells; clear hb hi5)
      | (go_at_call 15; refine (pexternal_at H5.out.pln H5.out.tab HXt.out).mono ?_; rintro e w6 ⟨u6, rfl, hi6, hb⟩; obtain ⟨a6, c6, rfl⟩ := names_form hi6; have H6 := Lib.hid (H5.out.grow hb); have HI6 := Lib.hid (Lst.grow HI5.out hb); have HJ6 := Lib.hid (Lst.grow HJ5.out hb); have HN6 := Lib.hid hi6; obtain ⟨x0, x1⟩ := H6.out.box.cells; clear hb hi6))
    clear p0 p1 q0 q1 r0 r1 s0 s1 t0 t1 H1 H2 H3 H4 H5 HI4 HI5 HJ5
    by_cases hE0 : E = 0
    · subst hE0
      have hchk : (check p).2 = 0 := by rw [HC.out]
      have HLX : Hid (extOf p = LX) := Lib.hid (by
        have h4 := HXt.out
        unfold gExt at h4
        rw [if_pos hchk] at h4
        injection h4)
      have HCK := Lib.hid hchk
      clear hchk
      obtain ⟨q, hq⟩ : ∃ q, LX.length = q := ⟨_, rfl⟩
      have HQ := Lib.hid hq
      rw [hq] at HN6 ⊢
      have hqm : q ≤ 9223372036854775807 := by
        obtain ⟨-, -, h, -⟩ := Lst.len HN6.out
        unfold maxLen at h
        exact h
      have e1 := inebf (show (q : Int) = (q : Int) from rfl)
      clear hq
      go_wp2_with (go_at_call 16; refine (rexternal_at H6.out.pln hm100 ht100 HLX.out).mono ?_; rintro e w7 ⟨u7, rfl, hi7, hb⟩; obtain ⟨a7, c7, rfl⟩ := names_form hi7; rw [HQ.out] at hi7 ⊢; have H7 := Lib.hid (H6.out.grow hb); have HI7 := Lib.hid (Lst.grow HI6.out hb); have HJ7 := Lib.hid (Lst.grow HJ6.out hb); have HN7 := Lib.hid (Lst.grow HN6.out hb); have HM7 := Lib.hid hi7; clear hb hi7)
      clear x0 x1 H6 HI6 HJ6 HN6
      go_loopw [16] (fun z wr => ∃ k : Nat, k ≤ q ∧ z = .int .i64 k ∧ Hid (Below w7.heap.size w7 wr)) (fun z _ => q - (RowKit.intOf z).toNat)
      case atStart => exact ⟨0, Nat.zero_le _, rfl, Lib.hid (Below.refl _ _)⟩
      case round =>
        obtain ⟨k, hk, rfl, hb⟩ := hrel
        by_cases hlt : k < q
        · have hkl : k < LX.length := by rw [HQ.out]; exact hlt
          obtain ⟨b1, o1, rfl, hbl1, y0⟩ := NamesAt.cell (Lst.grow HN7.out hb.out) hkl
          obtain ⟨b2, o2, rfl, hbl2, z0⟩ := NamesAt.cell (Lst.grow HM7.out hb.out) hkl
          obtain ⟨x, hx⟩ : ∃ x, LX[k] = x := ⟨_, rfl⟩
          rw [hx] at y0 z0
          have g0 : (0 : Int) ≤ (k : Int) := by omega
          have g1 : (k : Int) < (q : Int) := by omega
          have e2 : (x != x) = false := by simp
          clear hx hkl
          go_wp2
          go_region_held3 (fun X => X.cell? ⟨b1, o1 + k, none⟩ = some (sv x) ∧ X.cell? ⟨b2, o2 + k, none⟩ = some (sv x)) (exact ⟨y0, z0⟩) (fail)
          all_goals go_wp2
          all_goals go_roundw
          case rel => exact ⟨k + 1, by omega, by go_num, Lib.hid (hb.out.trans (((Below.refl _ _).drew).mono hb.out.size))⟩
          case measure => simp [RowKit.intOf]; omega
        · have H8 := Lib.hid (H7.out.grow hb.out)
          have HI8 := Lib.hid (Lst.grow HI7.out hb.out)
          have HJ8 := Lib.hid (Lst.grow HJ7.out hb.out)
          obtain ⟨p0, p1⟩ := H8.out.box.cells
          have hchk := HCK.out
          have h1 := HS.out
          have h2 := HA.out
          have h3 := HBh.out
          unfold gSource at h1
          unfold gList at h2 h3
          rw [if_pos hchk] at h1 h2 h3
          have hmI : (m : Int) = (p.flws.length : Int) := by rw [HMP.out]
          cases hnf : noFlow p i with
          | true =>
            rw [if_pos hnf] at h1 h2 h3
            injection h1 with h1 h1'
            injection h2 with h2 _
            injection h3 with h3 _
            subst h1 h2 h3 h1'
            unfold noFlow at hnf
            rw [← hmI] at hnf
            by_cases h0 : i < 0
            · clear hnf hmI hchk
              go_wp2_with (go_at_call 9; refine (awake_any H8.out.tab).mono ?_; rintro e w9 ⟨rfl, hb⟩; have H9 := Lib.hid (H8.out.grow hb); clear hb)
              go_ret
              exact ⟨rfl, H9.out.bel⟩
            · have h00 : (m : Int) ≤ i := by simpa [h0] using hnf
              clear hnf hmI hchk
              go_wp2_with (go_at_call 9; refine (awake_any H8.out.tab).mono ?_; rintro e w9 ⟨rfl, hb⟩; have H9 := Lib.hid (H8.out.grow hb); clear hb)
              go_ret
              exact ⟨rfl, H9.out.bel⟩
          | false =>
            rw [if_neg (by rw [hnf]; decide)] at h1 h2 h3
            injection h1 with h1 h1'
            injection h2 with h2 _
            injection h3 with h3 _
            subst h1'
            unfold noFlow at hnf
            rw [← hmI] at hnf
            simp only [Bool.or_eq_false_iff, decide_eq_false_iff_not] at hnf
            obtain ⟨h0, h00⟩ := hnf
            obtain ⟨j, rfl⟩ : ∃ j : Nat, i = (j : Int) := ⟨i.toNat, by omega⟩
            rw [Int.toNat_natCast] at h1 h2 h3
            have hj : j < p.flws.length := by omega
            have K1 := Lib.hid h1
            have K2 := Lib.hid h2
            have K3 := Lib.hid h3
            clear h1 h2 h3 hmI hchk
            go_wp2_with (first
              | (go_at_call 9; refine (awake_any H8.out.tab).mono ?_; rintro e w9 ⟨rfl, hb⟩; have H9 := Lib.hid (H8.out.grow hb); have HI9 := Lib.hid (Lst.grow HI8.out hb); have HJ9 := Lib.hid (Lst.grow HJ8.out hb); obtain ⟨q0, q1⟩ := H9.out.box.cells; clear hb)
              | (go_at_call 17; refine (rsource_at H9.out.pln hj K1.out).mono ?_; rintro e wa ⟨rfl, hb⟩; have Ha := Lib.hid (H9.out.grow hb); have HIa := Lib.hid (Lst.grow HI9.out hb); have HJa := Lib.hid (Lst.grow HJ9.out hb); obtain ⟨r0, r1⟩ := Ha.out.box.cells; clear hb)
              | (go_at_call 18; refine (rahead_at Ha.out.pln hj hm100 K2.out).mono ?_; rintro e wb ⟨ub, rfl, hib, hb⟩; have Hb := Lib.hid (Ha.out.grow hb); have HIb := Lib.hid (Lst.grow HIa.out hb); have HJb := Lib.hid (Lst.grow HJa.out hb); have HKb := Lib.hid hib; obtain ⟨s0, s1⟩ := Hb.out.box.cells; clear hb hib)
              | (go_at_call 19; refine (rbehind_at Hc.out.pln hj hm100 K3.out).mono ?_; rintro e wd ⟨ud, rfl, hid, hb⟩; have Hd := Lib.hid (Hc.out.grow hb); have HJd := Lib.hid (Lst.grow HJc.out hb); have HKd := Lib.hid hid; clear hb hid)
              | (go_at_call 11; refine (same_at HJd.out HKd.out (decide_eq_true rfl)).mono ?_; rintro e we ⟨rfl, hb⟩; have He := Lib.hid (Hd.out.grow hb); clear hb)
              | (go_at_call 11; refine (same_at HIb.out HKb.out (decide_eq_true rfl)).mono ?_; rintro e wc ⟨rfl, hb⟩; have Hc := Lib.hid (Hb.out.grow hb); have HJc := Lib.hid (Lst.grow HJb.out hb); obtain ⟨t0, t1⟩ := Hc.out.box.cells; clear hb))
            go_ret
            exact ⟨rfl, He.out.bel⟩
    · have e0 := inebt hE0
      have hchk : (check p).2 = E := by rw [HC.out]
      have h1 := HS.out
      have h2 := HA.out
      have h3 := HBh.out
      have h4 := HXt.out
      unfold gSource at h1
      unfold gList at h2 h3
      unfold gExt at h4
      rw [hchk, if_neg hE0] at h1 h2 h3 h4
      injection h1 with h1 h1'
      injection h2 with h2 _
      injection h3 with h3 _
      injection h4 with h4 _
      subst h1 h2 h3 h4 h1'
      clear hE0 hchk
      go_wp2_with (go_at_call 9; refine (awake_any H6.out.tab).mono ?_; rintro e w7 ⟨rfl, hb⟩; have H7 := Lib.hid (H6.out.grow hb); clear hb)
      go_ret
      exact ⟨by simp, H7.out.bel⟩
end Go.Proofs.YtfoenfipefhpoaaGreatDoor.Gr
