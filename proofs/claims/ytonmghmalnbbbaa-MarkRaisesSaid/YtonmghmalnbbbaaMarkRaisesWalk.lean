/-
  MarkRaises: the walk of the law. Conditions: the calls lie in memory.
-/
import Derived.Test.YtonmghmalnbbbaaMAwake
namespace Go.Proofs.Ytonmghmalnbbbaa.Mk
set_option linter.unusedVariables false
set_option linter.unusedSimpArgs false
open Go.RowKit

theorem raise_is {w : World} {b n : Nat} {S : Nat → Nat} (h : Mks w b n S) {i v : Nat} (hi : i < n) (hv : v ≤ 1000000001) {m m' : Nat} (hm : leastS S n = m) (hm' : leastS (up S i v) n = m') {r : Bool} (hr : decide ((m : Int) < (m' : Int)) = r) : Calls Try.prog 15 #[.pointer (some ⟨b, 0, none⟩), .int .i64 i, .int .i64 v] w fun e w' =>
    e = .returned (.tuple #[.int .i64 (m' : Int), .bool r, .int .i64 0]) ∧ Mks w' b n (up S i v) ∧ w.grownBy w' (some b) := by
  have e : decide (m < m') = r := by rw [← hr, Bool.eq_iff_iff]; simp
  rw [← e]; exact raise_ok h hi hv hm hm'
attribute [local go_sem ↓] run_max_nat
set_option maxRecDepth 20000 in
set_option maxHeartbeats 4000000 in
theorem mr_none {w : World} {a : Option Addr} {c d : Nat} {n : Int} (hn : n < 1 ∨ 16 < n) (hc : c ≤ 300) : Calls Try.prog 5 #[.int .i64 n, .slice a c d] w fun e w' => e = .returned (.bool true) ∧ Below w.heap.size w w' := by
  have HN := Lib.hid hn
  rcases hn with hn | hn
  all_goals
    go_enter Try.func5, Try.ntmps5
    go_wp2_with (first
      | (go_at_call 13; refine (new_no HN.out _).mono ?_; rintro e w2 ⟨rfl, rfl⟩)
      | (go_at_call 11; refine (awake_any _).mono ?_; rintro e w2 ⟨rfl, hb2⟩; have HB2 := Lib.hid hb2; clear hb2))
    go_ret
    exact ⟨rfl, HB2.out⟩
set_option maxRecDepth 20000 in
set_option maxHeartbeats 4000000 in
theorem mr_all {w : World} {a : Option Addr} {c d n : Nat} {Q : List (Int × Int)} (h : PairsZ w (.slice a c d) Q) (hn1 : 1 ≤ n) (hn : n ≤ 16) (hc : c ≤ 300) : Calls Try.prog 5 #[.int .i64 n, .slice a c d] w fun e w' => e = .returned (.bool true) ∧ Below w.heap.size w w' := by
  obtain ⟨hnl, k1, k2, k3⟩ := h.len
  unfold maxLen at k2 k3
  have HI := Lib.hid h
  have HC := Lib.hid hnl
  obtain ⟨i0, hi0, hz0, hz1, hz2⟩ := info_parts info3
  have hmk : ∀ W : World, (Instr.makeSlice 30 (.int .i64 (n : Int)) (.int .i64 (n : Int))).run Try.prog W = .ok (.slice (some ⟨W.heap.size, 0, none⟩) n n) (W.alloc (.cells (sn n (fun _ => 0)) 3)) := fun W => by
    have hr := run_make (P := Try.prog) W 30 3 i0 (.int .i64 0) Try.underlying30 hi0 hz0 .i64 .i64 (n : Int) (n : Int) (by omega) (by omega) (by rw [hz2]; omega) (by omega)
    rw [hz1, Nat.mul_one, Int.toNat_natCast] at hr
    rw [← sn_start]
    exact hr
  clear h hnl k2 hi0 hz0 hz1 hz2
  go_enter Try.func5, Try.ntmps5
  go_wp2_with (go_at_call 13; refine (new_ok hn1 hn _).mono ?_; rintro e w2 ⟨B, rfl, hk2, hsb, hb2⟩; have HK2 := Lib.hid hk2; have HB2 := Lib.hid hb2; clear hk2 hb2)
  obtain ⟨g, hg⟩ : ∃ g, w2.heap.size = g := ⟨_, rfl⟩
  obtain ⟨W, hW⟩ : ∃ W, w2.alloc (.cells (sn n (fun _ => 0)) 3) = W := ⟨_, rfl⟩
  have hbW : Below w2.heap.size w2 W := by rw [← hW]; exact (Below.refl _ _).alloc (Nat.le_refl _) _
  have hgW : W.heap[g]? = some (.cells (sn n (fun _ => 0)) 3 (0, 0)) := by rw [← hW, ← hg]; exact heap_alloc_new w2 _
  have hBg : B < g := by rw [← hg]; exact HK2.out.lt
  have hsg : w.heap.size ≤ g := by rw [← hg]; exact HB2.out.size
  have HK := Lib.hid (HK2.out.grow hbW)
  have HG := Lib.hid hgW
  have HB := Lib.hid (HB2.out.trans (hbW.mono HB2.out.size))
  rw [hW, hg]
  clear hW hg hbW hgW HK2 HB2 hmk
  go_loopw [8] (fun z wr => ∃ (k : Nat) (S : Nat → Nat), k ≤ c ∧ z = .int .i64 k ∧ Hid (Mks wr B n S) ∧ Hid (wr.heap[g]? = some (.cells (sn n S) 3 (0, 0))) ∧ Hid (Below w.heap.size w wr)) (fun z _ => c - (intOf z).toNat)
  case atStart => exact ⟨0, _, Nat.zero_le _, rfl, HK, HG, HB⟩
  case round =>
    clear HK HG HB
    obtain ⟨k, S, hk, rfl, HK1, HG, hb⟩ := hrel
    by_cases hlt : k < c
    · have hkl : k < Q.length := by rw [← HC.out]; exact hlt
      obtain ⟨bb, o, ha, hbl, y0, y1⟩ := PairsZ.cells HI.out hkl
      subst ha
      obtain ⟨iv, hiv⟩ : ∃ x, Q[k].1 = x := ⟨_, rfl⟩
      obtain ⟨av, hav⟩ : ∃ x, Q[k].2 = x := ⟨_, rfl⟩
      rw [hiv] at y0
      rw [hav] at y1
      have u0 : wr.cell? ⟨bb, o + k * 2, none⟩ = some (.int .i64 iv) := (hb.out.cell (p := ⟨bb, _, none⟩) hbl).trans y0
      have u1 : wr.cell? ⟨bb, o + k * 2 + 1, none⟩ = some (.int .i64 av) := (hb.out.cell (p := ⟨bb, _, none⟩) hbl).trans y1
      have g0 : (0 : Int) ≤ (k : Int) := by omega
      have g1 : (k : Int) < (c : Int) := by omega
      obtain ⟨m, hm⟩ : ∃ m, leastS S n = m := ⟨_, rfl⟩
      have HM := Lib.hid hm
      have hgw := lt_of_heap HG.out
      clear y0 y1 hiv hav hm hkl
      by_cases hi : iv < 0 ∨ (n : Int) ≤ iv
      · have HI2 := Lib.hid hi
        have HI3 : Hid (iv < 0 ∨ (n : Int) ≤ iv ∨ okM av = false) := Lib.hid (hi.elim .inl (fun h => .inr (.inl h)))
        clear hi
        go_upto_region 17 with (first
          | (go_at_call 14; refine (least_at HK1.out HM.out).mono ?_; rintro e w3 ⟨rfl, hb3⟩; have HK3 := Lib.hid (HK1.out.grow hb3); have HG3 := Lib.hid ((hb3.block g hgw).trans HG.out); have HB3 := Lib.hid (hb.out.trans (hb3.mono hb.out.size)); have hgw3 := Nat.lt_of_lt_of_le hgw hb3.size; clear hb3 HK1 HG)
          | (go_at_call 15; refine (raise_no HK3.out HI3.out).mono ?_; rintro e w4 ⟨rfl, hb4⟩; have HK4 := Lib.hid (HK3.out.grow hb4); have HG4 := Lib.hid ((hb4.block g hgw3).trans HG3.out); have HB4 := Lib.hid (HB3.out.trans (hb4.mono HB3.out.size)); have hgw4 := Nat.lt_of_lt_of_le hgw3 hb4.size; clear hb4 HK3 HG3)
          | (go_at_call 16; refine (at_no HK4.out HI2.out).mono ?_; rintro e w5 ⟨rfl, hb5⟩; have HK5 := Lib.hid (HK4.out.grow hb5); have HG5 := Lib.hid ((hb5.block g hgw4).trans HG4.out); have HB5 := Lib.hid (HB4.out.trans (hb5.mono HB4.out.size)); have hgw5 := Nat.lt_of_lt_of_le hgw4 hb5.size; clear hb5 HK4 HG4))
        clear u0 u1
        have e0 : ((m : Int) != (m : Int)) = false := inebf rfl
        rcases HI2.out with hi | hi
        all_goals
          go_wp2_with (go_at_call 14; refine (least_at HK5.out HM.out).mono ?_; rintro e w6 ⟨rfl, hb6⟩; have HK6 := Lib.hid (HK5.out.grow hb6); have HG6 := Lib.hid ((hb6.block g hgw5).trans HG5.out); have HB6 := Lib.hid (HB5.out.trans (hb6.mono HB5.out.size)); clear hb6 HK5 HG5)
          go_roundw
          case rel => exact ⟨k + 1, S, by omega, by go_num, HK6, HG6, HB6⟩
          case measure => simp [intOf]; omega
      · obtain ⟨i, rfl⟩ := Int.eq_ofNat_of_zero_le (show 0 ≤ iv by omega)
        have hin : i < n := by omega
        have hi0 : ¬ (i : Int) < 0 := by omega
        have hi1 : ¬ (n : Int) ≤ (i : Int) := by omega
        have hi2 : ¬ n ≤ i := by omega
        clear hi
        cases hok : okM av with
        | false =>
          have HI3 : Hid ((i : Int) < 0 ∨ (n : Int) ≤ (i : Int) ∨ okM av = false) := Lib.hid (.inr (.inr hok))
          have HOK := Lib.hid hok
          obtain ⟨x, hx⟩ : ∃ x, S i = x := ⟨_, rfl⟩
          have HX := Lib.hid hx
          clear hok hx
          go_upto_region 17 with (first
            | (go_at_call 14; refine (least_at HK1.out HM.out).mono ?_; rintro e w3 ⟨rfl, hb3⟩; have HK3 := Lib.hid (HK1.out.grow hb3); have HG3 := Lib.hid ((hb3.block g hgw).trans HG.out); have HB3 := Lib.hid (hb.out.trans (hb3.mono hb.out.size)); have hgw3 := Nat.lt_of_lt_of_le hgw hb3.size; clear hb3 HK1 HG)
            | (go_at_call 15; refine (raise_no HK3.out HI3.out).mono ?_; rintro e w4 ⟨rfl, hb4⟩; have HK4 := Lib.hid (HK3.out.grow hb4); have HG4 := Lib.hid ((hb4.block g hgw3).trans HG3.out); have HB4 := Lib.hid (HB3.out.trans (hb4.mono HB3.out.size)); have hgw4 := Nat.lt_of_lt_of_le hgw3 hb4.size; clear hb4 HK3 HG3)
            | (go_at_call 16; refine (at_ok HK4.out hin HX.out).mono ?_; rintro e w5 ⟨rfl, hb5⟩; have HK5 := Lib.hid (HK4.out.grow hb5); have HG5 := Lib.hid ((hb5.block g hgw4).trans HG4.out); have HB5 := Lib.hid (HB4.out.trans (hb5.mono HB4.out.size)); have hgw5 := Nat.lt_of_lt_of_le hgw4 hb5.size; clear hb5 HK4 HG4))
          clear u0 u1
          have e0 : ((m : Int) != (m : Int)) = false := inebf rfl
          go_wp2_with (first
            | (go_at_call 9; refine (ris_at HOK.out _).mono ?_; rintro e w6 ⟨rfl, rfl⟩)
            | (go_at_call 14; refine (least_at HK5.out HM.out).mono ?_; rintro e w6 ⟨rfl, hb6⟩; have HK6 := Lib.hid (HK5.out.grow hb6); have HG6 := Lib.hid ((hb6.block g hgw5).trans HG5.out); have HB6 := Lib.hid (HB5.out.trans (hb6.mono HB5.out.size)); clear hb6 HK5 HG5))
          go_roundw
          case rel => exact ⟨k + 1, S, by omega, by go_num, HK6, HG6, HB6⟩
          case measure => simp [intOf]; omega
        | true =>
          have HOK := Lib.hid hok
          unfold okM at hok
          simp only [Bool.and_eq_true, decide_eq_true_eq] at hok
          obtain ⟨v, rfl⟩ := Int.eq_ofNat_of_zero_le hok.1
          have hv : v ≤ 1000000001 := by omega
          obtain ⟨m', hm'⟩ : ∃ m', leastS (up S i v) n = m' := ⟨_, rfl⟩
          have hmm : ¬ m' < m := by
            have := leastS_up S i v n
            rw [HM.out, hm'] at this
            omega
          obtain ⟨r, hr⟩ : ∃ r, decide ((m : Int) < (m' : Int)) = r := ⟨_, rfl⟩
          have HM2 := Lib.hid hm'
          have HR := Lib.hid hr
          have hrn : decide (m < m') = r := by rw [← hr, Bool.eq_iff_iff]; simp
          obtain ⟨x, hx⟩ : ∃ x, S i = x := ⟨_, rfl⟩
          have hux : up S i v i = max x v := by unfold up; rw [if_pos rfl, hx]
          have HX := Lib.hid hx
          have HUX := Lib.hid hux
          obtain ⟨y, hy⟩ : ∃ y, max x v = y := ⟨_, rfl⟩
          have HUY : Hid (up S i v i = y) := Lib.hid (hux.trans hy)
          clear hok hm' hx hux
          go_upto_region 17 with (first
            | (go_at_call 14; refine (least_at HK1.out HM.out).mono ?_; rintro e w3 ⟨rfl, hb3⟩; have HK3 := Lib.hid (HK1.out.grow hb3); have HG3 := Lib.hid ((hb3.block g hgw).trans HG.out); have HB3 := Lib.hid (hb.out.trans (hb3.mono hb.out.size)); have hgw3 := Nat.lt_of_lt_of_le hgw hb3.size; clear hb3 HK1 HG)
            | (go_at_call 15; refine (raise_is HK3.out hin hv HM.out HM2.out HR.out).mono ?_; rintro e w4 ⟨rfl, hk4, hg4⟩; have HK4 := Lib.hid hk4; have HG4 := Lib.hid ((hg4.block g hgw3 (fun e => by cases e; omega)).trans HG3.out); have HB4 := Lib.hid (HB3.out.grown hg4 HB3.out.size (fun k e => by cases e; exact hsb)); have hgw4 := Nat.lt_of_lt_of_le hgw3 hg4.size; clear hk4 hg4 HK3 HG3)
            | (go_at_call 16; refine (at_ok HK4.out hin HUY.out).mono ?_; rintro e w5 ⟨rfl, hb5⟩; have HK5 := Lib.hid (HK4.out.grow hb5); have HG5 := Lib.hid ((hb5.block g hgw4).trans HG4.out); have HB5 := Lib.hid (HB4.out.trans (hb5.mono HB4.out.size)); have hgw5 := Nat.lt_of_lt_of_le hgw4 hb5.size; clear hb5 HK4 HG4))
          clear u0 u1
          have l0 : w5.cell? ⟨g, i, none⟩ = some (.int .i64 (x : Int)) := by
            rw [cell_of_heap HG5.out, sn_get S hin, HX.out]
          have l1 : w5.frozen? ⟨g, i, none⟩ = false := free_of_heap HG5.out i
          have HG6 : Hid ((w5.setCell ⟨g, i, none⟩ (.int .i64 (y : Int))).heap[g]? = some (.cells (sn n (up S i v)) 3 (0, 0))) := Lib.hid (by
            rw [heap_setCell_same w5 g i _ _ _ HG5.out]
            have e : (y : Int) = ((up S i v i : Nat) : Int) := by rw [HUY.out]
            rw [e, sn_set S hin (up S i v) (fun q hq => by unfold up; rw [if_neg hq])])
          have HK6 : Hid (Mks (w5.setCell ⟨g, i, none⟩ (.int .i64 (y : Int))) B n (up S i v)) := Lib.hid (HK5.out.other (by omega) _)
          have HB6 : Hid (Below w.heap.size w (w5.setCell ⟨g, i, none⟩ (.int .i64 (y : Int)))) := Lib.hid (HB5.out.setCell (p := ⟨g, i, none⟩) hsg _)
          have l2 : (w5.setCell ⟨g, i, none⟩ (.int .i64 (y : Int))).cell? ⟨g, i, none⟩ = some (.int .i64 (y : Int)) := by
            rw [cell_of_heap HG6.out, sn_get _ hin, HUY.out]
          have gi0 : (0 : Int) ≤ (i : Int) := by omega
          have gi1 : (i : Int) < (n : Int) := by omega
          have e1 : (r != r) = false := by cases r <;> rfl
          obtain ⟨W6, hW6⟩ : ∃ W6, w5.setCell ⟨g, i, none⟩ (.int .i64 (y : Int)) = W6 := ⟨_, rfl⟩
          go_upto_region 24 with (go_at_call 9; refine (ris_at HOK.out _).mono ?_; rintro e w6 ⟨rfl, rfl⟩)
          have HG7 : Hid (W6.heap[g]? = some (.cells (sn n (up S i v)) 3 (0, 0))) := Lib.hid (by rw [← hW6]; exact HG6.out)
          have HK7 : Hid (Mks W6 B n (up S i v)) := Lib.hid (by rw [← hW6]; exact HK6.out)
          have HB7 : Hid (Below w.heap.size w W6) := Lib.hid (by rw [← hW6]; exact HB6.out)
          have l3 : W6.cell? ⟨g, i, none⟩ = some (.int .i64 (y : Int)) := by rw [← hW6]; exact l2
          have hgw6 := lt_of_heap HG7.out
          clear hW6 l0 l1 l2 HG6 HK6 HB6 HG5 HK5 HB5 hy
          have e2 : ((m' : Int) != (m' : Int)) = false := inebf rfl
          have e3 : ((y : Int) != (y : Int)) = false := inebf rfl
          go_wp2_with (first
            | (go_at_call 17; refine (rleast_at hn HG7.out HM2.out).mono ?_; rintro e w7 ⟨rfl, rfl⟩)
            | (go_at_call 14; refine (least_at HK7.out HM2.out).mono ?_; rintro e w7 ⟨rfl, hb7⟩; have HK8 := Lib.hid (HK7.out.grow hb7); have HG8 := Lib.hid ((hb7.block g hgw6).trans HG7.out); have HB8 := Lib.hid (HB7.out.trans (hb7.mono HB7.out.size)); clear hb7 HK7 HG7))
          go_roundw
          case rel => exact ⟨k + 1, up S i v, by omega, by go_num, HK8, HG8, HB8⟩
          case measure => simp [intOf]; omega
    · go_wp2_with (go_at_call 11; refine (awake_any _).mono ?_; rintro e w6 ⟨rfl, hb6⟩; have HB6 := Lib.hid (hb.out.trans (hb6.mono hb.out.size)); clear hb6)
      go_ret
      exact ⟨rfl, HB6.out⟩
set_option maxRecDepth 20000 in
theorem markRaises_walk {w : World} {a : Option Addr} {c d : Nat} {Q : List (Int × Int)} (n : Int) (h : PairsZ w (.slice a c d) Q) : Calls Try.prog 5 #[.int .i64 n, .slice a c d] w fun e w' => e = .returned (.bool true) ∧ Below w.heap.size w w' := by
  by_cases hc : c ≤ 300
  · by_cases hn : n < 1 ∨ 16 < n
    · exact mr_none hn hc
    · obtain ⟨k, rfl⟩ := Int.eq_ofNat_of_zero_le (show 0 ≤ n by omega)
      exact mr_all h (by omega) (by omega) hc
  · clear h
    go_enter Try.func5, Try.ntmps5
    go_wp2
    go_ret
    exact ⟨rfl, Below.refl _ _⟩
end Go.Proofs.Ytonmghmalnbbbaa.Mk
