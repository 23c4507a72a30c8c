/-
  GraphPairs's walk: ahead and behind are one another's; an order has each flow once, behind all that it hangs on; there is none just if some flow is behind itself. Conditions: the plan lies in memory; the library's table of powers holds what it was laid with.
-/
import Derived.Test.YtfoenfipefhpoaaGreatDoorJG5
import Derived.Test.YtfoenfipefhpoaaGreatDoorJG3
import Derived.Test.YtfoenfipefhpoaaGreatDoorJG6
import Derived.Test.YtfoenfipefhpoaaGreatDoorJQ2
import Derived.Deep.QuietTactic
import Derived.BigQuiet
set_option linter.unusedVariables false
set_option linter.unusedSimpArgs false
namespace Go.Proofs.YtfoenfipefhpoaaGreatDoor.Gr
open Go.RowKit Go.Proofs.YtfoenfipefhpoaaGreatDoor.Ex Go.Proofs.YtfoenfipefhpoaaGreatDoor.Pl

theorem gList_in (F : List Flw → Nat → List Nat) {p : Pln} (hc : (check p).2 = 0) {k : Nat} (hk : k < p.flws.length) : gList F p (k : Int) = (F p.flws k, 0) := by
  unfold gList
  rw [if_pos hc, if_neg, Int.toNat_natCast]
  unfold noFlow
  simp
  omega
theorem in_q {W : World} {v : Value} {L : List Nat} (h : IntsAt W v L) {n : Nat} {r : Bool} (hr : L.contains n = r) (k : Nat) : Calls Tryz.prog 20 #[v, .int .i64 n] (W.drewN k) fun e w' => e = .returned (.bool r) ∧ ∃ m, w' = W.drewN m :=
  (in_at (Lst.grow h (drewN_below W k)) n hr).mono fun _ _ ⟨a, b⟩ => ⟨a, k, b.symm⟩
/-- The plan's box and a number of a row, as they stay. -/
theorem stay {w0 w X : World} {v1 v2 : Value} {p : Pln} {ad : Addr} {y : Value} (h : GW w0 v1 v2 p X) (hc : X.cell? ad = w.cell? ad) (hy : w.cell? ad = some y) (hb : Below w.heap.size w X) :
    X.cell? ⟨w0.heap.size, 0, none⟩ = some v1 ∧ X.cell? ⟨w0.heap.size, 1, none⟩ = some v2 ∧ X.cell? ad = some y ∧ Hid (Below w.heap.size w X) :=
  ⟨h.box.cells.1, h.box.cells.2, hc.trans hy, Lib.hid hb⟩
theorem order_E {p : Pln} (hc : (check p).2 = 0) : (order (srcOf p.flws) p.flws.length = none ∧ gOrder p = ([], 60) ∧ loopTo p.flws p.flws.length = true) ∨ ∃ L, order (srcOf p.flws) p.flws.length = some L ∧ gOrder p = (L, 0) ∧ loopTo p.flws p.flws.length = false := by
  have h1 := loop_none p.flws
  unfold gOrder
  rw [if_pos hc]
  cases h : order (srcOf p.flws) p.flws.length with
  | none => rw [h] at h1; exact .inl ⟨rfl, rfl, h1⟩
  | some L => rw [h] at h1; exact .inr ⟨L, rfl, rfl, h1⟩
set_option maxRecDepth 20000 in
set_option maxHeartbeats 16000000 in
theorem graphPairs_walk {v : Value} {p : Pln} (w : World) (hT : Tab w) (hp : PlnAt w v p) : Calls Tryz.prog 5 #[v] w fun e w' => e = .returned (.bool true) ∧ Below w.heap.size w w' := by
  obtain ⟨a, n, c, b, m, d, rfl⟩ := pln_two hp
  obtain ⟨hmp, hmm⟩ := pln_len hp
  unfold maxLen at hmm
  have HMP := Lib.hid hmp
  clear hmp
  have hw0 := GW.start hT hp
  obtain ⟨p0, p1⟩ := hw0.box.cells
  have H0 := Lib.hid hw0
  clear hw0 hT hp
  go_enter Tryz.func5, Tryz.ntmps5
  go_wp2_with (go_at_call 6; refine (small_at H0.out.pln).mono ?_; rintro e w1 ⟨bb, rfl, hsm, hb1⟩; have H1 := Lib.hid (H0.out.grow hb1); clear hsm hb1; refine Hid.out ?_)
  clear H0 p0 p1
  cases bb with
  | false =>
    refine Lib.hid ?_
    go_wp2
    go_ret
    exact ⟨rfl, H1.out.bel⟩
  | true =>
    obtain ⟨p0, p1⟩ := H1.out.box.cells
    refine Lib.hid ?_
    by_cases hc0 : (check p).2 = 0
    · rcases order_E hc0 with ⟨hord, hgo, hlp⟩ | ⟨L, hord, hgo, hlp⟩
      · have HGO := Lib.hid hgo
        have HLP : Hid (loopTo p.flws m = true) := Lib.hid (by rw [HMP.out]; exact hlp)
        have HCK := Lib.hid hc0
        clear hord hgo hlp hc0
        go_wp2_with (go_at_call 8; refine (porder_at H1.out.pln H1.out.tab HGO.out).mono ?_; rintro e w2 ⟨u2, rfl, hi2, hb⟩; obtain ⟨a2, c2, rfl⟩ := ints_form hi2; have H2 := Lib.hid (H1.out.grow hb); clear hb hi2)
        clear p0 p1
        go_loopw [5, 6, 7, 8, 9, 10, 11] (fun y z _ _ _ _ _ wr => ∃ (k : Nat) (bv : Bool), k ≤ m ∧ z = .int .i64 k ∧ y = .bool bv ∧ Hid (loopTo p.flws k = bv) ∧ Hid (Below w2.heap.size w2 wr)) (fun _ z _ _ _ _ _ _ => m - (RowKit.intOf z).toNat)
        case atStart => exact ⟨0, false, Nat.zero_le _, rfl, rfl, Lib.hid rfl, Lib.hid (Below.refl _ _)⟩
        case round =>
          obtain ⟨k, bv, hk, rfl, rfl, hl, hb⟩ := hrel
          have H3 := Lib.hid (H2.out.grow hb.out)
          obtain ⟨p0, p1⟩ := H3.out.box.cells
          by_cases hlt : k < m
          · have hkl : k < p.flws.length := by rw [← HMP.out]; exact hlt
            obtain ⟨LB, hLB⟩ : ∃ LB, behindOf p.flws k = LB := ⟨_, rfl⟩
            have HGB : Hid (gList behindOf p (k : Int) = (LB, 0)) := Lib.hid (by rw [← hLB]; exact gList_in behindOf HCK.out hkl)
            obtain ⟨x, hx⟩ : ∃ x, hangsGo (srcOf p.flws) k p.flws.length k = x := ⟨_, rfl⟩
            have HA0 : Hid (LB.contains k = x) := Lib.hid (by rw [← hLB, behind_has p.flws hkl]; exact hx)
            have HL1 : Hid (loopTo p.flws (k + 1) = (bv || x)) := Lib.hid (by rw [loopTo_succ, hl.out, hx])
            have HKL := Lib.hid hkl
            have HLB := Lib.hid hLB
            have H3' := H3
            clear hLB hx hkl hl
            cases bv with
            | true =>
              have HL2 : Hid (loopTo p.flws (k + 1) = true) := Lib.hid (by rw [HL1.out]; rfl)
              go_wp2_with (go_at_call 14; refine (pbehind_at H3'.out.pln H3'.out.tab (by omega) (by omega) HGB.out).mono ?_; rintro e w3 ⟨u3, rfl, hi3, hb3⟩; obtain ⟨a3, c3, rfl⟩ := ints_form hi3; have HI3 := Lib.hid hi3; replace H3 := Lib.hid (H3'.out.grow hb3); have HB3 := Lib.hid hb3; clear hb3 hi3)
              clear p0 p1
              go_loopw [9, 10, 11] (fun z _ _ wr => ∃ j : Nat, j ≤ m ∧ z = .int .i64 j ∧ Hid (Below w3.heap.size w3 wr)) (fun z _ _ _ => m - (RowKit.intOf z).toNat)
              case atStart => exact ⟨0, Nat.zero_le _, rfl, Lib.hid (Below.refl _ _)⟩
              case round =>
                obtain ⟨j, hj, rfl, hb3⟩ := hrel
                have H4 := Lib.hid (H3.out.grow hb3.out)
                obtain ⟨p0, p1⟩ := H4.out.box.cells
                by_cases hjm : j < m
                · have hjl : j < p.flws.length := by rw [← HMP.out]; exact hjm
                  obtain ⟨LA, hLA⟩ : ∃ LA, aheadOf p.flws j = LA := ⟨_, rfl⟩
                  have HGA : Hid (gList aheadOf p (j : Int) = (LA, 0)) := Lib.hid (by rw [← hLA]; exact gList_in aheadOf HCK.out hjl)
                  obtain ⟨x, hx⟩ : ∃ x, hangsGo (srcOf p.flws) k p.flws.length j = x := ⟨_, rfl⟩
                  have HA1 : Hid (LA.contains k = x) := Lib.hid (by rw [← hLA, ahead_has p.flws HKL.out]; exact hx)
                  have HA2 : Hid (LB.contains j = x) := Lib.hid (by rw [← HLB.out, behind_has p.flws hjl]; exact hx)
                  have HI4 := Lib.hid (IntsAt.grow HI3.out hb3.out)
                  have ex : (x != x) = false := by cases x <;> rfl
                  clear hLA hx hjl
                  go_wp2_with (first
                    | (go_at_call 13; refine (pahead_at H4.out.pln H4.out.tab (by omega) (by omega) HGA.out).mono ?_; rintro e w5 ⟨u5, rfl, hi5, hb⟩; obtain ⟨a5, c5, rfl⟩ := ints_form hi5; have HI5 := Lib.hid hi5; have HJ5 := Lib.hid (IntsAt.grow HI4.out hb); have HB5 := Lib.hid (hb3.out.trans (hb.mono hb3.out.size)); clear hb hi5)
                    | (go_at_call 20; (with_reducible refine (in_at HI5.out k HA1.out).mono ?_); rintro e w6 ⟨rfl, rfl⟩)
                    | (go_at_call 20; (with_reducible refine (in_at HJ5.out j HA2.out).mono ?_); rintro e w6 ⟨rfl, rfl⟩))
                  go_roundw
                  case rel => exact ⟨j + 1, by omega, by go_num, HB5⟩
                  case measure => simp [RowKit.intOf]; omega
                · have HB5 := Lib.hid (hb.out.trans (HB3.out.trans (hb3.out.mono HB3.out.size) |>.mono hb.out.size))
                  go_wp2
                  go_roundw
                  case rel => exact ⟨k + 1, true, by omega, by go_num, rfl, HL2, HB5⟩
                  case measure => simp [RowKit.intOf]; omega
            | false =>
              have HL2 : Hid (loopTo p.flws (k + 1) = x) := Lib.hid (by rw [HL1.out]; rfl)
              go_wp2_with (first
                | (go_at_call 14; refine (pbehind_at H3'.out.pln H3'.out.tab (by omega) (by omega) HGB.out).mono ?_; rintro e w3 ⟨u3, rfl, hi3, hb3⟩; obtain ⟨a3, c3, rfl⟩ := ints_form hi3; have HI3 := Lib.hid hi3; replace H3 := Lib.hid (H3'.out.grow hb3); have HB3 := Lib.hid hb3; clear hb3 hi3)
                | (go_at_call 20; refine (in_at HI3.out k HA0.out).mono ?_; rintro e w6 ⟨rfl, rfl⟩))
              clear p0 p1
              go_loopw [9, 10, 11] (fun z _ _ wr => ∃ j : Nat, j ≤ m ∧ z = .int .i64 j ∧ Hid (Below w3.heap.size w3 wr)) (fun z _ _ _ => m - (RowKit.intOf z).toNat)
              case atStart => exact ⟨0, Nat.zero_le _, rfl, Lib.hid (Below.refl _ _)⟩
              case round =>
                obtain ⟨j, hj, rfl, hb3⟩ := hrel
                have H4 := Lib.hid (H3.out.grow hb3.out)
                obtain ⟨p0, p1⟩ := H4.out.box.cells
                by_cases hjm : j < m
                · have hjl : j < p.flws.length := by rw [← HMP.out]; exact hjm
                  obtain ⟨LA, hLA⟩ : ∃ LA, aheadOf p.flws j = LA := ⟨_, rfl⟩
                  have HGA : Hid (gList aheadOf p (j : Int) = (LA, 0)) := Lib.hid (by rw [← hLA]; exact gList_in aheadOf HCK.out hjl)
                  obtain ⟨x, hx⟩ : ∃ x, hangsGo (srcOf p.flws) k p.flws.length j = x := ⟨_, rfl⟩
                  have HA1 : Hid (LA.contains k = x) := Lib.hid (by rw [← hLA, ahead_has p.flws HKL.out]; exact hx)
                  have HA2 : Hid (LB.contains j = x) := Lib.hid (by rw [← HLB.out, behind_has p.flws hjl]; exact hx)
                  have HI4 := Lib.hid (IntsAt.grow HI3.out hb3.out)
                  have ex : (x != x) = false := by cases x <;> rfl
                  clear hLA hx hjl
                  go_wp2_with (first
                    | (go_at_call 13; refine (pahead_at H4.out.pln H4.out.tab (by omega) (by omega) HGA.out).mono ?_; rintro e w5 ⟨u5, rfl, hi5, hb⟩; obtain ⟨a5, c5, rfl⟩ := ints_form hi5; have HI5 := Lib.hid hi5; have HJ5 := Lib.hid (IntsAt.grow HI4.out hb); have HB5 := Lib.hid (hb3.out.trans (hb.mono hb3.out.size)); clear hb hi5)
                    | (go_at_call 20; (with_reducible refine (in_at HI5.out k HA1.out).mono ?_); rintro e w6 ⟨rfl, rfl⟩)
                    | (go_at_call 20; (with_reducible refine (in_at HJ5.out j HA2.out).mono ?_); rintro e w6 ⟨rfl, rfl⟩))
                  go_roundw
                  case rel => exact ⟨j + 1, by omega, by go_num, HB5⟩
                  case measure => simp [RowKit.intOf]; omega
                · have HB5 := Lib.hid (hb.out.trans (HB3.out.trans (hb3.out.mono HB3.out.size) |>.mono hb.out.size))
                  go_wp2
                  go_roundw
                  case rel => exact ⟨k + 1, x, by omega, by go_num, rfl, HL2, HB5⟩
                  case measure => simp [RowKit.intOf]; omega
          · obtain rfl : bv = true := by rw [← hl.out, show k = m by omega]; exact HLP.out
            rename World => wr
            go_wp2
            go_loopw [12, 13, 14, 15] (fun z _ _ _ wx => z = .int .i64 0 ∧ wx = wr) (fun _ _ _ _ _ => 0)
            case atStart => exact ⟨rfl, rfl⟩
            case round =>
              obtain ⟨rfl, rfl⟩ := hrel
              go_wp2_with (go_at_call 9; refine (awake_any H3.out.tab).mono ?_; rintro e w9 ⟨rfl, hb⟩; have H9 := Lib.hid (H3.out.grow hb); clear hb)
              go_ret
              exact ⟨rfl, H9.out.bel⟩
      · have HGO := Lib.hid hgo
        have HLP : Hid (loopTo p.flws m = false) := Lib.hid (by rw [HMP.out]; exact hlp)
        have HCK := Lib.hid hc0
        obtain ⟨q, hq⟩ : ∃ q, L.length = q := ⟨_, rfl⟩
        have hqm : q = m := by rw [← hq, HMP.out]; exact order_len hord
        have HIN : Hid (∀ t (ht : t < L.length), L[t] < p.flws.length ∧ (L.take t).contains L[t] = false ∧ ∀ k ∈ aheadOf p.flws L[t], (L.take t).contains k = true) := Lib.hid (fun t ht => order_in hord ht)
        have HQ := Lib.hid hq
        clear hord hgo hlp hc0 hq
        go_wp2_with (go_at_call 8; refine (porder_at H1.out.pln H1.out.tab HGO.out).mono ?_; rintro e w2 ⟨u2, rfl, hi2, hb⟩; obtain ⟨a2, c2, rfl⟩ := ints_form hi2; rw [HQ.out] at hi2 ⊢; have H2 := Lib.hid (H1.out.grow hb); have HI2 := Lib.hid hi2; clear hb hi2)
        clear p0 p1
        go_loopw [5, 6, 7, 8, 9, 10, 11] (fun y z _ _ _ _ _ wr => ∃ (k : Nat) (bv : Bool), k ≤ m ∧ z = .int .i64 k ∧ y = .bool bv ∧ Hid (loopTo p.flws k = bv) ∧ Hid (Below w2.heap.size w2 wr)) (fun _ z _ _ _ _ _ _ => m - (RowKit.intOf z).toNat)
        case atStart => exact ⟨0, false, Nat.zero_le _, rfl, rfl, Lib.hid rfl, Lib.hid (Below.refl _ _)⟩
        case round =>
          obtain ⟨k, bv, hk, rfl, rfl, hl, hb⟩ := hrel
          have H3 := Lib.hid (H2.out.grow hb.out)
          obtain ⟨p0, p1⟩ := H3.out.box.cells
          by_cases hlt : k < m
          · have hkl : k < p.flws.length := by rw [← HMP.out]; exact hlt
            obtain ⟨LB, hLB⟩ : ∃ LB, behindOf p.flws k = LB := ⟨_, rfl⟩
            have HGB : Hid (gList behindOf p (k : Int) = (LB, 0)) := Lib.hid (by rw [← hLB]; exact gList_in behindOf HCK.out hkl)
            obtain ⟨x, hx⟩ : ∃ x, hangsGo (srcOf p.flws) k p.flws.length k = x := ⟨_, rfl⟩
            have HA0 : Hid (LB.contains k = x) := Lib.hid (by rw [← hLB, behind_has p.flws hkl]; exact hx)
            have HL1 : Hid (loopTo p.flws (k + 1) = (bv || x)) := Lib.hid (by rw [loopTo_succ, hl.out, hx])
            have HKL := Lib.hid hkl
            have HLB := Lib.hid hLB
            have H3' := H3
            clear hLB hx hkl hl
            cases bv with
            | true =>
              have HL2 : Hid (loopTo p.flws (k + 1) = true) := Lib.hid (by rw [HL1.out]; rfl)
              go_wp2_with (go_at_call 14; refine (pbehind_at H3'.out.pln H3'.out.tab (by omega) (by omega) HGB.out).mono ?_; rintro e w3 ⟨u3, rfl, hi3, hb3⟩; obtain ⟨a3, c3, rfl⟩ := ints_form hi3; have HI3 := Lib.hid hi3; replace H3 := Lib.hid (H3'.out.grow hb3); have HB3 := Lib.hid hb3; clear hb3 hi3)
              clear p0 p1
              go_loopw [9, 10, 11] (fun z _ _ wr => ∃ j : Nat, j ≤ m ∧ z = .int .i64 j ∧ Hid (Below w3.heap.size w3 wr)) (fun z _ _ _ => m - (RowKit.intOf z).toNat)
              case atStart => exact ⟨0, Nat.zero_le _, rfl, Lib.hid (Below.refl _ _)⟩
              case round =>
                obtain ⟨j, hj, rfl, hb3⟩ := hrel
                have H4 := Lib.hid (H3.out.grow hb3.out)
                obtain ⟨p0, p1⟩ := H4.out.box.cells
                by_cases hjm : j < m
                · have hjl : j < p.flws.length := by rw [← HMP.out]; exact hjm
                  obtain ⟨LA, hLA⟩ : ∃ LA, aheadOf p.flws j = LA := ⟨_, rfl⟩
                  have HGA : Hid (gList aheadOf p (j : Int) = (LA, 0)) := Lib.hid (by rw [← hLA]; exact gList_in aheadOf HCK.out hjl)
                  obtain ⟨x, hx⟩ : ∃ x, hangsGo (srcOf p.flws) k p.flws.length j = x := ⟨_, rfl⟩
                  have HA1 : Hid (LA.contains k = x) := Lib.hid (by rw [← hLA, ahead_has p.flws HKL.out]; exact hx)
                  have HA2 : Hid (LB.contains j = x) := Lib.hid (by rw [← HLB.out, behind_has p.flws hjl]; exact hx)
                  have HI4 := Lib.hid (IntsAt.grow HI3.out hb3.out)
                  have ex : (x != x) = false := by cases x <;> rfl
                  clear hLA hx hjl
                  go_wp2_with (first
                    | (go_at_call 13; refine (pahead_at H4.out.pln H4.out.tab (by omega) (by omega) HGA.out).mono ?_; rintro e w5 ⟨u5, rfl, hi5, hb⟩; obtain ⟨a5, c5, rfl⟩ := ints_form hi5; have HI5 := Lib.hid hi5; have HJ5 := Lib.hid (IntsAt.grow HI4.out hb); have HB5 := Lib.hid (hb3.out.trans (hb.mono hb3.out.size)); clear hb hi5)
                    | (go_at_call 20; (with_reducible refine (in_at HI5.out k HA1.out).mono ?_); rintro e w6 ⟨rfl, rfl⟩)
                    | (go_at_call 20; (with_reducible refine (in_at HJ5.out j HA2.out).mono ?_); rintro e w6 ⟨rfl, rfl⟩))
                  go_roundw
                  case rel => exact ⟨j + 1, by omega, by go_num, HB5⟩
                  case measure => simp [RowKit.intOf]; omega
                · have HB5 := Lib.hid (hb.out.trans (HB3.out.trans (hb3.out.mono HB3.out.size) |>.mono hb.out.size))
                  go_wp2
                  go_roundw
                  case rel => exact ⟨k + 1, true, by omega, by go_num, rfl, HL2, HB5⟩
                  case measure => simp [RowKit.intOf]; omega
            | false =>
              have HL2 : Hid (loopTo p.flws (k + 1) = x) := Lib.hid (by rw [HL1.out]; rfl)
              go_wp2_with (first
                | (go_at_call 14; refine (pbehind_at H3'.out.pln H3'.out.tab (by omega) (by omega) HGB.out).mono ?_; rintro e w3 ⟨u3, rfl, hi3, hb3⟩; obtain ⟨a3, c3, rfl⟩ := ints_form hi3; have HI3 := Lib.hid hi3; replace H3 := Lib.hid (H3'.out.grow hb3); have HB3 := Lib.hid hb3; clear hb3 hi3)
                | (go_at_call 20; refine (in_at HI3.out k HA0.out).mono ?_; rintro e w6 ⟨rfl, rfl⟩))
              clear p0 p1
              go_loopw [9, 10, 11] (fun z _ _ wr => ∃ j : Nat, j ≤ m ∧ z = .int .i64 j ∧ Hid (Below w3.heap.size w3 wr)) (fun z _ _ _ => m - (RowKit.intOf z).toNat)
              case atStart => exact ⟨0, Nat.zero_le _, rfl, Lib.hid (Below.refl _ _)⟩
              case round =>
                obtain ⟨j, hj, rfl, hb3⟩ := hrel
                have H4 := Lib.hid (H3.out.grow hb3.out)
                obtain ⟨p0, p1⟩ := H4.out.box.cells
                by_cases hjm : j < m
                · have hjl : j < p.flws.length := by rw [← HMP.out]; exact hjm
                  obtain ⟨LA, hLA⟩ : ∃ LA, aheadOf p.flws j = LA := ⟨_, rfl⟩
                  have HGA : Hid (gList aheadOf p (j : Int) = (LA, 0)) := Lib.hid (by rw [← hLA]; exact gList_in aheadOf HCK.out hjl)
                  obtain ⟨x, hx⟩ : ∃ x, hangsGo (srcOf p.flws) k p.flws.length j = x := ⟨_, rfl⟩
                  have HA1 : Hid (LA.contains k = x) := Lib.hid (by rw [← hLA, ahead_has p.flws HKL.out]; exact hx)
                  have HA2 : Hid (LB.contains j = x) := Lib.hid (by rw [← HLB.out, behind_has p.flws hjl]; exact hx)
                  have HI4 := Lib.hid (IntsAt.grow HI3.out hb3.out)
                  have ex : (x != x) = false := by cases x <;> rfl
                  clear hLA hx hjl
                  go_wp2_with (first
                    | (go_at_call 13; refine (pahead_at H4.out.pln H4.out.tab (by omega) (by omega) HGA.out).mono ?_; rintro e w5 ⟨u5, rfl, hi5, hb⟩; obtain ⟨a5, c5, rfl⟩ := ints_form hi5; have HI5 := Lib.hid hi5; have HJ5 := Lib.hid (IntsAt.grow HI4.out hb); have HB5 := Lib.hid (hb3.out.trans (hb.mono hb3.out.size)); clear hb hi5)
                    | (go_at_call 20; (with_reducible refine (in_at HI5.out k HA1.out).mono ?_); rintro e w6 ⟨rfl, rfl⟩)
                    | (go_at_call 20; (with_reducible refine (in_at HJ5.out j HA2.out).mono ?_); rintro e w6 ⟨rfl, rfl⟩))
                  go_roundw
                  case rel => exact ⟨j + 1, by omega, by go_num, HB5⟩
                  case measure => simp [RowKit.intOf]; omega
                · have HB5 := Lib.hid (hb.out.trans (HB3.out.trans (hb3.out.mono HB3.out.size) |>.mono hb.out.size))
                  go_wp2
                  go_roundw
                  case rel => exact ⟨k + 1, x, by omega, by go_num, rfl, HL2, HB5⟩
                  case measure => simp [RowKit.intOf]; omega
          · obtain rfl : bv = false := by rw [← hl.out, show k = m by omega]; exact HLP.out
            rename World => wr
            have HB3 := hb
            obtain ⟨-, -, -, hcm⟩ := Lst.len HI2.out
            unfold maxLen at hcm
            have hqc : q ≤ c2 := by obtain ⟨-, h, -, -⟩ := Lst.len HI2.out; exact h
            clear hb
            go_wp2
            go_loopw [12, 13, 14, 15] (fun z _ _ _ wr => ∃ t : Nat, t ≤ q ∧ z = .int .i64 t ∧ Hid (Below w2.heap.size w2 wr)) (fun z _ _ _ _ => q - (RowKit.intOf z).toNat)
            case atStart => exact ⟨0, Nat.zero_le _, rfl, HB3⟩
            case round =>
              clear HB3 H3
              obtain ⟨t, ht, rfl, hb⟩ := hrel
              have H3 := Lib.hid (H2.out.grow hb.out)
              obtain ⟨p0, p1⟩ := H3.out.box.cells
              by_cases hlt : t < q
              · have htl : t < L.length := by rw [HQ.out]; exact hlt
                have HIr := Lib.hid (IntsAt.grow HI2.out hb.out)
                obtain ⟨hx1, hx2, hx3⟩ := HIN.out t htl
                obtain ⟨bl, ol, rfl, hbl, y0⟩ := IntsAt.cell HIr.out htl
                obtain ⟨x, hx⟩ : ∃ x, L[t] = x := ⟨_, rfl⟩
                rw [hx] at hx1 hx2 hx3 y0
                obtain ⟨LA, hLA⟩ : ∃ LA, aheadOf p.flws x = LA := ⟨_, rfl⟩
                rw [hLA] at hx3
                have HGL : Hid (gList aheadOf p (x : Int) = (LA, 0)) := Lib.hid (by rw [← hLA]; exact gList_in aheadOf HCK.out hx1)
                have HX2 := Lib.hid hx2
                have HX3 := Lib.hid hx3
                have hxm : x < m := by rw [HMP.out]; exact hx1
                have g0 : (0 : Int) ≤ (t : Int) := by omega
                have g1 : (t : Int) < (q : Int) := by omega
                have g2 : (t : Int) ≤ (c2 : Int) := by omega
                clear hx1 hx2 hx3 hLA hx htl
                rename World => wq
                go_wp2
                go_region_held3 (fun X => X.cell? ⟨w.heap.size, 0, none⟩ = some (.slice a n c) ∧ X.cell? ⟨w.heap.size, 1, none⟩ = some (.slice b m d) ∧ X.cell? ⟨bl, ol + t, none⟩ = some (.int .i64 (x : Int)) ∧ Hid (Below wq.heap.size wq X))
                  (first | exact ⟨p0, p1, y0, Lib.hid (Below.refl _ _).drew⟩ | exact hS3)
                  (first
                    | (go_at_call 13; have hh := (‹_ ∧ _ ∧ _ ∧ Hid (Below wq.heap.size wq _)›).2.2.2; refine (pahead_at (H3.out.grow hh.out).pln (H3.out.grow hh.out).tab (by omega) (by omega) HGL.out).mono ?_; rintro e w3 ⟨u3, rfl, hi3, hb3⟩; obtain ⟨a3, c3, rfl⟩ := ints_form hi3; have hh2 := hh.out.trans (hb3.mono hh.out.size); have HI3 := Lib.hid hi3; have hS3 := stay (H3.out.grow hh2) (hh2.cell (p := ⟨bl, ol + t, none⟩) hbl) y0 hh2; clear hb3 hh hh2 hi3))
                obtain ⟨-, -, hy3, hh⟩ := ‹_ ∧ _ ∧ _ ∧ Hid (Below wq.heap.size wq _)›
                have Y3 := Lib.hid hy3
                have HBl := Lib.hid hh.out.size
                clear hy3
                have HBq := Lib.hid (hb.out.trans (hh.out.mono hb.out.size))
                have HIq := Lib.hid (IntsAt.grow HIr.out hh.out)
                clear p0 p1 y0 H3 hh
                obtain ⟨la, hla⟩ : ∃ la, LA.length = la := ⟨_, rfl⟩
                have HLA := Lib.hid hla
                rw [hla] at HI3 ⊢
                have hlam : la ≤ 9223372036854775807 := by
                  obtain ⟨-, -, h, -⟩ := Lst.len HI3.out
                  unfold maxLen at h
                  exact h
                clear hla
                rename World => w3
                go_wp2
                go_loopw [15] (fun z wr => ∃ j : Nat, j ≤ la ∧ z = .int .i64 j ∧ Hid (Below w3.heap.size w3 wr)) (fun z _ => la - (RowKit.intOf z).toNat)
                case atStart => exact ⟨0, Nat.zero_le _, rfl, Lib.hid (Below.refl _ _)⟩
                case round =>
                  obtain ⟨j, hj, rfl, hb3⟩ := hrel
                  have HI4 := Lib.hid (IntsAt.grow HI3.out hb3.out)
                  have HIt : Hid (IntsAt wr (.slice (some ⟨bl, ol, none⟩) t c2) (L.take t)) := Lib.hid (Lst.take (IntsAt.grow HIq.out hb3.out) (by rw [HQ.out]; omega))
                  by_cases hjl : j < la
                  · have hjL : j < LA.length := by rw [HLA.out]; exact hjl
                    obtain ⟨b4, o4, rfl, hbl4, z0⟩ := IntsAt.cell HI4.out hjL
                    obtain ⟨y, hy⟩ : ∃ y, LA[j] = y := ⟨_, rfl⟩
                    have HY : Hid ((L.take t).contains y = true) := Lib.hid (HX3.out y (by rw [← hy]; exact List.getElem_mem hjL))
                    rw [hy] at z0
                    have f0 : (0 : Int) ≤ (j : Int) := by omega
                    have f1 : (j : Int) < (la : Int) := by omega
                    clear hy hjL
                    go_wp2_with fail
                    go_quiet (first | exact in_q HIt.out HY.out _)
                    go_wp2
                    go_roundw
                    case rel => exact ⟨j + 1, by omega, by go_num, Lib.hid (hb3.out.trans (drewN_below _ _))⟩
                    case measure => simp [RowKit.intOf]; omega
                  · have y0 : wr.cell? ⟨bl, ol + t, none⟩ = some (.int .i64 (x : Int)) := by rw [hb3.out.cell (p := ⟨bl, ol + t, none⟩) (Nat.lt_of_lt_of_le hbl HBl.out)]; exact Y3.out
                    go_wp2_with fail
                    go_quiet (first | exact in_q HIt.out HX2.out _)
                    go_wp2
                    go_roundw
                    case rel => exact ⟨t + 1, by omega, by go_num, Lib.hid ((HBq.out.trans (hb3.out.mono HBq.out.size)).trans (drewN_below _ _))⟩
                    case measure => simp [RowKit.intOf]; omega
              · have e5 : ((q : Int) == (m : Int)) = true := ibeq (by omega)
                go_wp2_with (go_at_call 9; refine (awake_any H3.out.tab).mono ?_; rintro e w9 ⟨rfl, hb⟩; have H9 := Lib.hid (H3.out.grow hb); obtain ⟨q0, q1⟩ := H9.out.box.cells; clear hb)
                go_ret
                exact ⟨rfl, H9.out.bel⟩
    · obtain ⟨E, hE⟩ : ∃ E, (check p).2 = E := ⟨_, rfl⟩
      have hg : gOrder p = ([], E) := by unfold gOrder; rw [if_neg hc0, hE]
      have e0 := inebt (hE ▸ hc0)
      have e1 : (E != 60) = true := inebt (hE ▸ check_ne p)
      have HG := Lib.hid hg
      clear hE hg hc0
      go_wp2_with (first
        | (go_at_call 8; refine (porder_at H1.out.pln H1.out.tab HG.out).mono ?_; rintro e w2 ⟨u2, rfl, hi2, hb⟩; obtain ⟨a2, c2, rfl⟩ := ints_form hi2; have H2 := Lib.hid (H1.out.grow hb); clear hb hi2)
        | (go_at_call 9; refine (awake_any H2.out.tab).mono ?_; rintro e w3 ⟨rfl, hb⟩; have H3 := Lib.hid (H2.out.grow hb); clear hb))
      go_ret
      exact ⟨rfl, H3.out.bel⟩
end Go.Proofs.YtfoenfipefhpoaaGreatDoor.Gr
