/-
  MarkOnTime: the walk of the law. Conditions: the times lie in memory.
-/
import Derived.Test.YtonmghmalnbbbaaMarkNextsWalk
namespace Go.Proofs.Ytonmghmalnbbbaa.Mk
set_option linter.unusedVariables false
set_option linter.unusedSimpArgs false
open Go.RowKit

set_option maxRecDepth 20000 in
set_option maxHeartbeats 4000000 in
theorem ot_small {w : World} {a : Option Addr} {n c : Nat} {T : List Int} {b : Int} (h : IntsZ w (.slice a n c) T) (hn : n ≤ 300) (hb0 : 0 ≤ b) (hb1 : b ≤ 1000000) : Calls Try.prog 4 #[.slice a n c, .int .i64 b] w fun e w' => e = .returned (.bool true) ∧ Below w.heap.size w w' := by
  obtain ⟨hnl, k1, k2, k3⟩ := h.len
  unfold maxLen at k2 k3
  have HI := Lib.hid h
  have HN := Lib.hid hnl
  clear h hnl k2
  go_enter Try.func4, Try.ntmps4
  go_wp2
  go_loopw [5, 6] (fun x z wr => ∃ (i : Nat) (m : Int), i ≤ n ∧ x = .int .i64 m ∧ z = .int .i64 i ∧ 0 ≤ m ∧ m ≤ 1000000000 ∧ Hid (MM b (T.take i) = m) ∧ Hid (∀ j (hj : j < T.length), j < i → 0 ≤ T[j] ∧ T[j] ≤ 1000000000) ∧ Hid (Below w.heap.size w wr)) (fun _ z _ => n - (intOf z).toNat)
  case atStart => exact ⟨0, 0, Nat.zero_le _, rfl, rfl, Int.le_refl _, by omega, Lib.hid rfl, Lib.hid (fun j _ hj => by omega), Lib.hid (Below.refl _ _)⟩
  case round =>
    obtain ⟨i, m, hi, rfl, rfl, hm0, hm1, HM, HV, hb⟩ := hrel
    by_cases hlt : i < n
    · have hil : i < T.length := by rw [← HN.out]; exact hlt
      obtain ⟨bb, o, ha, hbl, y0⟩ := IntsZ.cell HI.out hil
      subst ha
      obtain ⟨t, ht⟩ : ∃ t, T[i] = t := ⟨_, rfl⟩
      rw [ht] at y0
      have HT := Lib.hid ht
      have y1 : wr.cell? ⟨bb, o + i, none⟩ = some (.int .i64 t) := (hb.out.cell (p := ⟨bb, _, none⟩) hbl).trans y0
      have g0 : (0 : Int) ≤ (i : Int) := by omega
      have g1 : (i : Int) < (n : Int) := by omega
      clear y0 ht
      cases hok : okT t with
      | false =>
        have HK := Lib.hid hok
        clear hok
        go_wp2_with (go_at_call 10; refine (rtime_at HK.out _).mono ?_; rintro e w2 ⟨rfl, rfl⟩)
        go_ret
        exact ⟨rfl, hb.out⟩
      | true =>
        have HK := Lib.hid hok
        unfold okT at hok
        simp only [Bool.and_eq_true, decide_eq_true_eq] at hok
        obtain ⟨ht0, ht1⟩ := hok
        go_wp2_with (go_at_call 10; refine (rtime_at HK.out _).mono ?_; rintro e w2 ⟨rfl, rfl⟩)
        have hokm : okM m = true := by unfold okM; simp; omega
        have HKM := Lib.hid hokm
        clear hokm
        go_loopw [7, 8] (fun x z wq => ∃ (k : Nat) (lb : Bool), k ≤ i ∧ x = .bool lb ∧ z = .int .i64 k ∧ Hid (anyAbove b t (T.take k) = lb) ∧ Hid (Below wr.heap.size wr wq)) (fun _ z _ => i - (intOf z).toNat)
        case atStart => exact ⟨0, false, Nat.zero_le _, rfl, rfl, Lib.hid rfl, Lib.hid (Below.refl _ _)⟩
        case round =>
          rename World => wq
          obtain ⟨k, lb, hk, rfl, rfl, HL, hbq⟩ := hrel
          have z1 : wq.cell? ⟨bb, o + i, none⟩ = some (.int .i64 t) := (hbq.out.cell (p := ⟨bb, _, none⟩) (Nat.lt_of_lt_of_le hbl hb.out.size)).trans y1
          by_cases hki : k < i
          · have hkl : k < T.length := by omega
            obtain ⟨b', o', e', -, x0⟩ := IntsZ.cell HI.out hkl
            injection e' with e'
            injection e' with e1 e2
            subst e1 e2
            obtain ⟨s, hs⟩ : ∃ s, T[k] = s := ⟨_, rfl⟩
            have hsv := HV.out k hkl hki
            rw [hs] at x0 hsv
            have x1 : wq.cell? ⟨bb, o + k, none⟩ = some (.int .i64 s) := (hbq.out.cell (p := ⟨bb, _, none⟩) (Nat.lt_of_lt_of_le hbl hb.out.size)).trans ((hb.out.cell (p := ⟨bb, _, none⟩) hbl).trans x0)
            have hnx := anyAbove_next (b := b) (t := t) hkl hs
            rw [HL.out] at hnx
            have HNX := Lib.hid hnx
            have q0 : (0 : Int) ≤ (k : Int) := by omega
            have q1 : (k : Int) < (n : Int) := by omega
            obtain ⟨hs0, hs1⟩ := hsv
            clear x0 hs hnx HL hkl
            cases lb with
            | true =>
              go_wp2
              go_quiet (fail)
              go_wp2
              go_roundw
              case rel => exact ⟨k + 1, true, by omega, rfl, by go_num, Lib.hid (by rw [HNX.out]; rfl), Lib.hid (hbq.out.trans ((drewN_below wq nq).mono hbq.out.size))⟩
              case measure => simp [intOf]; omega
            | false =>
              go_wp2
              go_quiet (fail)
              go_wp2
              go_roundw
              case rel => exact ⟨k + 1, decide (t < s - b), by omega, rfl, by go_num, Lib.hid (by rw [HNX.out]; rfl), Lib.hid (hbq.out.trans ((drewN_below wq nq).mono hbq.out.size))⟩
              case measure => simp [intOf]; omega
          · have HLT : Hid (decide (t < m) = lb) := Lib.hid (by
              rw [← HL.out, show k = i by omega, late_iff hb0 ht0, HM.out])
            obtain ⟨x, hx⟩ : ∃ x, nx m b t = x := ⟨_, rfl⟩
            have HX := Lib.hid hx
            have hxm : ¬ x < m := by have := nx_ge m b t; omega
            have HM2 : Hid (MM b (T.take (i + 1)) = x) := Lib.hid (by rw [MM_next hil HT.out, HM.out, hx])
            have HV2 : Hid (∀ j (hj : j < T.length), j < i + 1 → 0 ≤ T[j] ∧ T[j] ≤ 1000000000) := Lib.hid (fun j hj hji => by
              by_cases e : j = i
              · subst e; rw [HT.out]; exact ⟨ht0, ht1⟩
              · exact HV.out j hj (by omega))
            have hxr : 0 ≤ x ∧ x ≤ 1000000000 := by
              rw [← HM2.out]
              refine MM_range hb0 _ (fun y hy => ?_)
              obtain ⟨j, hj, rfl⟩ := List.getElem_of_mem hy
              rw [List.length_take] at hj
              rw [List.getElem_take]
              exact HV2.out j (by omega) (by omega)
            have hlb : (lb != lb) = false := by cases lb <;> rfl
            clear hx HL HM HV
            go_wp2_with (first
              | (go_at_call 8; refine (late_is HLT.out _).mono ?_; rintro e w2 ⟨rfl, rfl⟩)
              | (go_at_call 7; refine (next_is HKM.out (by omega) hb1 HK.out HX.out _).mono ?_; rintro e w2 ⟨rfl, rfl⟩))
            go_roundw
            case rel => exact ⟨i + 1, x, by omega, rfl, by go_num, hxr.1, hxr.2, HM2, HV2, Lib.hid (hb.out.trans (hbq.out.mono hb.out.size))⟩
            case measure => simp [intOf]; omega
    · go_wp2_with (go_at_call 11; refine (awake_any _).mono ?_; rintro e w2 ⟨rfl, hb2⟩; have HB2 := Lib.hid (hb.out.trans (hb2.mono hb.out.size)); clear hb2)
      go_ret
      exact ⟨rfl, HB2.out⟩
set_option maxRecDepth 20000 in
theorem markOnTime_walk {w : World} {a : Option Addr} {n c : Nat} {T : List Int} (b : Int) (h : IntsZ w (.slice a n c) T) : Calls Try.prog 4 #[.slice a n c, .int .i64 b] w fun e w' => e = .returned (.bool true) ∧ Below w.heap.size w w' := by
  by_cases hn : n ≤ 300
  · by_cases hb0 : 0 ≤ b
    · by_cases hb1 : b ≤ 1000000
      · exact ot_small h hn hb0 hb1
      · clear h
        go_enter Try.func4, Try.ntmps4
        go_wp2
        go_ret
        exact ⟨rfl, Below.refl _ _⟩
    · clear h
      go_enter Try.func4, Try.ntmps4
      go_wp2
      go_ret
      exact ⟨rfl, Below.refl _ _⟩
  · clear h
    go_enter Try.func4, Try.ntmps4
    go_wp2
    go_ret
    exact ⟨rfl, Below.refl _ _⟩
end Go.Proofs.Ytonmghmalnbbbaa.Mk
