/-
  GroupsMoves: the walk of the law. Conditions: none.
-/
import Derived.Test.YtamcocdkhjplfaaHAwake
namespace Go.Proofs.Ytamcocdkhjplfaa.Gp
set_option linter.unusedVariables false
set_option linter.unusedSimpArgs false
open Go.RowKit
attribute [local go_sem] run_tri

set_option maxRecDepth 20000 in
set_option maxHeartbeats 4000000 in
theorem mv_none {f t : Int} (h : (okC f 8 && okC t 8) = false) (w : World) : Calls Try.prog 6 #[.int .i64 f, .int .i64 t] w fun e w' => e = .returned (.bool true) ∧ Below w.heap.size w w' := by
  obtain ⟨b1, hc⟩ : ∃ b, okC f 8 = b := ⟨_, rfl⟩
  obtain ⟨b2, hi⟩ : ∃ b, okC t 8 = b := ⟨_, rfl⟩
  have H := Lib.hid h
  rw [hc, hi] at h
  cases b1 with
  | false =>
    clear h hi
    go_enter Try.func6, Try.ntmps6
    go_wp2_with (first
      | (go_at_call 19; refine (moves_no H.out _).mono ?_; rintro e w2 ⟨rfl, rfl⟩)
      | (go_at_call 15; with_reducible refine (sub_at hc _).mono ?_; rintro e w2 ⟨rfl, rfl⟩)
      | (go_at_call 7; refine (awake_any _).mono ?_; rintro e w2 ⟨rfl, hb2⟩; have HB2 := Lib.hid hb2; clear hb2))
    go_ret
    exact ⟨rfl, HB2.out⟩
  | true =>
    obtain rfl : b2 = false := by simpa using h
    clear h
    go_enter Try.func6, Try.ntmps6
    go_wp2_with (first
      | (go_at_call 19; refine (moves_no H.out _).mono ?_; rintro e w2 ⟨rfl, rfl⟩)
      | (go_at_call 15; with_reducible refine (sub_at hc _).mono ?_; rintro e w2 ⟨rfl, rfl⟩; clear hc)
      | (go_at_call 15; with_reducible refine (sub_at hi _).mono ?_; rintro e w2 ⟨rfl, rfl⟩)
      | (go_at_call 7; refine (awake_any _).mono ?_; rintro e w2 ⟨rfl, hb2⟩; have HB2 := Lib.hid hb2; clear hb2))
    go_ret
    exact ⟨rfl, HB2.out⟩
theorem movs_pre (f t g : Nat) : ∀ d, ∃ r, movs f t (g + d) = movs f t g ++ r
  | 0 => ⟨[], by simp⟩
  | d + 1 => by
    obtain ⟨r, hr⟩ := movs_pre f t g d
    rw [← Nat.add_assoc, movs_succ, hr]
    exact ⟨r ++ _, List.append_assoc _ _ _⟩
theorem movs_at {f t g : Nat} (hg : g < 16) (h : ¬ ow g f = ow g t) : (movs f t 16)[(movs f t g).length]? = some (row f t g) := by
  obtain ⟨r, hr⟩ := movs_pre f t (g + 1) (16 - (g + 1))
  rw [show g + 1 + (16 - (g + 1)) = 16 by omega, movs_succ f t g, if_neg h] at hr
  rw [hr, List.append_assoc, List.getElem?_append_right (Nat.le_refl _), Nat.sub_self]
  rfl
set_option maxRecDepth 20000 in
set_option maxHeartbeats 4000000 in
theorem mv_all {f t : Nat} (hf1 : 1 ≤ f) (hf : f ≤ 8) (ht1 : 1 ≤ t) (ht : t ≤ 8) (w : World) : Calls Try.prog 6 #[.int .i64 f, .int .i64 t] w fun e w' => e = .returned (.bool true) ∧ Below w.heap.size w w' := by
  have hc : okC f 8 = true := by unfold okC; simp; omega
  have hi : okC t 8 = true := by unfold okC; simp; omega
  obtain ⟨L, hL⟩ : ∃ L, movs f t 16 = L := ⟨_, rfl⟩
  obtain ⟨c, hcl⟩ : ∃ c, L.length = c := ⟨_, rfl⟩
  have hcb : c ≤ 16 := by
    have := movs_len f t 16
    rw [hL, hcl] at this
    exact this
  have HL := Lib.hid hL
  have HC := Lib.hid hcl
  clear hL hcl
  go_enter Try.func6, Try.ntmps6
  go_wp2_with (first
    | (go_at_call 19; refine (moves_ok hf1 hf ht1 ht HL.out _).mono ?_; rintro e w2 ⟨v2, rfl, hi2, hb2⟩; obtain ⟨a2, c2, rfl⟩ := hi2.val; rw [HC.out]; have HI2 := Lib.hid hi2; have HB2 := Lib.hid hb2; clear hi2 hb2)
    | (go_at_call 15; with_reducible refine (sub_at hc _).mono ?_; rintro e w2 ⟨rfl, rfl⟩; clear hc)
    | (go_at_call 15; with_reducible refine (sub_at hi _).mono ?_; rintro e w2 ⟨rfl, rfl⟩))
  clear hi
  obtain ⟨-, k1, k2, k3⟩ := HI2.out.len
  rw [HC.out] at k1
  unfold maxLen at k2 k3
  go_loop [7, 8] (fun y z => ∃ k g : Nat, g ≤ 16 ∧ k ≤ g ∧ y = .int .i64 k ∧ z = .int .i64 g ∧ Hid (k = (movs f t g).length)) (fun _ z => 16 - (intOf z).toNat)
  case atStart => exact ⟨0, 0, Nat.zero_le _, Nat.le_refl _, rfl, rfl, Lib.hid rfl⟩
  case round =>
    obtain ⟨k, g, hg, hkg, rfl, rfl, HK⟩ := hrel
    by_cases hlt : g < 16
    · by_cases how : ow g f = ow g t
      · have hq : (((ow g f : Nat) : Int) == ((ow g t : Nat) : Int)) = true := ibeq (by omega)
        have HN : Hid (k = (movs f t (g + 1)).length) := Lib.hid (by rw [movs_succ, if_pos how, List.append_nil]; exact HK.out)
        clear how HK
        go_wp2_with (first
          | (go_at_call 16; with_reducible refine (rowner_at hlt hf _).mono ?_; rintro e w3 ⟨rfl, rfl⟩)
          | (go_at_call 16; with_reducible refine (rowner_at hlt ht _).mono ?_; rintro e w3 ⟨rfl, rfl⟩))
        go_round
        case rel => exact ⟨k, g + 1, by omega, by omega, rfl, by go_num, HN⟩
        case measure => simp [intOf]; omega
      · have hq : (((ow g f : Nat) : Int) == ((ow g t : Nat) : Int)) = false := ibne (by omega)
        have hat := movs_at hlt how
        rw [HL.out, ← HK.out] at hat
        have HN : Hid (k + 1 = (movs f t (g + 1)).length) := Lib.hid (by rw [movs_succ, if_neg how, List.length_append, ← HK.out]; rfl)
        obtain ⟨hkl, hke⟩ := List.getElem?_eq_some_iff.1 hat
        have hkc : k < c := by rw [← HC.out]; exact hkl
        obtain ⟨b, o, rfl, hbl, z0, z1, z2⟩ := TrsAt.cells (HC.out ▸ HI2.out) hkl
        rw [hke] at z0 z1 z2
        replace z0 : w2.cell? ⟨b, o + k * 3, none⟩ = some (.int .i64 (g : Int)) := z0
        replace z1 : w2.cell? ⟨b, o + k * 3 + 1, none⟩ = some (.int .i64 (ow g f : Nat)) := z1
        replace z2 : w2.cell? ⟨b, o + k * 3 + 2, none⟩ = some (.int .i64 (ow g t : Nat)) := z2
        clear how HK hat hke hkl
        go_wp2_with (first
          | (go_at_call 16; with_reducible refine (rowner_at hlt hf _).mono ?_; rintro e w3 ⟨rfl, rfl⟩)
          | (go_at_call 16; with_reducible refine (rowner_at hlt ht _).mono ?_; rintro e w3 ⟨rfl, rfl⟩))
        go_round
        case rel => exact ⟨k + 1, g + 1, by omega, by omega, by go_num, by go_num, HN⟩
        case measure => simp [intOf]; omega
    · obtain rfl : k = c := by
        have := HK.out
        rw [show g = 16 by omega, HL.out, HC.out] at this
        exact this
      clear HK
      go_wp2_with (go_at_call 7; refine (awake_any _).mono ?_; rintro e w6 ⟨rfl, hb6⟩; have HB6 := Lib.hid (HB2.out.trans (hb6.mono HB2.out.size)); clear hb6)
      go_ret
      exact ⟨rfl, HB6.out⟩
theorem groupsMoves_walk (f t : Int) (w : World) : Calls Try.prog 6 #[.int .i64 f, .int .i64 t] w fun e w' => e = .returned (.bool true) ∧ Below w.heap.size w w' := by
  cases h : (okC f 8 && okC t 8) with
  | false => exact mv_none h w
  | true =>
    unfold okC at h
    simp only [Bool.and_eq_true, decide_eq_true_eq] at h
    obtain ⟨n, rfl⟩ := Int.eq_ofNat_of_zero_le (show 0 ≤ f by omega)
    obtain ⟨m, rfl⟩ := Int.eq_ofNat_of_zero_le (show 0 ≤ t by omega)
    exact mv_all (by omega) (by omega) (by omega) (by omega) w
end Go.Proofs.Ytamcocdkhjplfaa.Gp
