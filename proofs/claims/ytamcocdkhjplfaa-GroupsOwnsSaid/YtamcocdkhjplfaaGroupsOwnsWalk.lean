/-
  GroupsOwns: the walk of the law. Conditions: none.
-/
import Derived.Test.YtamcocdkhjplfaaHAwake
namespace Go.Proofs.Ytamcocdkhjplfaa.Gp
set_option linter.unusedVariables false
set_option linter.unusedSimpArgs false
open Go.RowKit

set_option maxRecDepth 20000 in
set_option maxHeartbeats 4000000 in
theorem owns_none {one of : Int} (parts : Int) (h : okC of 8 = false) (w : World) : Calls Try.prog 4 #[.int .i64 one, .int .i64 of, .int .i64 parts] w fun e w' => e = .returned (.bool true) ∧ Below w.heap.size w w' := by
  have h1 : (okI one 16 && okC of 8) = false := by rw [h, Bool.and_false]
  have h2 : (okC of 8 && okI one of) = false := by rw [h, Bool.false_and]
  have h3 : (okC of 8 && (okI one of && okC parts 16)) = false := by rw [h, Bool.false_and]
  have H := Lib.hid h
  have H1 := Lib.hid h1
  have H2 := Lib.hid h2
  have H3 := Lib.hid h3
  clear h h1 h2 h3
  go_enter Try.func4, Try.ntmps4
  go_wp2_with (first
    | (go_at_call 12; refine (owner_no H1.out _).mono ?_; rintro e w2 ⟨rfl, rfl⟩)
    | (go_at_call 13; refine (range_no H2.out _).mono ?_; rintro e w2 ⟨rfl, rfl⟩)
    | (go_at_call 14; refine (parts_no H3.out _).mono ?_; rintro e w2 ⟨rfl, rfl⟩)
    | (go_at_call 15; refine (sub_at H.out _).mono ?_; rintro e w2 ⟨rfl, rfl⟩)
    | (go_at_call 7; refine (awake_any _).mono ?_; rintro e w2 ⟨rfl, hb2⟩; have HB2 := Lib.hid hb2; clear hb2))
  go_ret
  exact ⟨rfl, HB2.out⟩
set_option maxRecDepth 20000 in
set_option maxHeartbeats 4000000 in
theorem owns_out {one : Int} {n : Nat} (parts : Int) (hn1 : 1 ≤ n) (hn : n ≤ 8) (hone : one < 0 ∨ 16 ≤ one) (w : World) : Calls Try.prog 4 #[.int .i64 one, .int .i64 n, .int .i64 parts] w fun e w' => e = .returned (.bool true) ∧ Below w.heap.size w w' := by
  have h : okC n 8 = true := by unfold okC; simp; omega
  have h1 : (okI one 16 && okC n 8) = false := by unfold okI; simp; omega
  have h2 : (okC n 8 && okI one n) = false := by unfold okI; simp; omega
  have h3 : (okC n 8 && (okI one n && okC parts 16)) = false := by unfold okI; simp; omega
  have H := Lib.hid h
  have H1 := Lib.hid h1
  have H2 := Lib.hid h2
  have H3 := Lib.hid h3
  clear h h1 h2 h3
  rcases hone with ho | ho
  all_goals
    go_enter Try.func4, Try.ntmps4
    go_wp2_with (first
      | (go_at_call 12; refine (owner_no H1.out _).mono ?_; rintro e w2 ⟨rfl, rfl⟩)
      | (go_at_call 13; refine (range_no H2.out _).mono ?_; rintro e w2 ⟨rfl, rfl⟩)
      | (go_at_call 14; refine (parts_no H3.out _).mono ?_; rintro e w2 ⟨rfl, rfl⟩)
      | (go_at_call 15; refine (sub_at H.out _).mono ?_; rintro e w2 ⟨rfl, rfl⟩)
      | (go_at_call 7; refine (awake_any _).mono ?_; rintro e w2 ⟨rfl, hb2⟩; have HB2 := Lib.hid hb2; clear hb2))
    go_ret
    exact ⟨rfl, HB2.out⟩
set_option maxRecDepth 20000 in
set_option maxHeartbeats 4000000 in
theorem owns_beyond {g n : Nat} (parts : Int) (hn1 : 1 ≤ n) (hn : n ≤ 8) (hg : g < 16) (hng : n ≤ g) (w : World) : Calls Try.prog 4 #[.int .i64 g, .int .i64 n, .int .i64 parts] w fun e w' => e = .returned (.bool true) ∧ Below w.heap.size w w' := by
  have h : okC n 8 = true := by unfold okC; simp; omega
  have h2 : (okC n 8 && okI g n) = false := by unfold okI; simp; omega
  have h3 : (okC n 8 && (okI g n && okC parts 16)) = false := by unfold okI; simp; omega
  have H := Lib.hid h
  have H2 := Lib.hid h2
  have H3 := Lib.hid h3
  clear h h2 h3
  go_enter Try.func4, Try.ntmps4
  go_wp2_with (first
    | (go_at_call 12; refine (owner_ok hg hn1 hn _).mono ?_; rintro e w2 ⟨rfl, rfl⟩)
    | (go_at_call 13; refine (range_no H2.out _).mono ?_; rintro e w2 ⟨rfl, rfl⟩)
    | (go_at_call 14; refine (parts_no H3.out _).mono ?_; rintro e w2 ⟨rfl, rfl⟩)
    | (go_at_call 15; refine (sub_at H.out _).mono ?_; rintro e w2 ⟨rfl, rfl⟩)
    | (go_at_call 16; refine (rowner_at hg hn _).mono ?_; rintro e w2 ⟨rfl, rfl⟩)
    | (go_at_call 7; refine (awake_any _).mono ?_; rintro e w2 ⟨rfl, hb2⟩; have HB2 := Lib.hid hb2; clear hb2))
  go_ret
  exact ⟨rfl, HB2.out⟩
set_option maxRecDepth 20000 in
set_option maxHeartbeats 4000000 in
theorem owns_part {k n : Nat} {parts : Int} (hn : n ≤ 8) (hk : k < n) (hp : parts < 1 ∨ 16 < parts) (w : World) : Calls Try.prog 4 #[.int .i64 k, .int .i64 n, .int .i64 parts] w fun e w' => e = .returned (.bool true) ∧ Below w.heap.size w w' := by
  have hg : k < 16 := by omega
  have hn1 : 1 ≤ n := by omega
  have h : okC n 8 = true := by unfold okC; simp; omega
  have h3 : (okC n 8 && (okI k n && okC parts 16)) = false := by unfold okC; simp; omega
  obtain ⟨E0, E1, E2⟩ := goods_ends hn hk
  obtain ⟨L, hL⟩ : ∃ L, goods k n 16 = L := ⟨_, rfl⟩
  rw [hL] at E0 E1 E2
  obtain ⟨p, hpl⟩ : ∃ p, L.length = p + 1 := ⟨L.length - 1, by omega⟩
  rw [hpl, Nat.add_sub_cancel] at E2
  obtain ⟨x, hx, hx1⟩ := Option.map_eq_some_iff.1 E2
  obtain ⟨hp0, e0⟩ := List.getElem?_eq_some_iff.1 E0
  obtain ⟨hp1, e1⟩ := List.getElem?_eq_some_iff.1 hx
  have hlo := (lo_facts hn hk)
  obtain ⟨a, ha⟩ : ∃ a, lo k n = a := ⟨_, rfl⟩
  obtain ⟨z, hz⟩ : ∃ z, lo (k + 1) n = z := ⟨_, rfl⟩
  rw [ha] at e0 hlo
  rw [hz] at hx1 hlo
  subst hx1
  have H := Lib.hid h
  have H3 := Lib.hid h3
  have HLL := Lib.hid hL
  have HA := Lib.hid ha
  have HZ := Lib.hid hz
  have HP := Lib.hid hpl
  have HE0 := Lib.hid e0
  have HE1 := Lib.hid e1
  have hpb : p ≤ 16 := by
    have := List.length_filter_le (fun g => ow g n == k) (List.range 16)
    rw [List.length_range] at this
    have h2 : L.length ≤ 16 := by rw [← hL]; exact this
    omega
  clear h h3 hL ha hz E0 E1 E2 hx hpl e0 e1
  rcases hp with hp | hp
  all_goals
    go_enter Try.func4, Try.ntmps4
    go_upto_region 13 with (first
      | (go_at_call 12; refine (owner_ok hg hn1 hn _).mono ?_; rintro e w2 ⟨rfl, rfl⟩)
      | (go_at_call 13; refine (range_ok hn hk _).mono ?_; rw [HA.out, HZ.out]; rintro e w2 ⟨rfl, hb2⟩; have HB2 := Lib.hid hb2; clear hb2)
      | (go_at_call 14; refine (parts_no H3.out _).mono ?_; rintro e w2 ⟨rfl, rfl⟩)
      | (go_at_call 15; refine (sub_at H.out _).mono ?_; rintro e w2 ⟨rfl, rfl⟩)
      | (go_at_call 16; refine (rowner_at hg hn _).mono ?_; rintro e w2 ⟨rfl, rfl⟩)
      | (go_at_call 17; refine (owned_at hn HLL.out _).mono ?_; rintro e w4 ⟨v4, rfl, hi4, hb4⟩; obtain ⟨a4, c4, rfl⟩ := hi4.val; have HI4 := Lib.hid hi4; have HB4 := Lib.hid (HB2.out.trans (hb4.mono HB2.out.size)); clear hi4 hb4))
    rw [HP.out]
    obtain ⟨b, o, rfl, hbl, y0⟩ := IntsAt.cell (HP.out ▸ HI4.out) hp0
    obtain ⟨b', o', e', -, y1⟩ := IntsAt.cell (HP.out ▸ HI4.out) hp1
    injection e' with e'
    injection e' with e1 e2
    subst e1 e2
    rw [HE0.out, Nat.add_zero] at y0
    rw [HE1.out] at y1
    go_wp2_with (go_at_call 7; refine (awake_any _).mono ?_; rintro e w2 ⟨rfl, hb2⟩; have HB5 := Lib.hid (HB4.out.trans (hb2.mono HB4.out.size)); clear hb2)
    go_ret
    exact ⟨rfl, HB5.out⟩
set_option maxRecDepth 20000 in
set_option maxHeartbeats 4000000 in
theorem owns_all {k n m : Nat} (hn : n ≤ 8) (hk : k < n) (hm1 : 1 ≤ m) (hm : m ≤ 16) (w : World) : Calls Try.prog 4 #[.int .i64 k, .int .i64 n, .int .i64 m] w fun e w' => e = .returned (.bool true) ∧ Below w.heap.size w w' := by
  have hg : k < 16 := by omega
  have hn1 : 1 ≤ n := by omega
  have h : okC n 8 = true := by unfold okC; simp; omega
  obtain ⟨E0, E1, E2⟩ := goods_ends hn hk
  obtain ⟨L, hL⟩ : ∃ L, goods k n 16 = L := ⟨_, rfl⟩
  rw [hL] at E0 E1 E2
  obtain ⟨p, hpl⟩ : ∃ p, L.length = p + 1 := ⟨L.length - 1, by omega⟩
  rw [hpl, Nat.add_sub_cancel] at E2
  obtain ⟨x, hx, hx1⟩ := Option.map_eq_some_iff.1 E2
  obtain ⟨hp0, e0⟩ := List.getElem?_eq_some_iff.1 E0
  obtain ⟨hp1, e1⟩ := List.getElem?_eq_some_iff.1 hx
  have hlo := (lo_facts hn hk)
  obtain ⟨a, ha⟩ : ∃ a, lo k n = a := ⟨_, rfl⟩
  obtain ⟨z, hz⟩ : ∃ z, lo (k + 1) n = z := ⟨_, rfl⟩
  rw [ha] at e0 hlo
  rw [hz] at hx1 hlo
  subst hx1
  have H := Lib.hid h
  have HLL := Lib.hid hL
  have HA := Lib.hid ha
  have HZ := Lib.hid hz
  have HP := Lib.hid hpl
  have HE0 := Lib.hid e0
  have HE1 := Lib.hid e1
  have hpb : p ≤ 16 := by
    have := List.length_filter_le (fun g => ow g n == k) (List.range 16)
    rw [List.length_range] at this
    have h2 : L.length ≤ 16 := by rw [← hL]; exact this
    omega
  clear h hL ha hz E0 E1 E2 hx hpl e0 e1
  obtain ⟨M, hM⟩ : ∃ M, prts k n m = M := ⟨_, rfl⟩
  obtain ⟨c, hc⟩ : ∃ c, M.length = c := ⟨_, rfl⟩
  have HM := Lib.hid hM
  have HC := Lib.hid hc
  have hcb : c ≤ 16 := by
    have := prts_len k n m
    rw [hM, hc] at this
    omega
  clear hM hc
  have e0 := inebf (show (c : Int) = (c : Int) from rfl)
  go_enter Try.func4, Try.ntmps4
  go_upto_region 13 with (first
    | (go_at_call 12; refine (owner_ok hg hn1 hn _).mono ?_; rintro e w2 ⟨rfl, rfl⟩)
    | (go_at_call 13; refine (range_ok hn hk _).mono ?_; rw [HA.out, HZ.out]; rintro e w2 ⟨rfl, hb2⟩; have HB2 := Lib.hid hb2; clear hb2)
    | (go_at_call 14; refine (parts_ok hn hk hm1 hm HM.out _).mono ?_; rintro e w3 ⟨v3, rfl, hi3, hb3⟩; obtain ⟨a3, c3, rfl⟩ := hi3.val; have HI3 := Lib.hid hi3; have HB3 := Lib.hid (HB2.out.trans (hb3.mono HB2.out.size)); clear hi3 hb3)
    | (go_at_call 15; refine (sub_at H.out _).mono ?_; rintro e w2 ⟨rfl, rfl⟩)
    | (go_at_call 16; refine (rowner_at hg hn _).mono ?_; rintro e w2 ⟨rfl, rfl⟩)
    | (go_at_call 17; refine (owned_at hn HLL.out _).mono ?_; rintro e w4 ⟨v4, rfl, hi4, hb4⟩; obtain ⟨a4, c4, rfl⟩ := hi4.val; have HI4 := Lib.hid hi4; have HJ4 := Lib.hid (HI3.out.grow hb4); have HB4 := Lib.hid (HB3.out.trans (hb4.mono HB3.out.size)); clear hi4 hb4))
  clear HB2 HB3 HI3
  rw [HP.out, HC.out]
  obtain ⟨b, o, rfl, hbl, y0⟩ := IntsAt.cell (HP.out ▸ HI4.out) hp0
  obtain ⟨b', o', e', -, y1⟩ := IntsAt.cell (HP.out ▸ HI4.out) hp1
  injection e' with e'
  injection e' with e1 e2
  subst e1 e2
  rw [HE0.out, Nat.add_zero] at y0
  rw [HE1.out] at y1
  obtain ⟨-, k1, k2, k3⟩ := HJ4.out.len
  rw [HC.out] at k1
  unfold maxLen at k2 k3
  go_upto_region 20 with (go_at_call 18; refine (rparts_at hn1 hn hm HM.out _).mono ?_; rintro e w5 ⟨v5, rfl, hi5, hb5⟩; obtain ⟨a5, c5, rfl⟩ := hi5.val; rw [HC.out]; have HI5 := Lib.hid hi5; have HJ5 := Lib.hid (HJ4.out.grow hb5); have HB5 := Lib.hid (HB4.out.trans (hb5.mono HB4.out.size)); clear hi5 hb5)
  obtain ⟨-, k4, k5, k6⟩ := HI5.out.len
  rw [HC.out] at k4
  unfold maxLen at k5 k6
  clear y0 y1 HI4 HJ4 HB4 hbl
  go_wp2
  go_loopw [17] (fun z wr => ∃ i : Nat, i ≤ c ∧ z = .int .i64 i ∧ Hid (Below w.heap.size w wr) ∧ Hid (Below w5.heap.size w5 wr)) (fun z _ => c - (intOf z).toNat)
  case atStart => exact ⟨0, Nat.zero_le _, rfl, HB5, Lib.hid (Below.refl _ _)⟩
  case round =>
    obtain ⟨i, hi, rfl, hb, hb5⟩ := hrel
    by_cases hlt : i < c
    · have hil : i < M.length := by rw [HC.out]; exact hlt
      obtain ⟨b1, o1, rfl, hbl1, y0⟩ := IntsAt.cell (HC.out ▸ HJ5.out.grow hb5.out) hil
      obtain ⟨b2, o2, rfl, hbl2, z0⟩ := IntsAt.cell (HC.out ▸ HI5.out.grow hb5.out) hil
      obtain ⟨q, hq⟩ : ∃ q, M[i] = q := ⟨_, rfl⟩
      rw [hq] at y0 z0
      have g0 : (0 : Int) ≤ (i : Int) := by omega
      have g1 : (i : Int) < (c : Int) := by omega
      have e1 : ((q : Int) != (q : Int)) = false := inebf rfl
      clear hq hil
      go_wp2
      go_region_held3 (fun X => X.cell? ⟨b1, o1 + i, none⟩ = some (.int .i64 (q : Int)) ∧ X.cell? ⟨b2, o2 + i, none⟩ = some (.int .i64 (q : Int))) (exact ⟨y0, z0⟩) (fail)
      all_goals go_wp2
      all_goals go_roundw
      case rel => exact ⟨i + 1, by omega, by go_num, Lib.hid (hb.out.trans (((Below.refl _ _).drew).mono hb.out.size)), Lib.hid (hb5.out.trans (((Below.refl _ _).drew).mono hb5.out.size))⟩
      case measure => simp [intOf]; omega
    · go_wp2_with (go_at_call 7; refine (awake_any _).mono ?_; rintro e w6 ⟨rfl, hb6⟩; have HB6 := Lib.hid (hb.out.trans (hb6.mono hb.out.size)); clear hb6)
      go_ret
      exact ⟨rfl, HB6.out⟩
theorem groupsOwns_walk (one of parts : Int) (w : World) : Calls Try.prog 4 #[.int .i64 one, .int .i64 of, .int .i64 parts] w fun e w' => e = .returned (.bool true) ∧ Below w.heap.size w w' := by
  cases h : okC of 8 with
  | false => exact owns_none parts h w
  | true =>
    unfold okC at h
    simp only [Bool.and_eq_true, decide_eq_true_eq] at h
    obtain ⟨n, rfl⟩ := Int.eq_ofNat_of_zero_le (show 0 ≤ of by omega)
    by_cases h1 : one < 0 ∨ 16 ≤ one
    · exact owns_out parts (by omega) (by omega) h1 w
    · obtain ⟨k, rfl⟩ := Int.eq_ofNat_of_zero_le (show 0 ≤ one by omega)
      by_cases h2 : k < n
      · by_cases h3 : parts < 1 ∨ 16 < parts
        · exact owns_part (by omega) h2 h3 w
        · obtain ⟨m, rfl⟩ := Int.eq_ofNat_of_zero_le (show 0 ≤ parts by omega)
          exact owns_all (by omega) h2 (by omega) (by omega) w
      · exact owns_beyond parts (by omega) (by omega) (by omega) (by omega) w
end Go.Proofs.Ytamcocdkhjplfaa.Gp
