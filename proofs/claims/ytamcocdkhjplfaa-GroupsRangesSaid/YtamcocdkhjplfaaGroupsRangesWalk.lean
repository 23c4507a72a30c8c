/-
  GroupsRanges: the walk of the law. Conditions: none.
-/
import Derived.Test.YtamcocdkhjplfaaHAwake
import Derived.Test.YtamcocdkhjplfaaHSeen
namespace Go.Proofs.Ytamcocdkhjplfaa.Gp
set_option linter.unusedVariables false
set_option linter.unusedSimpArgs false
open Go.RowKit

set_option maxRecDepth 20000 in
set_option maxHeartbeats 4000000 in
theorem rg_none {k r m : Int} (h : okC k 8 = false ∨ okC r 8 = false ∨ m < 1 ∨ 16 < m) (w : World) : Calls Try.prog 5 #[.int .i64 k, .int .i64 r, .int .i64 m] w fun e w' => e = .returned (.bool true) ∧ Below w.heap.size w w' := by
  obtain ⟨b1, hc⟩ : ∃ b, okC k 8 = b := ⟨_, rfl⟩
  obtain ⟨b2, hi⟩ : ∃ b, okC r 8 = b := ⟨_, rfl⟩
  rw [hc, hi] at h
  cases b1 with
  | false =>
    clear h hi
    go_enter Try.func5, Try.ntmps5
    go_wp2_with (go_at_call 15; with_reducible refine (sub_at hc _).mono ?_; rintro e w2 ⟨rfl, rfl⟩)
    go_ret
    exact ⟨rfl, Below.refl _ _⟩
  | true =>
    cases b2 with
    | false =>
      clear h
      go_enter Try.func5, Try.ntmps5
      go_wp2_with (first
        | (go_at_call 15; with_reducible refine (sub_at hc _).mono ?_; rintro e w2 ⟨rfl, rfl⟩; clear hc)
        | (go_at_call 15; with_reducible refine (sub_at hi _).mono ?_; rintro e w2 ⟨rfl, rfl⟩))
      go_ret
      exact ⟨rfl, Below.refl _ _⟩
    | true =>
      have h : m < 1 ∨ 16 < m := by simpa using h
      rcases h with h | h
      all_goals
        go_enter Try.func5, Try.ntmps5
        go_wp2_with (first
          | (go_at_call 15; with_reducible refine (sub_at hc _).mono ?_; rintro e w2 ⟨rfl, rfl⟩; clear hc)
          | (go_at_call 15; with_reducible refine (sub_at hi _).mono ?_; rintro e w2 ⟨rfl, rfl⟩))
        go_ret
        exact ⟨rfl, Below.refl _ _⟩
theorem owner_is {g n k : Nat} (hg : g < 16) (h1 : 1 ≤ n) (hn : n ≤ 8) (h : ow g n = k) (w : World) : Calls Try.prog 12 #[.int .i64 g, .int .i64 n] w fun e w' => e = .returned (.tuple #[.int .i64 k, .int .i64 0]) ∧ w = w' := by
  have := owner_ok hg h1 hn w
  rwa [h] at this
theorem run_min_nat (a b c : Nat) (hbc : c ≤ b) (ts : Array TypeId) (t : TypeId) (W : World) : (Builtin.min_ ts t #[.int .i64 (a : Int), .int .i64 ((b : Int) - (c : Int))]).run Try.prog W = .ok (.int .i64 ((min a (b - c) : Nat) : Int)) W := by
  rw [run_min_int2]
  congr 2
  split <;> omega
theorem run_max_nat (a b c : Nat) (hbc : c ≤ b) (ts : Array TypeId) (t : TypeId) (W : World) : (Builtin.max_ ts t #[.int .i64 (a : Int), .int .i64 ((b : Int) - (c : Int))]).run Try.prog W = .ok (.int .i64 ((max a (b - c) : Nat) : Int)) W := by
  rw [run_max_int2]
  congr 2
  split <;> omega
attribute [local go_sem ↓] run_min_nat run_max_nat
set_option maxRecDepth 20000 in
set_option maxHeartbeats 4000000 in
theorem rg_all {n r m : Nat} (hn1 : 1 ≤ n) (hn : n ≤ 8) (hr1 : 1 ≤ r) (hr : r ≤ 8) (hm1 : 1 ≤ m) (hm : m ≤ 16) (w : World) : Calls Try.prog 5 #[.int .i64 n, .int .i64 r, .int .i64 m] w fun e w' => e = .returned (.bool true) ∧ Below w.heap.size w w' := by
  have hc : okC n 8 = true := by unfold okC; simp; omega
  have hi : okC r 8 = true := by unfold okC; simp; omega
  go_enter Try.func5, Try.ntmps5
  go_wp2_with (first
    | (go_at_call 15; with_reducible refine (sub_at hc _).mono ?_; rintro e w2 ⟨rfl, rfl⟩; clear hc)
    | (go_at_call 15; with_reducible refine (sub_at hi _).mono ?_; rintro e w2 ⟨rfl, rfl⟩))
  clear hi
  go_loopw [7, 8, 9, 10] (fun x1 x2 x3 z wr => ∃ (k a l t : Nat), k ≤ n ∧ l ≤ 16 ∧ t ≤ 16 ∧ a ≤ 16 ∧ x1 = .int .i64 a ∧ x2 = .int .i64 l ∧ x3 = .int .i64 t ∧ z = .int .i64 k ∧ Hid (a = lo k n) ∧ Hid (l = least n k) ∧ Hid (t = most n k) ∧ Hid (Below w.heap.size w wr)) (fun _ _ _ z _ => n - (intOf z).toNat)
  case atStart => exact ⟨0, 0, 16, 0, Nat.zero_le _, Nat.le_refl _, Nat.zero_le _, Nat.zero_le _, rfl, rfl, rfl, rfl, Lib.hid (lo_zero hn1 hn).symm, Lib.hid rfl, Lib.hid rfl, Lib.hid (Below.refl _ _)⟩
  case round =>
    obtain ⟨k, a, l, t, hk, hl, ht, ha, rfl, rfl, rfl, rfl, HA, HL, HT, hb⟩ := hrel
    by_cases hlt : k < n
    · obtain ⟨z, hz⟩ : ∃ z, lo (k + 1) n = z := ⟨_, rfl⟩
      have hlo := lo_facts hn hlt
      rw [← HA.out, hz] at hlo
      obtain ⟨haz, hz16⟩ := hlo
      have hza : ¬ z ≤ a := by omega
      have HZ := Lib.hid hz
      have hmn := run_min_nat l z a (by omega)
      have hmx := run_max_nat t z a (by omega)
      have HL2 : Hid (min l (z - a) = least n (k + 1)) := Lib.hid (by rw [least, ← HL.out, ← HA.out, hz])
      have HT2 : Hid (max t (z - a) = most n (k + 1)) := Lib.hid (by rw [most, ← HT.out, ← HA.out, hz])
      clear hz HL HT
      go_wp2_with (go_at_call 13; refine (range_ok hn hlt _).mono ?_; rw [HZ.out, ← HA.out]; rintro e w2 ⟨rfl, hb2⟩; have HB2 := Lib.hid (hb.out.trans (hb2.mono hb.out.size)); clear hb2)
      clear hmn hmx
      go_loopw [14] (fun x wq => ∃ g : Nat, a ≤ g ∧ g ≤ z ∧ x = .int .i64 g ∧ Hid (wq = w2)) (fun x _ => z - (intOf x).toNat)
      case atStart => exact ⟨a, Nat.le_refl _, Nat.le_of_lt haz, rfl, Lib.hid rfl⟩
      case round =>
        obtain ⟨g, hag, hgz, rfl, hw2⟩ := hrel
        obtain rfl := hw2.out
        by_cases hg : g < z
        · have how := ow_range hn hlt (by rw [← HA.out]; exact hag) (by rw [HZ.out]; exact hg)
          have HO := Lib.hid how
          have e0 := inebf (show (k : Int) = (k : Int) from rfl)
          clear how
          go_wp2_with (go_at_call 12; refine (owner_is (show g < 16 by omega) hn1 hn HO.out _).mono ?_; rintro e w3 ⟨rfl, rfl⟩)
          go_roundw
          case rel => exact ⟨g + 1, by omega, by omega, by go_num, hw2⟩
          case measure => simp [intOf]; omega
        · go_wp2
          go_roundw
          case rel => exact ⟨k + 1, z, min l (z - a), max t (z - a), by omega, by omega, by omega, by omega, rfl, rfl, rfl, by go_num, Lib.hid HZ.out.symm, HL2, HT2, HB2⟩
          case measure => simp [intOf]; omega
    · obtain rfl : k = n := by omega
      have hsp := spread (n := k) hn
      rw [← HL.out, ← HT.out] at hsp
      obtain ⟨hsp1, -, -⟩ := hsp
      have HA16 : Hid (a = 16) := Lib.hid (by rw [HA.out]; exact lo_all hn1 hn)
      clear HA HL HT hk hlt ha
      go_wp2
      obtain ⟨W1, hW1⟩ : ∃ W1, wr.alloc (.cells #[.int .i64 0, .int .i64 0, .int .i64 0, .int .i64 0, .int .i64 0, .int .i64 0, .int .i64 0, .int .i64 0, .int .i64 0, .int .i64 0, .int .i64 0, .int .i64 0, .int .i64 0, .int .i64 0, .int .i64 0, .int .i64 0] 40) = W1 := ⟨_, rfl⟩
      obtain ⟨B, hB⟩ : ∃ B, wr.heap.size = B := ⟨_, rfl⟩
      have hs0 : W1.heap[B]? = some (.cells (sc (cnt r m 0)) 40 (0, 0)) := by rw [← hW1, ← hB]; exact heap_alloc_new wr _
      have HS0 := Lib.hid hs0
      have hbw : Below w.heap.size w W1 := by rw [← hW1]; exact hb.out.trans (((Below.refl _ _).alloc (Nat.le_refl _) _).mono hb.out.size)
      have HB1 := Lib.hid hbw
      have hwB : w.heap.size ≤ B := by rw [← hB]; exact hb.out.size
      rw [hW1, hB]
      clear hs0 hbw hW1 hB hb
      go_loopw [18] (fun x wr => ∃ i : Nat, i ≤ r ∧ x = .int .i64 i ∧ Hid (wr.heap[B]? = some (.cells (sc (cnt r m i)) 40 (0, 0))) ∧ Hid (Below w.heap.size w wr)) (fun x _ => r - (intOf x).toNat)
      case atStart => exact ⟨0, Nat.zero_le _, rfl, HS0, HB1⟩
      case round =>
        obtain ⟨i, hi, rfl, HS, hb⟩ := hrel
        by_cases hlt : i < r
        · obtain ⟨L, hL⟩ : ∃ L, prts i r m = L := ⟨_, rfl⟩
          obtain ⟨c, hcl⟩ : ∃ c, L.length = c := ⟨_, rfl⟩
          have hcb : c ≤ 16 := by
            have := prts_len i r m
            rw [hL, hcl] at this
            omega
          have HL := Lib.hid hL
          have HC := Lib.hid hcl
          have hBr := lt_of_heap HS.out
          clear hL hcl
          go_wp2_with (go_at_call 14; refine (parts_own hr hlt hm1 hm HL.out _).mono ?_; rintro e w3 ⟨v3, rfl, ho3, hb3⟩; obtain ⟨a3, c3, rfl⟩ := (ints_row ho3).val; rw [HC.out]; have HO3 := Lib.hid ho3; have HS3 := Lib.hid ((hb3.block B hBr).trans HS.out); have HB3 := Lib.hid (hb.out.trans (hb3.mono hb.out.size)); have hB3 : B < w3.heap.size := Nat.lt_of_lt_of_le hBr hb3.size; clear hb3 ho3)
          obtain ⟨D, hD⟩ : ∃ D, wr.heap.size = D := ⟨_, rfl⟩
          rw [hD] at HO3 hBr
          have HO4 : Hid (w3.ownsRow D 3 1 (.slice a3 c c3) c (ics L)) := Lib.hid (by have := HO3.out; rwa [HC.out] at this)
          obtain ⟨-, k1, k2, k3⟩ := (ints_row HO3.out).len
          rw [HC.out] at k1
          unfold maxLen at k2 k3
          have HS4 : Hid (w3.heap[B]? = some (.cells (sc (fun p => cnt r m i p + (L.take 0).count p)) 40 (0, 0))) := HS3
          clear hD HO3 HS3 HS hb k2
          go_loopw [21] (fun x wq => ∃ j : Nat, j ≤ c ∧ x = .int .i64 j ∧ Hid (wq.heap[B]? = some (.cells (sc (fun p => cnt r m i p + (L.take j).count p)) 40 (0, 0))) ∧ Hid (wq.ownsRow D 3 1 (.slice a3 c c3) c (ics L)) ∧ Hid (Below w.heap.size w wq)) (fun x _ => c - (intOf x).toNat)
          case atStart => exact ⟨0, Nat.zero_le _, rfl, HS4, HO4, HB3⟩
          case round =>
            rename World => wq
            obtain ⟨j, hj, rfl, HS, HO, hb⟩ := hrel
            clear HS4 HO4 HB3
            by_cases hjc : j < c
            · have hjl : j < L.length := by rw [HC.out]; exact hjc
              obtain ⟨q, hq⟩ : ∃ q, L[j] = q := ⟨_, rfl⟩
              have hqm : q < m := prts_lt (i := i) (r := r) (j := j) (by rw [HL.out, List.getElem?_eq_getElem hjl, hq])
              have HI : Hid (IntsAt wq (.slice a3 c c3) L) := Lib.hid (by have := HO.out; rw [← HC.out] at this ⊢; exact ints_row this)
              obtain ⟨b, o, ha3, hbl, y0⟩ := IntsAt.cell HI.out hjl
              subst ha3
              rw [hq] at y0
              have hBw := lt_of_heap HS.out
              have hcell : wq.cell? ⟨B, q, none⟩ = some (.int .i64 ((cnt r m i q + (L.take j).count q : Nat) : Int)) := by
                rw [cell_of_heap HS.out]
                exact sc_get _ (by omega)
              have hfr : wq.frozen? ⟨B, q, none⟩ = false := free_of_heap HS.out q
              obtain ⟨v, hv⟩ : ∃ v, cnt r m i q + (L.take j).count q = v := ⟨_, rfl⟩
              have hvb : v ≤ 256 := by
                have h1 := cnt_le r m q i
                have h2 := List.count_le_length (a := q) (l := L.take j)
                rw [List.length_take] at h2
                have h3 : m * i ≤ 16 * 8 := Nat.mul_le_mul hm (by omega)
                omega
              rw [hv] at hcell
              have HS5 : Hid (∀ X : World, X.heap[B]? = wq.heap[B]? → (X.setCell ⟨B, q, none⟩ (.int .i64 ((v : Int) + 1))).heap[B]? = some (.cells (sc (fun p => cnt r m i p + (L.take (j + 1)).count p)) 40 (0, 0))) := Lib.hid (fun X hX => by
                rw [heap_setCell_same X B q _ _ _ (hX.trans HS.out)]
                have e : ((v : Int) + 1) = (((fun p => cnt r m i p + (L.take (j + 1)).count p) q : Nat) : Int) := by
                  show _ = ((cnt r m i q + (L.take (j + 1)).count q : Nat) : Int)
                  rw [count_next hjl hq, if_pos rfl, ← hv]
                  omega
                rw [e, sc_set _ (by omega) (fun p => cnt r m i p + (L.take (j + 1)).count p) (fun p hp => by
                  show cnt r m i p + (L.take (j + 1)).count p = _
                  rw [count_next hjl hq, if_neg (fun e => hp e.symm)]
                  rfl)])
              have HSJ : Hid (∀ j', j = j' + 1 → ∃ q0, L[j']? = some q0 ∧ q0 < q) := Lib.hid (fun j' e => by
                subst e
                have h1 : j' < L.length := by omega
                refine ⟨L[j'], List.getElem?_eq_getElem h1, ?_⟩
                rw [← hq]
                have h2 := prts_up (i := i) (r := r) (m := m) (j := j') (by rw [HL.out]; exact hjl)
                simpa only [HL.out] using h2)
              clear hq hv
              cases j with
              | zero =>
                rw [Nat.add_zero] at y0
                have g1 : (0 : Int) < (c : Int) := by omega
                have d0 : decide ((q : Int) < 0) = false := decide_eq_false (by omega)
                have d1 : ¬ m ≤ q := by omega
                go_wp2
                go_quiet (fail)
                go_wp2
                have HR1 : Hid (((wq.drewN nq).setCell ⟨B, q, none⟩ (.int .i64 ((v : Int) + 1))).ownsRow D 3 1 (.slice (some ⟨b, o, none⟩) c c3) c (ics L)) := Lib.hid (ownsRow_setCell_other (ownsRow_below HO.out (drewN_below wq nq)) (fun e => absurd (HO.out.lt B e).1 (by omega)) _)
                go_roundw
                case rel => exact ⟨0 + 1, by omega, by go_num, Lib.hid (HS5.out (wq.drewN nq) rfl), HR1, Lib.hid ((hb.out.trans ((drewN_below wq nq).mono hb.out.size)).setCell (p := ⟨B, q, none⟩) hwB _)⟩
                case measure => simp [intOf]; omega
              | succ j =>
                obtain ⟨q0, hq0, hqq⟩ := HSJ.out j rfl
                obtain ⟨hjl0, hq0⟩ := List.getElem?_eq_some_iff.1 hq0
                obtain ⟨b', o', e', -, y1⟩ := IntsAt.cell HI.out hjl0
                injection e' with e'
                injection e' with e1 e2
                subst e1 e2
                rw [hq0] at y1
                have g0 : (0 : Int) ≤ (j : Int) + 1 := by omega
                have g1 : (j : Int) + 1 < (c : Int) := by omega
                have g2 : (j : Int) < (c : Int) := by omega
                have d0 : decide ((q : Int) < 0) = false := decide_eq_false (by omega)
                have d1 : ¬ m ≤ q := by omega
                have d2 : ¬ q ≤ q0 := by omega
                have d3 : decide ((0 : Int) < (j : Int) + 1) = true := decide_eq_true (by omega)
                clear hq0 hqq hjl0 hjl
                go_wp2
                go_quiet (fail)
                go_wp2
                have HR1 : Hid (((wq.drewN nq).setCell ⟨B, q, none⟩ (.int .i64 ((v : Int) + 1))).ownsRow D 3 1 (.slice (some ⟨b, o, none⟩) c c3) c (ics L)) := Lib.hid (ownsRow_setCell_other (ownsRow_below HO.out (drewN_below wq nq)) (fun e => absurd (HO.out.lt B e).1 (by omega)) _)
                go_roundw
                case rel => exact ⟨j + 1 + 1, by omega, by go_num, Lib.hid (HS5.out (wq.drewN nq) rfl), HR1, Lib.hid ((hb.out.trans ((drewN_below wq nq).mono hb.out.size)).setCell (p := ⟨B, q, none⟩) hwB _)⟩
                case measure => simp [intOf]; omega
            · have HN : Hid (wq.heap[B]? = some (.cells (sc (cnt r m (i + 1))) 40 (0, 0))) := Lib.hid (by
                have := HS.out
                rw [List.take_of_length_le (show L.length ≤ j by rw [HC.out]; omega)] at this
                rw [this]
                congr 3
                funext p
                show _ = cnt r m i p + (prts i r m).count p
                rw [HL.out])
              clear HS HO
              go_wp2
              go_roundw
              case rel => exact ⟨i + 1, by omega, by go_num, HN, hb⟩
              case measure => simp [intOf]; omega
        · obtain rfl : i = r := by omega
          have HCN : Hid (∀ p, p < m → wr.cell? ⟨B, p, none⟩ = some (.int .i64 1)) := Lib.hid (fun p hp => by
            rw [cell_of_heap HS.out, sc_get _ (by omega), cnt_all hr1 hr hm hp]
            rfl)
          have hsp : (t : Int) - (l : Int) ≤ 1 := by omega
          clear HS hlt
          go_wp2
          go_loopw [22] (fun x wq => ∃ p : Nat, p ≤ m ∧ x = .int .i64 p ∧ Hid (wq = wr)) (fun x _ => m - (intOf x).toNat)
          case atStart => exact ⟨0, Nat.zero_le _, rfl, Lib.hid rfl⟩
          case round =>
            obtain ⟨p, hp, rfl, hw⟩ := hrel
            obtain rfl := hw.out
            by_cases hpm : p < m
            · have c1 := HCN.out p hpm
              have g0 : (0 : Int) ≤ (p : Int) := by omega
              have g1 : (p : Int) < 16 := by omega
              go_wp2
              go_roundw
              case rel => exact ⟨p + 1, by omega, by go_num, by first | exact hw | exact Lib.hid trivial⟩
              case measure => simp [intOf]; omega
            · have hq : ((a : Int) == 16) = true := ibeq (by have := HA16.out; omega)
              go_wp2_with (go_at_call 7; refine (awake_any _).mono ?_; rintro e w6 ⟨rfl, hb6⟩; have HB6 := Lib.hid (hb.out.trans (hb6.mono hb.out.size)); clear hb6)
              go_ret
              exact ⟨rfl, HB6.out⟩
theorem groupsRanges_walk (k r m : Int) (w : World) : Calls Try.prog 5 #[.int .i64 k, .int .i64 r, .int .i64 m] w fun e w' => e = .returned (.bool true) ∧ Below w.heap.size w w' := by
  by_cases h : okC k 8 = false ∨ okC r 8 = false ∨ m < 1 ∨ 16 < m
  · exact rg_none h w
  · simp only [not_or, Bool.not_eq_false] at h
    obtain ⟨h1, h2, h3, h4⟩ := h
    unfold okC at h1 h2
    simp only [Bool.and_eq_true, decide_eq_true_eq] at h1 h2
    obtain ⟨k, rfl⟩ := Int.eq_ofNat_of_zero_le (show 0 ≤ k by omega)
    obtain ⟨r, rfl⟩ := Int.eq_ofNat_of_zero_le (show 0 ≤ r by omega)
    obtain ⟨m, rfl⟩ := Int.eq_ofNat_of_zero_le (show 0 ≤ m by omega)
    exact rg_all (by omega) (by omega) (by omega) (by omega) (by omega) (by omega) w
end Go.Proofs.Ytamcocdkhjplfaa.Gp
