/-
  Parts, the program's and the document's. Conditions: as each theorem names them.
-/
import Derived.Test.YtamcocdkhjplfaaHSmall
namespace Go.Proofs.Ytamcocdkhjplfaa.Gp
set_option linter.unusedVariables false
set_option linter.unusedSimpArgs false
open Go.RowKit

set_option maxHeartbeats 400000 in
theorem parts_no {r n m : Int} (h : (okC n 8 && (okI r n && okC m 16)) = false) (w : World) : Calls Try.prog 14 #[.int .i64 r, .int .i64 n, .int .i64 m] w fun e w' => e = .returned (.tuple #[.slice none 0 0, .int .i64 1]) ∧ w = w' := by
  obtain ⟨b1, hc⟩ : ∃ b, okC n 8 = b := ⟨_, rfl⟩
  obtain ⟨b2, hi⟩ : ∃ b, okI r n = b := ⟨_, rfl⟩
  obtain ⟨b3, hp⟩ : ∃ b, okC m 16 = b := ⟨_, rfl⟩
  rw [hi, hc, hp] at h
  cases b1 with
  | false =>
    clear h hi hp
    go_enter Try.func14, Try.ntmps14
    go_wp2_with (go_at_call 21; with_reducible refine (isCount_at hc _).mono ?_; rintro e w2 ⟨rfl, rfl⟩)
    go_ret2
    exact ⟨rfl, rfl⟩
  | true =>
    cases b2 with
    | false =>
      clear h hp
      go_enter Try.func14, Try.ntmps14
      go_wp2_with (first
        | (go_at_call 21; with_reducible refine (isCount_at hc _).mono ?_; rintro e w2 ⟨rfl, rfl⟩)
        | (go_at_call 20; with_reducible refine (isIndex_at hi _).mono ?_; rintro e w2 ⟨rfl, rfl⟩))
      go_ret2
      exact ⟨rfl, rfl⟩
    | true =>
      obtain rfl : b3 = false := by simpa using h
      clear h
      go_enter Try.func14, Try.ntmps14
      go_wp2_with (first
        | (go_at_call 21; with_reducible refine (isCount_at hc _).mono ?_; rintro e w2 ⟨rfl, rfl⟩; clear hc)
        | (go_at_call 20; with_reducible refine (isIndex_at hi _).mono ?_; rintro e w2 ⟨rfl, rfl⟩)
        | (go_at_call 21; with_reducible refine (isCount_at hp _).mono ?_; rintro e w2 ⟨rfl, rfl⟩))
      go_ret2
      exact ⟨rfl, rfl⟩
theorem step_len {r n m j : Nat} (hn : 1 ≤ n) (hm : m ≤ 16) (h : ∀ i, i < j → r + i * n < m) : j ≤ 16 := by
  cases j with
  | zero => omega
  | succ j =>
    have h1 := h j (by omega)
    have h2 : j * 1 ≤ j * n := Nat.mul_le_mul_left j hn
    omega
set_option maxRecDepth 20000 in
set_option maxHeartbeats 4000000 in
theorem parts_own {r n m : Nat} (hn : n ≤ 8) (hr : r < n) (hm1 : 1 ≤ m) (hm : m ≤ 16) {L : List Nat} (hL : prts r n m = L) (w : World) : Calls Try.prog 14 #[.int .i64 r, .int .i64 n, .int .i64 m] w fun e w' => ∃ v, e = .returned (.tuple #[v, .int .i64 0]) ∧ w'.ownsRow w.heap.size 3 1 v L.length (ics L) ∧ Below w.heap.size w w' := by
  have hc : okC n 8 = true := by unfold okC; simp; omega
  have hi : okI r n = true := by unfold okI; simp; omega
  have hp : okC m 16 = true := by unfold okC; simp; omega
  have HL := Lib.hid hL
  clear hL
  obtain ⟨i0, hi0, hz0, hz1, hz2⟩ := info_parts info3
  go_enter Try.func14, Try.ntmps14
  go_wp2_with (first
    | (go_at_call 21; with_reducible refine (isCount_at hc _).mono ?_; rintro e w2 ⟨rfl, rfl⟩; clear hc)
    | (go_at_call 20; with_reducible refine (isIndex_at hi _).mono ?_; rintro e w2 ⟨rfl, rfl⟩)
    | (go_at_call 21; with_reducible refine (isCount_at hp _).mono ?_; rintro e w2 ⟨rfl, rfl⟩))
  clear hi hp
  go_loopw [8, 9] (fun y z wr => ∃ (j q : Nat) (acc : List Nat), q ≤ 24 ∧ acc.length ≤ 16 ∧ z = .int .i64 q ∧ Hid (q = r + j * n) ∧ Hid (∀ i, i < j → r + i * n < m) ∧ Hid (acc = stps r n j) ∧ Hid (wr.ownsRow w.heap.size 3 1 y acc.length (ics acc)) ∧ Hid (Below w.heap.size w wr)) (fun _ z _ => 24 - (intOf z).toNat)
  case atStart => exact ⟨0, r, [], by omega, Nat.zero_le _, rfl, Lib.hid (by omega), Lib.hid (fun i hi => by omega), Lib.hid rfl, Lib.hid (World.ownsRow_nil _ _ _ _), Lib.hid (Below.refl _ _)⟩
  case round =>
    obtain ⟨j, q, acc, hq, hal, rfl, HQ, HJ, hacc, hown, hb⟩ := hrel
    have HBs : w.heap.size ≤ wr.heap.size := hb.out.size
    by_cases hlt : q < m
    · have HQ2 : Hid (q + n = r + (j + 1) * n) := Lib.hid (by rw [HQ.out, Nat.add_mul]; omega)
      have HJ2 : Hid (∀ i, i < j + 1 → r + i * n < m) := Lib.hid (fun i hi => by
        by_cases e : i = j
        · subst e; rw [← HQ.out]; exact hlt
        · exact HJ.out i (by omega))
      have HN : Hid (acc ++ [q] = stps r n (j + 1)) := Lib.hid (by rw [stps, ← hacc.out, ← HQ.out])
      have hl2 : acc.length + 1 ≤ 16 := by
        have h1 := step_len (show 1 ≤ n by omega) hm HJ2.out
        have h2 := stps_len r n (j + 1)
        rw [← HN.out, List.length_append] at h2
        simp at h2
        omega
      have HO := Lib.hid (ownsRow_below hown.out ((Below.refl _ _).alloc (Nat.le_refl _) (.cells #[.int .i64 (q : Int)] 3)))
      have HB2 := Lib.hid (hb.out.trans (((Below.refl _ _).alloc (Nat.le_refl _) (.cells #[.int .i64 (q : Int)] 3)).mono HBs))
      clear HQ HJ hacc
      go_wp2_with (refine wpList_append_lies _ (by rfl) (.tmp 31) (.tmp 33) 32 (by rfl) w.heap.size 3 i0 (.int .i64 0) 1 8 Try.underlying32 hi0 hz0 hz1 hz2 rfl (by decide) _ acc.length (ics acc) (by rfl) HO.out ⟨wr.heap.size, 0, none⟩ 1 1 [.int .i64 (q : Int)] (by rfl) rfl (World.news_of_block (heap_alloc_new wr _)) (one_int _) (by decide) (by unfold maxLen; omega) (by omega) (by simp; omega) _ rfl ?_; intro g2 cap2 w3 hown2 hgrow2 hat2 hlt2; have HO3 := Lib.hid hown2; have HB3 := Lib.hid (HB2.out.grown hgrow2 HB2.out.size (fun k e => (HO.out.lt k e).1)); clear hown2 hgrow2 hat2 hlt2)
      go_roundw
      case rel => exact ⟨j + 1, q + n, acc ++ [q], by omega, by simp; omega, by go_num, HQ2, HJ2, HN, Lib.hid (by rw [ics_snoc]; simpa using HO3.out), HB3⟩
      case measure => simp [intOf]; omega
    · obtain rfl : acc = L := by
        rw [hacc.out, ← HL.out]
        exact stps_all hr (by rw [← HQ.out]; exact hlt) HJ.out
      clear hacc
      go_wp2
      go_ret2
      exact ⟨_, rfl, hown.out, hb.out⟩
theorem parts_ok {r n m : Nat} (hn : n ≤ 8) (hr : r < n) (hm1 : 1 ≤ m) (hm : m ≤ 16) {L : List Nat} (hL : prts r n m = L) (w : World) : Calls Try.prog 14 #[.int .i64 r, .int .i64 n, .int .i64 m] w fun e w' => ∃ v, e = .returned (.tuple #[v, .int .i64 0]) ∧ IntsAt w' v L ∧ Below w.heap.size w w' :=
  (parts_own hn hr hm1 hm hL w).mono fun _ _ ⟨v, h1, h2, h3⟩ => ⟨v, h1, ints_row h2, h3⟩
set_option maxRecDepth 20000 in
set_option maxHeartbeats 4000000 in
theorem rparts_at {r n m : Nat} (hn1 : 1 ≤ n) (hn : n ≤ 8) (hm : m ≤ 16) {L : List Nat} (hL : prts r n m = L) (w : World) : Calls Try.prog 18 #[.int .i64 r, .int .i64 n, .int .i64 m] w fun e w' => ∃ v, e = .returned v ∧ IntsAt w' v L ∧ Below w.heap.size w w' := by
  have HL := Lib.hid hL
  clear hL
  obtain ⟨i0, hi0, hz0, hz1, hz2⟩ := info_parts info3
  go_enter Try.func18, Try.ntmps18
  go_wp2
  go_loopw [7, 8] (fun y z wr => ∃ (p : Nat) (acc : List Nat), p ≤ m ∧ acc.length ≤ p ∧ z = .int .i64 p ∧ Hid (acc = prts r n p) ∧ Hid (wr.ownsRow w.heap.size 3 1 y acc.length (ics acc)) ∧ Hid (Below w.heap.size w wr)) (fun _ z _ => m - (intOf z).toNat)
  case atStart => exact ⟨0, [], Nat.zero_le _, Nat.zero_le _, rfl, Lib.hid rfl, Lib.hid (World.ownsRow_nil _ _ _ _), Lib.hid (Below.refl _ _)⟩
  case round =>
    obtain ⟨p, acc, hp, hal, rfl, hacc, hown, hb⟩ := hrel
    have HBs : w.heap.size ≤ wr.heap.size := hb.out.size
    by_cases hlt : p < m
    · have hrem : (p : Int).tmod (n : Int) = ((p % n : Nat) : Int) := by rw [Int.tmod_eq_emod_of_nonneg (by omega)]; omega
      by_cases how : p % n = r
      · have hq : (((p % n : Nat) : Int) == (r : Int)) = true := ibeq (by omega)
        have HN : Hid (acc ++ [p] = prts r n (p + 1)) := Lib.hid (by rw [prts_succ, if_pos how, hacc.out])
        have HO := Lib.hid (ownsRow_below hown.out ((Below.refl _ _).alloc (Nat.le_refl _) (.cells #[.int .i64 (p : Int)] 3)))
        have HB2 := Lib.hid (hb.out.trans (((Below.refl _ _).alloc (Nat.le_refl _) (.cells #[.int .i64 (p : Int)] 3)).mono HBs))
        clear hacc how
        go_wp2_with (refine wpList_append_lies _ (by rfl) (.tmp 19) (.tmp 21) 32 (by rfl) w.heap.size 3 i0 (.int .i64 0) 1 8 Try.underlying32 hi0 hz0 hz1 hz2 rfl (by decide) _ acc.length (ics acc) (by rfl) HO.out ⟨wr.heap.size, 0, none⟩ 1 1 [.int .i64 (p : Int)] (by rfl) rfl (World.news_of_block (heap_alloc_new wr _)) (one_int _) (by decide) (by unfold maxLen; omega) (by omega) (by simp; omega) _ rfl ?_; intro g2 cap2 w3 hown2 hgrow2 hat2 hlt2; have HO3 := Lib.hid hown2; have HB3 := Lib.hid (HB2.out.grown hgrow2 HB2.out.size (fun k e => (HO.out.lt k e).1)); clear hown2 hgrow2 hat2 hlt2)
        go_roundw
        case rel => exact ⟨p + 1, acc ++ [p], by omega, by simp; omega, by go_num, HN, Lib.hid (by rw [ics_snoc]; simpa using HO3.out), HB3⟩
        case measure => simp [intOf]; omega
      · have hq : (((p % n : Nat) : Int) == (r : Int)) = false := ibne (by omega)
        have HN : Hid (acc = prts r n (p + 1)) := Lib.hid (by rw [prts_succ, if_neg how, List.append_nil, hacc.out])
        clear hacc how
        go_wp2
        go_roundw
        case rel => exact ⟨p + 1, acc, by omega, by omega, by go_num, HN, hown, hb⟩
        case measure => simp [intOf]; omega
    · obtain rfl : acc = L := by rw [hacc.out, ← HL.out, show p = m by omega]
      clear hacc
      go_wp2
      go_ret
      exact ⟨_, rfl, ints_row hown.out, hb.out⟩
end Go.Proofs.Ytamcocdkhjplfaa.Gp
