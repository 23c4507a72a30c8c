/-
  Owner, Range where it refuses, Parts, and the document's Owned and Parts. Conditions: as each theorem names them.
-/
import Derived.Test.YtamcocdkhjplfaaHSmall
namespace Go.Proofs.Ytamcocdkhjplfaa.Gp
set_option linter.unusedVariables false
set_option linter.unusedSimpArgs false
open Go.RowKit

theorem okI_nat {k n : Nat} : okI k n = decide (k < n) := by
  unfold okI
  rw [Bool.eq_iff_iff]
  simp
theorem okC_nat {n m : Nat} : okC n m = decide (1 ≤ n ∧ n ≤ m) := by
  unfold okC
  rw [Bool.eq_iff_iff]
  simp
  omega
set_option maxHeartbeats 400000 in
theorem owner_ok {g n : Nat} (hg : g < 16) (h1 : 1 ≤ n) (hn : n ≤ 8) (w : World) : Calls Try.prog 12 #[.int .i64 g, .int .i64 n] w fun e w' => e = .returned (.tuple #[.int .i64 (ow g n : Nat), .int .i64 0]) ∧ w = w' := by
  have hi : okI g 16 = true := by unfold okI; simp; omega
  have hc : okC n 8 = true := by unfold okC; simp; omega
  go_enter Try.func12, Try.ntmps12
  go_wp2_with (first
    | (go_at_call 20; refine (isIndex_at hi _).mono ?_; rintro e w2 ⟨rfl, rfl⟩)
    | (go_at_call 21; refine (isCount_at hc _).mono ?_; rintro e w2 ⟨rfl, rfl⟩)
    | (go_at_call 22; refine (ownerOf_at hg hn _).mono ?_; rintro e w2 ⟨rfl, rfl⟩))
  go_ret2
  exact ⟨rfl, rfl⟩
set_option maxHeartbeats 400000 in
theorem owner_no {g n : Int} (h : (okI g 16 && okC n 8) = false) (w : World) : Calls Try.prog 12 #[.int .i64 g, .int .i64 n] w fun e w' => e = .returned (.tuple #[.int .i64 0, .int .i64 1]) ∧ w = w' := by
  obtain ⟨b1, hi⟩ : ∃ b, okI g 16 = b := ⟨_, rfl⟩
  obtain ⟨b2, hc⟩ : ∃ b, okC n 8 = b := ⟨_, rfl⟩
  rw [hi, hc] at h
  cases b1 with
  | false =>
    clear h hc
    go_enter Try.func12, Try.ntmps12
    go_wp2_with (go_at_call 20; refine (isIndex_at hi _).mono ?_; rintro e w2 ⟨rfl, rfl⟩)
    go_ret2
    exact ⟨rfl, rfl⟩
  | true =>
    obtain rfl : b2 = false := by simpa using h
    clear h
    go_enter Try.func12, Try.ntmps12
    go_wp2_with (first
      | (go_at_call 20; refine (isIndex_at hi _).mono ?_; rintro e w2 ⟨rfl, rfl⟩)
      | (go_at_call 21; refine (isCount_at hc _).mono ?_; rintro e w2 ⟨rfl, rfl⟩))
    go_ret2
    exact ⟨rfl, rfl⟩
set_option maxHeartbeats 400000 in
theorem range_no {k n : Int} (h : (okC n 8 && okI k n) = false) (w : World) : Calls Try.prog 13 #[.int .i64 k, .int .i64 n] w fun e w' => e = .returned (.tuple #[.int .i64 0, .int .i64 0, .int .i64 1]) ∧ w = w' := by
  obtain ⟨b1, hc⟩ : ∃ b, okC n 8 = b := ⟨_, rfl⟩
  obtain ⟨b2, hi⟩ : ∃ b, okI k n = b := ⟨_, rfl⟩
  rw [hi, hc] at h
  cases b1 with
  | false =>
    clear h hi
    go_enter Try.func13, Try.ntmps13
    go_wp2_with (go_at_call 21; refine (isCount_at hc _).mono ?_; rintro e w2 ⟨rfl, rfl⟩)
    go_ret3
    exact ⟨rfl, rfl⟩
  | true =>
    obtain rfl : b2 = false := by simpa using h
    clear h
    go_enter Try.func13, Try.ntmps13
    go_wp2_with (first
      | (go_at_call 21; refine (isCount_at hc _).mono ?_; rintro e w2 ⟨rfl, rfl⟩)
      | (go_at_call 20; refine (isIndex_at hi _).mono ?_; rintro e w2 ⟨rfl, rfl⟩))
    go_ret3
    exact ⟨rfl, rfl⟩
set_option maxRecDepth 20000 in
set_option maxHeartbeats 4000000 in
theorem owned_at {k n : Nat} (hn : n ≤ 8) {L : List Nat} (hL : goods k n 16 = L) (w : World) : Calls Try.prog 17 #[.int .i64 k, .int .i64 n] w fun e w' => ∃ v, e = .returned v ∧ IntsAt w' v L ∧ Below w.heap.size w w' := by
  have HL := Lib.hid hL
  clear hL
  obtain ⟨i0, hi0, hz0, hz1, hz2⟩ := info_parts info3
  go_enter Try.func17, Try.ntmps17
  go_wp2
  go_loopw [5, 6] (fun y z wr => ∃ (g : Nat) (acc : List Nat), g ≤ 16 ∧ acc.length ≤ g ∧ z = .int .i64 g ∧ Hid (acc = goods k n g) ∧ Hid (wr.ownsRow w.heap.size 3 1 y acc.length (ics acc)) ∧ Hid (Below w.heap.size w wr)) (fun _ z _ => 16 - (intOf z).toNat)
  case atStart => exact ⟨0, [], Nat.zero_le _, Nat.zero_le _, rfl, Lib.hid rfl, Lib.hid (World.ownsRow_nil _ _ _ _), Lib.hid (Below.refl _ _)⟩
  case round =>
    obtain ⟨g, acc, hg, hal, rfl, hacc, hown, hb⟩ := hrel
    have HBs : w.heap.size ≤ wr.heap.size := hb.out.size
    by_cases hlt : g < 16
    · by_cases how : ow g n = k
      · have hq : (((ow g n : Nat) : Int) == (k : Int)) = true := ibeq (by omega)
        have HN : Hid (acc ++ [g] = goods k n (g + 1)) := Lib.hid (by rw [goods_succ, if_pos how, hacc.out])
        clear hacc how
        go_wp2_with (first
          | (go_at_call 16; refine (rowner_at hlt hn _).mono ?_; rintro e w2 ⟨rfl, rfl⟩; have HO := Lib.hid (ownsRow_below hown.out ((Below.refl _ _).alloc (Nat.le_refl _) (.cells #[.int .i64 (g : Int)] 3))); have HB2 := Lib.hid (hb.out.trans (((Below.refl _ _).alloc (Nat.le_refl _) (.cells #[.int .i64 (g : Int)] 3)).mono HBs)))
          | (refine wpList_append_lies _ (by rfl) (.tmp 16) (.tmp 18) 32 (by rfl) w.heap.size 3 i0 (.int .i64 0) 1 8 Try.underlying32 hi0 hz0 hz1 hz2 rfl (by decide) _ acc.length (ics acc) (by rfl) HO.out ⟨wr.heap.size, 0, none⟩ 1 1 [.int .i64 (g : Int)] (by rfl) rfl (World.news_of_block (heap_alloc_new wr _)) (one_int _) (by decide) (by unfold maxLen; omega) (by omega) (by simp; omega) _ rfl ?_; intro g2 cap2 w3 hown2 hgrow2 hat2 hlt2; have HO3 := Lib.hid hown2; have HB3 := Lib.hid (HB2.out.grown hgrow2 HB2.out.size (fun k e => (HO.out.lt k e).1)); clear hown2 hgrow2 hat2 hlt2))
        go_roundw
        case rel => exact ⟨g + 1, acc ++ [g], by omega, by simp; omega, by go_num, HN, Lib.hid (by rw [ics_snoc]; simpa using HO3.out), HB3⟩
        case measure => simp [intOf]; omega
      · have hq : (((ow g n : Nat) : Int) == (k : Int)) = false := ibne (by omega)
        have HN : Hid (acc = goods k n (g + 1)) := Lib.hid (by rw [goods_succ, if_neg how, List.append_nil, hacc.out])
        clear hacc how
        go_wp2_with (go_at_call 16; refine (rowner_at hlt hn _).mono ?_; rintro e w2 ⟨rfl, rfl⟩)
        go_roundw
        case rel => exact ⟨g + 1, acc, by omega, by omega, by go_num, HN, hown, hb⟩
        case measure => simp [intOf]; omega
    · obtain rfl : acc = L := by rw [hacc.out, ← HL.out, show g = 16 by omega]
      clear hacc
      go_wp2
      go_ret
      exact ⟨_, rfl, ints_row hown.out, hb.out⟩
end Go.Proofs.Ytamcocdkhjplfaa.Gp
