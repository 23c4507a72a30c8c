/-
  The document's spans of a time. Conditions: as each theorem names them.
-/
import Derived.Test.YtlmnkmfpdjkijaaWPut0
import Derived.Test.YtlmnkmfpdjkijaaWBox
namespace Go.Proofs.Ytlmnkmfpdjkijaa.Wi
set_option linter.unusedVariables false
set_option linter.unusedSimpArgs false
open Go.RowKit

theorem tmod_again {t n : Int} (hn : 0 < n) : (t.tmod n + n).tmod n = t % n := by
  have h1 := Int.lt_tmod_of_pos t hn
  rw [Int.tmod_eq_emod_of_nonneg (by omega), Int.add_emod_right]
  have h2 := Int.tmod_add_mul_tdiv t n
  have h3 : t = t.tmod n + n * t.tdiv n := h2.symm
  conv => rhs; rw [h3]
  rw [Int.add_mul_emod_self_left]
set_option maxHeartbeats 1000000 in
theorem down_at {t n : Int} (h1 : -1000000 ≤ t) (h2 : t ≤ 1000000000) (h3 : 1 ≤ n) (h4 : n ≤ 1000000) {r : Int} (hr : t - t % n = r) (w : World) : Calls Try.prog 34 #[.int .i64 t, .int .i64 n] w fun e w' => e = .returned (.int .i64 r) ∧ w = w' := by
  have g1 := Int.lt_tmod_of_pos t (show 0 < n by omega)
  have g2 := Int.tmod_lt_of_pos t (show 0 < n by omega)
  have g3 := tmod_again (t := t) (show 0 < n by omega)
  have g4 := Int.emod_nonneg t (show n ≠ 0 by omega)
  have g5 := Int.emod_lt_of_pos t (show 0 < n by omega)
  obtain ⟨q, hq⟩ : ∃ q, t % n = q := ⟨_, rfl⟩
  rw [hq] at g3 g4 g5 hr
  obtain ⟨p, hp⟩ : ∃ p, t.tmod n = p := ⟨_, rfl⟩
  rw [hp] at g1 g2 g3
  have e0 : (n == 0) = false := ibne (by omega)
  clear hq
  go_enter Try.func34, Try.ntmps34
  go_wp2
  go_ret
  exact ⟨rfl, rfl⟩
set_option maxRecDepth 20000 in
set_option maxHeartbeats 4000000 in
theorem rof_ok {k s l t : Int} (h : okW k s l = true) (ht : okT t = true) {L : List Sp} (hL : ofS k s l t = L) (w : World) : Calls Try.prog 15 #[wnV k s l, .int .i64 t] w fun e w' => ∃ v, e = .returned (.tuple #[v, .bool true]) ∧ SpansAt w' v L ∧ Below w.heap.size w w' := by
  have HW := Lib.hid h
  have HT := Lib.hid ht
  have HL := Lib.hid hL
  obtain ⟨t0, t1⟩ := okT_is ht
  have HB0 : Hid (Below w.heap.size w (w.alloc (.cells #[.int .i64 k, .int .i64 s, .int .i64 l] 23))) := Lib.hid ((Below.refl _ _).alloc (Nat.le_refl _) _)
  have HX0 := Lib.hid (wb_new w k s l)
  have hc := okW_cases h
  clear h ht hL
  rcases hc with ⟨rfl, rfl, rfl⟩ | ⟨rfl, s1, s2, rfl⟩ | ⟨rfl, s1, s2, l1, l2, l3⟩ | ⟨rfl, s1, s2, rfl⟩
  · have HN : Hid (L = []) := Lib.hid (by rw [← HL.out]; rfl)
    go_enter Try.func15, Try.ntmps15
    go_wp2_with (first
      | (go_at_call 32; refine (rright_at HW.out _).mono ?_; rintro e w1 ⟨rfl, hb1⟩; have HB1 := Lib.hid (HB0.out.trans (hb1.mono HB0.out.size)); have HX1 := Lib.hid (HX0.out.grow hb1); obtain ⟨c0, c1, c2⟩ := HX1.out.cells; clear hb1)
      | (go_at_call 33; refine (rtime_at HT.out _).mono ?_; rintro e _ ⟨rfl, rfl⟩))
    go_ret2
    exact ⟨_, rfl, by rw [HN.out]; exact nil_spans _, HB1.out⟩
  · obtain ⟨f, hf⟩ : ∃ f, t - t % s = f := ⟨_, rfl⟩
    have HF := Lib.hid hf
    have HN : Hid (L = [(f, f + s)]) := Lib.hid (by rw [← HL.out, ← hf]; rfl)
    have f0 := Int.emod_nonneg t (show s ≠ 0 by omega)
    have f1 := Int.emod_lt_of_pos t (show 0 < s by omega)
    have f2 : -1000000 ≤ f := by omega
    have f3 : f ≤ 1000000000 := by omega
    clear f0 f1 hf
    go_enter Try.func15, Try.ntmps15
    go_wp2_with (first
      | (go_at_call 32; refine (rright_at HW.out _).mono ?_; rintro e w1 ⟨rfl, hb1⟩; have HB1 := Lib.hid (HB0.out.trans (hb1.mono HB0.out.size)); have HX1 := Lib.hid (HX0.out.grow hb1); obtain ⟨c0, c1, c2⟩ := HX1.out.cells; clear hb1)
      | (go_at_call 33; refine (rtime_at HT.out _).mono ?_; rintro e _ ⟨rfl, rfl⟩)
      | (go_at_call 34; refine (down_at (by omega) t1 s1 s2 HF.out _).mono ?_; rintro e _ ⟨rfl, rfl⟩)
      | (refine wpList_append_span (by rfl) (.tmp 25) (.tmp 32) (by rfl) w.heap.size (.slice none 0 0) [] (by rfl) w1 (f, f + s) (by rfl) (World.ownsRow_nil _ _ _ _) (by rfl) (by simp) HB1.out.size ?_; intro v9 w9 hown9 hgrow9; have HO9 := Lib.hid (spans_row hown9); have HB9 := Lib.hid (below_grown (HB1.out.trans ((Below.refl _ _).alloc (Nat.le_refl _) _ |>.mono HB1.out.size)) (fun k e => by simp [Value.ownBlock] at e) hgrow9); clear hown9 hgrow9))
    go_ret2
    exact ⟨_, rfl, by rw [HN.out]; exact HO9.out, HB9.out⟩
  · obtain ⟨f, hf⟩ : ∃ f, t - s - (t - s) % l = f := ⟨_, rfl⟩
    have HF := Lib.hid hf
    have HN : Hid ([] ++ sl t s l 20 f = L) := Lib.hid (by rw [← HL.out, ← hf]; rfl)
    have f0 := Int.emod_nonneg (t - s) (show l ≠ 0 by omega)
    have f1 := Int.emod_lt_of_pos (t - s) (show 0 < l by omega)
    have f2 : -2000000 ≤ f := by omega
    have f3 : f ≤ t + l := by omega
    have HQ : Hid (t - f < ((20 : Nat) : Int) * l) := Lib.hid (by omega)
    clear f0 f1 hf
    go_enter Try.func15, Try.ntmps15
    go_wp2_with (first
      | (go_at_call 32; refine (rright_at HW.out _).mono ?_; rintro e w1 ⟨rfl, hb1⟩; have HB1 := Lib.hid (HB0.out.trans (hb1.mono HB0.out.size)); have HX1 := Lib.hid (HX0.out.grow hb1); obtain ⟨c0, c1, c2⟩ := HX1.out.cells; clear hb1)
      | (go_at_call 33; refine (rtime_at HT.out _).mono ?_; rintro e _ ⟨rfl, rfl⟩)
      | (go_at_call 34; refine (down_at (by omega) (by omega) l1 (by omega) HF.out _).mono ?_; rintro e _ ⟨rfl, rfl⟩))
    clear c0 c1 c2 HB0 HX0
    go_loopw [6, 8] (fun y z wr => ∃ (q : Nat) (acc : List Sp) (f : Int), z = .int .i64 f ∧ -2000000 ≤ f ∧ f ≤ t + l ∧ acc.length + q ≤ 20 ∧ Hid (acc ++ sl t s l q f = L) ∧ Hid (t - f < (q : Int) * l) ∧ Hid (wr.ownsRow (w.heap.size + 1) 49 2 y acc.length (scs acc)) ∧ Hid (WB wr w.heap.size 2 s l) ∧ Hid (Below w.heap.size w wr)) (fun _ z _ => (t + l + 1 - intOf z).toNat)
    case atStart => exact ⟨20, [], f, rfl, f2, f3, by simp, HN, HQ, Lib.hid (World.ownsRow_nil _ _ _ _), HX1, HB1⟩
    case round =>
      clear HN HQ HX1 HB1 f2 f3
      clear HF
      obtain ⟨q, acc, f, rfl, f2, f3, hq, HN, HQ, HO, HX, hb⟩ := hrel
      rename World => wq
      obtain ⟨c0, c1, c2⟩ := HX.out.cells
      have hsz : w.heap.size + 1 ≤ wq.heap.size := lt_of_heap HX.out.blk
      by_cases hlt : f ≤ t
      · obtain ⟨p, rfl⟩ : ∃ p, q = p + 1 := by
          cases q with
          | zero => have := HQ.out; simp at this; omega
          | succ p => exact ⟨p, rfl⟩
        have HQ2 : Hid (t - (f + l) < (p : Int) * l) := Lib.hid (by
          have := HQ.out
          have e : ((p + 1 : Nat) : Int) * l = (p : Int) * l + l := by rw [Int.natCast_add, Int.add_mul]; simp
          omega)
        by_cases hin : t < f + s
        · have HN2 : Hid (acc ++ [(f, f + s)] ++ sl t s l p (f + l) = L) := Lib.hid (by rw [← HN.out, sl_in hlt hin, List.append_assoc]; rfl)
          clear HN HQ
          go_wp2_with (refine wpList_append_span (by rfl) (.tmp 67) (.tmp 74) (by rfl) (w.heap.size + 1) _ acc (by rfl) wq (f, f + s) (by rfl) HO.out (by rfl) (by omega) hsz ?_; intro v9 w9 hown9 hgrow9; have HO9 := Lib.hid hown9; have HX9 := Lib.hid ((HX.out.grow ((Below.refl _ _).alloc (Nat.le_refl _) _)).append (not_box HO.out) hgrow9); have HB9 := Lib.hid (below_grown (hb.out.trans ((Below.refl _ _).alloc (Nat.le_refl _) _ |>.mono hb.out.size)) (fun k e => by have := (HO.out.lt k e).1; omega) hgrow9); obtain ⟨d0, d1, d2⟩ := HX9.out.cells; clear hown9 hgrow9)
          go_roundw
          case rel => exact ⟨p, acc ++ [(f, f + s)], f + l, by go_num, by omega, by omega, by simp; omega, HN2, HQ2, HO9, HX9, HB9⟩
          case measure => simp [intOf]; omega
        · have HN2 : Hid (acc ++ sl t s l p (f + l) = L) := Lib.hid (by rw [← HN.out, sl_by hlt hin])
          clear HN HQ
          go_wp2
          go_roundw
          case rel => exact ⟨p, acc, f + l, by go_num, by omega, by omega, by omega, HN2, HQ2, HO, HX, hb⟩
          case measure => simp [intOf]; omega
      · have HN2 : Hid (acc = L) := Lib.hid (by rw [← HN.out, sl_out hlt, List.append_nil])
        go_wp2
        go_ret2
        exact ⟨_, rfl, by rw [← HN2.out]; exact spans_row HO.out, hb.out⟩
  · have HN : Hid (L = [(t, t + s)]) := Lib.hid (by rw [← HL.out]; rfl)
    go_enter Try.func15, Try.ntmps15
    go_wp2_with (first
      | (go_at_call 32; refine (rright_at HW.out _).mono ?_; rintro e w1 ⟨rfl, hb1⟩; have HB1 := Lib.hid (HB0.out.trans (hb1.mono HB0.out.size)); have HX1 := Lib.hid (HX0.out.grow hb1); obtain ⟨c0, c1, c2⟩ := HX1.out.cells; clear hb1)
      | (go_at_call 33; refine (rtime_at HT.out _).mono ?_; rintro e _ ⟨rfl, rfl⟩)
      | (refine wpList_append_span (by rfl) (.tmp 36) (.tmp 43) (by rfl) w.heap.size (.slice none 0 0) [] (by rfl) w1 (t, t + s) (by rfl) (World.ownsRow_nil _ _ _ _) (by rfl) (by simp) HB1.out.size ?_; intro v9 w9 hown9 hgrow9; have HO9 := Lib.hid (spans_row hown9); have HB9 := Lib.hid (below_grown (HB1.out.trans ((Below.refl _ _).alloc (Nat.le_refl _) _ |>.mono HB1.out.size)) (fun k e => by simp [Value.ownBlock] at e) hgrow9); clear hown9 hgrow9))
    go_ret2
    exact ⟨_, rfl, by rw [HN.out]; exact HO9.out, HB9.out⟩
set_option maxRecDepth 20000 in
set_option maxHeartbeats 4000000 in
theorem rof_no {k s l t : Int} (h : (okW k s l && okT t) = false) (w : World) : Calls Try.prog 15 #[wnV k s l, .int .i64 t] w fun e w' => ∃ v, e = .returned (.tuple #[v, .bool false]) ∧ SpansAt w' v [] ∧ Below w.heap.size w w' := by
  have HB0 : Hid (Below w.heap.size w (w.alloc (.cells #[.int .i64 k, .int .i64 s, .int .i64 l] 23))) := Lib.hid ((Below.refl _ _).alloc (Nat.le_refl _) _)
  cases hw : okW k s l with
  | false =>
    have HW := Lib.hid hw
    clear h hw
    go_enter Try.func15, Try.ntmps15
    go_wp2_with (go_at_call 32; refine (rright_at HW.out _).mono ?_; rintro e w1 ⟨rfl, hb1⟩; have HB1 := Lib.hid (HB0.out.trans (hb1.mono HB0.out.size)); clear hb1)
    go_ret2
    exact ⟨_, rfl, nil_spans _, HB1.out⟩
  | true =>
    have HW := Lib.hid hw
    have HT : Hid (okT t = false) := Lib.hid (by rw [hw] at h; simpa using h)
    clear h hw
    go_enter Try.func15, Try.ntmps15
    go_wp2_with (first
      | (go_at_call 32; refine (rright_at HW.out _).mono ?_; rintro e w1 ⟨rfl, hb1⟩; have HB1 := Lib.hid (HB0.out.trans (hb1.mono HB0.out.size)); clear hb1)
      | (go_at_call 33; refine (rtime_at HT.out _).mono ?_; rintro e _ ⟨rfl, rfl⟩))
    go_ret2
    exact ⟨_, rfl, nil_spans _, HB1.out⟩
end Go.Proofs.Ytlmnkmfpdjkijaa.Wi
