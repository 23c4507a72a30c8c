/-
  The program's spans of a time. Conditions: as each theorem names them.
-/
import Derived.Test.YtlmnkmfpdjkijaaWP1
namespace Go.Proofs.Ytlmnkmfpdjkijaa.Wi
set_option linter.unusedVariables false
set_option linter.unusedSimpArgs false
open Go.RowKit

theorem mult_le {m l p t : Int} (hl : 1 ≤ l) (h : t - p + m * l ≤ t) (hp : p < l) (hp0 : 0 ≤ p) : m ≤ 0 := by
  rcases Int.lt_or_le 0 m with h1 | h1
  · have h2 : 1 * l ≤ m * l := Int.mul_le_mul_of_nonneg_right (by omega) (by omega)
    omega
  · exact h1
theorem mult_neg {m l : Int} (hl : 1 ≤ l) (h : m ≤ 0) : m * l ≤ 0 := by
  have := Int.mul_le_mul_of_nonneg_right h (show 0 ≤ l by omega)
  omega
/-- The first multiple whose span still has the time. -/
theorem first_is {t s l f m : Int} (hl : 1 ≤ l) (h1 : f - l + s ≤ t) (h2 : t < f + s) (hm : f = t - t % l + m * l) : t - s - (t - s) % l = f - l := by
  have g0 := Int.emod_nonneg (t - s) (show l ≠ 0 by omega)
  have g1 := Int.emod_lt_of_pos (t - s) (show 0 < l by omega)
  have e1 := Int.emod_add_mul_ediv (t - s) l
  have e2 := Int.emod_add_mul_ediv t l
  obtain ⟨q, hq⟩ : ∃ q, (t - s) / l = q := ⟨_, rfl⟩
  obtain ⟨r, hr⟩ : ∃ r, t / l = r := ⟨_, rfl⟩
  obtain ⟨x, hx⟩ : ∃ x, (t - s) % l = x := ⟨_, rfl⟩
  rw [hq, hx] at e1
  rw [hr] at e2
  rw [hx] at g0 g1 ⊢
  have hf : f = l * (r + m) := by rw [Int.mul_add, hm, Int.mul_comm m l]; omega
  have hq2 : t - s - x = l * q := by omega
  have h3 : l * (r + m - 1) ≤ l * q + x := by rw [Int.mul_sub, ← hf]; omega
  have h4 : l * q < l * (r + m) := by rw [← hf]; omega
  have h5 : q < r + m := Int.lt_of_mul_lt_mul_left h4 (by omega)
  have h6 : l * (r + m - 1) < l * (q + 1) := by rw [Int.mul_add]; omega
  have h7 : r + m - 1 < q + 1 := Int.lt_of_mul_lt_mul_left h6 (by omega)
  have h8 : r + m = q + 1 := by omega
  rw [h8, Int.mul_add] at hf
  omega
theorem sl_from {t s l f : Int} (h1 : f - l + s ≤ t) (h3 : f - l ≤ t) : sl t s l 20 (f - l) = sl t s l 19 f := by
  rw [sl_by h3 (by omega), show f - l + l = f by omega]
set_option maxRecDepth 20000 in
set_option maxHeartbeats 4000000 in
theorem around_at {t s l : Int} (t0 : 0 ≤ t) (t1 : t ≤ 1000000000) (l1 : 1 ≤ l) (l2 : l ≤ s) (s2 : s ≤ 1000000) (s3 : s ≤ 16 * l) {L : List Sp} (hL : sl t s l 20 (t - s - (t - s) % l) = L) (w : World) : Calls Try.prog 46 #[.int .i64 t, .int .i64 s, .int .i64 l] w fun e w' => ∃ v, e = .returned v ∧ SpansAt w' v L ∧ Below w.heap.size w w' := by
  have hte := Int.tmod_eq_emod_of_nonneg (a := t) (b := l) t0
  have hp0 := Int.emod_nonneg t (show l ≠ 0 by omega)
  have hp1 := Int.emod_lt_of_pos t (show 0 < l by omega)
  have hp2 : t % l ≤ t := by
    have h1 := Int.emod_add_mul_ediv t l
    have h2 : 0 ≤ l * (t / l) := Int.mul_nonneg (by omega) (Int.ediv_nonneg t0 (by omega))
    omega
  have HL := Lib.hid hL
  have HF : Hid (∀ f m : Int, f - l + s ≤ t → t < f + s → f = t - t % l + m * l → t - s - (t - s) % l = f - l) := Lib.hid fun f m => first_is l1
  obtain ⟨p, hp⟩ : ∃ p, t % l = p := ⟨_, rfl⟩
  rw [hp] at HF
  rw [hp] at hte hp0 hp1 hp2
  have e0 : (l == 0) = false := ibne (by omega)
  clear hp hL
  go_enter Try.func46, Try.ntmps46
  go_wp2
  go_loopw [8] (fun z wr => ∃ (f m : Int), z = .int .i64 f ∧ m ≤ 0 ∧ Hid (f = t - p + m * l) ∧ t < f + s ∧ f ≤ t ∧ wr = w) (fun z _ => (intOf z + s - t).toNat)
  case atStart => exact ⟨t - p, 0, rfl, Int.le_refl _, Lib.hid (by simp), by omega, by omega, rfl⟩
  case round =>
    obtain ⟨f, m, rfl, hm, HM, f1, f2, rfl⟩ := hrel
    by_cases hgo : t < f - l + s
    · have HM2 : Hid (f - l = t - p + (m - 1) * l) := Lib.hid (by rw [HM.out, Int.sub_mul]; omega)
      clear HM
      go_wp2
      go_roundw
      case rel => exact ⟨f - l, m - 1, rfl, by omega, HM2, by omega, by omega, trivial⟩
      case measure => simp [intOf]; omega
    · have HE : Hid ([] ++ sl t s l 19 f = L) := Lib.hid (by rw [← HL.out, HF.out f m (by omega) f1 HM.out, sl_from (by omega) (by omega)]; rfl)
      have HQ : Hid (t - f < ((19 : Nat) : Int) * l) := Lib.hid (by omega)
      clear HL HF
      go_wp2
      go_loopw [9, 10] (fun y z wq => ∃ (q : Nat) (acc : List Sp) (g k : Int), z = .int .i64 g ∧ -2000000 ≤ g ∧ g ≤ t + l ∧ acc.length + q ≤ 19 ∧ Hid (g = t - p + k * l) ∧ Hid (acc ++ sl t s l q g = L) ∧ Hid (t - g < (q : Int) * l) ∧ Hid (t < g + s) ∧ Hid (wq.ownsRow wr.heap.size 49 2 y acc.length (scs acc)) ∧ Hid (Below wr.heap.size wr wq)) (fun _ z _ => (t + l + 1 - intOf z).toNat)
      case atStart => exact ⟨19, [], f, m, rfl, by omega, by omega, by simp, HM, HE, HQ, Lib.hid f1, Lib.hid (World.ownsRow_nil _ _ _ _), Lib.hid (Below.refl _ _)⟩
      case round =>
        clear HM HE HQ hgo f1 f2 hm
        obtain ⟨q, acc, g, k, rfl, g1, g2, hq, HK, HN, HQ, HI, HO, HB⟩ := hrel
        rename World => wq
        by_cases hlt : g ≤ t - p
        · obtain ⟨q', rfl⟩ : ∃ q', q = q' + 1 := by
            cases q with
            | zero => have := HQ.out; simp at this; omega
            | succ q' => exact ⟨q', rfl⟩
          have HQ2 : Hid (t - (g + l) < (q' : Int) * l) := Lib.hid (by
            have := HQ.out
            have e : ((q' + 1 : Nat) : Int) * l = (q' : Int) * l + l := by rw [Int.natCast_add, Int.add_mul]; simp
            omega)
          have HK2 : Hid (g + l = t - p + (k + 1) * l) := Lib.hid (by rw [Int.add_mul, Int.one_mul]; have := HK.out; omega)
          have HN2 : Hid (acc ++ [(g, g + s)] ++ sl t s l q' (g + l) = L) := Lib.hid (by rw [← HN.out, sl_in (by omega) HI.out, List.append_assoc]; rfl)
          have HI2 : Hid (t < g + l + s) := Lib.hid (by have := HI.out; omega)
          clear HN HQ HK HI
          go_wp2_with (first
            | (go_at_call 47; refine (spanFrom_at (by omega) (by omega) (by omega) (by omega) _).mono ?_; rintro e w1 ⟨rfl, hb1⟩; have HO1 := Lib.hid (ownsRow_below HO.out hb1); have HB1 := Lib.hid (HB.out.trans (hb1.mono HB.out.size)); clear hb1)
            | (refine wpList_append_span (by rfl) (.tmp 34) (.tmp 38) (by rfl) wr.heap.size _ acc (by rfl) w1 (g, g + s) (by rfl) HO1.out (by rfl) (by omega) HB1.out.size ?_; intro v9 w9 hown9 hgrow9; have HO9 := Lib.hid hown9; have HB9 := Lib.hid (below_grown (HB1.out.trans ((Below.refl _ _).alloc (Nat.le_refl _) _ |>.mono HB1.out.size)) (fun k e => by have := (HO1.out.lt k e).1; omega) hgrow9); clear hown9 hgrow9))
          go_roundw
          case rel => exact ⟨q', acc ++ [(g, g + s)], g + l, k + 1, rfl, by omega, by omega, by simp; omega, HK2, HN2, HQ2, HI2, HO9, HB9⟩
          case measure => simp [intOf]; omega
        · have hgt : ¬ g ≤ t := fun h => by
            have h1 := mult_le (m := k) l1 (by rw [← HK.out]; exact h) hp1 hp0
            have h2 := mult_neg l1 h1
            have := HK.out
            omega
          have HN2 : Hid (acc = L) := Lib.hid (by rw [← HN.out, sl_out hgt, List.append_nil])
          clear HN HQ HK HI hgt
          go_wp2
          go_ret
          exact ⟨_, rfl, by rw [← HN2.out]; exact spans_row HO.out, HB.out⟩
end Go.Proofs.Ytlmnkmfpdjkijaa.Wi
