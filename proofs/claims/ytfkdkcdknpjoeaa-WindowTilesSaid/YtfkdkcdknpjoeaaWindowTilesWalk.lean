/-
  WindowTiles: the walk of the law. Conditions: none.
-/
import Derived.Test.YtfkdkcdknpjoeaaWAwake
import Derived.Test.YtfkdkcdknpjoeaaWindowSpansWalk
namespace Go.Proofs.Ytfkdkcdknpjoeaa.Wi
set_option linter.unusedVariables false
set_option linter.unusedSimpArgs false
open Go.RowKit

theorem tile_next {s t : Int} (h : 1 ≤ s) : (t + s) - (t + s) % s = t - t % s + s := by
  rw [Int.add_emod_right]; omega
theorem tile_last {s t : Int} (h : 1 ≤ s) : (t - t % s + s - 1) - (t - t % s + s - 1) % s = t - t % s := by
  have h1 := Int.mul_ediv_add_emod t s
  have e : t - t % s + s - 1 = (s - 1) + s * (t / s) := by omega
  rw [e, Int.add_mul_emod_self_left, Int.emod_eq_of_lt (by omega) (by omega)]
  omega
theorem one_span {w : World} {v : Value} {x : Sp} (h : SpansAt w v [x]) : ∃ b o c, v = .slice (some ⟨b, o, none⟩) 1 c := by
  obtain ⟨a, c, rfl⟩ := h.val
  obtain ⟨b, o, rfl, -⟩ := SpansAt.cells h (i := 0) (by simp)
  exact ⟨b, o, c, rfl⟩
theorem one_cells {w : World} {b o c : Nat} {x : Sp} (h : SpansAt w (.slice (some ⟨b, o, none⟩) 1 c) [x]) : w.cell? ⟨b, o, none⟩ = some (.int .i64 x.1) ∧ w.cell? ⟨b, o + 1, none⟩ = some (.int .i64 x.2) := by
  obtain ⟨b', o', e, -, y0, y1⟩ := SpansAt.cells h (i := 0) (by simp)
  injection e with e
  injection e with q1 q2
  subst q1 q2
  exact ⟨by simpa using y0, by simpa using y1⟩
theorem ofS_one {t s f : Int} (h : t - t % s = f) : ofS 1 s 0 t = [(f, f + s)] := by unfold ofS; rw [if_pos rfl, h]
theorem okW_one {s : Int} (h1 : 1 ≤ s) (h2 : s ≤ 1000000) : okW 1 s 0 = true := by
  unfold okW
  rw [if_neg (by decide), if_neg (by omega), if_pos (.inl rfl)]; rfl
theorem okT_of {t : Int} (h1 : 0 ≤ t) (h2 : t ≤ 1000000000) : okT t = true := by
  unfold okT; rw [decide_eq_true h1, decide_eq_true h2]; rfl
theorem stay8 {W X w0 : World} {k s l : Int} {B b1 o1 c1 : Nat} {x : Sp} {u : Value} {M : List Sp} (hx : WB W B k s l) (h1 : SpansAt W (.slice (some ⟨b1, o1, none⟩) 1 c1) [x]) (h2 : SpansAt W u M) (h3 : Below w0.heap.size w0 W) (hb : Below W.heap.size W X) :
    X.cell? ⟨B, 0, none⟩ = some (.int .i64 k) ∧ X.cell? ⟨B, 1, none⟩ = some (.int .i64 s) ∧ X.cell? ⟨B, 2, none⟩ = some (.int .i64 l) ∧ X.cell? ⟨b1, o1 + 1, none⟩ = some (.int .i64 x.2) ∧ Hid (SpansAt X (.slice (some ⟨b1, o1, none⟩) 1 c1) [x]) ∧ Hid (SpansAt X u M) ∧ Hid (Below w0.heap.size w0 X) := by
  have hx' := hx.grow hb
  obtain ⟨c0, c1, c2⟩ := hx'.cells
  exact ⟨c0, c1, c2, (one_cells (h1.grow hb)).2, Lib.hid (h1.grow hb), Lib.hid (h2.grow hb), Lib.hid (grow_below h3 hb)⟩
theorem stay9 {W X w0 : World} {b1 o1 c1 b2 o2 c2 b3 o3 c3 : Nat} {x y z : Sp} (h1 : SpansAt W (.slice (some ⟨b1, o1, none⟩) 1 c1) [x]) (h2 : SpansAt W (.slice (some ⟨b2, o2, none⟩) 1 c2) [y]) (h4 : SpansAt W (.slice (some ⟨b3, o3, none⟩) 1 c3) [z]) (h3 : Below w0.heap.size w0 W) (hb : Below W.heap.size W X) :
    X.cell? ⟨b1, o1, none⟩ = some (.int .i64 x.1) ∧ X.cell? ⟨b1, o1 + 1, none⟩ = some (.int .i64 x.2) ∧ X.cell? ⟨b2, o2, none⟩ = some (.int .i64 y.1) ∧ X.cell? ⟨b3, o3, none⟩ = some (.int .i64 z.1) ∧ X.cell? ⟨b3, o3 + 1, none⟩ = some (.int .i64 z.2) ∧ Hid (Below w0.heap.size w0 X) :=
  ⟨(one_cells (h1.grow hb)).1, (one_cells (h1.grow hb)).2, (one_cells (h2.grow hb)).1, (one_cells (h4.grow hb)).1, (one_cells (h4.grow hb)).2, Lib.hid (grow_below h3 hb)⟩
attribute [local go_sem] run_sp
set_option maxRecDepth 20000 in
set_option maxHeartbeats 4000000 in
theorem wt_ok {s t : Int} (s1 : 1 ≤ s) (s2 : s ≤ 1000000) (t1 : 0 ≤ t) (t2 : t ≤ 1000000000 - s) (w : World) : Calls Try.prog 9 #[.int .i64 s, .int .i64 t] w fun e w' => e = .returned (.bool true) ∧ Below w.heap.size w w' := by
  obtain ⟨f, hf⟩ : ∃ f, t - t % s = f := ⟨_, rfl⟩
  have f0 := Int.emod_nonneg t (show s ≠ 0 by omega)
  have f1 := Int.emod_lt_of_pos t (show 0 < s by omega)
  have f2 : t % s ≤ t := by
    have := Int.ediv_nonneg t1 (show 0 ≤ s by omega)
    have h := Int.mul_ediv_add_emod t s
    have h2 : 0 ≤ s * (t / s) := Int.mul_nonneg (by omega) this
    omega
  have f3 : 0 ≤ f := by omega
  have f4 : f + s ≤ 1000000000 := by omega
  have HW := Lib.hid (okW_one s1 s2)
  have HT1 := Lib.hid (okT_of t1 (show t ≤ 1000000000 by omega))
  have HT2 := Lib.hid (okT_of (show 0 ≤ t + s by omega) (show t + s ≤ 1000000000 by omega))
  have HT3 := Lib.hid (okT_of (show 0 ≤ f + s - 1 by omega) (show f + s - 1 ≤ 1000000000 by omega))
  have HL1 := Lib.hid (ofS_one hf)
  have HL2 := Lib.hid (ofS_one (t := t + s) (s := s) (f := f + s) (by rw [tile_next s1, hf]))
  have HL3 := Lib.hid (ofS_one (t := f + s - 1) (s := s) (f := f) (by rw [← hf]; exact tile_last s1))
  have HB0 : Hid (Below w.heap.size w (w.alloc (.cells #[.int .i64 1, .int .i64 s, .int .i64 0] 23))) := Lib.hid ((Below.refl _ _).alloc (Nat.le_refl _) _)
  have HX0 := Lib.hid (wb_new w 1 s 0)
  clear f0 f1 f2 hf
  go_enter Try.func9, Try.ntmps9
  go_upto_region 8 with (first
    | (go_at_call 10; with_reducible refine (of_ok HW.out HT1.out HL1.out _).mono ?_; rintro e w1 ⟨v1, rfl, hi1, hb1⟩; obtain ⟨b1, o1, c1, rfl⟩ := one_span hi1; have HI1 := Lib.hid hi1; have HB1 := Lib.hid (grow_below HB0.out hb1); have HX1 := Lib.hid (HX0.out.grow hb1); obtain ⟨d0, d1, d2⟩ := HX1.out.cells; clear hb1 hi1)
    | (go_at_call 10; with_reducible refine (of_ok HW.out HT2.out HL2.out _).mono ?_; rintro e w2 ⟨v2, rfl, hi2, hb2⟩; obtain ⟨b2, o2, c2, rfl⟩ := one_span hi2; have HJ2 := Lib.hid hi2; have hS := stayW HX1.out HI1.out HI1.out HB1.out hb2; clear hb2 hi2 d0 d1 d2))
  obtain ⟨-, -, -, HX2, HI2, -, HB2⟩ := hS
  have hS := stay8 HX2.out HI2.out HJ2.out HB2.out (Below.refl _ _).drew
  have e1 : IntKind.i64.wrap (f + s - 1) = f + s - 1 := IntWalk.i64_in _ (by omega)
  clear HX1 HI1 HB1 HB0 HX0
  go_region_held3 (fun X => X.cell? ⟨w.heap.size, 0, none⟩ = some (.int .i64 1) ∧ X.cell? ⟨w.heap.size, 1, none⟩ = some (.int .i64 s) ∧ X.cell? ⟨w.heap.size, 2, none⟩ = some (.int .i64 0) ∧ X.cell? ⟨b1, o1 + 1, none⟩ = some (.int .i64 (f + s)) ∧ Hid (SpansAt X (.slice (some ⟨b1, o1, none⟩) 1 c1) [(f, f + s)]) ∧ Hid (SpansAt X (.slice (some ⟨b2, o2, none⟩) 1 c2) [(f + s, f + s + s)]) ∧ Hid (Below w.heap.size w X))
    (first | exact hS | exact hS3.1 | assumption)
    (first
      | (go_at_call 10; refine (of_ok HW.out HT3.out HL3.out _).mono ?_; rintro e w3 ⟨v3, rfl, hi3, hb3⟩; obtain ⟨b3, o3, c3, rfl⟩ := one_span hi3; have hS3 := And.intro (stay8 HX2.out HI2.out HJ2.out HB2.out ((Below.refl _ _).drew.trans hb3)) hi3; clear hb3))
  obtain ⟨-, -, -, -, HI3, HJ3, HB3⟩ := hS3.1
  have HK3 := Lib.hid hS3.2
  clear hS hS3 HX2 HI2 HJ2 HB2 e1
  obtain ⟨x0, x1⟩ := one_cells HI3.out
  obtain ⟨y0, y1⟩ := one_cells HJ3.out
  obtain ⟨z0, z1⟩ := one_cells HK3.out
  have hS := stay9 HI3.out HJ3.out HK3.out HB3.out (Below.refl _ _).drew
  go_wp2
  go_region_held3 (fun X => X.cell? ⟨b1, o1, none⟩ = some (.int .i64 f) ∧ X.cell? ⟨b1, o1 + 1, none⟩ = some (.int .i64 (f + s)) ∧ X.cell? ⟨b2, o2, none⟩ = some (.int .i64 (f + s)) ∧ X.cell? ⟨b3, o3, none⟩ = some (.int .i64 f) ∧ X.cell? ⟨b3, o3 + 1, none⟩ = some (.int .i64 (f + s)) ∧ Hid (Below w.heap.size w X))
    (first | exact hS | exact hS4 | assumption)
    (first
      | (go_at_call 16; refine (awake_any _).mono ?_; rintro e w4 ⟨rfl, hb4⟩; have hS4 := stay9 HI3.out HJ3.out HK3.out HB3.out ((Below.refl _ _).drew.trans hb4); clear hb4))
  go_wp2
  go_ret
  exact ⟨rfl, hS4.2.2.2.2.2.out⟩
set_option maxRecDepth 20000 in
set_option maxHeartbeats 2000000 in
theorem windowTiles_walk (s t : Int) (hs : I64 s) (w : World) : Calls Try.prog 9 #[.int .i64 s, .int .i64 t] w fun e w' => e = .returned (.bool true) ∧ Below w.heap.size w w' := by
  by_cases h : 1 ≤ s ∧ s ≤ 1000000 ∧ 0 ≤ t ∧ t ≤ 1000000000 - s
  · exact wt_ok h.1 h.2.1 h.2.2.1 h.2.2.2 w
  · have HB0 : Hid (Below w.heap.size w (w.alloc (.cells #[.int .i64 1, .int .i64 s, .int .i64 0] 23))) := Lib.hid ((Below.refl _ _).alloc (Nat.le_refl _) _)
    by_cases h1 : s < 1
    · clear h hs
      go_enter Try.func9, Try.ntmps9
      go_wp2
      go_ret
      exact ⟨rfl, HB0.out⟩
    · by_cases h2 : 1000000 < s
      · clear h hs
        go_enter Try.func9, Try.ntmps9
        go_wp2
        go_ret
        exact ⟨rfl, HB0.out⟩
      · by_cases h3 : t < 0
        · clear h hs
          go_enter Try.func9, Try.ntmps9
          go_wp2
          go_ret
          exact ⟨rfl, HB0.out⟩
        · have h4 : 1000000000 - s < t := by omega
          clear h hs
          go_enter Try.func9, Try.ntmps9
          go_wp2
          go_ret
          exact ⟨rfl, HB0.out⟩
end Go.Proofs.Ytfkdkcdknpjoeaa.Wi
