/-
  AggJoins: the walk of the law. Conditions: none.
-/
import Derived.Test.YtilakddhljbipaaAggFoldsWalk
namespace Go.Proofs.Ytilakddhljbipaa.Ag
set_option linter.unusedVariables false
set_option linter.unusedSimpArgs false
open Go.RowKit

theorem run_min_z (a b : Int) (ts : Array TypeId) (t : TypeId) (W : World) : (Builtin.min_ ts t #[.int .i64 a, .int .i64 b]).run Try.prog W = .ok (.int .i64 (min a b)) W := by
  rw [run_min_int2]
  congr 2
  split <;> omega
theorem run_max_z (a b : Int) (ts : Array TypeId) (t : TypeId) (W : World) : (Builtin.max_ ts t #[.int .i64 a, .int .i64 b]).run Try.prog W = .ok (.int .i64 (max a b)) W := by
  rw [run_max_int2]
  congr 2
  split <;> omega
theorem stayJ {W X w0 : World} {g h i : Nat} {a b j : Ac} (h1 : AcAt W g a) (h2 : AcAt W h b) (h3 : AcAt W i j) (h4 : Below w0.heap.size w0 W) (hb : Below W.heap.size W X) :
    (X.cell? ⟨g, 0, none⟩ = some (.int .i64 a.c) ∧ X.cell? ⟨g, 1, none⟩ = some (.int .i64 a.s) ∧ X.cell? ⟨g, 2, none⟩ = some (.int .i64 a.mn) ∧ X.cell? ⟨g, 3, none⟩ = some (.int .i64 a.mx)) ∧
    (X.cell? ⟨h, 0, none⟩ = some (.int .i64 b.c) ∧ X.cell? ⟨h, 1, none⟩ = some (.int .i64 b.s) ∧ X.cell? ⟨h, 2, none⟩ = some (.int .i64 b.mn) ∧ X.cell? ⟨h, 3, none⟩ = some (.int .i64 b.mx)) ∧
    (X.cell? ⟨i, 0, none⟩ = some (.int .i64 j.c) ∧ X.cell? ⟨i, 1, none⟩ = some (.int .i64 j.s) ∧ X.cell? ⟨i, 2, none⟩ = some (.int .i64 j.mn) ∧ X.cell? ⟨i, 3, none⟩ = some (.int .i64 j.mx)) ∧
    Hid (AcAt X g a) ∧ Hid (AcAt X h b) ∧ Hid (AcAt X i j) ∧ Hid (Below w0.heap.size w0 X) :=
  ⟨(h1.grow hb).cells, (h2.grow hb).cells, (h3.grow hb).cells, Lib.hid (h1.grow hb), Lib.hid (h2.grow hb), Lib.hid (h3.grow hb), Lib.hid (grow_below h4 hb)⟩
attribute [local go_sem ↓] run_min_z run_max_z
attribute [local go_sem] run_acc
set_option maxRecDepth 20000 in
set_option maxHeartbeats 2000000 in
theorem aggJoins_walk (a b : Ac) (kind : Int) (w : World) : Calls Try.prog 5 #[acV a, acV b, .int .i64 kind] w fun e w' => e = .returned (.bool true) ∧ Below w.heap.size w w' := by
  by_cases h1 : a.c = 0
  · have e1 : (a.c == 0) = true := ibeq h1
    by_cases h2 : b.c = 0
    · have e2 : (b.c == 0) = true := ibeq h2
      have H1 := Lib.hid h1
      have H2 := Lib.hid h2
      clear h1 h2
      go_enter Try.func5, Try.ntmps5
      go_upto_region 8 with (fail)
      have HJ : Hid (jn a b = (⟨0, 0, 0, 0⟩ : Ac)) := Lib.hid (by unfold jn; rw [if_pos H1.out, if_pos H2.out]; rfl)
      have HA0 : Hid (AcAt (((w.alloc (.cells (acC a) 24)).alloc (.cells (acC b) 24)).alloc (.cells (acC (⟨0, 0, 0, 0⟩ : Ac)) 24)) w.heap.size a) := Lib.hid (((ac_new w a).grow ((Below.refl _ _).alloc (Nat.le_refl _) _)).grow ((Below.refl _ _).alloc (Nat.le_refl _) _))
      have HC0 : Hid (AcAt (((w.alloc (.cells (acC a) 24)).alloc (.cells (acC b) 24)).alloc (.cells (acC (⟨0, 0, 0, 0⟩ : Ac)) 24)) (w.heap.size + 1) b) := Lib.hid ((by have h := ac_new (w.alloc (.cells (acC a) 24)) b; rwa [show (w.alloc (.cells (acC a) 24)).heap.size = w.heap.size + 1 by simp] at h : AcAt ((w.alloc (.cells (acC a) 24)).alloc (.cells (acC b) 24)) (w.heap.size + 1) b).grow ((Below.refl _ _).alloc (Nat.le_refl _) _))
      have HD0 : Hid (AcAt (((w.alloc (.cells (acC a) 24)).alloc (.cells (acC b) 24)).alloc (.cells (acC (⟨0, 0, 0, 0⟩ : Ac)) 24)) (w.heap.size + 1 + 1) (⟨0, 0, 0, 0⟩ : Ac)) := Lib.hid (by have h := ac_new ((w.alloc (.cells (acC a) 24)).alloc (.cells (acC b) 24)) (⟨0, 0, 0, 0⟩ : Ac); rwa [show ((w.alloc (.cells (acC a) 24)).alloc (.cells (acC b) 24)).heap.size = w.heap.size + 1 + 1 by simp] at h)
      have HB0 : Hid (Below w.heap.size w (((w.alloc (.cells (acC a) 24)).alloc (.cells (acC b) 24)).alloc (.cells (acC (⟨0, 0, 0, 0⟩ : Ac)) 24))) := Lib.hid ((((Below.refl _ _).alloc (Nat.le_refl _) _).alloc (by simp) _).alloc (by simp; omega) _)
      generalize ((w.alloc (.cells (acC a) 24)).alloc (.cells (acC b) 24)).alloc (.cells (acC (⟨0, 0, 0, 0⟩ : Ac)) 24) = w2 at HA0 HC0 HD0 HB0 ⊢
      have hS := stayJ HA0.out HC0.out HD0.out HB0.out (Below.refl _ _)
      obtain ⟨v, e, hv⟩ := vl_ex kind a
      have HV := Lib.hid hv
      clear e1 e2 hv
      obtain ⟨⟨c0, c1, c2, c3⟩, -⟩ := hS
      go_upto_region 9 with (go_at_call 7; refine (value_at (a := a) HV.out _).mono ?_; rintro e w3 ⟨rfl, hb3⟩; have hS3 := stayJ HA0.out HC0.out HD0.out HB0.out hb3; clear hb3)
      clear c0 c1 c2 c3 HA0 HC0 HD0 HB0
      obtain ⟨⟨c0, c1, c2, c3⟩, -, -, HA3, HC3, HD3, HB3⟩ := hS3
      go_upto_region 10 with (go_at_call 8; refine (rvalue_at (a := a) HV.out _).mono ?_; rintro e w4 ⟨rfl, hb4⟩; have hS4 := stayJ HA3.out HC3.out HD3.out HB3.out hb4; clear hb4)
      clear c0 c1 c2 c3 HA3 HC3 HD3 HB3
      obtain ⟨-, -, -, HA4, HC4, HD4, HB4⟩ := hS4
      obtain ⟨j, hj⟩ : ∃ j : Ac, (⟨0, 0, 0, 0⟩ : Ac) = j := ⟨_, rfl⟩
      rw [hj] at HD4 HJ
      clear hj
      have hS := stayJ HA4.out HC4.out HD4.out HB4.out (Below.refl _ _).drew
      have f0 : accEq j j = true := accEq_refl j
      unfold accEq at f0
      have f1 : (v == v) = true := ibeq rfl
      have f2 : (e == e) = true := ibeq rfl
      go_region_held3 (fun X => (X.cell? ⟨w.heap.size, 0, none⟩ = some (.int .i64 a.c) ∧ X.cell? ⟨w.heap.size, 1, none⟩ = some (.int .i64 a.s) ∧ X.cell? ⟨w.heap.size, 2, none⟩ = some (.int .i64 a.mn) ∧ X.cell? ⟨w.heap.size, 3, none⟩ = some (.int .i64 a.mx)) ∧ (X.cell? ⟨w.heap.size + 1, 0, none⟩ = some (.int .i64 b.c) ∧ X.cell? ⟨w.heap.size + 1, 1, none⟩ = some (.int .i64 b.s) ∧ X.cell? ⟨w.heap.size + 1, 2, none⟩ = some (.int .i64 b.mn) ∧ X.cell? ⟨w.heap.size + 1, 3, none⟩ = some (.int .i64 b.mx)) ∧ (X.cell? ⟨w.heap.size + 1 + 1, 0, none⟩ = some (.int .i64 j.c) ∧ X.cell? ⟨w.heap.size + 1 + 1, 1, none⟩ = some (.int .i64 j.s) ∧ X.cell? ⟨w.heap.size + 1 + 1, 2, none⟩ = some (.int .i64 j.mn) ∧ X.cell? ⟨w.heap.size + 1 + 1, 3, none⟩ = some (.int .i64 j.mx)) ∧ Hid (AcAt X w.heap.size a) ∧ Hid (AcAt X (w.heap.size + 1) b) ∧ Hid (AcAt X (w.heap.size + 1 + 1) j) ∧ Hid (Below w.heap.size w X))
        (first | exact hS | exact hS5 | exact hS6 | assumption)
        (first
          | (go_at_call 9; refine (awake_any _).mono ?_; rintro e w5 ⟨rfl, hb5⟩; have hS5 := stayJ HA4.out HC4.out HD4.out HB4.out ((Below.refl _ _).drew.trans hb5); clear hb5)
          | (go_at_call 11; have hh := (‹_ ∧ _ ∧ _ ∧ Hid (AcAt _ _ _) ∧ _ ∧ _ ∧ _›).2.2.2; refine (join_at (a := a) (b := b) HJ.out _).mono ?_; rintro e w6 ⟨rfl, hb6⟩; have hS6 := stayJ hh.1.out hh.2.1.out hh.2.2.1.out hh.2.2.2.out hb6; clear hb6 hh))
      go_wp2
      go_ret
      exact ⟨rfl, hS6.2.2.2.2.2.2.out⟩
    · have e2 : (b.c == 0) = false := ibne h2
      have H1 := Lib.hid h1
      have H2 := Lib.hid h2
      clear h1 h2
      go_enter Try.func5, Try.ntmps5
      go_upto_region 8 with (fail)
      have HJ : Hid (jn a b = (⟨b.c, b.s, b.mn, b.mx⟩ : Ac)) := Lib.hid (by unfold jn; rw [if_pos H1.out, if_neg H2.out])
      have HA0 : Hid (AcAt (((w.alloc (.cells (acC a) 24)).alloc (.cells (acC b) 24)).alloc (.cells (acC (⟨b.c, b.s, b.mn, b.mx⟩ : Ac)) 24)) w.heap.size a) := Lib.hid (((ac_new w a).grow ((Below.refl _ _).alloc (Nat.le_refl _) _)).grow ((Below.refl _ _).alloc (Nat.le_refl _) _))
      have HC0 : Hid (AcAt (((w.alloc (.cells (acC a) 24)).alloc (.cells (acC b) 24)).alloc (.cells (acC (⟨b.c, b.s, b.mn, b.mx⟩ : Ac)) 24)) (w.heap.size + 1) b) := Lib.hid ((by have h := ac_new (w.alloc (.cells (acC a) 24)) b; rwa [show (w.alloc (.cells (acC a) 24)).heap.size = w.heap.size + 1 by simp] at h : AcAt ((w.alloc (.cells (acC a) 24)).alloc (.cells (acC b) 24)) (w.heap.size + 1) b).grow ((Below.refl _ _).alloc (Nat.le_refl _) _))
      have HD0 : Hid (AcAt (((w.alloc (.cells (acC a) 24)).alloc (.cells (acC b) 24)).alloc (.cells (acC (⟨b.c, b.s, b.mn, b.mx⟩ : Ac)) 24)) (w.heap.size + 1 + 1) (⟨b.c, b.s, b.mn, b.mx⟩ : Ac)) := Lib.hid (by have h := ac_new ((w.alloc (.cells (acC a) 24)).alloc (.cells (acC b) 24)) (⟨b.c, b.s, b.mn, b.mx⟩ : Ac); rwa [show ((w.alloc (.cells (acC a) 24)).alloc (.cells (acC b) 24)).heap.size = w.heap.size + 1 + 1 by simp] at h)
      have HB0 : Hid (Below w.heap.size w (((w.alloc (.cells (acC a) 24)).alloc (.cells (acC b) 24)).alloc (.cells (acC (⟨b.c, b.s, b.mn, b.mx⟩ : Ac)) 24))) := Lib.hid ((((Below.refl _ _).alloc (Nat.le_refl _) _).alloc (by simp) _).alloc (by simp; omega) _)
      generalize ((w.alloc (.cells (acC a) 24)).alloc (.cells (acC b) 24)).alloc (.cells (acC (⟨b.c, b.s, b.mn, b.mx⟩ : Ac)) 24) = w2 at HA0 HC0 HD0 HB0 ⊢
      have hS := stayJ HA0.out HC0.out HD0.out HB0.out (Below.refl _ _)
      obtain ⟨v, e, hv⟩ := vl_ex kind a
      have HV := Lib.hid hv
      clear e1 e2 hv
      obtain ⟨⟨c0, c1, c2, c3⟩, -⟩ := hS
      go_upto_region 9 with (go_at_call 7; refine (value_at (a := a) HV.out _).mono ?_; rintro e w3 ⟨rfl, hb3⟩; have hS3 := stayJ HA0.out HC0.out HD0.out HB0.out hb3; clear hb3)
      clear c0 c1 c2 c3 HA0 HC0 HD0 HB0
      obtain ⟨⟨c0, c1, c2, c3⟩, -, -, HA3, HC3, HD3, HB3⟩ := hS3
      go_upto_region 10 with (go_at_call 8; refine (rvalue_at (a := a) HV.out _).mono ?_; rintro e w4 ⟨rfl, hb4⟩; have hS4 := stayJ HA3.out HC3.out HD3.out HB3.out hb4; clear hb4)
      clear c0 c1 c2 c3 HA3 HC3 HD3 HB3
      obtain ⟨-, -, -, HA4, HC4, HD4, HB4⟩ := hS4
      obtain ⟨j, hj⟩ : ∃ j : Ac, (⟨b.c, b.s, b.mn, b.mx⟩ : Ac) = j := ⟨_, rfl⟩
      rw [hj] at HD4 HJ
      clear hj
      have hS := stayJ HA4.out HC4.out HD4.out HB4.out (Below.refl _ _).drew
      have f0 : accEq j j = true := accEq_refl j
      unfold accEq at f0
      have f1 : (v == v) = true := ibeq rfl
      have f2 : (e == e) = true := ibeq rfl
      go_region_held3 (fun X => (X.cell? ⟨w.heap.size, 0, none⟩ = some (.int .i64 a.c) ∧ X.cell? ⟨w.heap.size, 1, none⟩ = some (.int .i64 a.s) ∧ X.cell? ⟨w.heap.size, 2, none⟩ = some (.int .i64 a.mn) ∧ X.cell? ⟨w.heap.size, 3, none⟩ = some (.int .i64 a.mx)) ∧ (X.cell? ⟨w.heap.size + 1, 0, none⟩ = some (.int .i64 b.c) ∧ X.cell? ⟨w.heap.size + 1, 1, none⟩ = some (.int .i64 b.s) ∧ X.cell? ⟨w.heap.size + 1, 2, none⟩ = some (.int .i64 b.mn) ∧ X.cell? ⟨w.heap.size + 1, 3, none⟩ = some (.int .i64 b.mx)) ∧ (X.cell? ⟨w.heap.size + 1 + 1, 0, none⟩ = some (.int .i64 j.c) ∧ X.cell? ⟨w.heap.size + 1 + 1, 1, none⟩ = some (.int .i64 j.s) ∧ X.cell? ⟨w.heap.size + 1 + 1, 2, none⟩ = some (.int .i64 j.mn) ∧ X.cell? ⟨w.heap.size + 1 + 1, 3, none⟩ = some (.int .i64 j.mx)) ∧ Hid (AcAt X w.heap.size a) ∧ Hid (AcAt X (w.heap.size + 1) b) ∧ Hid (AcAt X (w.heap.size + 1 + 1) j) ∧ Hid (Below w.heap.size w X))
        (first | exact hS | exact hS5 | exact hS6 | assumption)
        (first
          | (go_at_call 9; refine (awake_any _).mono ?_; rintro e w5 ⟨rfl, hb5⟩; have hS5 := stayJ HA4.out HC4.out HD4.out HB4.out ((Below.refl _ _).drew.trans hb5); clear hb5)
          | (go_at_call 11; have hh := (‹_ ∧ _ ∧ _ ∧ Hid (AcAt _ _ _) ∧ _ ∧ _ ∧ _›).2.2.2; refine (join_at (a := a) (b := b) HJ.out _).mono ?_; rintro e w6 ⟨rfl, hb6⟩; have hS6 := stayJ hh.1.out hh.2.1.out hh.2.2.1.out hh.2.2.2.out hb6; clear hb6 hh))
      go_wp2
      go_ret
      exact ⟨rfl, hS6.2.2.2.2.2.2.out⟩
  · have e1 : (a.c == 0) = false := ibne h1
    by_cases h2 : b.c = 0
    · have e2 : (b.c == 0) = true := ibeq h2
      have H1 := Lib.hid h1
      have H2 := Lib.hid h2
      clear h1 h2
      go_enter Try.func5, Try.ntmps5
      go_upto_region 8 with (fail)
      have HJ : Hid (jn a b = (⟨a.c, a.s, a.mn, a.mx⟩ : Ac)) := Lib.hid (by unfold jn; rw [if_neg H1.out, if_pos H2.out])
      have HA0 : Hid (AcAt (((w.alloc (.cells (acC a) 24)).alloc (.cells (acC b) 24)).alloc (.cells (acC (⟨a.c, a.s, a.mn, a.mx⟩ : Ac)) 24)) w.heap.size a) := Lib.hid (((ac_new w a).grow ((Below.refl _ _).alloc (Nat.le_refl _) _)).grow ((Below.refl _ _).alloc (Nat.le_refl _) _))
      have HC0 : Hid (AcAt (((w.alloc (.cells (acC a) 24)).alloc (.cells (acC b) 24)).alloc (.cells (acC (⟨a.c, a.s, a.mn, a.mx⟩ : Ac)) 24)) (w.heap.size + 1) b) := Lib.hid ((by have h := ac_new (w.alloc (.cells (acC a) 24)) b; rwa [show (w.alloc (.cells (acC a) 24)).heap.size = w.heap.size + 1 by simp] at h : AcAt ((w.alloc (.cells (acC a) 24)).alloc (.cells (acC b) 24)) (w.heap.size + 1) b).grow ((Below.refl _ _).alloc (Nat.le_refl _) _))
      have HD0 : Hid (AcAt (((w.alloc (.cells (acC a) 24)).alloc (.cells (acC b) 24)).alloc (.cells (acC (⟨a.c, a.s, a.mn, a.mx⟩ : Ac)) 24)) (w.heap.size + 1 + 1) (⟨a.c, a.s, a.mn, a.mx⟩ : Ac)) := Lib.hid (by have h := ac_new ((w.alloc (.cells (acC a) 24)).alloc (.cells (acC b) 24)) (⟨a.c, a.s, a.mn, a.mx⟩ : Ac); rwa [show ((w.alloc (.cells (acC a) 24)).alloc (.cells (acC b) 24)).heap.size = w.heap.size + 1 + 1 by simp] at h)
      have HB0 : Hid (Below w.heap.size w (((w.alloc (.cells (acC a) 24)).alloc (.cells (acC b) 24)).alloc (.cells (acC (⟨a.c, a.s, a.mn, a.mx⟩ : Ac)) 24))) := Lib.hid ((((Below.refl _ _).alloc (Nat.le_refl _) _).alloc (by simp) _).alloc (by simp; omega) _)
      generalize ((w.alloc (.cells (acC a) 24)).alloc (.cells (acC b) 24)).alloc (.cells (acC (⟨a.c, a.s, a.mn, a.mx⟩ : Ac)) 24) = w2 at HA0 HC0 HD0 HB0 ⊢
      have hS := stayJ HA0.out HC0.out HD0.out HB0.out (Below.refl _ _)
      obtain ⟨v, e, hv⟩ := vl_ex kind a
      have HV := Lib.hid hv
      clear e1 e2 hv
      obtain ⟨⟨c0, c1, c2, c3⟩, -⟩ := hS
      go_upto_region 9 with (go_at_call 7; refine (value_at (a := a) HV.out _).mono ?_; rintro e w3 ⟨rfl, hb3⟩; have hS3 := stayJ HA0.out HC0.out HD0.out HB0.out hb3; clear hb3)
      clear c0 c1 c2 c3 HA0 HC0 HD0 HB0
      obtain ⟨⟨c0, c1, c2, c3⟩, -, -, HA3, HC3, HD3, HB3⟩ := hS3
      go_upto_region 10 with (go_at_call 8; refine (rvalue_at (a := a) HV.out _).mono ?_; rintro e w4 ⟨rfl, hb4⟩; have hS4 := stayJ HA3.out HC3.out HD3.out HB3.out hb4; clear hb4)
      clear c0 c1 c2 c3 HA3 HC3 HD3 HB3
      obtain ⟨-, -, -, HA4, HC4, HD4, HB4⟩ := hS4
      obtain ⟨j, hj⟩ : ∃ j : Ac, (⟨a.c, a.s, a.mn, a.mx⟩ : Ac) = j := ⟨_, rfl⟩
      rw [hj] at HD4 HJ
      clear hj
      have hS := stayJ HA4.out HC4.out HD4.out HB4.out (Below.refl _ _).drew
      have f0 : accEq j j = true := accEq_refl j
      unfold accEq at f0
      have f1 : (v == v) = true := ibeq rfl
      have f2 : (e == e) = true := ibeq rfl
      go_region_held3 (fun X => (X.cell? ⟨w.heap.size, 0, none⟩ = some (.int .i64 a.c) ∧ X.cell? ⟨w.heap.size, 1, none⟩ = some (.int .i64 a.s) ∧ X.cell? ⟨w.heap.size, 2, none⟩ = some (.int .i64 a.mn) ∧ X.cell? ⟨w.heap.size, 3, none⟩ = some (.int .i64 a.mx)) ∧ (X.cell? ⟨w.heap.size + 1, 0, none⟩ = some (.int .i64 b.c) ∧ X.cell? ⟨w.heap.size + 1, 1, none⟩ = some (.int .i64 b.s) ∧ X.cell? ⟨w.heap.size + 1, 2, none⟩ = some (.int .i64 b.mn) ∧ X.cell? ⟨w.heap.size + 1, 3, none⟩ = some (.int .i64 b.mx)) ∧ (X.cell? ⟨w.heap.size + 1 + 1, 0, none⟩ = some (.int .i64 j.c) ∧ X.cell? ⟨w.heap.size + 1 + 1, 1, none⟩ = some (.int .i64 j.s) ∧ X.cell? ⟨w.heap.size + 1 + 1, 2, none⟩ = some (.int .i64 j.mn) ∧ X.cell? ⟨w.heap.size + 1 + 1, 3, none⟩ = some (.int .i64 j.mx)) ∧ Hid (AcAt X w.heap.size a) ∧ Hid (AcAt X (w.heap.size + 1) b) ∧ Hid (AcAt X (w.heap.size + 1 + 1) j) ∧ Hid (Below w.heap.size w X))
        (first | exact hS | exact hS5 | exact hS6 | assumption)
        (first
          | (go_at_call 9; refine (awake_any _).mono ?_; rintro e w5 ⟨rfl, hb5⟩; have hS5 := stayJ HA4.out HC4.out HD4.out HB4.out ((Below.refl _ _).drew.trans hb5); clear hb5)
          | (go_at_call 11; have hh := (‹_ ∧ _ ∧ _ ∧ Hid (AcAt _ _ _) ∧ _ ∧ _ ∧ _›).2.2.2; refine (join_at (a := a) (b := b) HJ.out _).mono ?_; rintro e w6 ⟨rfl, hb6⟩; have hS6 := stayJ hh.1.out hh.2.1.out hh.2.2.1.out hh.2.2.2.out hb6; clear hb6 hh))
      go_wp2
      go_ret
      exact ⟨rfl, hS6.2.2.2.2.2.2.out⟩
    · have e2 : (b.c == 0) = false := ibne h2
      have H1 := Lib.hid h1
      have H2 := Lib.hid h2
      clear h1 h2
      go_enter Try.func5, Try.ntmps5
      go_upto_region 8 with (fail)
      have HJ : Hid (jn a b = (⟨wrap64 (a.c + b.c), wrap64 (a.s + b.s), min a.mn b.mn, max a.mx b.mx⟩ : Ac)) := Lib.hid (by unfold jn wr; rw [if_neg H1.out, if_neg H2.out, IntWalk.i64_left, IntWalk.i64_left])
      have HA0 : Hid (AcAt (((w.alloc (.cells (acC a) 24)).alloc (.cells (acC b) 24)).alloc (.cells (acC (⟨wrap64 (a.c + b.c), wrap64 (a.s + b.s), min a.mn b.mn, max a.mx b.mx⟩ : Ac)) 24)) w.heap.size a) := Lib.hid (((ac_new w a).grow ((Below.refl _ _).alloc (Nat.le_refl _) _)).grow ((Below.refl _ _).alloc (Nat.le_refl _) _))
      have HC0 : Hid (AcAt (((w.alloc (.cells (acC a) 24)).alloc (.cells (acC b) 24)).alloc (.cells (acC (⟨wrap64 (a.c + b.c), wrap64 (a.s + b.s), min a.mn b.mn, max a.mx b.mx⟩ : Ac)) 24)) (w.heap.size + 1) b) := Lib.hid ((by have h := ac_new (w.alloc (.cells (acC a) 24)) b; rwa [show (w.alloc (.cells (acC a) 24)).heap.size = w.heap.size + 1 by simp] at h : AcAt ((w.alloc (.cells (acC a) 24)).alloc (.cells (acC b) 24)) (w.heap.size + 1) b).grow ((Below.refl _ _).alloc (Nat.le_refl _) _))
      have HD0 : Hid (AcAt (((w.alloc (.cells (acC a) 24)).alloc (.cells (acC b) 24)).alloc (.cells (acC (⟨wrap64 (a.c + b.c), wrap64 (a.s + b.s), min a.mn b.mn, max a.mx b.mx⟩ : Ac)) 24)) (w.heap.size + 1 + 1) (⟨wrap64 (a.c + b.c), wrap64 (a.s + b.s), min a.mn b.mn, max a.mx b.mx⟩ : Ac)) := Lib.hid (by have h := ac_new ((w.alloc (.cells (acC a) 24)).alloc (.cells (acC b) 24)) (⟨wrap64 (a.c + b.c), wrap64 (a.s + b.s), min a.mn b.mn, max a.mx b.mx⟩ : Ac); rwa [show ((w.alloc (.cells (acC a) 24)).alloc (.cells (acC b) 24)).heap.size = w.heap.size + 1 + 1 by simp] at h)
      have HB0 : Hid (Below w.heap.size w (((w.alloc (.cells (acC a) 24)).alloc (.cells (acC b) 24)).alloc (.cells (acC (⟨wrap64 (a.c + b.c), wrap64 (a.s + b.s), min a.mn b.mn, max a.mx b.mx⟩ : Ac)) 24))) := Lib.hid ((((Below.refl _ _).alloc (Nat.le_refl _) _).alloc (by simp) _).alloc (by simp; omega) _)
      generalize ((w.alloc (.cells (acC a) 24)).alloc (.cells (acC b) 24)).alloc (.cells (acC (⟨wrap64 (a.c + b.c), wrap64 (a.s + b.s), min a.mn b.mn, max a.mx b.mx⟩ : Ac)) 24) = w2 at HA0 HC0 HD0 HB0 ⊢
      have hS := stayJ HA0.out HC0.out HD0.out HB0.out (Below.refl _ _)
      obtain ⟨v, e, hv⟩ := vl_ex kind a
      have HV := Lib.hid hv
      clear e1 e2 hv
      obtain ⟨⟨c0, c1, c2, c3⟩, -⟩ := hS
      go_upto_region 9 with (go_at_call 7; refine (value_at (a := a) HV.out _).mono ?_; rintro e w3 ⟨rfl, hb3⟩; have hS3 := stayJ HA0.out HC0.out HD0.out HB0.out hb3; clear hb3)
      clear c0 c1 c2 c3 HA0 HC0 HD0 HB0
      obtain ⟨⟨c0, c1, c2, c3⟩, -, -, HA3, HC3, HD3, HB3⟩ := hS3
      go_upto_region 10 with (go_at_call 8; refine (rvalue_at (a := a) HV.out _).mono ?_; rintro e w4 ⟨rfl, hb4⟩; have hS4 := stayJ HA3.out HC3.out HD3.out HB3.out hb4; clear hb4)
      clear c0 c1 c2 c3 HA3 HC3 HD3 HB3
      obtain ⟨-, -, -, HA4, HC4, HD4, HB4⟩ := hS4
      obtain ⟨j, hj⟩ : ∃ j : Ac, (⟨wrap64 (a.c + b.c), wrap64 (a.s + b.s), min a.mn b.mn, max a.mx b.mx⟩ : Ac) = j := ⟨_, rfl⟩
      rw [hj] at HD4 HJ
      clear hj
      have hS := stayJ HA4.out HC4.out HD4.out HB4.out (Below.refl _ _).drew
      have f0 : accEq j j = true := accEq_refl j
      unfold accEq at f0
      have f1 : (v == v) = true := ibeq rfl
      have f2 : (e == e) = true := ibeq rfl
      go_region_held3 (fun X => (X.cell? ⟨w.heap.size, 0, none⟩ = some (.int .i64 a.c) ∧ X.cell? ⟨w.heap.size, 1, none⟩ = some (.int .i64 a.s) ∧ X.cell? ⟨w.heap.size, 2, none⟩ = some (.int .i64 a.mn) ∧ X.cell? ⟨w.heap.size, 3, none⟩ = some (.int .i64 a.mx)) ∧ (X.cell? ⟨w.heap.size + 1, 0, none⟩ = some (.int .i64 b.c) ∧ X.cell? ⟨w.heap.size + 1, 1, none⟩ = some (.int .i64 b.s) ∧ X.cell? ⟨w.heap.size + 1, 2, none⟩ = some (.int .i64 b.mn) ∧ X.cell? ⟨w.heap.size + 1, 3, none⟩ = some (.int .i64 b.mx)) ∧ (X.cell? ⟨w.heap.size + 1 + 1, 0, none⟩ = some (.int .i64 j.c) ∧ X.cell? ⟨w.heap.size + 1 + 1, 1, none⟩ = some (.int .i64 j.s) ∧ X.cell? ⟨w.heap.size + 1 + 1, 2, none⟩ = some (.int .i64 j.mn) ∧ X.cell? ⟨w.heap.size + 1 + 1, 3, none⟩ = some (.int .i64 j.mx)) ∧ Hid (AcAt X w.heap.size a) ∧ Hid (AcAt X (w.heap.size + 1) b) ∧ Hid (AcAt X (w.heap.size + 1 + 1) j) ∧ Hid (Below w.heap.size w X))
        (first | exact hS | exact hS5 | exact hS6 | assumption)
        (first
          | (go_at_call 9; refine (awake_any _).mono ?_; rintro e w5 ⟨rfl, hb5⟩; have hS5 := stayJ HA4.out HC4.out HD4.out HB4.out ((Below.refl _ _).drew.trans hb5); clear hb5)
          | (go_at_call 11; have hh := (‹_ ∧ _ ∧ _ ∧ Hid (AcAt _ _ _) ∧ _ ∧ _ ∧ _›).2.2.2; refine (join_at (a := a) (b := b) HJ.out _).mono ?_; rintro e w6 ⟨rfl, hb6⟩; have hS6 := stayJ hh.1.out hh.2.1.out hh.2.2.1.out hh.2.2.2.out hb6; clear hb6 hh))
      go_wp2
      go_ret
      exact ⟨rfl, hS6.2.2.2.2.2.2.out⟩
end Go.Proofs.Ytilakddhljbipaa.Ag
