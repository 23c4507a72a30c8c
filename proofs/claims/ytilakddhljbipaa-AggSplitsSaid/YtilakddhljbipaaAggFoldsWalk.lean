/-
  AggFolds: the walk of the law. Conditions: the values lie in memory, each an int.
-/
import Derived.Test.YtilakddhljbipaaAAwake
import Derived.Test.YtilakddhljbipaaARef
import Derived.Test.YtilakddhljbipaaARof
namespace Go.Proofs.Ytilakddhljbipaa.Ag
set_option linter.unusedVariables false
set_option linter.unusedSimpArgs false
open Go.RowKit

/-- The slice v lists the integers L, each an int. -/
def IntsB (w : World) (v : Value) (L : List Int) : Prop := IntsZ w v L ∧ ∀ z ∈ L, I64 z
theorem stayA {W X w0 : World} {g : Nat} {r : Ac} {v : Value} {L : List Int} (h1 : AcAt W g r) (h2 : IntsZ W v L) (h3 : Below w0.heap.size w0 W) (hb : Below W.heap.size W X) :
    X.cell? ⟨g, 0, none⟩ = some (.int .i64 r.c) ∧ X.cell? ⟨g, 1, none⟩ = some (.int .i64 r.s) ∧ X.cell? ⟨g, 2, none⟩ = some (.int .i64 r.mn) ∧ X.cell? ⟨g, 3, none⟩ = some (.int .i64 r.mx) ∧ Hid (AcAt X g r) ∧ Hid (IntsZ X v L) ∧ Hid (Below w0.heap.size w0 X) := by
  have h := h1.grow hb
  obtain ⟨c0, c1, c2, c3⟩ := h.cells
  exact ⟨c0, c1, c2, c3, Lib.hid h, Lib.hid (h2.grow hb), Lib.hid (grow_below h3 hb)⟩
theorem vl_ex (k : Int) (a : Ac) : ∃ v e, vl k a = (v, e) := ⟨_, _, rfl⟩
attribute [local go_sem] run_acc
set_option maxRecDepth 20000 in
set_option maxHeartbeats 1000000 in
theorem aggFolds_walk {w : World} {a : Option Addr} {n c : Nat} {L : List Int} (kind : Int) (h : IntsB w (.slice a n c) L) : Calls Try.prog 3 #[.slice a n c, .int .i64 kind] w fun e w' => e = .returned (.bool true) ∧ Below w.heap.size w w' := by
  obtain ⟨h, hz⟩ := h
  obtain ⟨hnl, k1, k2, k3⟩ := Lst.len h
  unfold maxLen at k2 k3
  by_cases hn : n ≤ 1000
  · have HI := Lib.hid h
    have HZ := Lib.hid hz
    clear h hz hnl k2 k3
    go_enter Try.func3, Try.ntmps3
    go_upto_region 4 with (go_at_call 6; refine (fold_at HI.out hn HZ.out).mono ?_; rintro e w1 ⟨r, rfl, hr, hb1⟩; have HR := Lib.hid hr; have HI1 := Lib.hid (HI.out.grow hb1); have HB1 := Lib.hid hb1; clear hb1 hr)
    obtain ⟨v, e, hv⟩ := vl_ex kind r
    have HV := Lib.hid hv
    have HA2 := Lib.hid (ac_new w1 r)
    have hb2 : Below w1.heap.size w1 (w1.alloc (.cells (acC r) 24)) := (Below.refl _ _).alloc (Nat.le_refl _) _
    have HI2 := Lib.hid (HI1.out.grow hb2)
    have HB2 := Lib.hid (grow_below HB1.out hb2)
    obtain ⟨g, hg⟩ : ∃ g, w1.heap.size = g := ⟨_, rfl⟩
    rw [hg] at HA2 ⊢
    clear hb2 hg HI1 HB1 hv
    generalize w1.alloc (.cells (acC r) 24) = w2 at HA2 HI2 HB2 ⊢
    obtain ⟨c0, c1, c2, c3⟩ := HA2.out.cells
    go_upto_region 5 with (go_at_call 7; refine (value_at (a := r) HV.out _).mono ?_; rintro e w3 ⟨rfl, hb3⟩; have HA3 := Lib.hid (HA2.out.grow hb3); have HI3 := Lib.hid (HI2.out.grow hb3); have HB3 := Lib.hid (grow_below HB2.out hb3); clear hb3)
    clear c0 c1 c2 c3 HA2 HI2 HB2
    obtain ⟨c0, c1, c2, c3⟩ := HA3.out.cells
    go_upto_region 6 with (go_at_call 8; refine (rvalue_at (a := r) HV.out _).mono ?_; rintro e w4 ⟨rfl, hb4⟩; have HA4 := Lib.hid (HA3.out.grow hb4); have HI4 := Lib.hid (HI3.out.grow hb4); have HB4 := Lib.hid (grow_below HB3.out hb4); clear hb4)
    clear c0 c1 c2 c3 HA3 HI3 HB3
    have hS := stayA HA4.out HI4.out HB4.out (Below.refl _ _).drew
    have e0 : accEq r r = true := accEq_refl r
    unfold accEq at e0
    have e1 : (v == v) = true := ibeq rfl
    have e2 : (e == e) = true := ibeq rfl
    go_region_held3 (fun X => X.cell? ⟨g, 0, none⟩ = some (.int .i64 r.c) ∧ X.cell? ⟨g, 1, none⟩ = some (.int .i64 r.s) ∧ X.cell? ⟨g, 2, none⟩ = some (.int .i64 r.mn) ∧ X.cell? ⟨g, 3, none⟩ = some (.int .i64 r.mx) ∧ Hid (AcAt X g r) ∧ Hid (IntsZ X (.slice a n c) L) ∧ Hid (Below w.heap.size w X))
      (first | exact hS | exact hS5 | exact hS6 | assumption)
      (first
        | (go_at_call 9; refine (awake_any _).mono ?_; rintro e w5 ⟨rfl, hb5⟩; have hS5 := stayA HA4.out HI4.out HB4.out ((Below.refl _ _).drew.trans hb5); clear hb5)
        | (go_at_call 10; have hh := (‹_ ∧ _ ∧ _ ∧ _ ∧ Hid (AcAt _ _ _) ∧ _ ∧ _›).2.2.2.2; refine (rof_at hh.2.1.out hn HZ.out).mono ?_; rintro e w6 ⟨r', rfl, hr', hb6⟩; obtain rfl := hr'.uniq HR.out; have hS6 := stayA hh.1.out hh.2.1.out hh.2.2.out hb6; clear hb6 hh hr'))
    go_wp2
    go_ret
    exact ⟨rfl, hS6.2.2.2.2.2.2.out⟩
  · clear h hz hnl
    go_enter Try.func3, Try.ntmps3
    go_wp2
    go_ret
    exact ⟨rfl, Below.refl _ _⟩
end Go.Proofs.Ytilakddhljbipaa.Ag
