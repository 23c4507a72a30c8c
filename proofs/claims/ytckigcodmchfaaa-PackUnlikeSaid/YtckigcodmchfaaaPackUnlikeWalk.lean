/-
  The walk of a law: For every two integers, the encodings are the same up to the length of the shorter one just if the integers are the same, and the document's examples hold. Conditions: none.
-/
import Derived.Test.YtckigcodmchfaaaAwake
import Derived.Deep.RegionHeld3
namespace Go.Proofs.Ytckigcodmchfaaa.packUnlike
open Go.RowKit
open Go.Proofs.Ytckigcodmchfaaa.Pk
set_option linter.unusedVariables false

/-- Two byte rows that lie, in a world that has kept all that was there. -/
def Two (w : World) (A1 : Option Addr) (l1 : List UInt8) (A2 : Option Addr) (l2 : List UInt8) (W : World) : Prop := Lies W W.heap.size A1 l1 ∧ Lies W W.heap.size A2 l2 ∧ Below w.heap.size w W
theorem Two.after {w W W1 : World} {A1 A2 : Option Addr} {l1 l2 : List UInt8} (hb : Below W.heap.size W W1) (h : Two w A1 l1 A2 l2 W) : Two w A1 l1 A2 l2 W1 :=
  ⟨(h.1.below hb).mono hb.size, (h.2.1.below hb).mono hb.size, h.2.2.trans (hb.mono h.2.2.size)⟩
theorem Two.drewN {w W : World} {A1 A2 : Option Addr} {l1 l2 : List UInt8} (h : Two w A1 l1 A2 l2 W) (k : Nat) : Two w A1 l1 A2 l2 (W.drewN k) := ⟨h.1, h.2.1, below_drewN h.2.2 k⟩
theorem Two.drew {w W : World} {A1 A2 : Option Addr} {l1 l2 : List UInt8} (h : Two w A1 l1 A2 l2 W) : Two w A1 l1 A2 l2 W.drew := ⟨h.1, h.2.1, h.2.2.drew⟩

theorem unlike_dec {x y : Int} (hx1 : -9223372036854775808 ≤ x) (hx2 : x ≤ 9223372036854775807) (hy1 : -9223372036854775808 ≤ y) (hy2 : y ≤ 9223372036854775807) {n : Nat} (hn : n = min (enc (fold x)).length (enc (fold y)).length) :
    decide ((enc (fold x)).take n = (enc (fold y)).take n) = (x == y) := by
  by_cases h : x = y
  · subst h; simp
  · have h2 : ¬ (enc (fold x)).take n = (enc (fold y)).take n := fun e => h (enc_apart_take hx1 hx2 hy1 hy2 hn e)
    rw [decide_eq_false h2]
    exact (beq_eq_false_iff_ne.mpr h).symm

/-- The two encodings, cut to one length, held against each other in any later world. -/
theorem same_cut {x y : Int} (hx1 : -9223372036854775808 ≤ x) (hx2 : x ≤ 9223372036854775807) (hy1 : -9223372036854775808 ≤ y) (hy2 : y ≤ 9223372036854775807) {n : Nat} (hn : n = min (enc (fold x)).length (enc (fold y)).length)
    {A1 A2 : Option Addr} {c1 c2 : Nat} {w W : World} (h : Two w A1 (enc (fold x)) A2 (enc (fold y)) W) :
    Calls Try.prog 14 #[.slice A1 n c1, .slice A2 n c2] W fun e w' => e = .returned (.bool (x == y)) ∧ ∃ k, w' = W.drewN k := by
  have l0 := enc_len_ten (fold_lt hx1 hx2)
  have := unlike_dec hx1 hx2 hy1 hy2 hn
  rw [← this]
  exact same_any (by rw [List.length_take]; omega) (by rw [List.length_take]; omega) (by unfold maxLen; omega) (by unfold maxLen; omega) (h.1.take n) (h.2.1.take n)

set_option maxHeartbeats 1000000 in
theorem walk (a0 : Int) (a1 : Int) (w0 : (Lit.int .i64 a0).wf = true) (w1 : (Lit.int .i64 a1).wf = true) (w : World) :
    Calls Try.prog 7 #[.int .i64 a0, .int .i64 a1] w fun e w' => e = .returned (.bool true) ∧ Below w.heap.size w w' := by
  have r0 := bounds_i64 w0
  have r1 := bounds_i64 w1
  obtain ⟨r01, r02⟩ := r0
  obtain ⟨r11, r12⟩ := r1
  clear w0 w1
  have p0 := enc_len_pos (fold a0)
  have p1 := enc_len_pos (fold a1)
  go_enter Try.func7, Try.ntmps7
  go_wp2_with (first
    | (go_at_call 15; refine (num_any (A := none) (m := 0) (c := 0) (x := a0) (l := []) rfl r01 r02 (by decide) Lies.none_).mono ?_; rintro e w1 ⟨v1, rfl, hown1, hb1⟩; obtain ⟨A1, c1, rfl, hl1, hc1, hm1, hlies1, -⟩ := own_form hown1; clear hl1)
    | (go_at_call 15; refine (num_any (A := none) (m := 0) (c := 0) (x := a1) (l := []) rfl r11 r12 (by decide) Lies.none_).mono ?_; rintro e w2 ⟨v2, rfl, hown2, hb2⟩; obtain ⟨A2, c2, rfl, hl2, hc2, hm2, hlies2, -⟩ := own_form hown2; clear hl2))
  all_goals
    have hT : Two w A1 (enc (fold a0)) A2 (enc (fold a1)) w2 := ⟨(hlies1.below hb2).mono hb2.size, hlies2, hb1.trans (hb2.mono hb1.size)⟩
    simp at hc1 hc2
    clear hlies1 hlies2 hown1 hown2 hb1 hb2 hm1 hm2
  · rename_i hlt
    have hq1 : (enc (fold a1)).length ≤ c1 := by omega
    have hz : (0 : Int) < ((enc (fold a1)).length : Int) := by omega
    have hmin : Hid ((enc (fold a1)).length = min (enc (fold a0)).length (enc (fold a1)).length) := show _ = _ by omega
    go_region_held3 (fun W => Two w A1 (enc (fold a0)) A2 (enc (fold a1)) W) (first | exact hT.drew | exact hT3 | exact hT4)
      (first
        | (go_at_call 13; refine (awake_any _).mono ?_; rintro e w3 ⟨rfl, hb3⟩; have hT3 := Two.after hb3 (by assumption); clear hb3)
        | (go_at_call 14; refine (same_cut r01 r02 r11 r12 hmin.out (by assumption)).mono ?_; rintro e w4 ⟨rfl, k4, rfl⟩; have hT4 := Two.drewN (by assumption) k4))
    go_wp2
    go_ret
    exact ⟨by simp, (show Two w A1 (enc (fold a0)) A2 (enc (fold a1)) _ by assumption).2.2⟩
  · rename_i hlt
    have hq1 : (enc (fold a0)).length ≤ c2 := by omega
    have hz : (0 : Int) < ((enc (fold a0)).length : Int) := by omega
    have hmin : Hid ((enc (fold a0)).length = min (enc (fold a0)).length (enc (fold a1)).length) := show _ = _ by omega

    go_region_held3 (fun W => Two w A1 (enc (fold a0)) A2 (enc (fold a1)) W) (first | exact hT.drew | exact hT3 | exact hT4)
      (first
        | (go_at_call 13; refine (awake_any _).mono ?_; rintro e w3 ⟨rfl, hb3⟩; have hT3 := Two.after hb3 (by assumption); clear hb3)
        | (go_at_call 14; refine (same_cut r01 r02 r11 r12 hmin.out (by assumption)).mono ?_; rintro e w4 ⟨rfl, k4, rfl⟩; have hT4 := Two.drewN (by assumption) k4))
    go_wp2
    go_ret
    exact ⟨by simp, (show Two w A1 (enc (fold a0)) A2 (enc (fold a1)) _ by assumption).2.2⟩

end Go.Proofs.Ytckigcodmchfaaa.packUnlike
