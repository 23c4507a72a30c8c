/-
  The walk of a law: For every byte slice, bytes that are read as an integer without an error are just those that pack lays for it, and behind an error nothing is read; the document's examples hold. Conditions: none.
-/
import Derived.Test.YtckigcodmchfaaaAwake
import Derived.Deep.RegionHeld3
namespace Go.Proofs.Ytckigcodmchfaaa.packLays
open Go.RowKit
open Go.Proofs.Ytckigcodmchfaaa.Pk
set_option linter.unusedVariables false

theorem rnum_fault {w : World} {g : Nat} {l : List UInt8} (hd : dec l = none) (h : Rd w g false l) : Calls Try.prog 18 #[.pointer (some ⟨g, 0, none⟩)] w fun e w' => e = .returned (.int .i64 0) ∧ Rd w' g true [] ∧ w.grownBy w' (some g) := by
  refine (rnum_any h).mono ?_
  rintro e w' ⟨rfl, hr, hg⟩
  refine ⟨by simp [numVal, hd], ?_, hg⟩
  simpa [numBad, numLeft, hd] using hr
theorem rnum_good {w : World} {g z n : Nat} {l : List UInt8} (hd : dec l = some (z, n)) (h : Rd w g false l) : Calls Try.prog 18 #[.pointer (some ⟨g, 0, none⟩)] w fun e w' => e = .returned (.int .i64 (unfold z)) ∧ Rd w' g false (l.drop n) ∧ w.grownBy w' (some g) := by
  refine (rnum_any h).mono ?_
  rintro e w' ⟨rfl, hr, hg⟩
  refine ⟨by simp [numVal, hd], ?_, hg⟩
  simpa [numBad, numLeft, hd] using hr
theorem left_at {w : World} {g k : Nat} {bad : Bool} {l : List UInt8} (hl : l.length = k) (h : Rd w g bad l) : Calls Try.prog 22 #[.pointer (some ⟨g, 0, none⟩)] w fun e w' => e = .returned (.int .i64 k) ∧ w = w' := by
  subst hl; exact left_any h
theorem rnum_dead {w : World} {g : Nat} (h : Rd w g true []) : Calls Try.prog 18 #[.pointer (some ⟨g, 0, none⟩)] w fun e w' => e = .returned (.int .i64 0) ∧ Rd w' g true [] ∧ w.grownBy w' (some g) := by
  refine (rnum_any h).mono ?_
  rintro e w' ⟨rfl, hr, hg⟩
  exact ⟨rfl, hr, hg⟩
theorem rtext_dead {w : World} {g : Nat} (h : Rd w g true []) : Calls Try.prog 20 #[.pointer (some ⟨g, 0, none⟩)] w fun e w' => e = .returned (.string ⟨#[]⟩) ∧ Rd w' g true [] ∧ w.grownBy w' (some g) := by
  refine (rtext_any h).mono ?_
  rintro e w' ⟨s, rfl, hs, hr, hg⟩
  refine ⟨?_, hr, hg⟩
  rw [bytes_of hs]
  rfl
theorem rd_after {w w' : World} {g : Nat} {bad : Bool} {l : List UInt8} (h : Rd w g bad l) (hb : Below w.heap.size w w') : Rd w' g bad l := h.below hb h.lt
theorem below_one {B g : Nat} {a w w' : World} (h : Below B a w) (hg : w.grownBy w' (some g)) (hB : B ≤ g) (hs : B ≤ a.heap.size) : Below B a w' :=
  h.grown hg (Nat.le_trans hs h.size) (fun k e => by injection e with e; omega)

/-- The bytes that came in, in a world that has kept all that was there. -/
def One (w : World) (A : Option Addr) (l : List UInt8) (W : World) : Prop := Lies W W.heap.size A l ∧ Below w.heap.size w W
theorem One.after {w W W1 : World} {A : Option Addr} {l : List UInt8} (hb : Below W.heap.size W W1) (h : One w A l W) : One w A l W1 :=
  ⟨(h.1.below hb).mono hb.size, h.2.trans (hb.mono h.2.size)⟩
theorem One.drewN {w W : World} {A : Option Addr} {l : List UInt8} (h : One w A l W) (k : Nat) : One w A l (W.drewN k) := ⟨h.1, below_drewN h.2 k⟩
theorem One.drew {w W : World} {A : Option Addr} {l : List UInt8} (h : One w A l W) : One w A l W.drew := ⟨h.1, h.2.drew⟩

theorem same_laid {w W : World} {A : Option Addr} {l : List UInt8} {z n c B : Nat} {v : Value} (hd : dec l = some (z, n)) (h : One w A l W) (hown : W.ownsRow B 5 1 v ([] ++ enc (fold (unfold z))).length (cells ([] ++ enc (fold (unfold z))))) :
    Calls Try.prog 14 #[v, .slice A n c] W fun e w' => e = .returned (.bool true) ∧ ∃ k, w' = W.drewN k := by
  obtain ⟨h64, hn, r, hr⟩ := dec_some hd
  have h10 := enc_len_ten h64
  obtain ⟨A1, c1, rfl, hl1, -, -, hlies, -⟩ := own_form hown
  rw [fold_unfold, List.nil_append] at hl1 hlies
  have ht : l.take n = enc z := by rw [hr, hn]; simp
  refine (same_any (l := enc z) (l' := l.take n) (by rw [hl1, fold_unfold]; rfl) (by rw [ht, ← hn]) (by rw [fold_unfold]; unfold maxLen; simp; omega) (by unfold maxLen; omega) hlies (h.1.take n)).mono ?_
  rintro e w' ⟨rfl, hk⟩
  exact ⟨by rw [ht]; simp, hk⟩

set_option maxHeartbeats 1000000 in
theorem walk (a0 : Option Addr) (len0 cap0 : Nat) (z0 : List Int) (w : World) (w0 : IsRow .u8 w a0 len0 cap0 z0) :
    Calls Try.prog 6 #[.slice a0 len0 cap0] w fun e w' => e = .returned (.bool true) ∧ Below w.heap.size w w' := by
  obtain ⟨l, hl, h1, h2, hlies⟩ := lies_of_row w0
  clear w0
  by_cases hbig : 4096 < len0
  · have hb : (4096 : Int) < (len0 : Int) := by omega
    clear hl h1 h2 hlies
    go_enter Try.func6, Try.ntmps6
    go_wp2
    go_ret
    exact ⟨rfl, Below.refl _ _⟩
  · have hb : ¬ (4096 : Int) < (len0 : Int) := by omega
    have H := Lib.hid hl
    clear hl
    rcases hdec : dec l with _ | ⟨z, n⟩
    · have D := Lib.hid hdec
      clear hdec
      go_enter Try.func6, Try.ntmps6
      go_wp2_with (first
        | (go_at_call 17; refine (new_any H.out (by omega) hlies).mono ?_; rintro e w1 ⟨g, rfl, hg, hrd1, hb1⟩)
        | (go_at_call 18; refine (rnum_fault D.out hrd1).mono ?_; rintro e w2 ⟨rfl, hrd2, hg2⟩; have hb2 := below_one hb1 hg2 hg (Nat.le_refl _); clear hrd1)
        | (go_at_call 24; refine (bad_any hrd2).mono ?_; rintro e w2' ⟨rfl, rfl⟩)
        | (go_at_call 13; refine (awake_any _).mono ?_; rintro e w3 ⟨rfl, hb3⟩; have hrd3 := rd_after hrd2 hb3; have hb4 := hb2.trans (hb3.mono hb2.size))
        | (go_at_call 22; refine (left_any hrd3).mono ?_; rintro e w3' ⟨rfl, rfl⟩)
        | (go_at_call 18; refine (rnum_dead hrd3).mono ?_; rintro e w5 ⟨rfl, hrd5, hg5⟩; have hb5 := below_one hb4 hg5 hg (Nat.le_refl _); clear hrd3)
        | (go_at_call 20; refine (rtext_dead hrd5).mono ?_; rintro e w6 ⟨rfl, hrd6, hg6⟩; have hb6 := below_one hb5 hg6 hg (Nat.le_refl _)))
      go_ret
      exact ⟨rfl, hb6⟩
    · have D := Lib.hid hdec
      obtain ⟨h64, hn, r, hr⟩ := dec_some hdec
      have hpos : 0 < n := by rw [hn]; exact enc_len_pos z
      have h10 : n ≤ 10 := by rw [hn]; exact enc_len_ten h64
      have hle : n ≤ l.length := by rw [hr, List.length_append, hn]; omega
      have hle' : n ≤ len0 := by rw [← H.out]; exact hle
      obtain ⟨k, hk⟩ : ∃ k, len0 = n + k := ⟨len0 - n, by omega⟩
      have hdl : (l.drop n).length = k := by rw [List.length_drop, H.out]; omega
      have hsub : (len0 : Int) - (k : Int) = (n : Int) := by omega
      clear hk
      have HR := Lib.hid (unfold_range h64)
      have HL := Lib.hid hdl
      clear hdec hn hr hle h64 hdl
      go_enter Try.func6, Try.ntmps6
      go_wp2_with (first
        | (go_at_call 17; refine (new_any H.out (by omega) hlies).mono ?_; rintro e w1 ⟨g, rfl, hg, hrd1, hb1⟩)
        | (go_at_call 18; refine (rnum_good D.out hrd1).mono ?_; rintro e w2 ⟨rfl, hrd2, hg2⟩; have hb2 := below_one hb1 hg2 hg (Nat.le_refl _); clear hrd1)
        | (go_at_call 24; refine (bad_any hrd2).mono ?_; rintro e w2' ⟨rfl, rfl⟩)
        | (go_at_call 22; refine (left_at HL.out hrd2).mono ?_; rintro e w3' ⟨rfl, rfl⟩))
      have hO : One w a0 l w2 := ⟨(hlies.below hb2).mono hb2.size, hb2⟩
      have hnc : n ≤ cap0 := by omega
      have hz : (0 : Int) < (n : Int) := by omega
      have hz10 : (n : Int) ≤ 10 := by omega
      have hz3 : (n : Int) ≤ (len0 : Int) := by omega
      clear hrd2 hb1 hb2 hg2 hlies
      go_region_held3 (fun W => One w a0 l W) (first | exact hO.drew | exact hO3 | exact hO4 | exact hO5)
        (first
          | (go_at_call 13; refine (awake_any _).mono ?_; rintro e w3 ⟨rfl, hb3⟩; have hO3 := One.after hb3 (by assumption); clear hb3)
          | (go_at_call 15; refine (num_any (A := none) (m := 0) (c := 0) (l := []) rfl HR.out.1 HR.out.2 (by decide) Lies.none_).mono ?_; rintro e w4 ⟨v4, rfl, hown4, hb4⟩; have hO4 := One.after hb4 (by assumption); clear hb4)
          | (go_at_call 14; refine (same_laid D.out (by assumption) (by assumption)).mono ?_; rintro e w5 ⟨rfl, k5, rfl⟩; have hO5 := One.drewN (by assumption) k5))
      go_wp2
      go_ret
      exact ⟨rfl, (show One w a0 l _ by assumption).2⟩

end Go.Proofs.Ytckigcodmchfaaa.packLays
