/-
  How often each partition has been met, as an array of sixteen numbers in memory. Conditions: as each theorem names them.
-/
import Derived.Test.YtamcocdkhjplfaaHKit
namespace Go.Proofs.Ytamcocdkhjplfaa.Gp
set_option linter.unusedVariables false
set_option linter.unusedSimpArgs false
open Go.RowKit

def sc (S : Nat → Nat) : Array Value := ((List.range 16).map fun p => Value.int .i64 (S p : Int)).toArray
theorem sc_get (S : Nat → Nat) {p : Nat} (h : p < 16) : (sc S)[p]? = some (.int .i64 (S p : Int)) := by
  unfold sc
  simp [h]
theorem sc_set (S : Nat → Nat) {p : Nat} (h : p < 16) (S' : Nat → Nat) (h1 : ∀ q, q ≠ p → S' q = S q) : (sc S).setIfInBounds p (.int .i64 (S' p : Int)) = sc S' := by
  apply Array.ext_getElem?
  intro i
  rw [Array.getElem?_setIfInBounds]
  by_cases hi : p = i
  · subst hi
    rw [if_pos rfl, if_pos (by simp [sc, h]), sc_get S' h]
  · rw [if_neg hi]
    by_cases h16 : i < 16
    · rw [sc_get S h16, sc_get S' h16, h1 i (fun e => hi e.symm)]
    · rw [Array.getElem?_eq_none (by simp [sc]; omega), Array.getElem?_eq_none (by simp [sc]; omega)]
/-- How often partition p has been met with the readers below i. -/
def cnt (r m : Nat) : Nat → Nat → Nat
  | 0, _ => 0
  | i + 1, p => cnt r m i p + (prts i r m).count p
theorem cnt_le (r m p : Nat) : ∀ i, cnt r m i p ≤ m * i
  | 0 => Nat.zero_le _
  | i + 1 => by
    have h1 := cnt_le r m p i
    have h2 := List.count_le_length (a := p) (l := prts i r m)
    have h3 := prts_len i r m
    rw [cnt, Nat.mul_add]
    omega
theorem cnt_all {r m p : Nat} (h1 : 1 ≤ r) (hr : r ≤ 8) (hm : m ≤ 16) (hp : p < m) : cnt r m r p = 1 := by
  have h : ((List.range 9).all fun r => (List.range 17).all fun m => (List.range m).all fun p => r == 0 || cnt r m r p == 1) = true := by decide +kernel
  rw [List.all_eq_true] at h
  have h := h r (List.mem_range.2 (by omega))
  rw [List.all_eq_true] at h
  have h := h m (List.mem_range.2 (by omega))
  rw [List.all_eq_true] at h
  have h := h p (List.mem_range.2 hp)
  simp only [Bool.or_eq_true, beq_iff_eq] at h
  omega
theorem prts_lt {i r m q j : Nat} (h : (prts i r m)[j]? = some q) : q < m := by
  have := List.mem_of_getElem? h
  unfold prts at this
  exact List.mem_range.1 (List.mem_filter.1 this).1
theorem prts_up {i r m : Nat} {j : Nat} (h1 : j + 1 < (prts i r m).length) : (prts i r m)[j] < (prts i r m)[j + 1] := by
  have hp : (prts i r m).Pairwise (· < ·) := List.Pairwise.filter _ List.pairwise_lt_range
  exact List.pairwise_iff_getElem.1 hp j (j + 1) (by omega) h1 (by omega)
theorem count_next {L : List Nat} {j q : Nat} (hj : j < L.length) (hq : L[j] = q) (p : Nat) : (L.take (j + 1)).count p = (L.take j).count p + if q = p then 1 else 0 := by
  rw [List.take_succ_eq_append_getElem hj, List.count_append, hq, List.count_singleton]
  by_cases h : q = p <;> simp [h]
end Go.Proofs.Ytamcocdkhjplfaa.Gp
