/-
  Layer 8 in mathematics: a partition's mark behind a record, when a record is late, the least of several marks. Conditions: none but those that each theorem names; nothing of a program.
-/
import Derived.IntWalk
import Derived.RowKit
namespace Go.Proofs.Ytonmghmalnbbbaa.Mk
set_option linter.unusedVariables false
set_option linter.unusedSimpArgs false

def nx (m b t : Int) : Int := if b < 0 ∨ t - b < m then m else t - b
def MM (b : Int) (T : List Int) : Int := T.foldl (fun m t => nx m b t) 0
theorem MM_snoc (b : Int) (T : List Int) (t : Int) : MM b (T ++ [t]) = nx (MM b T) b t := by simp [MM]
theorem MM_next {b : Int} {T : List Int} {k : Nat} (h : k < T.length) {t : Int} (ht : T[k] = t) : MM b (T.take (k + 1)) = nx (MM b (T.take k)) b t := by
  rw [List.take_succ_eq_append_getElem h, MM_snoc, ht]
theorem nx_ge (m b t : Int) : m ≤ nx m b t := by
  unfold nx
  split <;> omega
/-- The mark of times that may be. -/
theorem MM_range {b : Int} (hb : 0 ≤ b) : ∀ (T : List Int), (∀ t ∈ T, 0 ≤ t ∧ t ≤ 1000000000) → 0 ≤ MM b T ∧ MM b T ≤ 1000000000 := by
  intro T
  rw [← List.reverse_reverse T]
  generalize T.reverse = R
  induction R with
  | nil => intro _; exact ⟨Int.le_refl 0, by unfold MM; simp⟩
  | cons t r ih =>
    intro h
    rw [List.reverse_cons, MM_snoc]
    have h1 := ih (fun x hx => h x (by rw [List.reverse_cons]; exact List.mem_append_left _ hx))
    have h2 := h t (by rw [List.reverse_cons]; simp)
    unfold nx
    split <;> omega
/-- Did one of them have a time of more than b above it? -/
def anyAbove (b t : Int) (T : List Int) : Bool := T.any fun x => decide (t < x - b)
theorem anyAbove_next {b t : Int} {T : List Int} {k : Nat} (h : k < T.length) {x : Int} (hx : T[k] = x) : anyAbove b t (T.take (k + 1)) = (anyAbove b t (T.take k) || decide (t < x - b)) := by
  unfold anyAbove
  rw [List.take_succ_eq_append_getElem h, List.any_append, hx]
  simp
theorem late_iff {b t : Int} (hb : 0 ≤ b) (ht : 0 ≤ t) : ∀ (T : List Int), anyAbove b t T = decide (t < MM b T) := by
  intro T
  rw [← List.reverse_reverse T]
  generalize T.reverse = R
  induction R with
  | nil =>
    show false = decide (t < 0)
    exact (decide_eq_false (by omega)).symm
  | cons x r ih =>
    rw [List.reverse_cons, MM_snoc]
    unfold anyAbove at ih ⊢
    rw [List.any_append, ih, Bool.eq_iff_iff]
    unfold nx
    simp only [List.any_cons, List.any_nil, Bool.or_false, Bool.or_eq_true, decide_eq_true_eq]
    split <;> omega
/-- The least of n marks; a mark raised. -/
def leastS (S : Nat → Nat) : Nat → Nat
  | 0 => 1000000001
  | n + 1 => if S n < leastS S n then S n else leastS S n
def up (S : Nat → Nat) (i v : Nat) : Nat → Nat := fun k => if k = i then max (S i) v else S k
theorem leastS_le (S : Nat → Nat) (n : Nat) : leastS S n ≤ 1000000001 := by
  induction n with
  | zero => exact Nat.le_refl _
  | succ n ih =>
    unfold leastS
    split <;> omega
theorem leastS_mono {S S' : Nat → Nat} (h : ∀ k, S k ≤ S' k) : ∀ n, leastS S n ≤ leastS S' n
  | 0 => Nat.le_refl _
  | n + 1 => by
    have h1 := leastS_mono h n
    have h2 := h n
    unfold leastS
    split <;> split <;> omega
theorem up_ge (S : Nat → Nat) (i v k : Nat) : S k ≤ up S i v k := by
  unfold up
  split
  · rename_i h; subst h; exact Nat.le_max_left _ _
  · exact Nat.le_refl _
theorem up_le {S : Nat → Nat} {i v m : Nat} (h : ∀ k, S k ≤ m) (hv : v ≤ m) (k : Nat) : up S i v k ≤ m := by
  unfold up
  split
  · exact Nat.max_le.2 ⟨h i, hv⟩
  · exact h k
theorem leastS_up (S : Nat → Nat) (i v n : Nat) : leastS S n ≤ leastS (up S i v) n := leastS_mono (up_ge S i v) n
end Go.Proofs.Ytonmghmalnbbbaa.Mk
