/-
  What follows of layer 6, in mathematics: ahead and behind are one another's; there is no order just if some flow is behind itself; an order has each flow once, behind all that it hangs on; no error of a plan's test is the one of a loop. Conditions: none.
-/
import Derived.Test.YtfoenfipefhpoaaGreatDoorJG3
set_option linter.unusedVariables false
set_option linter.unusedSimpArgs false
namespace Go.Proofs.YtfoenfipefhpoaaGreatDoor.Gr
open Go.RowKit Go.Proofs.YtfoenfipefhpoaaGreatDoor.Ex Go.Proofs.YtfoenfipefhpoaaGreatDoor.Pl

theorem go_err (P : Nat → Prop) (h0 : P 0) (h5 : P 5) (h40 : P 40) (h41 : P 41) : ∀ f N rest s pos e, go f N rest s = .err pos e → P e
  | 0, N, rest, s, pos, e, h => by unfold go at h; injection h with _ h; subst h; exact h0
  | f + 1, N, rest, s, pos, e, h => by
    unfold go at h
    split at h
    · injection h with _ h
      subst h
      unfold St.errOf
      split
      · split
        · exact h41
        · exact h40
      · split
        · exact h5
        · exact h0
    · split at h
      · cases h
      · exact go_err P h0 h5 h40 h41 f _ _ _ _ _ h
theorem expr_ne (t : Bs) : exprErr t ≠ 60 := by
  unfold exprErr
  cases h : parse t with
  | ok T => simp
  | err pos e =>
    have : e ≠ 60 := by
      unfold parse at h
      split at h
      · injection h with _ h; omega
      · exact go_err (fun e => e ≠ 60) (by decide) (by decide) (by decide) (by decide) _ _ _ _ _ _ h
    simp only
    omega
theorem step_ne (s : Stp) : stepErr s ≠ 60 := by
  unfold stepErr
  have := expr_ne s.text
  repeat' split
  all_goals first | omega | assumption
theorem post_ne (s : Stp) : postErr s ≠ 60 := by
  unfold postErr
  have := step_ne s
  split
  · omega
  · assumption
theorem first_ne {g : Stp → Int} (hg : ∀ s, g s ≠ 60) : ∀ l, firstErr g l ≠ 60
  | [] => by simp [firstErr]
  | s :: r => by
    unfold firstErr
    split
    · exact first_ne hg r
    · exact hg s
theorem flw_ne (ts : List Top) (all e : List Flw) (f : Flw) : flwErr ts all e f ≠ 60 := by
  have h1 : stepsErr f ≠ 60 := by
    unfold stepsErr
    split
    · exact first_ne post_ne _
    · exact first_ne step_ne _
  unfold flwErr
  repeat' split
  all_goals first | omega | assumption
theorem flws_ne (ts : List Top) (all : List Flw) : ∀ (e l : List Flw) r, flwsErr ts all e l = some r → r.2 ≠ 60
  | e, [], r, h => by cases h
  | e, f :: l, r, h => by
    unfold flwsErr at h
    split at h
    · exact flws_ne ts all _ l r h
    · injection h with h
      subst h
      exact flw_ne ts all e f
theorem top_ne (e : List Top) (t : Top) : topErr e t ≠ 60 := by
  unfold topErr
  repeat' split
  all_goals omega
theorem tops_ne : ∀ (e l : List Top) r, topsErr e l = some r → r.2 ≠ 60
  | e, [], r, h => by cases h
  | e, t :: l, r, h => by
    unfold topsErr at h
    split at h
    · exact tops_ne _ l r h
    · injection h with h
      subst h
      exact top_ne e t
/-- No error of the test is the one of a loop. -/
theorem check_ne (p : Pln) : (check p).2 ≠ 60 := by
  unfold check
  split
  · simp
  · split
    · rename_i r h; exact tops_ne _ _ _ h
    · split
      · rename_i r h; exact flws_ne _ _ _ _ _ h
      · simp
theorem src_lt (fs : List Flw) : ∀ i k, srcOf fs i = some k → k < fs.length := fun _ _ h => srcOf_lt h
theorem ahead_has (fs : List Flw) {i k : Nat} (hk : k < fs.length) : (aheadOf fs i).contains k = hangsGo (srcOf fs) k fs.length i := by
  rw [Bool.eq_iff_iff, List.contains_iff_mem]
  unfold aheadOf
  simp [List.mem_filter, List.mem_range, hk]
theorem behind_has (fs : List Flw) {i k : Nat} (hk : k < fs.length) : (behindOf fs i).contains k = hangsGo (srcOf fs) i fs.length k := by
  rw [Bool.eq_iff_iff, List.contains_iff_mem]
  unfold behindOf
  simp [List.mem_filter, List.mem_range, hk]
/-- Is one of the first so many behind itself? -/
def loopTo (fs : List Flw) (n : Nat) : Bool := (List.range n).any fun j => hangsGo (srcOf fs) j fs.length j
theorem loopTo_succ (fs : List Flw) (n : Nat) : loopTo fs (n + 1) = (loopTo fs n || hangsGo (srcOf fs) n fs.length n) := by
  unfold loopTo
  rw [List.range_succ, List.any_append]
  simp
theorem loop_none (fs : List Flw) : loopTo fs fs.length = (order (srcOf fs) fs.length).isNone := by
  rw [Bool.eq_iff_iff, Option.isNone_iff_eq_none, order_none_iff (src_lt fs)]
  unfold loopTo
  rw [List.any_eq_true]
  constructor
  · rintro ⟨j, h1, h2⟩
    exact ⟨j, List.mem_range.1 h1, (hangs_iff (src_lt fs) j j).1 h2⟩
  · rintro ⟨j, h1, h2⟩
    exact ⟨j, List.mem_range.2 h1, (hangs_iff (src_lt fs) j j).2 h2⟩
theorem order_in {fs : List Flw} {L : List Nat} (h : order (srcOf fs) fs.length = some L) {i : Nat} (hi : i < L.length) :
    L[i] < fs.length ∧ (L.take i).contains L[i] = false ∧ ∀ k ∈ aheadOf fs L[i], (L.take i).contains k = true := by
  obtain ⟨hr, hl⟩ := order_row h
  have hs : L = L.take i ++ L[i] :: L.drop (i + 1) := by
    rw [← List.drop_eq_getElem_cons hi, List.take_append_drop]
  obtain ⟨h1, h2⟩ := hr.split _ _ _ hs
  refine ⟨hr.lt _ (List.getElem_mem hi), ?_, fun k hk => ?_⟩
  · rw [Bool.eq_false_iff, ne_eq, List.contains_iff_mem]
    exact h2
  · rw [List.contains_iff_mem]
    refine h1 k ?_
    unfold aheadOf at hk
    exact (hangs_iff (src_lt fs) L[i] k).1 (List.mem_filter.1 hk).2
theorem order_len {fs : List Flw} {L : List Nat} (h : order (srcOf fs) fs.length = some L) : L.length = fs.length := (order_row h).2
end Go.Proofs.YtfoenfipefhpoaaGreatDoor.Gr
