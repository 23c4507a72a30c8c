/-
  How the two disks begin; what an operation counts, and what it leaves of another file. Conditions: none.
-/
import Derived.Test.YtkckpeejamidpaaOpsIn
namespace Go.Proofs.Ytkckpeejamidpaa.Dk
open Go.RowKit Go.Proofs.Ytkckpeejamidpaa.Pk

theorem good_new : Good newD := ⟨by simp [Sorted, newD], by simp [newD], by simp [newD], by simp [newD], by decide, by decide, by decide⟩
theorem Both.start {X : Nat → Prop} {w0 w : World} {d : Nat} {s : Ds} (h : Fresh X w0 w d s) : Both X w0 (w.alloc (.cells #[.slice none 0 0, .bool false, .int .i64 0, .int .i64 0, .int .i64 0] 29)) d w.heap.size s newD := by
  have h' := h.alloc (.cells #[.slice none 0 0, .bool false, .int .i64 0, .int .i64 0, .int .i64 0] 29)
  obtain ⟨hx0, S0, hD0, hs0, hbel0⟩ := h
  obtain ⟨hx, -⟩ := h'
  have hb := (Below.refl w.heap.size w).alloc (Nat.le_refl _) (.cells #[.slice none 0 0, .bool false, .int .i64 0, .int .i64 0, .int .i64 0] 29)

  refine ⟨hx, S0, (· = w.heap.size), hD0.below hb, ⟨good_new, Nat.le_refl _, rfl, fun b hb => by subst hb; simp, .slice none 0 0, [], heap_alloc_new w _, ⟨rfl, World.ownsRow_nil _ _ _ _, (fun g hg => by cases hg), (fun i hi => absurd hi (Nat.not_lt_zero _))⟩⟩, fun b hb => ?_, fun b hb => ?_, hbel0.trans (hb.mono hbel0.size)⟩
  · exact ⟨(hs0 b hb).1, (hs0 b hb).2, fun e => by have := hD0.1.lt b hb; omega⟩
  · subst hb
    exact ⟨hbel0.size, fun h => by have := hx0 _ h; omega⟩
theorem ends_deeds (s : Ds) (f : Ds → Ds) (hf : ∀ t, (f t).deeds = t.deeds) : (ends (strike s) f).2.deeds = s.deeds + 1 := by
  unfold ends
  split
  · exact (strike_m s).2
  · show (f _).deeds = _
    rw [hf]; exact (strike_m s).2
theorem next_deeds (kind n keep : Int) (name : Nm) (l : List UInt8) (s : Ds) : (nextD kind n keep name l s).deeds ≤ s.deeds + 1 := by
  unfold nextD
  split
  · unfold appendD
    split
    · exact Nat.le_succ _
    split
    · exact Nat.le_succ _
    split
    · exact Nat.le_succ _
    · exact Nat.le_of_eq (ends_deeds _ _ (fun _ => rfl))
  split
  · unfold syncD
    split
    · exact Nat.le_succ _
    · exact Nat.le_of_eq (ends_deeds _ _ (fun _ => rfl))
  split
  · unfold cutD
    split
    · exact Nat.le_succ _
    split
    · exact Nat.le_succ _
    · exact Nat.le_of_eq (ends_deeds _ _ (fun _ => rfl))
  split
  · exact Nat.le_succ _
  split
  · unfold offD
    split <;> exact Nat.le_succ _
  split
  · exact Nat.le_succ _
  · exact Nat.le_succ _

/-- File K is there, whole and safe. -/
def Whole (K : Nm) (l : List UInt8) (m : List (Nm × Fl)) : Prop := get m K = some ⟨l, l.length⟩
theorem whole_lose {K : Nm} {l : List UInt8} {m : List (Nm × Fl)} (keep : Int) (h : Whole K l m) : Whole K l (loseAll keep m) := by
  unfold Whole at *
  rw [get_loseAll, h]
  simp [lose, keptOf]
theorem whole_off {K : Nm} {l : List UInt8} {s : Ds} (keep : Int) (h : Whole K l s.m) : Whole K l (offD s keep).m := by
  unfold offD
  split
  · exact h
  · exact whole_lose keep h
theorem whole_strike {K : Nm} {l : List UInt8} {s : Ds} (h : Whole K l s.m) : Whole K l (strike s).2.m := by
  unfold strike
  split
  · exact h
  split
  · exact whole_off _ h
  · exact h
theorem whole_put {K k : Nm} {l : List UInt8} {m : List (Nm × Fl)} (f : Fl) (hk : k ≠ K) (h : Whole K l m) : Whole K l (put k f m) := by
  unfold Whole at *
  rw [get_put_other f (Ne.symm hk) m, h]
theorem whole_ends {K : Nm} {l : List UInt8} {s : Ds} {f : Ds → Ds} (h : Whole K l s.m) (hf : ∀ t : Ds, Whole K l t.m → Whole K l (f t).m) : Whole K l (ends (strike s) f).2.m := by
  unfold ends
  split
  · exact whole_strike h
  · exact hf _ (whole_strike h)
theorem whole_next {K name : Nm} {l b : List UInt8} {s : Ds} (kind n keep : Int) (hk : name ≠ K) (h : Whole K l s.m) : Whole K l (nextD kind n keep name b s).m := by
  unfold nextD
  split
  · unfold appendD
    split
    · exact h
    split
    · exact h
    split
    · exact h
    · exact whole_ends (whole_put _ hk h) (fun _ h => h)
  split
  · unfold syncD
    split
    · exact h
    · exact whole_ends h (fun _ h => whole_put _ hk h)
  split
  · unfold cutD
    split
    · exact h
    split
    · exact h
    · exact whole_ends h (fun _ h => whole_put _ hk h)
  split
  · exact h
  split
  · exact whole_off _ h
  split
  · exact h
  · exact h
theorem whole_read {K : Nm} {l : List UInt8} {s : Ds} (h : Whole K l s.m) : findD (onD s) K = 0 ∧ readD (onD s) K = l := by
  have h0 : findD (onD s) K = 0 := find_zero (f := ⟨l, l.length⟩) rfl h
  refine ⟨h0, ?_⟩
  unfold readD
  rw [if_neg (by simp [h0]), fileOr_some (s := onD s) (f := ⟨l, l.length⟩) h]
end Go.Proofs.Ytkckpeejamidpaa.Dk
