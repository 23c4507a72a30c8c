/-
  How the two disks begin; what an operation counts. Conditions: none.
-/
import Derived.Test.YtkiombbdddbkfaaBoth
namespace Go.Proofs.Ytkiombbdddbkfaa.Dk
open Go.RowKit Go.Proofs.Ytkiombbdddbkfaa.Pk

theorem good_new : Good newD := ⟨by simp [Sorted, newD], by simp [newD], by simp [newD], by simp [newD], by decide, by decide, by decide⟩
theorem Both.start {X : Nat → Prop} {w0 w : World} {d : Nat} {s : Ds} (h : Fresh X w0 w d s) : Both X w0 (w.alloc (.cells #[.slice none 0 0, .bool false, .int .i64 0, .int .i64 0, .int .i64 0] 31)) d w.heap.size s newD := by
  have h' := h.alloc (.cells #[.slice none 0 0, .bool false, .int .i64 0, .int .i64 0, .int .i64 0] 31)
  obtain ⟨hx0, S0, hD0, hs0, hbel0⟩ := h
  obtain ⟨hx, -⟩ := h'
  have hb := (Below.refl w.heap.size w).alloc (Nat.le_refl _) (.cells #[.slice none 0 0, .bool false, .int .i64 0, .int .i64 0, .int .i64 0] 31)

  refine ⟨hx, S0, (· = w.heap.size), hD0.below hb, ⟨good_new, Nat.le_refl _, rfl, fun b hb => by subst hb; simp, .slice none 0 0, [], heap_alloc_new w _, ⟨rfl, World.ownsRow_nil _ _ _ _, (fun g hg => by cases hg), (fun i hi => absurd hi (Nat.not_lt_zero _))⟩⟩, fun b hb => ?_, fun b hb => ?_, hbel0.trans (hb.mono hbel0.size)⟩
  · exact ⟨(hs0 b hb).1, (hs0 b hb).2, fun e => by have := hD0.1.lt b hb; omega⟩
  · subst hb
    exact ⟨hbel0.size, fun h => by have := hx0 _ h; omega⟩
theorem ends_deeds (s : Ds) (f : Ds → Ds) (hf : ∀ t, (f t).deeds = t.deeds) : (ends (strike s) f).2.deeds = s.deeds + 1 := by
  unfold ends
  split
  · exact (strike_m s).2
  · show (f _).deeds = _
    rw [hf]; exact (strike_m s).2

end Go.Proofs.Ytkiombbdddbkfaa.Dk
