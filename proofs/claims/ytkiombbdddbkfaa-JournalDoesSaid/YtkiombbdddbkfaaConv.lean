/-
  Bytes as a string; slices of integers that came in. Conditions: none.
-/
import Derived.Test.YtkiombbdddbkfaaFresh
namespace Go.Proofs.Ytkiombbdddbkfaa.Dk
open Go.RowKit Go.Proofs.Ytkiombbdddbkfaa.Pk

theorem conv_str {A : Option Addr} {n c B : Nat} {l : List UInt8} {w : World} (hl : l.length = n) (h : Lies w B A l) : (convert 23 9 (.slice A n c)).run Try.prog w = .ok (.string ⟨l.toArray⟩) w := by
  subst hl
  rcases A with _ | ⟨b, o, sp⟩
  · have : l = [] := by
      rcases l with _ | ⟨x, r⟩
      · rfl
      · obtain ⟨b, o, e, _⟩ := h 0 x rfl
        cases e
    subst this
    exact run_convert_bytes_nil (P := Try.prog) w 23 5 Try.underlying23 Try.underlying5 _ _ 9 Try.underlying9
  · exact run_convert_bytes_back (P := Try.prog) w 23 9 5 ⟨b, o, sp⟩ c l Try.underlying23 Try.underlying5 Try.underlying9 (fun j hj => by
      obtain ⟨b', o', e, _, hc⟩ := h.at_ hj
      injection e with e
      rw [e, Addr.add_lit]
      exact hc)
theorem Kept.alloc {X : Nat → Prop} {w : World} (hx : ∀ b, X b → b < w.heap.size) (o : Obj) : Kept X w (w.alloc o) := fun b hb => Below.heap_alloc w o b (hx b hb)
/-- What the walk of a law is told of a slice of integers that came in. -/
def IsRow (k : IntKind) (w : World) (a : Option Addr) (len cap : Nat) (zs : List Int) : Prop :=
  (a = none ∧ len = 0 ∧ cap = 0 ∧ zs = []) ∨
  ∃ x, a = some x ∧ len ≤ cap ∧ cap ≤ maxLen ∧ zs.length = cap ∧ (∀ i, i < zs.length → w.cell? (x.add i) = some (.int k (zs.getD i 0))) ∧ ∀ n ∈ zs, (Lit.int k n).wf = true

end Go.Proofs.Ytkiombbdddbkfaa.Dk
