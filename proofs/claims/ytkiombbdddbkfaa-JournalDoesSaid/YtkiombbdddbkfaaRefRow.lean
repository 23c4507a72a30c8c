/-
  The document's Off of a disk without files. Conditions: none but those that each theorem names.
-/
import Derived.Test.YtkiombbdddbkfaaRefOps
namespace Go.Proofs.Ytkiombbdddbkfaa.Dk
open Go.RowKit Go.Proofs.Ytkiombbdddbkfaa.Pk

set_option maxHeartbeats 1000000 in
theorem roff_none {w : World} {r cap : Nat} {A : Option Addr} (keep : Int) (c0 : w.cell? ⟨r, 0, none⟩ = some (.slice A 0 cap)) (c1 : w.cell? ⟨r, 1, none⟩ = some (.bool false)) (f1 : w.frozen? ⟨r, 1, none⟩ = false) :
    Calls Try.prog 18 #[.pointer (some ⟨r, 0, none⟩), .int .i64 keep] w fun e w' => e = .returned (.tuple #[]) ∧ w.setCell ⟨r, 1, none⟩ (.bool true) = w' := by
  go_enter Try.func18, Try.ntmps18
  go_wp2
  refine wp_loop_rounds 1 ?_
  rw [rounds_succ]
  go_wp2
  go_end0
  exact ⟨rfl, rfl⟩
end Go.Proofs.Ytkiombbdddbkfaa.Dk
