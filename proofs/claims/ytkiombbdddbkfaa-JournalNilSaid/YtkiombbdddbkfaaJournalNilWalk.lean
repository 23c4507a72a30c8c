/-
  The walk of JournalNil: no journal, no disk answers so. Conditions: none.
-/
import Derived.Test.YtkiombbdddbkfaaJAwake
namespace Go.Proofs.Ytkiombbdddbkfaa.Jn
open Go.RowKit Go.Proofs.Ytkiombbdddbkfaa.Pk Go.Proofs.Ytkiombbdddbkfaa.Dk
set_option linter.unusedVariables false

theorem open_bad {X : Nat → Prop} {w0 w : World} {d : Nat} (h : Fresh X w0 w d newD) : Calls Try.prog 9 #[.pointer (some ⟨d, 0, none⟩), .string ⟨#[74]⟩] w (NotOpened X w0 w d newD 51) :=
  open_no h (by decide) (by decide) (show openD newD (⟨#[74]⟩ : ByteArray).data.toList = (51, newD) from rfl) (by decide)
set_option maxRecDepth 20000 in
set_option maxHeartbeats 2000000 in
theorem journalNil_walk (a0 : Option Addr) (len0 cap0 : Nat) (w : World) (h0 : Bytes w a0 len0) :
    Calls Try.prog 7 #[.slice a0 len0 cap0] w fun e w' => e = .returned (.bool true) ∧ Below w.heap.size w w' := by
  go_enter Try.func7, Try.ntmps7
  go_wp2_with (first
    | (go_at_call 9; with_reducible refine (open_nil _ _).mono ?_; rintro e w' ⟨rfl, rfl⟩)
    | (go_at_call 8; refine (Fresh.new (X := fun _ => False) (fun _ h => h.elim) (Below.refl w.heap.size w)).mono ?_; rintro e w1 ⟨d, rfl, h0, -⟩; have H0 := Lib.hid h0; clear h0))
  go_wp2_with (go_at_call 9; refine (open_bad H0.out).mono ?_; rintro e w2 ⟨rfl, hF2, -⟩; have HF2 := Lib.hid hF2; clear hF2 H0)
  go_wp2_with (go_at_call 24; refine (awake_any _).mono ?_; rintro e w3 ⟨rfl, hb3⟩)
  go_wp2_with (first
    | (go_at_call 12; refine (add_nil _ _).mono ?_; rintro e w' ⟨rfl, rfl⟩)
    | (go_at_call 14; refine (len_nil _).mono ?_; rintro e w' ⟨rfl, rfl⟩))
  go_ret
  exact ⟨rfl, HF2.out.bel.trans (hb3.mono HF2.out.size)⟩
end Go.Proofs.Ytkiombbdddbkfaa.Jn
