/-
  Both readers of one text, the program's and the document's: what each answers. Conditions: the library's table of powers holds what it was laid with.
-/
import Derived.Test.YtlkaaembeakicaaDoorELaid
import Derived.Test.YtlkaaembeakicaaDoorRParse
import Derived.Test.YtlkaaembeakicaaDoorRText
namespace Go.Proofs.YtlkaaembeakicaaDoor.Ex
open Go.RowKit
theorem rparse_ok {s : ByteArray} {w : World} {T : Tree} (hs : s.size ≤ maxLen) (h : parse s.data.toList = .ok T) : Calls Tryd.prog 11 #[.string s] w fun e w' => ∃ x, e = .returned (.tuple #[ptr x, .int .i64 0, .int .i64 0]) ∧ RAt w x T w' ∧ T.size ≤ 64 ∧ Below w.heap.size w w' := by
  refine (rparse_any hs).mono ?_
  rw [h]
  rintro e w' ⟨hb, _, h64, b, rfl, hx⟩
  exact ⟨b, rfl, hx, h64, hb⟩
theorem rparse_err {s : ByteArray} {w : World} {pos n : Nat} (hs : s.size ≤ maxLen) (h : parse s.data.toList = .err pos n) : Calls Tryd.prog 11 #[.string s] w fun e w' => e = .returned (.tuple #[.pointer none, .int .i64 pos, .int .i64 n]) ∧ Below w.heap.size w w' := by
  refine (rparse_any hs).mono ?_
  rw [h]
  rintro e w' ⟨hb, he⟩
  exact ⟨he, hb⟩
theorem ptext_at {w : World} {b : Nat} {T : Tree} {q : ByteArray} (h : ExAt w b T) (hq : (⟨T.text.toArray⟩ : ByteArray) = q) : Calls Tryd.prog 13 #[ptr b] w fun e w' => e = .returned (.string q) ∧ w = w' := by subst hq; exact text_any h
theorem psize_at {w : World} {b : Nat} {T : Tree} {z : Nat} (h : ExAt w b T) (hz : T.size = z) : Calls Tryd.prog 15 #[ptr b] w fun e w' => e = .returned (.int .i64 z) ∧ w = w' := by subst hz; exact size_any h
theorem peval_at {w : World} {b : Nat} {T : Tree} {n t v z : Int} (h : ExAt w b T) (hz : T.eval n t v = z) : Calls Tryd.prog 17 #[ptr b, .int .i64 n, .int .i64 t, .int .i64 v] w fun e w' => e = .returned (.int .i64 z) ∧ ∃ m, w' = w.drewN m := by subst hz; exact eval_any n t v h
theorem rtext_at {w0 w : World} {x : Nat} {T : Tree} {q : ByteArray} (h : RAt w0 x T w) (h64 : T.size ≤ 64) (hq : (⟨T.text.toArray⟩ : ByteArray) = q) : Calls Tryd.prog 14 #[ptr x] w fun e w' => e = .returned (.string q) ∧ Below w.heap.size w w' := by subst hq; exact rtext_any h h64
theorem rsize_at {w0 w : World} {x : Nat} {T : Tree} {z : Nat} (h : RAt w0 x T w) (hz : T.size = z) : Calls Tryd.prog 16 #[ptr x] w fun e w' => e = .returned (.int .i64 z) ∧ w = w' := by subst hz; exact rsize_any h
theorem reval_at {w0 w : World} {x : Nat} {T : Tree} {n t v z : Int} (h : RAt w0 x T w) (h64 : T.size ≤ 64) (hz : T.eval n t v = z) : Calls Tryd.prog 18 #[ptr x, .int .i64 n, .int .i64 t, .int .i64 v] w fun e w' => e = .returned (.int .i64 z) ∧ Below w.heap.size w w' := by subst hz; exact reval_any h h64 n t v
theorem RAt.drewN {w0 w : World} {x : Nat} {T : Tree} (h : RAt w0 x T w) (m : Nat) : RAt w0 x T (w.drewN m) := h.grow ⟨rfl, rfl, rfl, Nat.le_refl _, fun _ _ => rfl⟩
end Go.Proofs.YtlkaaembeakicaaDoor.Ex
