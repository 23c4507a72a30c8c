/-
  Three names with two operators between: what binds more is done first. Conditions: none; nothing of a program.
-/
import Derived.Test.YtlkaaembeakicaaDoorExprPutsWalk
namespace Go.Proofs.YtlkaaembeakicaaDoor.Ex
open Go.RowKit
def opL (k : Nat) : Bs := ops.getD k []
def rankTree (a b : Bs) : Tree := if levelOf a < levelOf b then .bin a (.name 110) (.bin b (.name 116) (.name 118)) else .bin b (.bin a (.name 110) (.name 116)) (.name 118)
def ranksOf (a b : Bs) : Bs := [110, 32] ++ a ++ [32, 116, 32] ++ b ++ [32, 118]
theorem ranks_all : ∀ i j : Fin 13, parse (ranksOf (opL i) (opL j)) = .ok (rankTree (opL i) (opL j)) := by decide +kernel
theorem parse_ranks {i j : Nat} (hi : i < 13) (hj : j < 13) : parse (ranksOf (opL i) (opL j)) = .ok (rankTree (opL i) (opL j)) := ranks_all ⟨i, hi⟩ ⟨j, hj⟩
theorem opL_mem {i : Nat} (h : i < 13) : opL i ∈ ops := by
  have : ∀ i : Fin 13, opL i ∈ ops := by decide +kernel
  exact this ⟨_, h⟩
def opB (k : Nat) : ByteArray := ⟨(opL k).toArray⟩
def rankRow : Obj := .cells #[.int .i64 1, .int .i64 2, .int .i64 3, .int .i64 3, .int .i64 3, .int .i64 3, .int .i64 3, .int .i64 3, .int .i64 4, .int .i64 4, .int .i64 5, .int .i64 5, .int .i64 5] 3 (0, 0)
theorem op_cell {W : World} {b k : Nat} (h : W.heap[b]? = some opRow) (hk : k < 13) : W.cell? ⟨b, k, none⟩ = some (.string (opB k)) := by
  rw [cell_of_heap h]
  match k, hk with
  | 0, _ | 1, _ | 2, _ | 3, _ | 4, _ | 5, _ | 6, _ | 7, _ | 8, _ | 9, _ | 10, _ | 11, _ | 12, _ => rfl
theorem rank_cell {W : World} {b k : Nat} (h : W.heap[b]? = some rankRow) (hk : k < 13) : W.cell? ⟨b, k, none⟩ = some (.int .i64 (levelOf (opL k) : Nat)) := by
  rw [cell_of_heap h]
  match k, hk with
  | 0, _ | 1, _ | 2, _ | 3, _ | 4, _ | 5, _ | 6, _ | 7, _ | 8, _ | 9, _ | 10, _ | 11, _ | 12, _ => rfl
theorem rtwo_q {s : ByteArray} (hs : s.data.toList ∈ ops) {a b z : Int} (hz : two s.data.toList a b = z) (W : World) (k : Nat) : Calls Tryd.prog 19 #[.string s, .int .i64 a, .int .i64 b] (W.drewN k) fun e w' => e = .returned (.int .i64 z) ∧ ∃ m, w' = W.drewN m :=
  (rtwo_at hs hz _).mono fun _ _ ⟨h1, h2⟩ => ⟨h1, k, h2.symm⟩
theorem cat_ranks (a b : ByteArray) : ((⟨#[110, 32]⟩ : ByteArray) ++ a ++ ⟨#[32, 116, 32]⟩ ++ b ++ ⟨#[32, 118]⟩).data.toList = ranksOf a.data.toList b.data.toList := by simp [ranksOf]
theorem cat_right (a b : ByteArray) : (⟨(Tree.bin a.data.toList (.name 110) (.bin b.data.toList (.name 116) (.name 118))).text.toArray⟩ : ByteArray) = ⟨#[40, 110, 32]⟩ ++ a ++ ⟨#[32, 40, 116, 32]⟩ ++ b ++ ⟨#[32, 118, 41, 41]⟩ := Go.WideShapes.bytes_inj (by simp [Tree.text])
theorem cat_left (a b : ByteArray) : (⟨(Tree.bin b.data.toList (.bin a.data.toList (.name 110) (.name 116)) (.name 118)).text.toArray⟩ : ByteArray) = ⟨#[40, 40, 110, 32]⟩ ++ a ++ ⟨#[32, 116, 41, 32]⟩ ++ b ++ ⟨#[32, 118, 41]⟩ := Go.WideShapes.bytes_inj (by simp [Tree.text])
theorem ix13n {j : Int} (h : 0 ≤ j) : ∃ k : Nat, j.tmod 13 = k ∧ k < 13 := by
  refine ⟨(j.tmod 13).toNat, ?_, ?_⟩ <;> rw [Int.tmod_eq_emod_of_nonneg h] <;> omega
end Go.Proofs.YtlkaaembeakicaaDoor.Ex
