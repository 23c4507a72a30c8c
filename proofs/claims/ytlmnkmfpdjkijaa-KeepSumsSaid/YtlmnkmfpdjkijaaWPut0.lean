/-
  A span's own box, a row of spans grown, the lesser and the greater of two: as they lie in memory. Conditions: as each theorem names them.
-/
import Derived.Test.YtlmnkmfpdjkijaaWSmall
import Derived.Test.YtlmnkmfpdjkijaaWApp
import Derived.Deep.DeepCutAuto
namespace Go.Proofs.Ytlmnkmfpdjkijaa.Wi
set_option linter.unusedVariables false
set_option linter.unusedSimpArgs false
open Go.RowKit

theorem run_min_z (a b : Int) (ts : Array TypeId) (t : TypeId) (W : World) : (Builtin.min_ ts t #[.int .i64 a, .int .i64 b]).run Try.prog W = .ok (.int .i64 (min a b)) W := by
  rw [run_min_int2]
  congr 2
  split <;> omega
theorem run_max_z (a b : Int) (ts : Array TypeId) (t : TypeId) (W : World) : (Builtin.max_ ts t #[.int .i64 a, .int .i64 b]).run Try.prog W = .ok (.int .i64 (max a b)) W := by
  rw [run_max_int2]
  congr 2
  split <;> omega
attribute [local go_sem ↓] run_min_z run_max_z
theorem grown_next {s : Sp} {L : List Sp} {k : Nat} (hk : k < L.length) {x : Sp} (hx : L[k] = x) : grown s (L.take (k + 1)) = if share x (grown s (L.take k)) = true then hull x (grown s (L.take k)) else grown s (L.take k) := by
  rw [List.take_succ_eq_append_getElem hk, hx, grown_snoc]
theorem take_drop_while {P : Sp → Bool} : ∀ {L : List Sp} {k : Nat}, k ≤ L.length → (∀ i (hi : i < L.length), i < k → P L[i] = true) → (∀ hk : k < L.length, P L[k] = false) → L.takeWhile P = L.take k ∧ L.dropWhile P = L.drop k
  | [], k, hk, _, _ => by
    have : k = 0 := by simpa using hk
    subst this
    exact ⟨rfl, rfl⟩
  | a :: r, 0, _, _, h2 => by
    have := h2 (by simp)
    simp only [List.getElem_cons_zero] at this
    rw [List.takeWhile_cons, List.dropWhile_cons, this]
    exact ⟨rfl, rfl⟩
  | a :: r, k + 1, hk, h1, h2 => by
    have ha := h1 0 (by simp) (by omega)
    simp only [List.getElem_cons_zero] at ha
    obtain ⟨e1, e2⟩ := take_drop_while (P := P) (L := r) (k := k) (by simpa using hk) (fun i hi hik => by
      have := h1 (i + 1) (by simpa using hi) (by omega)
      simpa using this) (fun hk' => by
      have := h2 (by simpa using hk')
      simpa using this)
    rw [List.takeWhile_cons, List.dropWhile_cons, ha]
    simp only [if_true, List.take_succ_cons, List.drop_succ_cons, e1, e2]
    exact ⟨trivial, trivial⟩
/-- The span's own box. -/
structure SB (w : World) (B : Nat) (s : Sp) : Prop where
  blk : w.heap[B]? = some (.cells #[.int .i64 s.1, .int .i64 s.2] 49 (0, 0))
theorem SB.cells {w : World} {B : Nat} {s : Sp} (h : SB w B s) : w.cell? ⟨B, 0, none⟩ = some (.int .i64 s.1) ∧ w.cell? ⟨B, 1, none⟩ = some (.int .i64 s.2) ∧ w.frozen? ⟨B, 0, none⟩ = false ∧ w.frozen? ⟨B, 1, none⟩ = false := by
  refine ⟨?_, ?_, free_of_heap h.blk 0, free_of_heap h.blk 1⟩
  · rw [cell_of_heap h.blk]; rfl
  · rw [cell_of_heap h.blk]; rfl
theorem SB.grow {w w' : World} {B : Nat} {s : Sp} (h : SB w B s) (hb : Below w.heap.size w w') : SB w' B s := ⟨by rw [hb.block B (lt_of_heap h.blk)]; exact h.blk⟩
theorem SB.set0 {w : World} {B : Nat} {s : Sp} (h : SB w B s) (z : Int) : SB (w.setCell ⟨B, 0, none⟩ (.int .i64 z)) B (z, s.2) := ⟨by rw [heap_setCell_same w B 0 _ _ _ h.blk]; rfl⟩
theorem SB.set1 {w : World} {B : Nat} {s : Sp} (h : SB w B s) (z : Int) : SB (w.setCell ⟨B, 1, none⟩ (.int .i64 z)) B (s.1, z) := ⟨by rw [heap_setCell_same w B 1 _ _ _ h.blk]; rfl⟩
theorem below_grown {W w w' : World} {r : Option Nat} (hB : Below W.heap.size W w) (hb : ∀ k, r = some k → W.heap.size ≤ k) (hg : w.grownBy w' r) : Below W.heap.size W w' := hB.grown hg hB.size hb
theorem SB.append {w w' : World} {B : Nat} {s : Sp} {r : Option Nat} (h : SB w B s) (hr : r ≠ some B) (hg : w.grownBy w' r) : SB w' B s := ⟨by rw [hg.block B (lt_of_heap h.blk) (fun e => hr e.symm)]; exact h.blk⟩
theorem not_box {w : World} {B : Nat} {e : TypeId} {size : Nat} {v : Value} {n : Nat} {xs : List Value} (h : w.ownsRow (B + 1) e size v n xs) : v.ownBlock ≠ some B := fun e => absurd (h.lt B e).1 (by omega)
theorem ownsRow_mono {w : World} {B B' : Nat} {e : TypeId} {size : Nat} {v : Value} {n : Nat} {xs : List Value} (h : w.ownsRow B' e size v n xs) (hb : B ≤ B') : w.ownsRow B e size v n xs := by
  refine ⟨h.1, ?_⟩
  rcases h.2 with h1 | ⟨g, cap, cur, h1, h2, h3⟩
  · exact .inl h1
  · exact .inr ⟨g, cap, cur, h1, by omega, h3⟩
theorem filt_next {P : Sp → Bool} {L : List Sp} {k i : Nat} (hki : k ≤ i) (hi : i < L.length) {x : Sp} (hx : L[i] = x) : ((L.drop k).take (i + 1 - k)).filter P = ((L.drop k).take (i - k)).filter P ++ (if P x = true then [x] else []) := by
  have h1 : i - k < (L.drop k).length := by rw [List.length_drop]; omega
  rw [show i + 1 - k = i - k + 1 by omega, List.take_succ_eq_append_getElem h1, List.filter_append]
  have h2 : (L.drop k)[i - k] = x := by rw [List.getElem_drop, ← hx]; congr 1; omega
  rw [h2]
  cases hp : P x <;> simp [hp]
theorem stay4 {W X : World} {b1 o1 b2 : Nat} {u0 u1 u2 u3 : Value} (hl1 : b1 < W.heap.size) (hl2 : b2 < W.heap.size) (h0 : W.cell? ⟨b1, o1, none⟩ = some u0) (h1 : W.cell? ⟨b1, o1 + 1, none⟩ = some u1) (h2 : W.cell? ⟨b2, 0, none⟩ = some u2) (h3 : W.cell? ⟨b2, 1, none⟩ = some u3) (hb : Below W.heap.size W X) :
    X.cell? ⟨b1, o1, none⟩ = some u0 ∧ X.cell? ⟨b1, o1 + 1, none⟩ = some u1 ∧ X.cell? ⟨b2, 0, none⟩ = some u2 ∧ X.cell? ⟨b2, 1, none⟩ = some u3 ∧ Hid (Below W.heap.size W X) :=
  ⟨(hb.cell (p := ⟨b1, o1, none⟩) hl1).trans h0, (hb.cell (p := ⟨b1, o1 + 1, none⟩) hl1).trans h1, (hb.cell (p := ⟨b2, 0, none⟩) hl2).trans h2, (hb.cell (p := ⟨b2, 1, none⟩) hl2).trans h3, Lib.hid hb⟩
end Go.Proofs.Ytlmnkmfpdjkijaa.Wi
