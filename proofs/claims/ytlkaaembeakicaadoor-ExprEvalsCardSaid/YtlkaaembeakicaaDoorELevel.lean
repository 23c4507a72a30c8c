/-
  Levels of operators. Conditions: none.
-/
import Derived.Test.YtlkaaembeakicaaDoorETok
namespace Go.Proofs.YtlkaaembeakicaaDoor.Ex
open Go.RowKit
def ops : List Bs := [[124, 124], [38, 38], [61, 61], [33, 61], [60, 61], [62, 61], [60], [62], [43], [45], [42], [47], [37]]
theorem bytes_of {s : ByteArray} {l : Bs} (h : s.data.toList = l) : s = ⟨l.toArray⟩ := Go.WideShapes.bytes_inj (by simpa using h)
theorem op_cases (s : ByteArray) : s.data.toList ∈ ops ∨ ((s.toList == [124, 124]) = false ∧ (s.toList == [38, 38]) = false ∧ (s.toList == [61, 61]) = false ∧ (s.toList == [33, 61]) = false ∧ (s.toList == [60, 61]) = false ∧ (s.toList == [62, 61]) = false ∧ (s.toList == [60]) = false ∧ (s.toList == [62]) = false ∧ (s.toList == [43]) = false ∧ (s.toList == [45]) = false ∧ (s.toList == [42]) = false ∧ (s.toList == [47]) = false ∧ (s.toList == [37]) = false) := by
  by_cases h : s.data.toList ∈ ops
  · exact .inl h
  · right
    rw [Lib.toList_data]
    simp only [ops, List.mem_cons, List.not_mem_nil, or_false, not_or] at h
    simp only [beq_eq_false_iff_ne, ne_eq]
    exact h
theorem op_mem {s : ByteArray} (h : s.data.toList ∈ ops) : s = ⟨#[124, 124]⟩ ∨ s = ⟨#[38, 38]⟩ ∨ s = ⟨#[61, 61]⟩ ∨ s = ⟨#[33, 61]⟩ ∨ s = ⟨#[60, 61]⟩ ∨ s = ⟨#[62, 61]⟩ ∨ s = ⟨#[60]⟩ ∨ s = ⟨#[62]⟩ ∨ s = ⟨#[43]⟩ ∨ s = ⟨#[45]⟩ ∨ s = ⟨#[42]⟩ ∨ s = ⟨#[47]⟩ ∨ s = ⟨#[37]⟩ := by
  simp only [ops, List.mem_cons, List.not_mem_nil, or_false] at h
  rcases h with h | h | h | h | h | h | h | h | h | h | h | h | h <;> have e := bytes_of h <;> simp [e]
theorem levelOf_not {l : Bs} (h : l ∉ ops) : levelOf l = 0 := by
  simp only [ops, List.mem_cons, List.not_mem_nil, or_false, not_or] at h
  simp [levelOf, h]
set_option maxHeartbeats 4000000 in
theorem levelOf_any (s : ByteArray) (w : World) : Calls Tryd.prog 42 #[.string s] w fun e w' => e = .returned (.int .i64 (levelOf s.data.toList : Nat)) ∧ w = w' := by
  rcases op_cases s with h | h
  · rcases op_mem h with rfl | rfl | rfl | rfl | rfl | rfl | rfl | rfl | rfl | rfl | rfl | rfl | rfl
    all_goals
      go_enter Tryd.func42, Tryd.ntmps42
      go_wp2
      go_ret
      exact ⟨rfl, rfl⟩
  · have HL : Hid (levelOf s.data.toList = 0) := Lib.hid (levelOf_not (by
      rw [Lib.toList_data] at h
      simp only [beq_eq_false_iff_ne, ne_eq] at h
      simp [ops, h]))
    obtain ⟨h0, h1, h2, h3, h4, h5, h6, h7, h8, h9, h10, h11, h12⟩ := h
    go_enter Tryd.func42, Tryd.ntmps42
    go_wp2
    go_ret
    exact ⟨ret_int (by rw [HL.out]; rfl), rfl⟩
end Go.Proofs.YtlkaaembeakicaaDoor.Ex
