/-
  The document's reader: its words and ranks. Conditions: a text of 200 bytes at most.
-/
import Derived.Test.YtlkaaembeakicaaDoorEMeas
import Derived.Deep.CutBlock
import Derived.Deep.DeepCutAuto
namespace Go.Proofs.YtlkaaembeakicaaDoor.Ex
open Go.RowKit
set_option maxHeartbeats 400000 in
theorem rdigit_any (c : UInt8) (w : World) : Calls Tryd.prog 24 #[.int .u8 (c.toNat : Int)] w fun e w' => e = .returned (.bool (isDig c)) ∧ w = w' := by
  unfold isDig
  go_enter Tryd.func24, Tryd.ntmps24
  go_wp2
  all_goals go_ret
  all_goals exact ⟨ret_bool (by rw [Bool.eq_iff_iff]; simp; omega), rfl⟩
set_option maxHeartbeats 400000 in
theorem rletter_any (c : UInt8) (w : World) : Calls Tryd.prog 34 #[.int .u8 (c.toNat : Int)] w fun e w' => e = .returned (.bool (isLet c)) ∧ w = w' := by
  unfold isLet
  go_enter Tryd.func34, Tryd.ntmps34
  go_wp2
  all_goals go_ret
  all_goals exact ⟨ret_bool (by rw [Bool.eq_iff_iff]; simp; omega), rfl⟩
def rankOf (s : Bs) : Nat := if s = [126] ∨ s = [33] then 6 else levelOf s
set_option maxHeartbeats 4000000 in
theorem rrank_any (s : ByteArray) (w : World) : Calls Tryd.prog 25 #[.string s] w fun e w' => e = .returned (.int .i64 (rankOf s.data.toList : Nat)) ∧ w = w' := by
  rcases op_cases s with h | h
  · rcases op_mem h with rfl | rfl | rfl | rfl | rfl | rfl | rfl | rfl | rfl | rfl | rfl | rfl | rfl
    all_goals
      go_enter Tryd.func25, Tryd.ntmps25
      go_wp2
      go_ret
      exact ⟨rfl, rfl⟩
  · by_cases h126 : s.data.toList = [126]
    · obtain rfl := bytes_of h126
      go_enter Tryd.func25, Tryd.ntmps25
      go_wp2
      go_ret
      exact ⟨rfl, rfl⟩
    · by_cases h33 : s.data.toList = [33]
      · obtain rfl := bytes_of h33
        go_enter Tryd.func25, Tryd.ntmps25
        go_wp2
        go_ret
        exact ⟨rfl, rfl⟩
      · have HL : Hid (rankOf s.data.toList = 0) := Lib.hid (by
          unfold rankOf
          rw [if_neg (by simp [h126, h33])]
          exact levelOf_not (by
            rw [Lib.toList_data] at h
            simp only [beq_eq_false_iff_ne, ne_eq] at h
            simp [ops, h]))
        have g1 : (s.toList == [126]) = false := by rw [Lib.toList_data]; simp [h126]
        have g2 : (s.toList == [33]) = false := by rw [Lib.toList_data]; simp [h33]
        obtain ⟨h0, h1, h2, h3, h4, h5, h6, h7, h8, h9, h10, h11, h12⟩ := h
        clear h126 h33
        go_enter Tryd.func25, Tryd.ntmps25
        go_wp2
        go_ret
        exact ⟨ret_int (by rw [HL.out]; rfl), rfl⟩
theorem rank_at (s : ByteArray) (w : World) {r : Nat} (h : rankOf s.data.toList = r) : Calls Tryd.prog 25 #[.string s] w fun e w' => e = .returned (.int .i64 (r : Nat)) ∧ w = w' := by subst h; exact rrank_any s w
end Go.Proofs.YtlkaaembeakicaaDoor.Ex
