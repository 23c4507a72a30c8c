/-
  The small calls of disk: New, Up, Deeds, On, Arm, size, what a file name is. Conditions: none but those that each theorem names.
-/
import Derived.Test.YtkiombbdddbkfaaDisk
import Derived.WalkLawsBesides
import Derived.LoopTactic
import Derived.BigQuiet
import Derived.Deep.QuietTactic
namespace Go.Proofs.Ytkiombbdddbkfaa.Dk
open Go.RowKit Go.Proofs.Ytkiombbdddbkfaa.Pk

set_option maxHeartbeats 400000 in
theorem up_nil (w : World) : Calls Try.prog 22 #[.pointer none] w fun e w' => e = .returned (.bool false) ∧ w = w' := by
  go_enter Try.func22, Try.ntmps22
  go_wp2
  go_ret
  exact ⟨rfl, rfl⟩
set_option maxHeartbeats 400000 in
theorem up_top {w : World} {d : Nat} {off : Bool} (h : w.cell? ⟨d, 1, none⟩ = some (.bool off)) : Calls Try.prog 22 #[.pointer (some ⟨d, 0, none⟩)] w fun e w' => e = .returned (.bool (!off)) ∧ w = w' := by
  go_enter Try.func22, Try.ntmps22
  go_wp2
  go_ret
  exact ⟨rfl, rfl⟩
set_option maxHeartbeats 400000 in
theorem deeds_nil (w : World) : Calls Try.prog 23 #[.pointer none] w fun e w' => e = .returned (.int .i64 0) ∧ w = w' := by
  go_enter Try.func23, Try.ntmps23
  go_wp2
  go_ret
  exact ⟨rfl, rfl⟩
set_option maxHeartbeats 400000 in
theorem deeds_top {w : World} {d : Nat} {n : Int} (h : w.cell? ⟨d, 2, none⟩ = some (.int .i64 n)) : Calls Try.prog 23 #[.pointer (some ⟨d, 0, none⟩)] w fun e w' => e = .returned (.int .i64 n) ∧ w = w' := by
  go_enter Try.func23, Try.ntmps23
  go_wp2
  go_ret
  exact ⟨rfl, rfl⟩
set_option maxHeartbeats 400000 in
theorem on_nil (w : World) : Calls Try.prog 19 #[.pointer none] w fun e w' => e = .returned (.tuple #[]) ∧ w = w' := by
  go_enter Try.func19, Try.ntmps19
  go_wp2
  refine bodyPost_ret (results_none rfl _ _ _) rfl ?_
  exact ⟨rfl, rfl⟩
set_option maxHeartbeats 400000 in
theorem on_cell {w : World} {d : Nat} {off : Bool} (h : w.cell? ⟨d, 1, none⟩ = some (.bool off)) (hf : w.frozen? ⟨d, 1, none⟩ = false) :
    Calls Try.prog 19 #[.pointer (some ⟨d, 0, none⟩)] w fun e w' => e = .returned (.tuple #[]) ∧ w.setCell ⟨d, 1, none⟩ (.bool false) = w' := by
  go_enter Try.func19, Try.ntmps19
  go_wp2
  go_end0
  exact ⟨rfl, rfl⟩
set_option maxHeartbeats 400000 in
theorem arm_nil (w : World) (n keep : Int) : Calls Try.prog 15 #[.pointer none, .int .i64 n, .int .i64 keep] w fun e w' => e = .returned (.tuple #[]) ∧ w = w' := by
  go_enter Try.func15, Try.ntmps15
  go_wp2
  refine bodyPost_ret (results_none rfl _ _ _) rfl ?_
  exact ⟨rfl, rfl⟩
set_option maxHeartbeats 400000 in
theorem arm_cell {w : World} {d : Nat} {n keep f0 k0 : Int} (h3 : w.cell? ⟨d, 3, none⟩ = some (.int .i64 f0)) (h4 : w.cell? ⟨d, 4, none⟩ = some (.int .i64 k0)) (hf3 : w.frozen? ⟨d, 3, none⟩ = false) (hf4 : w.frozen? ⟨d, 4, none⟩ = false) :
    Calls Try.prog 15 #[.pointer (some ⟨d, 0, none⟩), .int .i64 n, .int .i64 keep] w fun e w' => e = .returned (.tuple #[]) ∧ (w.setCell ⟨d, 3, none⟩ (.int .i64 (max n 0))).setCell ⟨d, 4, none⟩ (.int .i64 keep) = w' := by
  go_enter Try.func15, Try.ntmps15
  go_wp2
  · go_end0
    refine ⟨rfl, ?_⟩
    rw [show max n 0 = 0 by omega]
  · go_end0
    refine ⟨rfl, ?_⟩
    rw [show max n 0 = n by omega]
set_option maxHeartbeats 400000 in
theorem size_nil (w : World) : Calls Try.prog 41 #[.pointer none] w fun e w' => e = .returned (.int .i64 0) ∧ w = w' := by
  go_enter Try.func41, Try.ntmps41
  go_wp2
  go_ret
  exact ⟨rfl, rfl⟩
set_option maxHeartbeats 400000 in
theorem size_cell {w : World} {fb : Nat} {A : Option Addr} {n c : Nat} (h : w.cell? ⟨fb, 0, none⟩ = some (.slice A n c)) : Calls Try.prog 41 #[.pointer (some ⟨fb, 0, none⟩)] w fun e w' => e = .returned (.int .i64 n) ∧ w = w' := by
  go_enter Try.func41, Try.ntmps41
  go_wp2
  go_ret
  exact ⟨rfl, rfl⟩
set_option maxHeartbeats 400000 in
theorem new_any (w : World) : Calls Try.prog 8 #[] w fun e w' => e = .returned (.pointer (some ⟨w.heap.size, 0, none⟩)) ∧ w.alloc (.cells #[.map none, .bool false, .int .i64 0, .int .i64 0, .int .i64 0] 60) = w' := by
  go_enter Try.func8, Try.ntmps8
  go_wp2
  go_ret
  exact ⟨rfl, rfl⟩

set_option maxHeartbeats 1000000 in
theorem nameByte_any (c : UInt8) (w : World) : Calls Try.prog 57 #[.int .u8 (c.toNat : Int)] w fun e w' => e = .returned (.bool (nameByte c)) ∧ w = w' := by
  have hc : nameByte c = ((decide (97 ≤ (c.toNat : Int)) && decide ((c.toNat : Int) ≤ 122)) || (decide (48 ≤ (c.toNat : Int)) && decide ((c.toNat : Int) ≤ 57)) || ((c.toNat : Int) == 46) || ((c.toNat : Int) == 45)) := by
    unfold nameByte
    have e1 : ∀ a b : UInt8, decide (a ≤ b) = decide ((a.toNat : Int) ≤ (b.toNat : Int)) := fun a b => by rw [decide_eq_decide, UInt8.le_iff_toNat_le]; omega
    have e2 : ∀ a b : UInt8, (a == b) = ((a.toNat : Int) == (b.toNat : Int)) := fun a b => by
      rw [Bool.eq_iff_iff]; simp only [beq_iff_eq]
      exact ⟨fun h => by rw [h], fun h => UInt8.toNat_inj.mp (by omega)⟩
    rw [e1, e1, e1, e1, e2, e2]; rfl
  have H := Lib.hid hc
  clear hc
  have b0 : (0 : Int) ≤ (c.toNat : Int) := by omega
  have b1 : (c.toNat : Int) ≤ 255 := by have := c.toNat_lt; omega
  generalize (c.toNat : Int) = x at b0 b1 H ⊢
  go_enter Try.func57, Try.ntmps57
  go_wp2
  all_goals go_ret
  all_goals refine ⟨?_, rfl⟩
  all_goals rw [H.out]
  all_goals refine congrArg (fun b => Ending.returned (.bool b)) ?_
  all_goals rw [Bool.eq_iff_iff]
  all_goals simp
  all_goals omega

theorem ret_bool {a b : Bool} (h : a = b) : Ending.returned (.bool a) = .returned (.bool b) := by rw [h]
theorem ret_int {k : IntKind} {a b : Int} (h : a = b) : Ending.returned (.int k a) = .returned (.int k b) := by rw [h]
theorem not_name {l : List UInt8} {k : Nat} (h : k < l.length) (hn : nameByte l[k] = false) : isName l = false := by
  unfold isName
  have : l.all nameByte = false := by
    rw [Bool.eq_false_iff]; intro h2
    rw [List.all_eq_true.1 h2 _ (List.getElem_mem h)] at hn; cases hn
  rw [this]; simp
theorem all_take {p : UInt8 → Bool} {l : List UInt8} {k : Nat} (h : k < l.length) : (l.take (k + 1)).all p = ((l.take k).all p && p l[k]) := by
  rw [List.take_succ_eq_append_getElem h, List.all_append]; simp
set_option maxHeartbeats 400000 in
theorem isFileName_any (s : ByteArray) (w : World) (hs : s.size ≤ maxLen) : Calls Try.prog 40 #[.string s] w fun e w' => e = .returned (.bool (isName s.data.toList)) ∧ w = w' := by
  unfold maxLen at hs
  have hl : s.data.toList.length = s.size := by rw [Array.length_toList]; rfl
  have HL := Lib.hid hl
  clear hl
  by_cases h1 : s.size < 1
  · go_enter Try.func40, Try.ntmps40
    go_wp2
    go_ret
    have : isName s.data.toList = false := by unfold isName; rw [HL.out]; simp; omega
    exact ⟨ret_bool this.symm, rfl⟩
  by_cases h2 : 16 < s.size
  · go_enter Try.func40, Try.ntmps40
    go_wp2
    go_ret
    have : isName s.data.toList = false := by unfold isName; rw [HL.out]; simp; omega
    exact ⟨ret_bool this.symm, rfl⟩
  · go_enter Try.func40, Try.ntmps40
    go_wp2
    go_loop [14] (fun i => ∃ k : Nat, k ≤ s.size ∧ i = .int .i64 k ∧ Hid ((s.data.toList.take k).all nameByte = true)) (fun i => s.size - (intOf i).toNat)
    case atStart => exact ⟨0, Nat.zero_le _, rfl, by show _ = true; simp⟩
    case round =>
      obtain ⟨k, hk, rfl, hall⟩ := hrel
      by_cases hlt : k < s.size
      · have hat := all_take (p := nameByte) (l := s.data.toList) (k := k) (by rw [HL.out]; exact hlt)
        have HA := Lib.hid hat
        clear hat
        cases hn : nameByte s[k]
        · have HN := Lib.hid hn
          clear hn
          go_wp2_with (go_at_call 57; refine (nameByte_any s[k] _).mono ?_; rintro e w' ⟨rfl, rfl⟩; rw [HN.out])
          go_ret
          have : isName s.data.toList = false := not_name (k := k) (by rw [HL.out]; exact hlt) HN.out
          exact ⟨ret_bool this.symm, rfl⟩
        · have HN := Lib.hid hn
          clear hn
          go_wp2_with (go_at_call 57; refine (nameByte_any s[k] _).mono ?_; rintro e w' ⟨rfl, rfl⟩; rw [HN.out])
          go_round
          case rel => exact ⟨k + 1, by omega, by go_num, by show _ = true; rw [HA.out, hall.out]; exact HN.out⟩
          case measure => simp [intOf]; omega
      · go_wp2
        go_ret
        have : isName s.data.toList = true := by
          have h3 := hall.out
          rw [List.take_of_length_le (by rw [HL.out]; omega)] at h3
          unfold isName; rw [HL.out, h3]; simp; omega
        exact ⟨ret_bool this.symm, rfl⟩
end Go.Proofs.Ytkiombbdddbkfaa.Dk
