/-
  The document's own test of a file name. Conditions: none.
-/
import Derived.Test.YtkiombbdddbkfaaMisc
namespace Go.Proofs.Ytkiombbdddbkfaa.Dk
open Go.RowKit Go.Proofs.Ytkiombbdddbkfaa.Pk

theorem nameByte_cases (c : UInt8) : (nameByte c = true ∧ ((97 ≤ (c.toNat : Int) ∧ (c.toNat : Int) ≤ 122) ∨ (48 ≤ (c.toNat : Int) ∧ (c.toNat : Int) ≤ 57) ∨ (c.toNat : Int) = 46 ∨ (c.toNat : Int) = 45)) ∨
    (nameByte c = false ∧ ((c.toNat : Int) ≤ 44 ∨ (c.toNat : Int) = 47 ∨ (58 ≤ (c.toNat : Int) ∧ (c.toNat : Int) ≤ 96) ∨ 123 ≤ (c.toNat : Int))) := by
  have hc : nameByte c = ((decide (97 ≤ c.toNat) && decide (c.toNat ≤ 122)) || (decide (48 ≤ c.toNat) && decide (c.toNat ≤ 57)) || decide (c.toNat = 46) || decide (c.toNat = 45)) := by
    unfold nameByte
    have e2 : ∀ a b : UInt8, (a == b) = decide (a.toNat = b.toNat) := fun a b => by
      rw [Bool.eq_iff_iff]; simp only [beq_iff_eq, decide_eq_true_eq]
      exact ⟨fun h => by rw [h], fun h => UInt8.toNat_inj.mp h⟩
    rw [e2, e2]
    simp only [UInt8.le_iff_toNat_le]
    rfl
  rw [hc]
  generalize c.toNat = x
  by_cases h : ((decide (97 ≤ x) && decide (x ≤ 122)) || (decide (48 ≤ x) && decide (x ≤ 57)) || decide (x = 46) || decide (x = 45)) = true
  · refine .inl ⟨h, ?_⟩
    simp only [Bool.or_eq_true, Bool.and_eq_true, decide_eq_true_eq] at h
    omega
  · refine .inr ⟨by simpa using h, ?_⟩
    simp only [Bool.or_eq_true, Bool.and_eq_true, decide_eq_true_eq] at h
    omega

set_option maxHeartbeats 1000000 in
theorem refName_any (s : ByteArray) (w : World) (hs : s.size ≤ maxLen) : Calls Try.prog 32 #[.string s] w fun e w' => e = .returned (.bool (isName s.data.toList)) ∧ w = w' := by
  unfold maxLen at hs
  have hl : s.data.toList.length = s.size := by rw [Array.length_toList]; rfl
  have HL := Lib.hid hl
  clear hl
  by_cases h1 : s.size < 1
  · go_enter Try.func32, Try.ntmps32
    go_wp2
    go_ret
    have : isName s.data.toList = false := by unfold isName; rw [HL.out]; simp; omega
    exact ⟨ret_bool this.symm, rfl⟩
  by_cases h2 : 16 < s.size
  · go_enter Try.func32, Try.ntmps32
    go_wp2
    go_ret
    have : isName s.data.toList = false := by unfold isName; rw [HL.out]; simp; omega
    exact ⟨ret_bool this.symm, rfl⟩
  · go_enter Try.func32, Try.ntmps32
    go_wp2
    go_loop [3] (fun i => ∃ k : Nat, k ≤ s.size ∧ i = .int .i64 k ∧ Hid ((s.data.toList.take k).all nameByte = true)) (fun i => s.size - (intOf i).toNat)
    case atStart => exact ⟨0, Nat.zero_le _, rfl, by show _ = true; simp⟩
    case round =>
      obtain ⟨k, hk, rfl, hall⟩ := hrel
      by_cases hlt : k < s.size
      · have HA := Lib.hid (all_take (p := nameByte) (l := s.data.toList) (k := k) (by rw [HL.out]; exact hlt))
        rcases nameByte_cases s[k] with ⟨hn, hc⟩ | ⟨hn, hc⟩
        · have HN := Lib.hid hn
          clear hn
          rcases hc with ⟨g1, g2⟩ | ⟨g1, g2⟩ | g1 | g1
          · go_wp2
            go_round
            case rel => exact ⟨k + 1, by omega, by go_num, by show _ = true; rw [HA.out, hall.out]; exact HN.out⟩
            case measure => simp [intOf]; omega
          · have g3 : (s[k].toNat : Int) < 97 := by omega
            go_wp2
            go_round
            case rel => exact ⟨k + 1, by omega, by go_num, by show _ = true; rw [HA.out, hall.out]; exact HN.out⟩
            case measure => simp [intOf]; omega
          · go_wp2
            go_round
            case rel => exact ⟨k + 1, by omega, by go_num, by show _ = true; rw [HA.out, hall.out]; exact HN.out⟩
            case measure => simp [intOf]; omega
          · go_wp2
            go_round
            case rel => exact ⟨k + 1, by omega, by go_num, by show _ = true; rw [HA.out, hall.out]; exact HN.out⟩
            case measure => simp [intOf]; omega
        · have HN := Lib.hid hn
          clear hn
          have hfin : isName s.data.toList = false := not_name (k := k) (by rw [HL.out]; exact hlt) HN.out
          have HF := Lib.hid hfin
          clear hfin
          rcases hc with g1 | g1 | ⟨g1, g2⟩ | g1
          · have g3 : (s[k].toNat : Int) < 97 := by omega
            have g4 : (s[k].toNat : Int) < 48 := by omega
            have g5 : ((s[k].toNat : Int) != 46) = true := by simp; omega
            have g6 : ((s[k].toNat : Int) != 45) = true := by simp; omega
            go_wp2
            go_ret
            exact ⟨ret_bool HF.out.symm, rfl⟩
          · go_wp2
            go_ret
            exact ⟨ret_bool HF.out.symm, rfl⟩
          · have g3 : (s[k].toNat : Int) < 97 := by omega
            have g4 : (57 : Int) < (s[k].toNat : Int) := by omega
            have g5 : ((s[k].toNat : Int) != 46) = true := by simp; omega
            have g6 : ((s[k].toNat : Int) != 45) = true := by simp; omega
            go_wp2
            go_ret
            exact ⟨ret_bool HF.out.symm, rfl⟩
          · have g4 : (57 : Int) < (s[k].toNat : Int) := by omega
            have g5 : ((s[k].toNat : Int) != 46) = true := by simp; omega
            have g6 : ((s[k].toNat : Int) != 45) = true := by simp; omega
            go_wp2
            go_ret
            exact ⟨ret_bool HF.out.symm, rfl⟩
      · go_wp2
        go_ret
        have : isName s.data.toList = true := by
          have h3 := hall.out
          rw [List.take_of_length_le (by rw [HL.out]; omega)] at h3
          unfold isName; rw [HL.out, h3]; simp; omega
        exact ⟨ret_bool this.symm, rfl⟩
end Go.Proofs.Ytkiombbdddbkfaa.Dk
