/-
  The hash of a key and its group, the program's and the document's. Conditions: a key of 4096 bytes at most.
-/
import Derived.Test.YtlmnkmfpdjkijaaHKit
import Derived.Laws.BitsAllLaws
namespace Go.Proofs.Ytlmnkmfpdjkijaa.Gp
set_option linter.unusedVariables false
set_option linter.unusedSimpArgs false
open Go.RowKit

theorem byte_lt (x : UInt8) : x.toNat < 256 := x.toNat_lt
theorem step32 {q : Nat} {x : UInt8} (h : q < 4294967296) : bits .xor .u32 (q : Int) ((x.toNat : Int) % 4294967296) * 16777619 % 4294967296 = ((hStep q x : Nat) : Int) := by
  have hx := byte_lt x
  have e : (x.toNat : Int) % 4294967296 = (x.toNat : Int) := by omega
  rw [e, u32_xor_nat _ _ h (by omega)]
  unfold hStep
  omega
theorem xor_lt {q : Nat} {x : UInt8} (h : q < 4294967296) : q ^^^ x.toNat < 4294967296 :=
  Nat.xor_lt_two_pow (n := 32) h (Nat.lt_of_lt_of_le (byte_lt x) (by decide))
set_option maxRecDepth 20000 in
set_option maxHeartbeats 1000000 in
theorem hash_any (s : ByteArray) (w : World) (hsz : s.size ≤ 4096) : Calls Try.prog 93 #[.string s] w fun e w' => e = .returned (.int .u32 (hs s.data.toList : Nat)) ∧ w = w' := by
  go_enter Try.func93, Try.ntmps93
  go_wp2
  go_loop [3, 7] (fun h i => ∃ k q : Nat, k ≤ s.size ∧ i = .int .i64 k ∧ h = .int .u32 q ∧ Hid (q = hs (s.data.toList.take k))) (fun _ i => s.size - (intOf i).toNat)
  case atStart => exact ⟨0, 2166136261, Nat.zero_le _, rfl, rfl, Lib.hid rfl⟩
  case round =>
    obtain ⟨k, q, hk, rfl, rfl, hd⟩ := hrel
    by_cases hlt : k < s.size
    · have hq32 : q < 4294967296 := by rw [hd.out]; exact hs_lt _
      have Q := Lib.hid hq32
      have HN : Hid (hStep q s[k] = hs (s.data.toList.take (k + 1))) := Lib.hid (by rw [hd.out]; exact (hs_next (by simpa using hlt) rfl).symm)
      clear hq32 hd
      go_wp2
      go_round
      case rel => exact ⟨k + 1, hStep q s[k], by omega, by go_num, by rw [step32 Q.out], HN⟩
      case measure => simp [intOf]; omega
    · have HR : Hid (q = hs s.data.toList) := Lib.hid (by rw [hd.out, List.take_of_length_le (by simp; omega)])
      clear hd
      go_wp2
      go_ret
      exact ⟨ret_int (by rw [HR.out]), rfl⟩
theorem step64 {q : Nat} {x : UInt8} (h : q < 4294967296) : (IntKind.u64.wrap (bits .xor .u64 (q : Int) (IntKind.u64.wrap (x.toNat : Int)) * 16777619)).tmod 4294967296 = ((hStep q x : Nat) : Int) := by
  have hx := byte_lt x
  have hl := xor_lt (x := x) h
  have e : IntKind.u64.wrap (x.toNat : Int) = (x.toNat : Int) := by rw [IntKind.wrap_u64]; omega
  rw [e, u64_xor_nat _ _ (by omega) (by omega), IntKind.wrap_u64, Int.tmod_eq_emod_of_nonneg (by omega)]
  unfold hStep
  omega
set_option maxRecDepth 20000 in
set_option maxHeartbeats 1000000 in
theorem rhash_any (s : ByteArray) (w : World) (hsz : s.size ≤ 4096) : Calls Try.prog 45 #[.string s] w fun e w' => e = .returned (.int .u32 (hs s.data.toList : Nat)) ∧ w = w' := by
  go_enter Try.func45, Try.ntmps45
  go_wp2
  go_loop [3, 4] (fun h i => ∃ k q : Nat, k ≤ s.size ∧ i = .int .i64 k ∧ h = .int .u64 q ∧ Hid (q = hs (s.data.toList.take k))) (fun _ i => s.size - (intOf i).toNat)
  case atStart => exact ⟨0, 2166136261, Nat.zero_le _, rfl, rfl, Lib.hid rfl⟩
  case round =>
    obtain ⟨k, q, hk, rfl, rfl, hd⟩ := hrel
    have hq32 : q < 4294967296 := by rw [hd.out]; exact hs_lt _
    by_cases hlt : k < s.size
    · have Q := Lib.hid hq32
      have HN : Hid (hStep q s[k] = hs (s.data.toList.take (k + 1))) := Lib.hid (by rw [hd.out]; exact (hs_next (by simpa using hlt) rfl).symm)
      clear hq32 hd
      go_wp2
      go_round
      case rel => exact ⟨k + 1, hStep q s[k], by omega, by go_num, by rw [step64 Q.out], HN⟩
      case measure => simp [intOf]; omega
    · have HR : Hid (q = hs s.data.toList) := Lib.hid (by rw [hd.out, List.take_of_length_le (by simp; omega)])
      clear hd
      go_wp2
      go_ret
      refine ⟨ret_int ?_, rfl⟩
      rw [← HR.out]
set_option maxHeartbeats 1000000 in
theorem group_any (s : ByteArray) (w : World) (hsz : s.size ≤ 4096) : Calls Try.prog 62 #[.string s] w fun e w' => e = .returned (.int .i64 (hs s.data.toList % 16 : Nat)) ∧ w = w' := by
  have h32 := hs_lt s.data.toList
  obtain ⟨q, hq⟩ : ∃ q, hs s.data.toList = q := ⟨_, rfl⟩
  rw [hq] at h32 ⊢
  go_enter Try.func62, Try.ntmps62
  go_wp2_with (go_at_call 93; refine (hash_any s _ hsz).mono ?_; rw [hq]; rintro e w2 ⟨rfl, rfl⟩)
  go_ret
  exact ⟨ret_int (by omega), rfl⟩
set_option maxHeartbeats 1000000 in
theorem rgroup_any (s : ByteArray) (w : World) (hsz : s.size ≤ 4096) : Calls Try.prog 24 #[.string s] w fun e w' => e = .returned (.int .i64 (hs s.data.toList % 16 : Nat)) ∧ w = w' := by
  have h32 := hs_lt s.data.toList
  obtain ⟨q, hq⟩ : ∃ q, hs s.data.toList = q := ⟨_, rfl⟩
  rw [hq] at h32 ⊢
  go_enter Try.func24, Try.ntmps24
  go_wp2_with (go_at_call 45; refine (rhash_any s _ hsz).mono ?_; rw [hq]; rintro e w2 ⟨rfl, rfl⟩)
  go_ret
  exact ⟨ret_int (by omega), rfl⟩
end Go.Proofs.Ytlmnkmfpdjkijaa.Gp
