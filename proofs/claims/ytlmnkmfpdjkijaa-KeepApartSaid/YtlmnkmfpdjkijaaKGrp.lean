/-
  The document's hash of a key, its group, its owner; how many keepers may be. Conditions: a key of 4096 bytes at most.
-/
import Derived.Test.YtlmnkmfpdjkijaaKKit
import Derived.Test.YtlmnkmfpdjkijaaHMath
import Derived.Laws.BitsAllLaws
namespace Go.Proofs.Ytlmnkmfpdjkijaa.Ke
set_option linter.unusedVariables false
set_option linter.unusedSimpArgs false
open Go.RowKit
open Go.Proofs.Ytlmnkmfpdjkijaa.Gp (hs hStep hs_lt hs_next ow)

theorem byte_lt (x : UInt8) : x.toNat < 256 := x.toNat_lt
theorem xor_lt {q : Nat} {x : UInt8} (h : q < 4294967296) : q ^^^ x.toNat < 4294967296 :=
  Nat.xor_lt_two_pow (n := 32) h (Nat.lt_of_lt_of_le (byte_lt x) (by decide))
theorem step64 {q : Nat} {x : UInt8} (h : q < 4294967296) : (IntKind.u64.wrap (bits .xor .u64 (q : Int) (IntKind.u64.wrap (x.toNat : Int)) * 16777619)).tmod 4294967296 = ((hStep q x : Nat) : Int) := by
  have hx := byte_lt x
  have hl := xor_lt (x := x) h
  have e : IntKind.u64.wrap (x.toNat : Int) = (x.toNat : Int) := by rw [IntKind.wrap_u64]; omega
  rw [e, u64_xor_nat _ _ (by omega) (by omega), IntKind.wrap_u64, Int.tmod_eq_emod_of_nonneg (by omega)]
  unfold hStep
  omega
set_option maxRecDepth 20000 in
set_option maxHeartbeats 1000000 in
theorem rhash_any (s : ByteArray) (w : World) (hsz : s.size ≤ 4096) : Calls Try.prog 45 #[.string s] w fun e w' => e = .returned (.int .u32 (hs s.data.toList : Nat)) ∧ w = w' := by
  go_enter Try.func45, Try.ntmps45
  go_wp2
  go_loop [3, 4] (fun h i => ∃ k q : Nat, k ≤ s.size ∧ i = .int .i64 k ∧ h = .int .u64 q ∧ Hid (q = hs (s.data.toList.take k))) (fun _ i => s.size - (intOf i).toNat)
  case atStart => exact ⟨0, 2166136261, Nat.zero_le _, rfl, rfl, Lib.hid rfl⟩
  case round =>
    obtain ⟨k, q, hk, rfl, rfl, hd⟩ := hrel
    have hq32 : q < 4294967296 := by rw [hd.out]; exact hs_lt _
    by_cases hlt : k < s.size
    · have Q := Lib.hid hq32
      have HN : Hid (hStep q s[k] = hs (s.data.toList.take (k + 1))) := Lib.hid (by rw [hd.out]; exact (hs_next (by simpa using hlt) rfl).symm)
      clear hq32 hd
      go_wp2
      go_round
      case rel => exact ⟨k + 1, hStep q s[k], by omega, by go_num, by rw [step64 Q.out], HN⟩
      case measure => simp [intOf]; omega
    · have HR : Hid (q = hs s.data.toList) := Lib.hid (by rw [hd.out, List.take_of_length_le (by simp; omega)])
      clear hd
      go_wp2
      go_ret
      refine ⟨ret_int ?_, rfl⟩
      rw [← HR.out]
set_option maxHeartbeats 1000000 in
theorem rgroup_any (s : ByteArray) (w : World) (hsz : s.size ≤ 4096) : Calls Try.prog 24 #[.string s] w fun e w' => e = .returned (.int .i64 (hs s.data.toList % 16 : Nat)) ∧ w = w' := by
  have h32 := hs_lt s.data.toList
  obtain ⟨q, hq⟩ : ∃ q, hs s.data.toList = q := ⟨_, rfl⟩
  rw [hq] at h32 ⊢
  go_enter Try.func24, Try.ntmps24
  go_wp2_with (go_at_call 45; refine (rhash_any s _ hsz).mono ?_; rw [hq]; rintro e w2 ⟨rfl, rfl⟩)
  go_ret
  exact ⟨ret_int (by omega), rfl⟩
def okC (n m : Int) : Bool := decide (1 ≤ n) && decide (n ≤ m)
set_option maxHeartbeats 400000 in
theorem sub_any (n : Int) (w : World) : Calls Try.prog 20 #[.int .i64 n] w fun e w' => e = .returned (.bool (okC n 8)) ∧ w = w' := by
  unfold okC
  go_enter Try.func20, Try.ntmps20
  go_wp2
  all_goals go_ret
  all_goals exact ⟨ret_bool (by rw [Bool.eq_iff_iff]; simp; try omega), rfl⟩
theorem sub_at {n : Int} {b : Bool} (h : okC n 8 = b) (w : World) : Calls Try.prog 20 #[.int .i64 n] w fun e w' => e = .returned (.bool b) ∧ w = w' := by
  subst h; exact sub_any n w
theorem mul_small {g n : Nat} (hg : g < 16) (hn : n ≤ 8) : g * n ≤ 120 := by
  have := Nat.mul_le_mul (show g ≤ 15 by omega) hn
  omega
set_option maxHeartbeats 400000 in
theorem rowner_at {g n : Nat} (hg : g < 16) (hn : n ≤ 8) (w : World) : Calls Try.prog 22 #[.int .i64 g, .int .i64 n] w fun e w' => e = .returned (.int .i64 (ow g n : Nat)) ∧ w = w' := by
  have := mul_small hg hn
  go_enter Try.func22, Try.ntmps22
  go_wp2
  go_ret
  exact ⟨ret_int (by unfold ow; omega), rfl⟩
/-- The group of a key; its owner. -/
def grp (k : Ky) : Nat := hs k % 16
theorem grp_lt (k : Ky) : grp k < 16 := Nat.mod_lt _ (by decide)
theorem rgrp_at {k : Ky} {g : Nat} (hg : grp k = g) (hk : k.length ≤ 4096) (w : World) : Calls Try.prog 24 #[kyV k] w fun e w' => e = .returned (.int .i64 (g : Nat)) ∧ w = w' := by
  subst hg
  have h := rgroup_any ⟨k.toArray⟩ w (by show k.toArray.size ≤ 4096; simpa using hk)
  simpa [grp] using h
theorem rown_at {g n o : Nat} (hg : g < 16) (hn : n ≤ 8) (ho : ow g n = o) (w : World) : Calls Try.prog 22 #[.int .i64 g, .int .i64 n] w fun e w' => e = .returned (.int .i64 (o : Nat)) ∧ w = w' := by
  subst ho
  exact rowner_at hg hn w
theorem ow_lt {g n : Nat} (hg : g < 16) (hn : 1 ≤ n) (hn8 : n ≤ 8) : ow g n < n := by
  unfold ow
  rw [Nat.div_lt_iff_lt_mul (by decide), Nat.mul_comm n 16]
  exact Nat.mul_lt_mul_of_pos_right hg (by omega)
/-- Each keeper owns a group. -/
theorem ow_some {j n : Nat} (hj : j < n) (hn8 : n ≤ 8) : ∃ g, g < 16 ∧ ow g n = j := by
  have h : ((List.range 9).all fun n => (List.range n).all fun j => (List.range 16).any fun g => ow g n == j) = true := by decide +kernel
  have h1 := List.all_eq_true.1 h n (List.mem_range.2 (by omega))
  have h2 := List.all_eq_true.1 h1 j (List.mem_range.2 hj)
  obtain ⟨g, h3, h4⟩ := List.any_eq_true.1 h2
  exact ⟨g, List.mem_range.1 h3, by simpa using h4⟩
end Go.Proofs.Ytlmnkmfpdjkijaa.Ke
