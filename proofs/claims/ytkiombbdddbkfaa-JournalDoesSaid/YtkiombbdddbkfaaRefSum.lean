/-
  What the document's own checksum answers: the checksum of the bytes; it only reads. Conditions: the bytes lie in memory.
-/
import Derived.Test.YtkiombbdddbkfaaSum
namespace Go.Proofs.Ytkiombbdddbkfaa.Pk
open Go.RowKit

theorem ref_test (p x j : Nat) : ((p : Int) % 2 != (x : Int) / 2 ^ j % 2) = decide (¬ p % 2 = x / 2 ^ j % 2) := by
  have e : (x : Int) / 2 ^ j % 2 = ((x / 2 ^ j % 2 : Nat) : Int) := by push_cast; rfl
  rw [e]
  by_cases h : p % 2 = x / 2 ^ j % 2
  · have h2 : (p : Int) % 2 = ((x / 2 ^ j % 2 : Nat) : Int) := by omega
    rw [h2]; simp [h]
  · have h2 : ¬ (p : Int) % 2 = ((x / 2 ^ j % 2 : Nat) : Int) := by omega
    rw [decide_eq_true h]
    simpa only [bne_iff_ne] using h2
theorem half_lt {p : Nat} (h : p < 2 ^ 32) : p / 2 < 2 ^ 32 := by omega
theorem half_val {p : Nat} (h : p < 2 ^ 32) : (p : Int) / 2 % 4294967296 = ((p / 2 : Nat) : Int) := by omega
theorem flip_lt {p : Nat} (h : p < 2 ^ 32) : (p / 2) ^^^ poly < 2 ^ 32 := Nat.xor_lt_two_pow (by omega) poly_lt
theorem flip_val {p : Nat} (h : p < 2 ^ 32) : bits .xor .u32 ((p : Int) / 2 % 4294967296) 3988292384 = (((p / 2) ^^^ poly : Nat) : Int) := by
  rw [half_val h]
  exact u32_xor_nat (p / 2) 3988292384 (by omega) (by decide)
theorem shift_next (x j : Nat) : x / 2 ^ j / 2 = x / 2 ^ (j + 1) := by rw [Nat.div_div_eq_div_mul, Nat.pow_succ]
theorem ref_no {p x j s : Nat} (h : p ^^^ (x / 2 ^ j) = crcIt j s) (e : p % 2 = x / 2 ^ j % 2) : (p / 2) ^^^ (x / 2 ^ (j + 1)) = crcIt (j + 1) s := by
  rw [crcIt_succ', ← h, crcStep_ref, if_neg (by omega), Nat.xor_zero, shift_next]
theorem ref_yes {p x j s : Nat} (h : p ^^^ (x / 2 ^ j) = crcIt j s) (e : ¬ p % 2 = x / 2 ^ j % 2) : ((p / 2) ^^^ poly) ^^^ (x / 2 ^ (j + 1)) = crcIt (j + 1) s := by
  rw [crcIt_succ', ← h, crcStep_ref, if_pos e, shift_next]

set_option maxRecDepth 20000 in
set_option maxHeartbeats 1000000 in
theorem refSum_any {A : Option Addr} {n c : Nat} {l : List UInt8} {w : World} {B : Nat} (hl : l.length = n) (hm : n ≤ maxLen) (h : Lies w B A l) :
    Calls Try.prog 56 #[.slice A n c] w fun e w' => e = .returned (.int .u32 (crc l)) ∧ w = w' := by
  unfold maxLen at hm
  have H := Lib.hid hl
  clear hl
  go_enter Try.func56, Try.ntmps56
  go_wp2
  go_loop [3, 4] (fun r i => ∃ k q : Nat, k ≤ n ∧ i = .int .i64 k ∧ r = .int .u32 q ∧ Hid (q = crcFrom 4294967295 (l.take k))) (fun _ i => n - (intOf i).toNat)
  case atStart => exact ⟨0, 4294967295, Nat.zero_le _, rfl, rfl, rfl⟩
  case round =>
    obtain ⟨k, q, hk, rfl, rfl, hd⟩ := hrel
    by_cases hlt : k < n
    · have hkl : k < l.length := by rw [H.out]; exact hlt
      obtain ⟨b, o, rfl, hb, hc⟩ := h.at_ hkl
      obtain ⟨x, hx⟩ : ∃ x, x = l[k] := ⟨_, rfl⟩
      rw [← hx] at hc
      have HX := Lib.hid hx
      clear hx h
      unfold bv at hc
      have hq32 : q < 2 ^ 32 := by rw [hd.out]; exact crc_from_lt _
      have Q := Lib.hid hq32
      clear hq32
      go_wp2
      go_loop [3, 5] (fun r i => ∃ j p : Nat, j ≤ 8 ∧ i = .int .i64 j ∧ r = .int .u32 p ∧ Hid (p ^^^ (x.toNat / 2 ^ j) = crcIt j (q ^^^ x.toNat)) ∧ Hid (p < 2 ^ 32)) (fun _ i => 8 - (intOf i).toNat)
      case atStart => exact ⟨0, q, by omega, rfl, rfl, show _ = _ by simp [crcIt], Q.out⟩
      case round =>
        obtain ⟨j, p, hj, rfl, rfl, hp, hp32⟩ := hrel
        by_cases hj8 : j < 8
        · by_cases hpar : p % 2 = x.toNat / 2 ^ j % 2
          · have t : ((p : Int) % 2 != (x.toNat : Int) / 2 ^ j % 2) = false := by rw [ref_test]; simp [hpar]
            have R := Lib.hid (ref_no hp.out hpar)
            clear hp hpar
            go_wp2
            go_round
            case rel => exact ⟨j + 1, _, by omega, by go_num, by rw [half_val hp32.out], R.out, half_lt hp32.out⟩
            case measure => simp [intOf]; omega
          · have t : ((p : Int) % 2 != (x.toNat : Int) / 2 ^ j % 2) = true := by rw [ref_test]; simp [hpar]
            have R := Lib.hid (ref_yes hp.out hpar)
            clear hp hpar
            go_wp2
            go_round
            case rel => exact ⟨j + 1, _, by omega, by go_num, by rw [flip_val hp32.out], R.out, flip_lt hp32.out⟩
            case measure => simp [intOf]; omega
        · have ej : j = 8 := by omega
          have R : Hid (p = crcFrom 4294967295 (l.take (k + 1))) := by
            show _ = _
            rw [take_next hkl HX.out, crcFrom_snoc, ← hd.out]
            have hx : x.toNat / 2 ^ 8 = 0 := Nat.div_eq_of_lt x.toNat_lt
            have := hp.out
            rw [ej, hx, Nat.xor_zero] at this
            exact this
          clear ej hp
          go_wp2
          go_round
          case rel => exact ⟨k + 1, p, by omega, by go_num, rfl, R⟩
          case measure => simp [intOf]; omega
    · have R : crc l = 4294967295 ^^^ q := by
        unfold crc
        rw [hd.out, List.take_of_length_le (by rw [H.out]; omega)]
      have R' := Lib.hid R
      have hq32 : q < 2 ^ 32 := by rw [hd.out]; exact crc_from_lt _
      have Q := Lib.hid hq32
      clear hq32 R h
      go_wp2
      go_ret
      exact ⟨ret_int (by rw [R'.out]; exact end_val Q.out), rfl⟩

end Go.Proofs.Ytkiombbdddbkfaa.Pk
