/-
  What pack's checksum answers: the checksum of the bytes; it only reads. Conditions: the bytes lie in memory.
-/
import Derived.Test.YtkiombbdddbkfaaRows
import Derived.Test.YtkiombbdddbkfaaMem
import Derived.WalkLawsBesides
import Derived.Deep.QuietTactic
import Derived.BigQuiet
import Derived.Test.YtkiombbdddbkfaaCrc
namespace Go.Proofs.Ytkiombbdddbkfaa.Pk
open Go.RowKit

theorem ret_int {k : IntKind} {a b : Int} (h : a = b) : Ending.returned (.int k a) = .returned (.int k b) := by rw [h]

theorem step_val {p : Nat} (h : p < 2 ^ 32) : bits .xor .u32 ((p : Int) / 2) (bits .and .u32 3988292384 (-bits .and .u32 (p : Int) 1 % 4294967296)) = ((crcStep p : Nat) : Int) := by
  have h32 : p < 4294967296 := h
  have e1 : bits .and .u32 (p : Int) 1 = ((p % 2 : Nat) : Int) := by
    have := u32_and_nat p 1 h32 (by decide)
    rw [show ((1 : Nat) : Int) = 1 from rfl] at this
    rw [this, Nat.and_one_is_mod]
  have e2 : (p : Int) / 2 = ((p / 2 : Nat) : Int) := by omega
  rw [e1, e2]
  unfold crcStep
  rcases Nat.mod_two_eq_zero_or_one p with hp | hp
  · rw [hp, if_neg (by omega)]
    have e3 : (-((0 : Nat) : Int)) % 4294967296 = ((0 : Nat) : Int) := by decide
    have e4 : bits .and .u32 3988292384 ((0 : Nat) : Int) = ((0 : Nat) : Int) := by
      have := u32_and_nat 3988292384 0 (by decide) (by decide)
      exact this.trans (by rw [Nat.and_zero])
    rw [e3, e4, u32_xor_nat _ _ (by omega) (by omega)]
  · rw [hp, if_pos rfl]
    have e3 : (-((1 : Nat) : Int)) % 4294967296 = ((4294967295 : Nat) : Int) := by decide
    have e4 : bits .and .u32 3988292384 ((4294967295 : Nat) : Int) = ((poly : Nat) : Int) := by
      have := u32_and_nat 3988292384 4294967295 (by decide) (by decide)
      exact this.trans (by rfl)
    rw [e3, e4, u32_xor_nat _ _ (by omega) (by decide)]
theorem start_val {q : Nat} {x : UInt8} (h : q < 2 ^ 32) : bits .xor .u32 (q : Int) ((x.toNat : Int) % 4294967296) = ((q ^^^ x.toNat : Nat) : Int) := by
  have hx : x.toNat < 256 := x.toNat_lt
  have e : (x.toNat : Int) % 4294967296 = (x.toNat : Int) := by omega
  rw [e, u32_xor_nat _ _ h (by omega)]
theorem end_val {q : Nat} (h : q < 2 ^ 32) : bits .xor .u32 IntKind.u32.max (q : Int) = ((4294967295 ^^^ q : Nat) : Int) := by
  have e : IntKind.u32.max = ((4294967295 : Nat) : Int) := by decide
  rw [e, u32_xor_nat _ _ (by decide) h]
theorem crc_from_lt (l : List UInt8) : crcFrom 4294967295 l < 2 ^ 32 := crcFrom_lt l (by decide)
theorem take_next {l : List UInt8} {k : Nat} (h : k < l.length) {x : UInt8} (hx : x = l[k]) : l.take (k + 1) = l.take k ++ [x] := by
  rw [List.take_succ_eq_append_getElem h, hx]

set_option maxRecDepth 20000 in
set_option maxHeartbeats 400000 in
theorem sum_any {A : Option Addr} {n c : Nat} {l : List UInt8} {w : World} {B : Nat} (hl : l.length = n) (hm : n ≤ maxLen) (h : Lies w B A l) :
    Calls Try.prog 59 #[.slice A n c] w fun e w' => e = .returned (.int .u32 (crc l)) ∧ w = w' := by
  unfold maxLen at hm
  have H := Lib.hid hl
  clear hl
  go_enter Try.func59, Try.ntmps59
  go_wp2
  go_loop [3, 8] (fun r i => ∃ k q : Nat, k ≤ n ∧ i = .int .i64 k ∧ r = .int .u32 q ∧ Hid (q = crcFrom 4294967295 (l.take k))) (fun _ i => n - (intOf i).toNat)
  case atStart => exact ⟨0, 4294967295, Nat.zero_le _, rfl, rfl, rfl⟩
  case round =>
    obtain ⟨k, q, hk, rfl, rfl, hd⟩ := hrel
    by_cases hlt : k < n
    · have hkl : k < l.length := by rw [H.out]; exact hlt
      obtain ⟨b, o, rfl, hb, hc⟩ := h.at_ hkl
      obtain ⟨x, hx⟩ : ∃ x, x = l[k] := ⟨_, rfl⟩
      rw [← hx] at hc
      have HX := Lib.hid hx
      clear hx h
      unfold bv at hc
      have hq32 : q < 2 ^ 32 := by rw [hd.out]; exact crc_from_lt _
      have Q := Lib.hid hq32
      clear hq32
      go_wp2
      go_loop [3, 16] (fun r i => ∃ j p : Nat, j ≤ 8 ∧ i = .int .i64 j ∧ r = .int .u32 p ∧ Hid (p = crcIt j (q ^^^ x.toNat))) (fun _ i => 8 - (intOf i).toNat)
      case atStart => exact ⟨0, q ^^^ x.toNat, by omega, rfl, by rw [start_val Q.out], rfl⟩
      case round =>
        obtain ⟨j, p, hj, rfl, rfl, hp⟩ := hrel
        by_cases hj8 : j < 8
        · have hp32 : p < 2 ^ 32 := by rw [hp.out]; exact crcIt_lt j (Nat.xor_lt_two_pow Q.out (byte_lt x))
          have P := Lib.hid hp32
          clear hp32
          go_wp2
          go_round
          case rel => exact ⟨j + 1, _, by omega, by go_num, by rw [step_val P.out], show _ = _ by rw [crcIt_succ', hp.out]⟩
          case measure => simp [intOf]; omega
        · have ej : j = 8 := by omega
          have R : Hid (p = crcFrom 4294967295 (l.take (k + 1))) := by
            show _ = _
            rw [take_next hkl HX.out, crcFrom_snoc, ← hd.out, hp.out, ej]
            rfl
          clear ej
          go_wp2
          go_round
          case rel => exact ⟨k + 1, p, by omega, by go_num, rfl, R⟩
          case measure => simp [intOf]; omega
    · have R : crc l = 4294967295 ^^^ q := by
        unfold crc
        rw [hd.out, List.take_of_length_le (by rw [H.out]; omega)]
      have R' := Lib.hid R
      have hq32 : q < 2 ^ 32 := by rw [hd.out]; exact crc_from_lt _
      have Q := Lib.hid hq32
      clear hq32 R h
      go_wp2
      go_ret
      exact ⟨ret_int (by rw [R'.out]; exact end_val Q.out), rfl⟩

end Go.Proofs.Ytkiombbdddbkfaa.Pk
