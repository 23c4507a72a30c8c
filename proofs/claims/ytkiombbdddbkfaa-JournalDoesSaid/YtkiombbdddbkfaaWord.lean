/-
  Words of four bytes: wordAt reads one, putWord writes one. Conditions: four bytes lie there.
-/
import Derived.Test.YtkiombbdddbkfaaJMath
import Derived.Test.YtkiombbdddbkfaaSum
namespace Go.Proofs.Ytkiombbdddbkfaa.Jn
open Go.RowKit Go.Proofs.Ytkiombbdddbkfaa.Pk Go.Proofs.Ytkiombbdddbkfaa.Dk

theorem or_step (k : Nat) {x y : Nat} (hk : k ≤ 24) (hx : x < 2 ^ k) (hy : y < 256) : bits .or .u32 (x : Int) ((y : Int) % 4294967296 * ((2 ^ k : Nat) : Int) % 4294967296) = ((x + 2 ^ k * y : Nat) : Int) := by
  have h2 : 2 ^ k ≤ 16777216 := Nat.pow_le_pow_right (by decide) hk
  have h3 : 2 ^ k * y ≤ 16777216 * 255 := Nat.mul_le_mul h2 (by omega)
  have e : (y : Int) % 4294967296 * ((2 ^ k : Nat) : Int) % 4294967296 = ((2 ^ k * y : Nat) : Int) := by
    rw [show (y : Int) % 4294967296 = (y : Int) by omega, ← Int.natCast_mul, Nat.mul_comm y]
    generalize 2 ^ k * y = z at h3
    omega
  rw [e, u32_or_nat _ _ (by omega) (by omega), Nat.or_comm, ← Nat.two_pow_add_eq_or_of_lt hx, Nat.add_comm]
theorem word_val (b0 b1 b2 b3 : UInt8) (r : Bs) : bits .or .u32 (bits .or .u32 (bits .or .u32 (bits .or .u32 0 ((b0.toNat : Int) % 4294967296)) ((b1.toNat : Int) % 4294967296 * 256 % 4294967296)) ((b2.toNat : Int) % 4294967296 * 65536 % 4294967296)) ((b3.toNat : Int) % 4294967296 * 16777216 % 4294967296) = ((word (b0 :: b1 :: b2 :: b3 :: r) : Nat) : Int) := by
  have h0 : b0.toNat < 256 := b0.toNat_lt
  have h1 : b1.toNat < 256 := b1.toNat_lt
  have h2 : b2.toNat < 256 := b2.toNat_lt
  have h3 : b3.toNat < 256 := b3.toNat_lt
  have e0 : bits .or .u32 0 ((b0.toNat : Int) % 4294967296) = ((0 + 2 ^ 0 * b0.toNat : Nat) : Int) := by
    have := or_step 0 (x := 0) (y := b0.toNat) (by decide) (by decide) h0
    rw [← this]; simp
  have e1 := or_step 8 (x := 0 + 2 ^ 0 * b0.toNat) (y := b1.toNat) (by decide) (by omega) h1
  have e2 := or_step 16 (x := 0 + 2 ^ 0 * b0.toNat + 2 ^ 8 * b1.toNat) (y := b2.toNat) (by decide) (by omega) h2
  have e3 := or_step 24 (x := 0 + 2 ^ 0 * b0.toNat + 2 ^ 8 * b1.toNat + 2 ^ 16 * b2.toNat) (y := b3.toNat) (by decide) (by omega) h3
  rw [e0]
  refine (congrArg (fun z => bits .or .u32 (bits .or .u32 z _) _) e1).trans ?_
  refine (congrArg (fun z => bits .or .u32 z _) e2).trans ?_
  refine e3.trans ?_
  show _ = ((leVal [b0, b1, b2, b3] : Nat) : Int)
  congr 1
  simp only [leVal]
  omega

set_option maxRecDepth 20000 in
set_option maxHeartbeats 1000000 in
theorem wordAt_any {A : Option Addr} {n c : Nat} {l : Bs} {w : World} {B : Nat} (hl : l.length = n) (h4 : 4 ≤ n) (hm : n ≤ maxLen) (h : Lies w B A l) :
    Calls Try.prog 58 #[.slice A n c] w fun e w' => e = .returned (.int .u32 (word l)) ∧ w = w' := by
  unfold maxLen at hm
  obtain ⟨b0, b1, b2, b3, r, rfl⟩ : ∃ b0 b1 b2 b3 r, l = b0 :: b1 :: b2 :: b3 :: r := by
    match l, hl, h4 with
    | b0 :: b1 :: b2 :: b3 :: r, _, _ => exact ⟨b0, b1, b2, b3, r, rfl⟩
    | [], hl, h4 => simp at hl; omega
    | [_], hl, h4 => simp at hl; omega
    | [_, _], hl, h4 => simp at hl; omega
    | [_, _, _], hl, h4 => simp at hl; omega
  obtain ⟨b, o, rfl, -, c0⟩ := h 0 b0 rfl
  obtain ⟨_, _, e1, -, c1⟩ := h 1 b1 rfl
  obtain ⟨_, _, e2, -, c2⟩ := h 2 b2 rfl
  obtain ⟨_, _, e3, -, c3⟩ := h 3 b3 rfl
  simp only [Option.some.injEq, Addr.mk.injEq, and_true] at e1 e2 e3
  obtain ⟨rfl, rfl⟩ := e1
  obtain ⟨rfl, rfl⟩ := e2
  obtain ⟨rfl, rfl⟩ := e3
  unfold bv at c0 c1 c2 c3
  rw [Nat.add_zero] at c0
  have i0 : (0 : Int) < (n : Int) := by omega
  have i1 : (1 : Int) < (n : Int) := by omega
  have i2 : (2 : Int) < (n : Int) := by omega
  have i3 : (3 : Int) < (n : Int) := by omega
  clear h hl
  go_enter Try.func58, Try.ntmps58
  go_wp2
  refine wp_loop_rounds 5 ?_
  rw [rounds_succ]
  go_wp2
  rw [rounds_succ]
  go_wp2
  rw [rounds_succ]
  go_wp2
  rw [rounds_succ]
  go_wp2
  rw [rounds_succ]
  go_wp2
  go_ret
  exact ⟨ret_int (word_val b0 b1 b2 b3 r), rfl⟩
end Go.Proofs.Ytkiombbdddbkfaa.Jn
