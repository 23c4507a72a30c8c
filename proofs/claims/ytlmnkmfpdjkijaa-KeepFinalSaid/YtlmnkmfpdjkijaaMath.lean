/-
  The plain mathematics of pack's encodings and of its checksum: numbers and lists of bytes alone, nothing of the program. Conditions: none but those that each theorem names.
-/
namespace Go.Proofs.Ytlmnkmfpdjkijaa.Pk

/-- The encoding of a folded number. -/
def enc (z : Nat) : List UInt8 := if h : z < 128 then [UInt8.ofNat z] else UInt8.ofNat (z % 128 + 128) :: enc (z / 128)
termination_by z
decreasing_by omega

theorem enc_lo {z : Nat} (h : z < 128) : enc z = [UInt8.ofNat z] := by rw [enc, dif_pos h]
theorem enc_hi {z : Nat} (h : ¬ z < 128) : enc z = UInt8.ofNat (z % 128 + 128) :: enc (z / 128) := by rw [enc, dif_neg h]

/-- The folded number of an integer. -/
def fold (x : Int) : Nat := if x < 0 then (-2 * x - 1).toNat else (2 * x).toNat
/-- The integer of a folded number. -/
def unfold (z : Nat) : Int := if z % 2 = 1 then -((z / 2 : Nat) : Int) - 1 else ((z / 2 : Nat) : Int)

theorem unfold_fold (x : Int) : unfold (fold x) = x := by
  unfold Pk.unfold fold
  split <;> split <;> omega
theorem fold_unfold (z : Nat) : fold (unfold z) = z := by
  unfold Pk.unfold fold
  split <;> split <;> omega
theorem fold_lt {x : Int} (h1 : -9223372036854775808 ≤ x) (h2 : x ≤ 9223372036854775807) : fold x < 18446744073709551616 := by
  unfold fold
  split <;> omega
theorem unfold_range {z : Nat} (h : z < 18446744073709551616) : -9223372036854775808 ≤ unfold z ∧ unfold z ≤ 9223372036854775807 := by
  unfold Pk.unfold
  split <;> omega

theorem enc_len_pos (z : Nat) : 0 < (enc z).length := by
  rw [enc]
  split <;> simp
theorem enc_len_le (k z : Nat) (h : z < 128 ^ (k + 1)) : (enc z).length ≤ k + 1 := by
  induction k generalizing z with
  | zero => rw [enc_lo (by simpa using h)]; simp
  | succ k ih =>
    by_cases hz : z < 128
    · rw [enc_lo hz]; simp
    · rw [enc_hi hz]
      have := ih (z / 128) (by rw [Nat.pow_succ] at h; exact Nat.div_lt_of_lt_mul (by omega))
      simp only [List.length_cons]; omega
theorem enc_len_ten {z : Nat} (h : z < 18446744073709551616) : (enc z).length ≤ 10 := by
  have e : (128 : Nat) ^ (9 + 1) = 1180591620717411303424 := by decide
  exact enc_len_le 9 z (by rw [e]; omega)

/-- Decoding from place i, with the value z of what stands ahead. -/
def decFrom (i z : Nat) : List UInt8 → Option (Nat × Nat)
  | [] => none
  | x :: r =>
    if i = 9 ∧ x.toNat ≠ 1 then none
    else if 128 ≤ x.toNat then decFrom (i + 1) (z + x.toNat % 128 * 128 ^ i) r
    else if x.toNat = 0 ∧ 0 < i then none
    else some (z + x.toNat % 128 * 128 ^ i, i + 1)
def dec (l : List UInt8) : Option (Nat × Nat) := decFrom 0 0 l

theorem toNat_ofNat {n : Nat} (h : n < 256) : (UInt8.ofNat n).toNat = n := by
  simp; omega

/-- Decoding what was encoded, at place i. -/
theorem decFrom_enc (k : Nat) : ∀ (i a z : Nat) (r : List UInt8), i + k = 9 → (0 < i → 0 < z) → z < 2 * 128 ^ k →
    decFrom i a (enc z ++ r) = some (a + z * 128 ^ i, i + (enc z).length) := by
  induction k with
  | zero =>
    intro i a z r hi hz hlt
    have : z = 1 := by
      have := hz (by omega)
      simp at hlt; omega
    subst this
    rw [enc_lo (by omega)]
    have h1 : (UInt8.ofNat 1).toNat = 1 := by decide
    simp only [List.cons_append, List.nil_append, decFrom, h1]
    simp
  | succ k ih =>
    intro i a z r hi hz hlt
    by_cases hs : z < 128
    · rw [enc_lo hs]
      have h1 : (UInt8.ofNat z).toNat = z := toNat_ofNat (by omega)
      simp only [List.cons_append, List.nil_append, decFrom, h1]
      rw [if_neg (by omega), if_neg (by omega), if_neg (by omega), Nat.mod_eq_of_lt hs]
      simp
    · rw [enc_hi hs]
      have h1 : (UInt8.ofNat (z % 128 + 128)).toNat = z % 128 + 128 := toNat_ofNat (by omega)
      simp only [List.cons_append, decFrom, h1]
      rw [if_neg (by omega), if_pos (by omega), ih (i + 1) _ (z / 128) r (by omega) (by omega) (by rw [Nat.pow_succ] at hlt; omega)]
      simp only [Option.some.injEq, Prod.mk.injEq, List.length_cons]
      refine ⟨?_, by omega⟩
      have e1 : (z % 128 + 128) % 128 = z % 128 := by omega
      rw [e1, Nat.pow_succ]
      have e2 : z / 128 * (128 ^ i * 128) = (z / 128 * 128) * 128 ^ i := by rw [Nat.mul_comm (128 ^ i) 128, ← Nat.mul_assoc]
      rw [e2, Nat.add_assoc, ← Nat.add_mul]
      congr 2; omega

theorem dec_enc {z : Nat} (h : z < 18446744073709551616) (r : List UInt8) : dec (enc z ++ r) = some (z, (enc z).length) := by
  have e9 : (128 : Nat) ^ 9 = 9223372036854775808 := by decide
  have := decFrom_enc 9 0 0 z r (by omega) (by omega) (by rw [e9]; omega)
  unfold dec
  rw [this]; simp

/-- What is decoded without a fault is what is encoded for it. -/
theorem decFrom_some (l : List UInt8) : ∀ (i a z n : Nat), i ≤ 9 → decFrom i a l = some (z, n) →
    ∃ y, z = a + y * 128 ^ i ∧ (0 < i → 0 < y) ∧ y < 2 * 128 ^ (9 - i) ∧ n = i + (enc y).length ∧ ∃ r, l = enc y ++ r := by
  induction l with
  | nil => intro i a z n _ h; simp [decFrom] at h
  | cons x r ih =>
    intro i a z n hi h
    simp only [decFrom] at h
    have hx : x.toNat < 256 := x.toNat_lt
    split at h
    · cases h
    · rename_i h9
      split at h
      · rename_i hge
        have hi9 : i ≠ 9 := fun e => h9 ⟨e, by omega⟩
        obtain ⟨y, hz, hy0, hy1, hn, r', hr⟩ := ih (i + 1) _ z n (by omega) h
        have hyp := hy0 (by omega)
        refine ⟨x.toNat % 128 + 128 * y, ?_, fun _ => by omega, ?_, ?_, r', ?_⟩
        · rw [hz, Nat.pow_succ, Nat.add_mul, Nat.add_assoc]
          congr 2
          rw [Nat.mul_comm (128 ^ i) 128, ← Nat.mul_assoc, Nat.mul_comm y 128]
        · have e : 9 - i = (9 - (i + 1)) + 1 := by omega
          rw [e, Nat.pow_succ]
          generalize 128 ^ (9 - (i + 1)) = q at hy1 ⊢
          omega
        · have e : (x.toNat % 128 + 128 * y) / 128 = y := by omega
          rw [hn, enc_hi (z := x.toNat % 128 + 128 * y) (by omega)]
          rw [e]; simp only [List.length_cons]; omega
        · rw [enc_hi (by omega)]
          have e : (x.toNat % 128 + 128 * y) / 128 = y := by omega
          have e2 : (x.toNat % 128 + 128 * y) % 128 + 128 = x.toNat := by omega
          rw [e, e2, hr]; simp
      · rename_i hlt
        split at h
        · cases h
        · rename_i h0
          simp only [Option.some.injEq, Prod.mk.injEq] at h
          obtain ⟨rfl, rfl⟩ := h
          have hm : x.toNat % 128 = x.toNat := Nat.mod_eq_of_lt (by omega)
          refine ⟨x.toNat, by rw [hm], fun _ => by omega, ?_, ?_, r, ?_⟩
          · by_cases e : i = 9
            · subst e
              have : x.toNat = 1 := by
                by_cases e : x.toNat = 1
                · exact e
                · exact absurd ⟨rfl, e⟩ h9
              simp; omega
            · have e : 9 - i = (8 - i) + 1 := by omega
              have : 0 < 128 ^ (8 - i) := Nat.pow_pos (by omega)
              rw [e, Nat.pow_succ]; omega
          · rw [enc_lo (by omega)]; simp
          · rw [enc_lo (by omega)]; simp

theorem dec_some {l : List UInt8} {z n : Nat} (h : dec l = some (z, n)) :
    z < 18446744073709551616 ∧ n = (enc z).length ∧ ∃ r, l = enc z ++ r := by
  obtain ⟨y, hz, _, hy, hn, r, hr⟩ := decFrom_some l 0 0 z n (by omega) h
  have e : z = y := by rw [hz]; simp
  subst e
  have : (128 : Nat) ^ (9 - 0) = 9223372036854775808 := by decide
  exact ⟨by omega, by simpa using hn, r, hr⟩

/-- No encoding begins another. -/
theorem enc_apart {y z : Nat} (hy : y < 18446744073709551616) (hz : z < 18446744073709551616) {r s : List UInt8} (h : enc y ++ r = enc z ++ s) : y = z := by
  have a := dec_enc hy r
  have b := dec_enc hz s
  rw [h, b] at a
  simp at a
  exact a.1.symm

theorem enc_apart_take {x y : Int} (hx1 : -9223372036854775808 ≤ x) (hx2 : x ≤ 9223372036854775807) (hy1 : -9223372036854775808 ≤ y) (hy2 : y ≤ 9223372036854775807) {n : Nat}
    (hn : n = min (enc (fold x)).length (enc (fold y)).length) (h : (enc (fold x)).take n = (enc (fold y)).take n) : x = y := by
  have key : fold x = fold y := by
    rcases Nat.le_total (enc (fold x)).length (enc (fold y)).length with hle | hle
    · have e : n = (enc (fold x)).length := by omega
      rw [e, List.take_length] at h
      have : enc (fold x) ++ (enc (fold y)).drop (enc (fold x)).length = enc (fold y) ++ [] := by
        conv => lhs; lhs; rw [h]
        simp
      exact enc_apart (fold_lt hx1 hx2) (fold_lt hy1 hy2) this
    · have e : n = (enc (fold y)).length := by omega
      rw [e, List.take_length] at h
      have : enc (fold x) ++ [] = enc (fold y) ++ (enc (fold x)).drop (enc (fold y)).length := by
        conv => rhs; lhs; rw [← h]
        simp
      exact enc_apart (fold_lt hx1 hx2) (fold_lt hy1 hy2) this
  have := congrArg unfold key
  rwa [unfold_fold, unfold_fold] at this

end Go.Proofs.Ytlmnkmfpdjkijaa.Pk
