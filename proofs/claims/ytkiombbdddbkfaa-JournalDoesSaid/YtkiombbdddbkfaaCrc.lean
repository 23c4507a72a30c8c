/-
  The plain mathematics of pack's checksum: a register that is shifted bit by bit, told on natural numbers; that two byte lists which differ within four neighbours alone have different checksums. Conditions: none but those that each theorem names.
-/
namespace Go.Proofs.Ytkiombbdddbkfaa.Pk

def poly : Nat := 3988292384
/-- One shift of the register. -/
def crcStep (r : Nat) : Nat := (r / 2) ^^^ (if r % 2 = 1 then poly else 0)
/-- So many shifts. -/
def crcIt : Nat → Nat → Nat
  | 0, r => r
  | n + 1, r => crcIt n (crcStep r)
def crcByte (r : Nat) (x : UInt8) : Nat := crcIt 8 (r ^^^ x.toNat)
def crcFrom (r : Nat) (l : List UInt8) : Nat := l.foldl crcByte r
/-- The checksum. -/
def crc (l : List UInt8) : Nat := 4294967295 ^^^ crcFrom 4294967295 l

theorem poly_lt : poly < 2 ^ 32 := by decide
theorem crcStep_lt {r : Nat} (h : r < 2 ^ 32) : crcStep r < 2 ^ 32 := by
  unfold crcStep
  refine Nat.xor_lt_two_pow (by omega) ?_
  split
  · exact poly_lt
  · decide
theorem crcIt_lt (n : Nat) : ∀ {r : Nat}, r < 2 ^ 32 → crcIt n r < 2 ^ 32 := by
  induction n with
  | zero => intro r h; exact h
  | succ n ih => intro r h; exact ih (crcStep_lt h)
theorem byte_lt (x : UInt8) : x.toNat < 2 ^ 32 := Nat.lt_trans x.toNat_lt (by decide)
theorem crcByte_lt {r : Nat} (x : UInt8) (h : r < 2 ^ 32) : crcByte r x < 2 ^ 32 := crcIt_lt 8 (Nat.xor_lt_two_pow h (byte_lt x))
theorem crcFrom_lt (l : List UInt8) : ∀ {r : Nat}, r < 2 ^ 32 → crcFrom r l < 2 ^ 32 := by
  induction l with
  | nil => intro r h; exact h
  | cons x l ih => intro r h; exact ih (crcByte_lt x h)
theorem crcFrom_snoc (r : Nat) (l : List UInt8) (x : UInt8) : crcFrom r (l ++ [x]) = crcByte (crcFrom r l) x := by
  unfold crcFrom; rw [List.foldl_append]; rfl
theorem crcFrom_append (r : Nat) (l m : List UInt8) : crcFrom r (l ++ m) = crcFrom (crcFrom r l) m := by
  unfold crcFrom; rw [List.foldl_append]
theorem crcIt_succ' (n : Nat) : ∀ r, crcIt (n + 1) r = crcStep (crcIt n r) := by
  induction n with
  | zero => intro r; rfl
  | succ n ih => intro r; exact ih (crcStep r)
theorem crcIt_add (m n : Nat) : ∀ r, crcIt (m + n) r = crcIt n (crcIt m r) := by
  induction m with
  | zero => intro r; simp [crcIt]
  | succ m ih =>
    intro r
    have e : m + 1 + n = (m + n) + 1 := by omega
    rw [e]
    exact ih (crcStep r)

theorem xor_mod_two (a b : Nat) : (a ^^^ b) % 2 = (a % 2 + b % 2) % 2 := by
  have h1 : (a ^^^ b) % 2 = (a % 2) ^^^ (b % 2) := Nat.xor_mod_two_pow (n := 1)
  rw [h1]
  rcases Nat.mod_two_eq_zero_or_one a with ha | ha <;> rcases Nat.mod_two_eq_zero_or_one b with hb | hb <;> rw [ha, hb] <;> decide

theorem crcStep_xor (a b : Nat) : crcStep (a ^^^ b) = crcStep a ^^^ crcStep b := by
  unfold crcStep
  have e : (a ^^^ b) / 2 = (a / 2) ^^^ (b / 2) := Nat.xor_div_two
  have m := xor_mod_two a b
  rw [e]
  by_cases ha : a % 2 = 1 <;> by_cases hb : b % 2 = 1
  · rw [if_neg (by omega), if_pos ha, if_pos hb]
    rw [Nat.xor_zero]
    calc _ = (a / 2) ^^^ (b / 2) ^^^ (poly ^^^ poly) := by simp
      _ = _ := by ac_rfl
  · rw [if_pos (by omega), if_pos ha, if_neg hb]
    simp only [Nat.xor_zero]; ac_rfl
  · rw [if_pos (by omega), if_neg ha, if_pos hb]
    simp only [Nat.xor_zero]; ac_rfl
  · rw [if_neg (by omega), if_neg ha, if_neg hb]
    simp only [Nat.xor_zero]
theorem crcIt_xor (n : Nat) : ∀ a b, crcIt n (a ^^^ b) = crcIt n a ^^^ crcIt n b := by
  induction n with
  | zero => intro a b; rfl
  | succ n ih => intro a b; show crcIt n (crcStep (a ^^^ b)) = _; rw [crcStep_xor]; exact ih _ _
theorem crcStep_two (y : Nat) : crcStep (2 * y) = y := by
  unfold crcStep
  rw [if_neg (by omega)]
  simp
theorem crcIt_pow (n : Nat) : ∀ y, crcIt n (2 ^ n * y) = y := by
  induction n with
  | zero => intro y; simp [crcIt]
  | succ n ih =>
    intro y
    have e : 2 ^ (n + 1) * y = 2 * (2 ^ n * y) := by rw [Nat.pow_succ, Nat.mul_comm (2 ^ n) 2, Nat.mul_assoc]
    show crcIt n (crcStep (2 ^ (n + 1) * y)) = y
    rw [e, crcStep_two]; exact ih y

/-- The shift loses nothing. -/
theorem crcStep_zero {a : Nat} (h : a < 2 ^ 32) (e : crcStep a = 0) : a = 0 := by
  unfold crcStep at e
  by_cases ha : a % 2 = 1
  · rw [if_pos ha] at e
    have : a / 2 = poly := by
      have := congrArg (· ^^^ poly) e
      simp only [Nat.xor_assoc, Nat.xor_self, Nat.xor_zero, Nat.zero_xor] at this
      exact this
    have : poly = 3988292384 := rfl
    omega
  · rw [if_neg ha, Nat.xor_zero] at e
    omega
theorem crcIt_zero (n : Nat) : ∀ {a : Nat}, a < 2 ^ 32 → crcIt n a = 0 → a = 0 := by
  induction n with
  | zero => intro a _ e; exact e
  | succ n ih => intro a h e; exact crcStep_zero h (ih (crcStep_lt h) e)
theorem xor_eq_zero {a b : Nat} (h : a ^^^ b = 0) : a = b := by
  have := congrArg (· ^^^ b) h
  simpa only [Nat.xor_assoc, Nat.xor_self, Nat.xor_zero, Nat.zero_xor] using this
theorem crcIt_inj (n : Nat) {a b : Nat} (ha : a < 2 ^ 32) (hb : b < 2 ^ 32) (h : crcIt n a = crcIt n b) : a = b := by
  have : crcIt n (a ^^^ b) = 0 := by rw [crcIt_xor, h, Nat.xor_self]
  exact xor_eq_zero (crcIt_zero n (Nat.xor_lt_two_pow ha hb) this)
theorem xor_left_cancel {a b c : Nat} (h : a ^^^ b = a ^^^ c) : b = c := by
  have := congrArg (a ^^^ ·) h
  simpa only [← Nat.xor_assoc, Nat.xor_self, Nat.zero_xor] using this
theorem xor_right_cancel {a b c : Nat} (h : b ^^^ a = c ^^^ a) : b = c := by
  have := congrArg (· ^^^ a) h
  simpa only [Nat.xor_assoc, Nat.xor_self, Nat.xor_zero] using this
theorem crcFrom_inj (l : List UInt8) : ∀ {r s : Nat}, r < 2 ^ 32 → s < 2 ^ 32 → crcFrom r l = crcFrom s l → r = s := by
  induction l with
  | nil => intro r s _ _ h; exact h
  | cons x l ih =>
    intro r s hr hs h
    have h1 := ih (crcByte_lt x hr) (crcByte_lt x hs) h
    exact xor_right_cancel (crcIt_inj 8 (Nat.xor_lt_two_pow hr (byte_lt x)) (Nat.xor_lt_two_pow hs (byte_lt x)) h1)

/-- Bytes as one number, the least first. -/
def leVal : List UInt8 → Nat
  | [] => 0
  | x :: r => x.toNat + 256 * leVal r
theorem leVal_lt (l : List UInt8) : leVal l < 256 ^ l.length := by
  induction l with
  | nil => simp [leVal]
  | cons x r ih =>
    have hx : x.toNat < 256 := x.toNat_lt
    simp only [leVal, List.length_cons, Nat.pow_succ]
    omega
theorem leVal_inj : ∀ (l m : List UInt8), l.length = m.length → leVal l = leVal m → l = m
  | [], [], _, _ => rfl
  | [], _ :: _, h, _ => by simp at h
  | _ :: _, [], h, _ => by simp at h
  | x :: l, y :: m, h, e => by
    simp only [leVal] at e
    have hx : x.toNat < 256 := x.toNat_lt
    have hy : y.toNat < 256 := y.toNat_lt
    have h1 : x = y := UInt8.toNat_inj.mp (by omega)
    have h2 := leVal_inj l m (by simpa using h) (by omega)
    rw [h1, h2]
theorem add_is_xor {x y : Nat} (hx : x < 256) : x + 256 * y = x ^^^ (256 * y) := by
  apply Nat.eq_of_testBit_eq
  intro i
  have e : x + 256 * y = 2 ^ 8 * y + x := by omega
  rw [e, Nat.testBit_xor, Nat.testBit_two_pow_mul_add y (i := 8) (b := x) (by omega)]
  have e2 : 256 * y = 2 ^ 8 * y := by omega
  rw [e2, Nat.testBit_two_pow_mul]
  by_cases hi : i < 8
  · rw [if_pos hi, decide_eq_false (by omega : ¬ 8 ≤ i)]; simp
  · rw [if_neg hi]
    have : x.testBit i = false := Nat.testBit_lt_two_pow (Nat.lt_of_lt_of_le hx (show 2 ^ 8 ≤ 2 ^ i from Nat.pow_le_pow_right (by omega) (by omega)))
    rw [this, decide_eq_true (by omega : 8 ≤ i)]; simp
theorem crcFrom_word (l : List UInt8) : ∀ r, crcFrom r l = crcIt (8 * l.length) (r ^^^ leVal l) := by
  induction l with
  | nil => intro r; simp [crcFrom, leVal, crcIt]
  | cons x l ih =>
    intro r
    have h1 : crcFrom r (x :: l) = crcFrom (crcByte r x) l := rfl
    rw [h1, ih]
    have h2 : crcByte r x ^^^ leVal l = crcIt 8 (r ^^^ leVal (x :: l)) := by
      have e : leVal (x :: l) = x.toNat ^^^ (256 * leVal l) := add_is_xor x.toNat_lt
      rw [e, ← Nat.xor_assoc, crcIt_xor 8 (r ^^^ x.toNat) (256 * leVal l)]
      have e2 : (256 : Nat) * leVal l = 2 ^ 8 * leVal l := by omega
      rw [e2, crcIt_pow]; rfl
    rw [h2, ← crcIt_add]
    congr 1
    simp only [List.length_cons]; omega
theorem crcFrom_burst {l m : List UInt8} (h : l.length = m.length) (h4 : l.length ≤ 4) {r : Nat} (hr : r < 2 ^ 32) (e : crcFrom r l = crcFrom r m) : l = m := by
  rw [crcFrom_word, crcFrom_word, h] at e
  have b : ∀ k : List UInt8, k.length ≤ 4 → leVal k < 2 ^ 32 := fun k hk =>
    Nat.lt_of_lt_of_le (leVal_lt k) (show 256 ^ k.length ≤ 2 ^ 32 from Nat.le_trans (Nat.pow_le_pow_right (by omega) hk) (by decide))
  have := crcIt_inj _ (Nat.xor_lt_two_pow hr (b l h4)) (Nat.xor_lt_two_pow hr (b m (by omega))) e
  exact leVal_inj l m h (xor_left_cancel this)

/-- Bytes that differ within four neighbours alone have different checksums. -/
theorem crc_burst {p l m s : List UInt8} (h : l.length = m.length) (h4 : l.length ≤ 4) (e : crc (p ++ (l ++ s)) = crc (p ++ (m ++ s))) : l = m := by
  unfold crc at e
  have i0 : (4294967295 : Nat) < 2 ^ 32 := by decide
  have e2 := xor_left_cancel e
  rw [crcFrom_append, crcFrom_append, crcFrom_append, crcFrom_append] at e2
  have hp := crcFrom_lt p i0
  exact crcFrom_burst h h4 hp (crcFrom_inj s (crcFrom_lt l hp) (crcFrom_lt m hp) e2)
theorem crc_lt (l : List UInt8) : crc l < 4294967296 := Nat.xor_lt_two_pow (n := 32) (by decide) (crcFrom_lt l (by decide))

/-- The document's step: the bit that goes out is held against a bit of the byte. -/
theorem crcStep_ref (q y : Nat) : crcStep (q ^^^ y) = ((q / 2) ^^^ (if q % 2 ≠ y % 2 then poly else 0)) ^^^ (y / 2) := by
  unfold crcStep
  have e : (q ^^^ y) / 2 = (q / 2) ^^^ (y / 2) := Nat.xor_div_two
  have m := xor_mod_two q y
  rw [e]
  by_cases h : q % 2 = y % 2
  · rw [if_neg (by omega), if_neg (by omega)]; simp only [Nat.xor_zero]
  · rw [if_pos (by omega), if_pos h]; ac_rfl

end Go.Proofs.Ytkiombbdddbkfaa.Pk
