/-
  Layer 7 in mathematics: the hash of a key, owners of groups, ranges of groups, rows of moves, partitions of a reader. Conditions: none but those that each theorem names; nothing of a program.
-/
import Derived.IntWalk
import Derived.RowKit
namespace Go.Proofs.Ytlmnkmfpdjkijaa.Gp
set_option linter.unusedVariables false
set_option linter.unusedSimpArgs false
abbrev Bs := List UInt8

def hStep (h : Nat) (b : UInt8) : Nat := (h ^^^ b.toNat) * 16777619 % 4294967296
def hs (l : Bs) : Nat := l.foldl hStep 2166136261
theorem hStep_lt (h : Nat) (b : UInt8) : hStep h b < 4294967296 := by
  unfold hStep
  omega
theorem hs_lt (l : Bs) : hs l < 4294967296 := by
  unfold hs
  rw [← List.reverse_reverse l, List.foldl_reverse]
  cases l.reverse with
  | nil => simp only [List.foldr_nil]; omega
  | cons x r => rw [List.foldr_cons]; exact hStep_lt _ x
theorem hs_next {l : Bs} {k : Nat} (h : k < l.length) {b : UInt8} (hb : b = l[k]) : hs (l.take (k + 1)) = hStep (hs (l.take k)) b := by
  unfold hs
  rw [List.take_succ_eq_append_getElem h, List.foldl_append, hb, List.foldl_cons, List.foldl_nil]
/-- The owner of a group. -/
def ow (g n : Nat) : Nat := g * n / 16
/-- The first group of a keeper. -/
def lo (k n : Nat) : Nat := (16 * k + n - 1) / n
def goods (k n : Nat) (m : Nat) : List Nat := (List.range m).filter fun g => ow g n == k
def fst (L : List Nat) : Nat := L.foldl min 16
def lst (L : List Nat) : Nat := L.foldl (fun a g => max a (g + 1)) 0
theorem goods_succ (k n m : Nat) : goods k n (m + 1) = goods k n m ++ (if ow m n = k then [m] else []) := by
  unfold goods
  rw [List.range_succ, List.filter_append]
  by_cases h : ow m n = k <;> simp [h]
theorem goods_lt {k n m x : Nat} (h : x ∈ goods k n m) : x < m := by
  unfold goods at h
  exact List.mem_range.1 (List.mem_filter.1 h).1
theorem fst_snoc (L : List Nat) (g : Nat) : fst (L ++ [g]) = min (fst L) g := by simp [fst]
theorem lst_snoc (L : List Nat) (g : Nat) : lst (L ++ [g]) = max (lst L) (g + 1) := by simp [lst]
theorem fst_le (L : List Nat) : fst L ≤ 16 := by
  unfold fst
  rw [← List.reverse_reverse L, List.foldl_reverse]
  generalize L.reverse = M
  induction M with
  | nil => exact Nat.le_refl _
  | cons x r ih => exact Nat.le_trans (Nat.min_le_left _ _) ih
theorem lst_le {L : List Nat} (h : ∀ x ∈ L, x < 16) : lst L ≤ 16 := by
  unfold lst
  rw [← List.reverse_reverse L, List.foldl_reverse]
  have h2 : ∀ x ∈ L.reverse, x < 16 := fun x hx => h x (List.mem_reverse.1 hx)
  generalize L.reverse = M at h2
  induction M with
  | nil => exact Nat.zero_le _
  | cons x r ih =>
    have := h2 x (by simp)
    have := ih (fun y hy => h2 y (by simp [hy]))
    show max _ _ ≤ 16
    omega
theorem lift2 {P : Nat → Nat → Bool} (h : ((List.range 9).all fun n => (List.range n).all fun k => P n k) = true) {n k : Nat} (hn : n ≤ 8) (hk : k < n) : P n k = true := by
  rw [List.all_eq_true] at h
  have := h n (List.mem_range.2 (by omega))
  rw [List.all_eq_true] at this
  exact this k (List.mem_range.2 hk)
theorem lift1 {P : Nat → Bool} (h : ((List.range 9).all fun n => P n) = true) {n : Nat} (hn : n ≤ 8) : P n = true := by
  rw [List.all_eq_true] at h
  exact h n (List.mem_range.2 (by omega))
theorem fst_goods {k n : Nat} (hn : n ≤ 8) (hk : k < n) : fst (goods k n 16) = lo k n :=
  of_decide_eq_true (lift2 (P := fun n k => decide (fst (goods k n 16) = lo k n)) (by decide +kernel) hn hk)
theorem lst_goods {k n : Nat} (hn : n ≤ 8) (hk : k < n) : lst (goods k n 16) = lo (k + 1) n :=
  of_decide_eq_true (lift2 (P := fun n k => decide (lst (goods k n 16) = lo (k + 1) n)) (by decide +kernel) hn hk)
/-- A keeper's groups: as many as his range holds, the first and the last as the range says. -/
theorem goods_ends {k n : Nat} (hn : n ≤ 8) (hk : k < n) : (goods k n 16)[0]? = some (lo k n) ∧ 0 < (goods k n 16).length ∧ (goods k n 16)[(goods k n 16).length - 1]?.map (· + 1) = some (lo (k + 1) n) :=
  of_decide_eq_true (lift2 (P := fun n k => decide ((goods k n 16)[0]? = some (lo k n) ∧ 0 < (goods k n 16).length ∧ (goods k n 16)[(goods k n 16).length - 1]?.map (· + 1) = some (lo (k + 1) n))) (by decide +kernel) hn hk)
theorem lo_facts {k n : Nat} (hn : n ≤ 8) (hk : k < n) : lo k n < lo (k + 1) n ∧ lo (k + 1) n ≤ 16 :=
  of_decide_eq_true (lift2 (P := fun n k => decide (lo k n < lo (k + 1) n ∧ lo (k + 1) n ≤ 16)) (by decide +kernel) hn hk)
theorem ow_range {k n g : Nat} (hn : n ≤ 8) (hk : k < n) (h1 : lo k n ≤ g) (h2 : g < lo (k + 1) n) : ow g n = k := by
  have := of_decide_eq_true (lift2 (P := fun n k => decide (∀ g, g < lo (k + 1) n → lo k n ≤ g → ow g n = k)) (by decide +kernel) hn hk)
  exact this g h2 h1
theorem lo_zero {n : Nat} (h0 : 1 ≤ n) (hn : n ≤ 8) : lo 0 n = 0 := by
  unfold lo
  rw [Nat.mul_zero, Nat.zero_add]
  exact Nat.div_eq_of_lt (by omega)
theorem lo_all {n : Nat} (h0 : 1 ≤ n) (hn : n ≤ 8) : lo n n = 16 := by
  have := of_decide_eq_true (lift1 (P := fun n => decide (1 ≤ n → lo n n = 16)) (by decide +kernel) hn)
  exact this h0
/-- The least and the most that a keeper of the first k owns. -/
def least (n : Nat) : Nat → Nat
  | 0 => 16
  | k + 1 => min (least n k) (lo (k + 1) n - lo k n)
def most (n : Nat) : Nat → Nat
  | 0 => 0
  | k + 1 => max (most n k) (lo (k + 1) n - lo k n)
theorem spread {n : Nat} (hn : n ≤ 8) : most n n - least n n ≤ 1 ∧ least n n ≤ 16 ∧ most n n ≤ 16 :=
  of_decide_eq_true (lift1 (P := fun n => decide (most n n - least n n ≤ 1 ∧ least n n ≤ 16 ∧ most n n ≤ 16)) (by decide +kernel) hn)
theorem least_le (n k : Nat) : least n k ≤ 16 := by
  induction k with
  | zero => exact Nat.le_refl _
  | succ k ih => exact Nat.le_trans (Nat.min_le_left _ _) ih
theorem most_le {n k : Nat} (hn : n ≤ 8) (hk : k ≤ n) : most n k ≤ 16 := by
  induction k with
  | zero => exact Nat.zero_le _
  | succ k ih =>
    have h1 := ih (by omega)
    have h2 := (lo_facts hn (show k < n by omega)).2
    show max _ _ ≤ 16
    omega
/-- What moves. -/
def row (f t g : Nat) : Nat × Nat × Nat := (g, ow g f, ow g t)
def movs (f t m : Nat) : List (Nat × Nat × Nat) := ((List.range m).filter fun g => !(ow g f == ow g t)).map (row f t)
theorem movs_succ (f t m : Nat) : movs f t (m + 1) = movs f t m ++ (if ow m f = ow m t then [] else [row f t m]) := by
  unfold movs
  rw [List.range_succ, List.filter_append, List.map_append]
  by_cases h : ow m f = ow m t <;> simp [h]
theorem movs_len (f t m : Nat) : (movs f t m).length ≤ m := by
  unfold movs
  rw [List.length_map]
  have := List.length_filter_le (fun g => !(ow g f == ow g t)) (List.range m)
  rw [List.length_range] at this
  exact this
/-- The partitions of a reader. -/
def prts (r n m : Nat) : List Nat := (List.range m).filter fun p => p % n == r
theorem prts_succ (r n m : Nat) : prts r n (m + 1) = prts r n m ++ (if m % n = r then [m] else []) := by
  unfold prts
  rw [List.range_succ, List.filter_append]
  by_cases h : m % n = r <;> simp [h]
theorem prts_len (r n m : Nat) : (prts r n m).length ≤ m := by
  unfold prts
  have := List.length_filter_le (fun p => p % n == r) (List.range m)
  rw [List.length_range] at this
  exact this
/-- The program goes from one of a reader's partitions to the next. -/
def stps (r n : Nat) : Nat → List Nat
  | 0 => []
  | j + 1 => stps r n j ++ [r + j * n]
theorem stps_len (r n j : Nat) : (stps r n j).length = j := by
  induction j with
  | zero => rfl
  | succ j ih => rw [stps, List.length_append, ih]; rfl
/-- No partition of the reader lies between two of his steps. -/
theorem prts_step {r n : Nat} (hr : r < n) (j : Nat) : ∀ d, d ≤ n → prts r n (r + j * n + d) = if d = 0 then prts r n (r + j * n) else prts r n (r + j * n) ++ [r + j * n]
  | 0, _ => by simp
  | d + 1, hd => by
    rw [show r + j * n + (d + 1) = (r + j * n + d) + 1 by omega, prts_succ, prts_step hr j d (by omega)]
    have e : (r + j * n + d) % n = (r + d) % n := by
      rw [show r + j * n + d = r + d + n * j by rw [Nat.mul_comm n j]; omega, Nat.add_mul_mod_self_left]
    rw [e]
    by_cases h0 : d = 0
    · subst h0
      rw [if_pos rfl, if_pos (by rw [Nat.add_zero]; exact Nat.mod_eq_of_lt hr), if_neg (by omega), Nat.add_zero]
    · rw [if_neg h0, if_neg (by
        by_cases h : r + d < n
        · rw [Nat.mod_eq_of_lt h]; omega
        · rw [Nat.mod_eq_sub_mod (by omega), Nat.mod_eq_of_lt (by omega)]; omega), if_neg (by omega)]
      simp
theorem prts_low {r n : Nat} (hr : r < n) : ∀ d, d ≤ r → prts r n d = []
  | 0, _ => rfl
  | d + 1, hd => by
    rw [prts_succ, prts_low hr d (by omega), if_neg (by rw [Nat.mod_eq_of_lt (by omega)]; omega)]
    rfl
theorem stps_prts {r n : Nat} (hr : r < n) : ∀ j, stps r n j = prts r n (r + j * n)
  | 0 => by rw [Nat.zero_mul, Nat.add_zero, prts_low hr r (Nat.le_refl _)]; rfl
  | j + 1 => by
    rw [stps, stps_prts hr j, show r + (j + 1) * n = r + j * n + n by rw [Nat.add_mul]; omega, prts_step hr j n (Nat.le_refl _), if_neg (by omega)]
/-- Where the program stops, all of the reader's partitions are taken. -/
theorem stps_all {r n m : Nat} (hr : r < n) {j : Nat} (h : ¬ r + j * n < m) (hj : ∀ i, i < j → r + i * n < m) : stps r n j = prts r n m := by
  cases j with
  | zero => rw [prts_low hr m (by omega)]; rfl
  | succ j =>
    have h1 := hj j (by omega)
    have h2 : r + (j + 1) * n = r + j * n + n := by rw [Nat.add_mul]; omega
    rw [stps, stps_prts hr j]
    have e : m = r + j * n + (m - (r + j * n)) := by omega
    rw [e, prts_step hr j _ (by omega), if_neg (by omega)]
end Go.Proofs.Ytlmnkmfpdjkijaa.Gp
