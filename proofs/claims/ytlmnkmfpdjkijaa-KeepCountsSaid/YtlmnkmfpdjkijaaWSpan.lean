/-
  The spans of a time, in mathematics: which windows may be, it lies in each of its spans, they rise by the slide, there are as many as may be. Conditions: as each theorem names them; nothing of a program.
-/
import Derived.Test.YtlmnkmfpdjkijaaWMath
namespace Go.Proofs.Ytlmnkmfpdjkijaa.Wi
set_option linter.unusedVariables false
set_option linter.unusedSimpArgs false

def okW (k s l : Int) : Bool :=
  if k = 0 then decide (s = 0) && decide (l = 0)
  else if s < 1 ∨ 1000000 < s then false
  else if k = 1 ∨ k = 3 then decide (l = 0)
  else if k = 2 then decide (1 ≤ l) && decide (l ≤ s) && decide (s ≤ 16 * l)
  else false
def okT (n : Int) : Bool := decide (0 ≤ n) && decide (n ≤ 1000000000)
/-- The spans that a time belongs to. -/
def sl (t s l : Int) : Nat → Int → List Sp
  | 0, _ => []
  | n + 1, f => if f ≤ t then (if t < f + s then [(f, f + s)] else []) ++ sl t s l n (f + l) else []
def ofS (k s l t : Int) : List Sp :=
  if k = 1 then [(t - t % s, t - t % s + s)]
  else if k = 3 then [(t, t + s)]
  else if k = 2 then sl t s l 20 (t - s - (t - s) % l)
  else []
theorem okW_cases {k s l : Int} (h : okW k s l = true) : (k = 0 ∧ s = 0 ∧ l = 0) ∨ (k = 1 ∧ 1 ≤ s ∧ s ≤ 1000000 ∧ l = 0) ∨ (k = 2 ∧ 1 ≤ s ∧ s ≤ 1000000 ∧ 1 ≤ l ∧ l ≤ s ∧ s ≤ 16 * l) ∨ (k = 3 ∧ 1 ≤ s ∧ s ≤ 1000000 ∧ l = 0) := by
  unfold okW at h
  split at h
  · simp at h; omega
  · split at h
    · simp at h
    · split at h
      · simp at h; omega
      · split at h
        · simp at h; omega
        · simp at h
theorem okT_is {t : Int} (h : okT t = true) : 0 ≤ t ∧ t ≤ 1000000000 := by
  unfold okT at h; simp at h; exact h
theorem sl_out {t s l f : Int} (h : ¬ f ≤ t) : ∀ q, sl t s l q f = []
  | 0 => rfl
  | q + 1 => by unfold sl; rw [if_neg h]
theorem sl_in {t s l f : Int} {q : Nat} (h : f ≤ t) (h2 : t < f + s) : sl t s l (q + 1) f = (f, f + s) :: sl t s l q (f + l) := by
  rw [sl, if_pos h, if_pos h2]; rfl
theorem sl_by {t s l f : Int} {q : Nat} (h : f ≤ t) (h2 : ¬ t < f + s) : sl t s l (q + 1) f = sl t s l q (f + l) := by
  rw [sl, if_pos h, if_neg h2]; rfl
theorem sl_mem {t s l : Int} (hl : 0 < l) : ∀ (q : Nat) (f : Int), t < f + s → ∀ (i : Nat) (x : Sp), (sl t s l q f)[i]? = some x → x = (f + (i : Int) * l, f + (i : Int) * l + s) ∧ f + (i : Int) * l ≤ t
  | 0, f, _, i, x, h => by simp [sl] at h
  | q + 1, f, ht, i, x, h => by
    by_cases hf : f ≤ t
    · rw [sl_in hf ht] at h
      cases i with
      | zero =>
        simp only [List.getElem?_cons_zero, Option.some.injEq] at h
        subst h
        exact ⟨by simp, by simpa using hf⟩
      | succ i =>
        simp only [List.getElem?_cons_succ] at h
        obtain ⟨h1, h2⟩ := sl_mem hl q (f + l) (by omega) i x h
        have e : f + l + (i : Int) * l = f + ((i + 1 : Nat) : Int) * l := by rw [Int.natCast_add, Int.add_mul]; simp; omega
        rw [e] at h1 h2
        exact ⟨h1, h2⟩
    · rw [sl_out hf] at h; simp at h
theorem sl_len {t s l : Int} (hl : 0 < l) : ∀ (q : Nat) (f : Int), t < f + s → t - f < (q : Int) * l → ∀ n, (sl t s l q f).length = n → t < f + (n : Int) * l ∧ (1 ≤ n → f + (n : Int) * l ≤ t + l)
  | 0, f, _, hq, n, h => by
    simp [sl] at h
    subst h
    simp at hq ⊢
    omega
  | q + 1, f, ht, hq, n, h => by
    have e : ((q + 1 : Nat) : Int) * l = (q : Int) * l + l := by rw [Int.natCast_add, Int.add_mul]; simp
    rw [e] at hq
    by_cases hf : f ≤ t
    · rw [sl_in hf ht] at h
      cases n with
      | zero => simp at h
      | succ n =>
        simp only [List.length_cons, Nat.add_right_cancel_iff] at h
        obtain ⟨h1, h2⟩ := sl_len hl q (f + l) (by omega) (by omega) n h
        have e2 : ((n + 1 : Nat) : Int) * l = (n : Int) * l + l := by rw [Int.natCast_add, Int.add_mul]; simp
        rw [e2]
        refine ⟨by omega, fun _ => ?_⟩
        cases n with
        | zero => simp; omega
        | succ m => have := h2 (by omega); omega
    · rw [sl_out hf] at h
      simp at h
      subst h
      simp
      omega
/-- What a time's spans are. -/
structure Cov (k s l t : Int) (L : List Sp) : Prop where
  at_ : ∀ (i : Nat) (x : Sp), L[i]? = some x → x.1 ≤ t ∧ t < x.2 ∧ x.2 = x.1 + s ∧ -1000000 ≤ x.1
  step : ∀ (i : Nat) (x y : Sp), L[i + 1]? = some x → L[i]? = some y → x.1 - y.1 = l
  tum : k = 1 → ∀ (i : Nat) (x : Sp), L[i]? = some x → x.1.tmod s = 0
  sli : k = 2 → ∀ (i : Nat) (x : Sp), L[i]? = some x → x.1.tmod l = 0
  ses : k = 3 → ∀ (i : Nat) (x : Sp), L[i]? = some x → x.1 = t
  non : k = 0 → L.length = 0
  one : k = 1 ∨ k = 3 → L.length = 1
  num : k = 2 → (L.length : Int) = s.tdiv l ∨ ((L.length : Int) = s.tdiv l + 1 ∧ ¬ s.tmod l = 0)
theorem count_is {s l n r : Int} (hl : 0 < l) (hs : 0 ≤ s) (h1 : s + r < (n + 1) * l) (h2 : n * l ≤ s + r) (r0 : 0 ≤ r) (r1 : r < l) : n = s.tdiv l ∨ (n = s.tdiv l + 1 ∧ ¬ s.tmod l = 0) := by
  rw [Int.tdiv_eq_ediv_of_nonneg hs, Int.tmod_eq_emod_of_nonneg hs]
  have e := Int.mul_ediv_add_emod s l
  have b0 := Int.emod_nonneg s (show l ≠ 0 by omega)
  have b1 := Int.emod_lt_of_pos s hl
  obtain ⟨a, ha⟩ : ∃ a, s / l = a := ⟨_, rfl⟩
  obtain ⟨b, hb⟩ : ∃ b, s % l = b := ⟨_, rfl⟩
  rw [ha, hb] at e
  rw [hb] at b0 b1
  rw [ha, hb]
  rw [Int.mul_comm] at e
  rw [Int.add_mul, Int.one_mul] at h1
  rcases Int.lt_or_le n a with h | h
  · have := Int.mul_le_mul_of_nonneg_right (show n + 1 ≤ a by omega) (show 0 ≤ l by omega)
    rw [Int.add_mul, Int.one_mul] at this
    omega
  · rcases Int.lt_or_le (a + 1) n with h' | h'
    · have := Int.mul_le_mul_of_nonneg_right (show a + 2 ≤ n by omega) (show 0 ≤ l by omega)
      rw [Int.add_mul] at this
      omega
    · by_cases hna : n = a
      · exact .inl hna
      · have hn : n = a + 1 := by omega
        refine .inr ⟨hn, fun hz => ?_⟩
        subst hn
        rw [Int.add_mul, Int.one_mul] at h2
        omega
theorem single {x y : Sp} {i : Nat} (h : [x][i]? = some y) : y = x ∧ i = 0 := by
  cases i with
  | zero => simp at h; exact ⟨h.symm, rfl⟩
  | succ i => simp at h
theorem cov_of {k s l t : Int} (h : okW k s l = true) (ht : okT t = true) {L : List Sp} (hL : ofS k s l t = L) : Cov k s l t L := by
  obtain ⟨t0, t1⟩ := okT_is ht
  rcases okW_cases h with ⟨rfl, rfl, rfl⟩ | ⟨rfl, s1, s2, rfl⟩ | ⟨rfl, s1, s2, l1, l2, l3⟩ | ⟨rfl, s1, s2, rfl⟩
  · have : L = [] := hL.symm
    subst this
    exact ⟨fun i x h => by simp at h, fun i x y h => by simp at h, fun h => by omega, fun h => by omega, fun h => by omega, fun _ => rfl, fun h => by omega, fun h => by omega⟩
  · have hL2 : L = [(t - t % s, t - t % s + s)] := hL.symm
    subst hL2
    have b0 := Int.emod_nonneg t (show s ≠ 0 by omega)
    have b1 := Int.emod_lt_of_pos t (show 0 < s by omega)
    have e := Int.mul_ediv_add_emod t s
    refine ⟨fun i x h => ?_, fun i x y h => ?_, fun _ i x h => ?_, fun h => by omega, fun h => by omega, fun h => by omega, fun _ => rfl, fun h => by omega⟩
    · obtain ⟨rfl, -⟩ := single h
      exact ⟨by simp only; omega, by simp only; omega, rfl, by simp only; omega⟩
    · exact absurd (single h).2 (by omega)
    · obtain ⟨rfl, -⟩ := single h
      show (t - t % s).tmod s = 0
      rw [show t - t % s = s * (t / s) by omega]
      exact Int.mul_tmod_right _ _
  · have hL2 : sl t s l 20 (t - s - (t - s) % l) = L := hL
    have b0 := Int.emod_nonneg (t - s) (show l ≠ 0 by omega)
    have b1 := Int.emod_lt_of_pos (t - s) (show 0 < l by omega)
    have e := Int.mul_ediv_add_emod (t - s) l
    obtain ⟨r, hr⟩ : ∃ r, (t - s) % l = r := ⟨_, rfl⟩
    obtain ⟨d, hd⟩ : ∃ d, (t - s) / l = d := ⟨_, rfl⟩
    rw [hr] at b0 b1 hL2 e
    rw [hd] at e
    rw [sl_by (by omega) (by omega)] at hL2
    obtain ⟨f, hf⟩ : ∃ f, t - s - r + l = f := ⟨_, rfl⟩
    rw [hf] at hL2
    have hfd : f = l * (d + 1) := by rw [Int.mul_add, Int.mul_one]; omega
    have hm := sl_mem (t := t) (s := s) (l := l) (by omega) 19 f (by omega)
    have hn := sl_len (t := t) (s := s) (l := l) (by omega) 19 f (by omega) (by omega) _ (by rw [hL2])
    rw [hL2] at hm
    refine ⟨fun i x h => ?_, fun i x y h h' => ?_, fun h => by omega, fun _ i x h => ?_, fun h => by omega, fun h => by omega, fun h => by omega, fun _ => ?_⟩
    · obtain ⟨h1, h2⟩ := hm i x h
      subst h1
      have : 0 ≤ (i : Int) * l := Int.mul_nonneg (by omega) (by omega)
      refine ⟨h2, by simp only; omega, rfl, by simp only; omega⟩
    · obtain ⟨h1, -⟩ := hm _ x h
      obtain ⟨h2, -⟩ := hm _ y h'
      subst h1 h2
      show f + ((i + 1 : Nat) : Int) * l - (f + (i : Int) * l) = l
      rw [Int.natCast_add, Int.add_mul]
      simp
      omega
    · obtain ⟨h1, -⟩ := hm _ x h
      subst h1
      show (f + (i : Int) * l).tmod l = 0
      rw [hfd, Int.mul_comm (i : Int) l, ← Int.mul_add]
      exact Int.mul_tmod_right _ _
    · obtain ⟨n, hnn⟩ : ∃ n, L.length = n := ⟨_, rfl⟩
      rw [hnn] at hn ⊢
      obtain ⟨h1, h2⟩ := hn
      by_cases hz : n = 0
      · subst hz
        exfalso
        simp at h1
        omega
      · have h3 := h2 (by omega)
        refine count_is (r := r) (by omega) (by omega) ?_ ?_ b0 b1
        · rw [Int.add_mul, Int.one_mul]; omega
        · omega
  · have hL2 : L = [(t, t + s)] := hL.symm
    subst hL2
    refine ⟨fun i x h => ?_, fun i x y h => ?_, fun h => by omega, fun h => by omega, fun _ i x h => ?_, fun h => by omega, fun _ => rfl, fun h => by omega⟩
    · obtain ⟨rfl, -⟩ := single h
      exact ⟨by simp only; omega, by simp only; omega, rfl, by simp only; omega⟩
    · exact absurd (single h).2 (by omega)
    · obtain ⟨rfl, -⟩ := single h
      rfl
end Go.Proofs.Ytlmnkmfpdjkijaa.Wi
