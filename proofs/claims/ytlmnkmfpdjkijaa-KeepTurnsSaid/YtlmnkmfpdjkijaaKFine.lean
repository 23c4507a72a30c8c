/-
  The panes that a keep may hold, in mathematics: keys of at most 16 bytes, spans that a time has, sums that are ints. Conditions: as each theorem names them; nothing of a program.
-/
import Derived.Test.YtlmnkmfpdjkijaaKState
namespace Go.Proofs.Ytlmnkmfpdjkijaa.Ke
set_option linter.unusedVariables false
set_option linter.unusedSimpArgs false
open Go.Proofs.Ytlmnkmfpdjkijaa.Ag (Ac jn vl wr wr_in wr_add wr_add2 ac_ext)
open Go.Proofs.Ytlmnkmfpdjkijaa.Wi (Sp ofS okW okT okT_is okW_cases cov_of Cov sl)

theorem mem_sl {t s l : Int} (hl : 0 < l) (sp : Sp) : ∀ (q : Nat) (f : Int), sp ∈ sl t s l q f ↔ ∃ i : Nat, i < q ∧ sp = (f + (i : Int) * l, f + (i : Int) * l + s) ∧ f + (i : Int) * l ≤ t ∧ t < f + (i : Int) * l + s
  | 0, f => by
    constructor
    · intro h; simp [sl] at h
    · rintro ⟨i, hi, -⟩; omega
  | q + 1, f => by
    have e : ∀ i : Nat, f + l + (i : Int) * l = f + ((i + 1 : Nat) : Int) * l := fun i => by rw [Int.natCast_add, Int.add_mul]; simp; omega
    unfold sl
    by_cases hf : f ≤ t
    · rw [if_pos hf, List.mem_append, mem_sl hl sp q (f + l)]
      constructor
      · rintro (h | ⟨i, h1, h2, h3, h4⟩)
        · by_cases ht : t < f + s
          · rw [if_pos ht, List.mem_singleton] at h
            exact ⟨0, by omega, by rw [h]; simp, by simpa using hf, by simpa using ht⟩
          · rw [if_neg ht] at h; cases h
        · rw [e] at h2 h3 h4
          exact ⟨i + 1, by omega, h2, h3, h4⟩
      · rintro ⟨i, h1, h2, h3, h4⟩
        cases i with
        | zero =>
          simp only [Int.natCast_zero, Int.zero_mul, Int.add_zero] at h2 h3 h4
          left
          rw [if_pos (by simpa using h4), List.mem_singleton]
          simpa using h2
        | succ i =>
          rw [← e] at h2 h3 h4
          exact .inr ⟨i, by omega, h2, h3, h4⟩
    · rw [if_neg hf]
      constructor
      · intro h; cases h
      · rintro ⟨i, h1, h2, h3, h4⟩
        have : 0 ≤ (i : Int) * l := Int.mul_nonneg (by omega) (by omega)
        omega
/-- A sliding span of one time is one of each time in it. -/
theorem slide_in {t u s l : Int} (l1 : 1 ≤ l) (l2 : l ≤ s) (l3 : s ≤ 16 * l) {sp : Sp} (h : sp ∈ sl t s l 20 (t - s - (t - s) % l)) (h1 : sp.1 ≤ u) (h2 : u < sp.1 + s) : sp ∈ sl u s l 20 (u - s - (u - s) % l) := by
  rw [mem_sl (by omega)] at h ⊢
  obtain ⟨i, hi, rfl, k1, k2⟩ := h
  dsimp only at h1 h2
  have a0 := Int.emod_nonneg (u - s) (show l ≠ 0 by omega)
  have a1 := Int.emod_lt_of_pos (u - s) (show 0 < l by omega)
  have e1 := Int.emod_add_mul_ediv (t - s) l
  have e2 := Int.emod_add_mul_ediv (u - s) l
  obtain ⟨p, hp⟩ : ∃ p, (t - s) / l = p := ⟨_, rfl⟩
  obtain ⟨r, hr⟩ : ∃ r, (u - s) / l = r := ⟨_, rfl⟩
  obtain ⟨x, hx⟩ : ∃ x, (t - s) % l = x := ⟨_, rfl⟩
  obtain ⟨y, hy⟩ : ∃ y, (u - s) % l = y := ⟨_, rfl⟩
  rw [hp, hx] at e1
  rw [hr, hy] at e2
  rw [hy] at a0 a1
  rw [hx, hy]
  rw [hx] at h1 h2 k1 k2
  have f1 : t - s - x + (i : Int) * l = l * (p + i) := by rw [Int.mul_add, Int.mul_comm l (i : Int)]; omega
  have f2 : u - s - y = l * r := by omega
  rw [f1] at h1 h2 k1 k2 ⊢
  rw [f2]
  have g1 : l * r < l * (p + i) := by omega
  have g2 : r < p + i := Int.lt_of_mul_lt_mul_left g1 (by omega)
  have g3 : l * (p + i) < l * (r + 18) := by rw [Int.mul_add l r 18]; omega
  have g4 : p + i < r + 18 := Int.lt_of_mul_lt_mul_left g3 (by omega)
  obtain ⟨j, hj⟩ : ∃ j : Nat, (j : Int) = p + i - r := ⟨(p + i - r).toNat, by omega⟩
  have g5 : l * r + (j : Int) * l = l * (p + i) := by rw [hj, Int.mul_comm _ l, ← Int.mul_add]; congr 1; omega
  refine ⟨j, by omega, ?_, ?_, ?_⟩
  · rw [g5]
  · rw [g5]; exact h1
  · rw [g5]; exact h2
/-- A span that Of could return. -/
def fitS (k s l f t : Int) : Prop :=
  if k = 3 then 0 ≤ f ∧ f ≤ 1000000000 ∧ f + s ≤ t ∧ t ≤ 1000000000 + s
  else k ≠ 0 ∧ -s ≤ f ∧ f ≤ 1000000000 ∧ (f, t) ∈ ofS k s l (min (max f 0) 1000000000)
theorem fit_of {k s l t : Int} (h : okW k s l = true) (ht : okT t = true) {sp : Sp} (hs : sp ∈ ofS k s l t) : fitS k s l sp.1 sp.2 := by
  obtain ⟨t0, t1⟩ := okT_is ht
  unfold fitS
  rcases okW_cases h with ⟨rfl, rfl, rfl⟩ | ⟨rfl, s1, s2, rfl⟩ | ⟨rfl, s1, s2, l1, l2, l3⟩ | ⟨rfl, s1, s2, rfl⟩
  · simp [ofS] at hs
  · have g0 := Int.emod_nonneg t (show s ≠ 0 by omega)
    have g1 := Int.emod_lt_of_pos t (show 0 < s by omega)
    have g2 : t % s ≤ t := by
      have h1 := Int.emod_add_mul_ediv t s
      have h2 : 0 ≤ s * (t / s) := Int.mul_nonneg (by omega) (Int.ediv_nonneg t0 (by omega))
      omega
    rw [if_neg (by decide)]
    unfold ofS at hs ⊢
    rw [if_pos rfl, List.mem_singleton] at hs
    rw [if_pos rfl, List.mem_singleton]
    subst hs
    dsimp only
    refine ⟨by decide, by omega, by omega, ?_⟩
    have e : min (max (t - t % s) 0) 1000000000 = t - t % s := by omega
    have e2 : (t - t % s) % s = 0 := by rw [Int.sub_emod, Int.emod_emod_of_dvd t (Int.dvd_refl s), Int.sub_self]; rfl
    rw [e, e2, Int.sub_zero]
  · rw [if_neg (by decide)]
    unfold ofS at hs ⊢
    rw [if_neg (by decide), if_neg (by decide), if_pos rfl] at hs
    rw [if_neg (by decide), if_neg (by decide), if_pos rfl]
    have hs2 := (mem_sl (by omega) sp 20 _).1 hs
    obtain ⟨i, -, e, k1, k2⟩ := hs2
    have f1 : sp.1 ≤ t ∧ t < sp.1 + s ∧ sp.2 = sp.1 + s := by rw [e]; exact ⟨k1, k2, rfl⟩
    exact ⟨by decide, by omega, by omega, slide_in l1 l2 l3 hs (by omega) (by omega)⟩
  · unfold ofS at hs
    rw [if_neg (by decide), if_pos rfl, List.mem_singleton] at hs
    subst hs
    rw [if_pos rfl]
    dsimp only
    omega
/-- A pane that may be. -/
structure FineP (k s l : Int) (x : Pn) : Prop where
  key : x.k.length ≤ 16
  fit : fitS k s l x.f x.t
  c : I64 x.a.c
  s : I64 x.a.s
  mn : I64 x.a.mn
  mx : I64 x.a.mx
def Fine (k s l : Int) (ps : List Pn) : Prop := ∀ x ∈ ps, FineP k s l x
theorem i64_n0 : I64 0 := by unfold I64; omega
theorem i64_n1 : I64 1 := by unfold I64; omega
theorem wr_i64 (n : Int) : I64 (wr n) := by
  unfold I64 wr
  rw [IntKind.wrap_i64]
  omega
theorem jn_i64 {a b : Ac} (h : I64 a.c ∧ I64 a.s ∧ I64 a.mn ∧ I64 a.mx) (k : I64 b.c ∧ I64 b.s ∧ I64 b.mn ∧ I64 b.mx) : I64 (jn a b).c ∧ I64 (jn a b).s ∧ I64 (jn a b).mn ∧ I64 (jn a b).mx := by
  unfold jn
  split
  · split
    · exact ⟨i64_n0, i64_n0, i64_n0, i64_n0⟩
    · exact k
  · split
    · exact h
    · refine ⟨wr_i64 _, wr_i64 _, ?_, ?_⟩
      · show I64 (min a.mn b.mn)
        obtain ⟨-, -, h1, -⟩ := h
        obtain ⟨-, -, k1, -⟩ := k
        unfold I64 at *
        omega
      · show I64 (max a.mx b.mx)
        obtain ⟨-, -, -, h1⟩ := h
        obtain ⟨-, -, -, k1⟩ := k
        unfold I64 at *
        omega
theorem mrg_fine {k s l : Int} : ∀ (xs : List Pn) {p : Pn}, FineP k s l p → (∀ x ∈ xs, FineP k s l x ∧ (k ≠ 3 → x.f = p.f ∧ x.t = p.t)) → FineP k s l (mrg p xs)
  | [], p, h, _ => h
  | x :: xs, p, h, hx => by
    obtain ⟨h1, h2⟩ := hx x (by simp)
    obtain ⟨j1, j2, j3, j4⟩ := jn_i64 (a := x.a) (b := p.a) ⟨h1.c, h1.s, h1.mn, h1.mx⟩ ⟨h.c, h.s, h.mn, h.mx⟩
    have hf : fitS k s l (min p.f x.f) (max p.t x.t) := by
      have f1 := h.fit
      have f2 := h1.fit
      by_cases h3 : k = 3
      · unfold fitS at f1 f2 ⊢
        rw [if_pos h3] at f1 f2 ⊢
        omega
      · obtain ⟨e1, e2⟩ := h2 h3
        rw [e1, e2, show min p.f p.f = p.f by omega, show max p.t p.t = p.t by omega]
        exact f1
    rw [mrg_cons]
    refine mrg_fine xs ⟨h.key, hf, j1, j2, j3, j4⟩ (fun y hy => ⟨(hx y (by simp [hy])).1, fun h3 => ?_⟩)
    obtain ⟨e1, e2⟩ := h2 h3
    obtain ⟨e3, e4⟩ := (hx y (by simp [hy])).2 h3
    exact ⟨by show y.f = min p.f x.f; omega, by show y.t = max p.t x.t; omega⟩
theorem kins_fine {k s l : Int} {ps : List Pn} {p : Pn} (h : Fine k s l ps) (hp : FineP k s l p) : Fine k s l (kins (decide (k = 3)) ps p) := fun x hx => by
  rcases kins_mem.1 hx with rfl | ⟨hx, -⟩
  · refine mrg_fine _ hp (fun y hy => ?_)
    obtain ⟨h1, h2⟩ := mem_hit.1 hy
    refine ⟨h y h1, fun h3 => ?_⟩
    rw [decide_eq_false h3] at h2
    obtain ⟨-, h4 | h4⟩ := one_iff.1 h2
    · exact h4
    · exact absurd h4.1 (by simp)
  · exact h x hx
theorem kall_fine {k s l : Int} : ∀ (qs : List Pn) {ps : List Pn}, Fine k s l ps → Fine k s l qs → Fine k s l (kall (decide (k = 3)) ps qs)
  | [], _, h, _ => h
  | q :: qs, _, h, hq => by
    rw [kall_cons]
    exact kall_fine qs (kins_fine h (hq q (by simp))) (fun x hx => hq x (by simp [hx]))
theorem Fine.filter {k s l : Int} {ps : List Pn} (h : Fine k s l ps) (P : Pn → Bool) : Fine k s l (ps.filter P) := fun x hx => h x (mem_fil hx)
theorem raws_fine {k s l t v : Int} {key : Ky} (hw : okW k s l = true) (ht : okT t = true) (hv : I64 v) (hk : key.length ≤ 16) : Fine k s l (raws k s l key t v) := fun x hx => by
  obtain ⟨sp, hsp, rfl⟩ := List.mem_map.1 hx
  exact ⟨hk, fit_of hw ht hsp, i64_n1, hv, hv, hv⟩
end Go.Proofs.Ytlmnkmfpdjkijaa.Ke
