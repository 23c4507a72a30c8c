/-
  The machine, word by word: runs, what they say of parse; where an error lies. Conditions: none; nothing of a program.
-/
import Derived.Test.YtlkaaembeakicaaDoorEParse
namespace Go.Proofs.YtlkaaembeakicaaDoor.Ex
open Go.RowKit
/-- One word is taken. -/
def Step (s : St) (r : Bs) (s' : St) (r' : Bs) : Prop :=
  kindOf (skip r) ≠ 1 ∧ s.errOf (kindOf (skip r)) (wordOf (skip r)) = 0 ∧ s' = (s.count (kindOf (skip r)) (wordOf (skip r))).put (kindOf (skip r)) (wordOf (skip r)) ∧ r' = (skip r).drop (wordOf (skip r)).length
inductive Run : St → Bs → St → Bs → Prop where
  | refl (s : St) (r : Bs) : Run s r s r
  | cons {s s1 s2 : St} {r r1 r2 : Bs} : Step s r s1 r1 → Run s1 r1 s2 r2 → Run s r s2 r2
theorem Run.trans {s s1 s2 : St} {r r1 r2 : Bs} (h : Run s r s1 r1) (g : Run s1 r1 s2 r2) : Run s r s2 r2 := by
  induction h with
  | refl => exact g
  | cons a _ ih => exact .cons a (ih g)
theorem Run.one {s s1 : St} {r r1 : Bs} (h : Step s r s1 r1) : Run s r s1 r1 := .cons h (.refl _ _)
theorem word_pos {s : St} {k : Nat} {t : Bs} (hk : TokOK k t) (he : s.errOf k t = 0) (h1 : k ≠ 1) : 0 < t.length := by
  cases way_of hk (err_zero he).1 with
  | fin => exact absurd rfl h1
  | num _ h0 => cases t with | nil => exact absurd rfl h0 | cons => simp
  | name _ hn => obtain ⟨_, _, _, c, rfl, _⟩ := nm_level hn; simp
  | opn => simp
  | close => simp
  | bin _ _ hm => exact (ops_len hm).2
  | sign _ _ hm => rcases hm with rfl | rfl <;> simp
theorem Step.shorter {s s' : St} {r r' : Bs} (h : Step s r s' r') : r'.length < r.length := by
  obtain ⟨h1, he, -, rfl⟩ := h
  have hp := word_pos (tok_ok _) he h1
  have hw := wordOf_le (skip r)
  have hs := skip_le r
  rw [List.length_drop]; omega
theorem go_step {s s' : St} {r r' : Bs} (h : Step s r s' r') (f N : Nat) : go (f + 1) N r s = go f N r' s' := by
  obtain ⟨h1, he, rfl, rfl⟩ := h
  simp only [go]
  rw [he, if_neg (by simp), if_neg h1]
theorem go_run {s s' : St} {r r' : Bs} (h : Run s r s' r') : ∀ (f N : Nat), r.length < f → ∃ f', r'.length < f' ∧ go f N r s = go f' N r' s' := by
  induction h with
  | refl s r => intro f N hf; exact ⟨f, hf, rfl⟩
  | @cons s s1 s2 r r1 r2 a _ ih =>
    intro f N hf
    obtain ⟨f, rfl⟩ : ∃ g, f = g + 1 := ⟨f - 1, by omega⟩
    have := a.shorter
    obtain ⟨f', hf', e⟩ := ih f N (by omega)
    exact ⟨f', hf', (go_step a f N).trans e⟩
/-- The text ends there, and well. -/
def Ends (s : St) (r : Bs) (T : Tree) : Prop := skip r = [] ∧ s.errOf 1 [] = 0 ∧ (s.join 1).vals = [T]
theorem end_put (s : St) : (s.count 1 []).put 1 [] = s.join 1 := by simp [St.count, isPart, St.put]
theorem go_ends {s : St} {r : Bs} {T : Tree} (h : Ends s r T) (f N : Nat) : go (f + 1) N r s = .ok T := by
  obtain ⟨h1, h2, h3⟩ := h
  have hk : kindOf (skip r) = 1 := by rw [h1]; rfl
  have hw : wordOf (skip r) = [] := by rw [h1]; rfl
  simp only [go]
  rw [hk, hw, h2, if_neg (by simp), if_pos rfl, end_put, h3]
  rfl
/-- A word too many. -/
def Many (s : St) (r : Bs) : Prop := s.errOf (kindOf (skip r)) (wordOf (skip r)) = 5
theorem go_many {s : St} {r : Bs} (h : Many s r) (f N : Nat) : go (f + 1) N r s = .err (N - (skip r).length) 5 := by
  unfold Many at h
  simp only [go]
  rw [h, if_pos (by decide)]
theorem run_inv {s s' : St} {r r' : Bs} (h : Run s r s' r') : s.Inv → s.Bal → s'.Inv ∧ s'.Bal ∧ s.parts ≤ s'.parts := by
  induction h with
  | refl => exact fun a b => ⟨a, b, Nat.le_refl _⟩
  | @cons s s1 s2 r r1 r2 a _ ih =>
    intro hi hb
    obtain ⟨h1, he, rfl, rfl⟩ := a
    have hz := err_zero he
    have hfew : s.parts ≤ 64 := by have := hi.few; unfold St.Bal at hb; omega
    obtain ⟨i1, i2, -⟩ := put_inv hi hb (way_of (tok_ok _) hz.1) (fun hp => by have := hz.2 hp; omega)
    obtain ⟨j1, j2, j3⟩ := ih i1 i2
    refine ⟨j1, j2, Nat.le_trans ?_ j3⟩
    have e : ((s.count (kindOf (skip r)) (wordOf (skip r))).put (kindOf (skip r)) (wordOf (skip r))).parts = (s.count (kindOf (skip r)) (wordOf (skip r))).parts := by
      unfold St.put
      repeat' split
      all_goals rfl
    rw [e, count_eq]
    simp
theorem ok_run : ∀ (f N : Nat) (r : Bs) (s : St) (T : Tree), s.Inv → s.Bal → go f N r s = .ok T → ∃ s' r', Run s r s' r' ∧ Ends s' r' T
  | 0, _, _, _, _, _, _, h => by simp [go] at h
  | f + 1, N, r, s, T, hi, hb, h => by
    simp only [go] at h
    by_cases he : s.errOf (kindOf (skip r)) (wordOf (skip r)) = 0
    · rw [he, if_neg (by simp)] at h
      by_cases h1 : kindOf (skip r) = 1
      · rw [if_pos h1] at h
        have hr : skip r = [] := by
          unfold kindOf at h1
          by_cases e : skip r = []
          · exact e
          · rw [if_neg e] at h1
            rcases meas_kind (skip r) with h2 | h2 | h2 | h2 <;> omega
        have hw : wordOf (skip r) = [] := by rw [hr]; rfl
        rw [h1, hw] at he
        have hz := (err_zero he).1
        simp [St.allows] at hz
        obtain ⟨T', hv, -⟩ := fin_one hi hz.1 hz.2
        rw [end_put, hv] at h
        simp at h
        subst h
        exact ⟨s, r, .refl _ _, hr, he, hv⟩
      · rw [if_neg h1] at h
        have hst : Step s r _ _ := ⟨h1, he, rfl, rfl⟩
        obtain ⟨i1, i2, -⟩ := run_inv (.one hst) hi hb
        obtain ⟨s', r', hR, hE⟩ := ok_run f N _ _ T i1 i2 h
        exact ⟨s', r', .cons hst hR, hE⟩
    · rw [if_pos he] at h; cases h
theorem parse_run {l : Bs} {T : Tree} (h : parse l = .ok T) : l.length ≤ 200 ∧ ∃ s' r', Run St.init l s' r' ∧ Ends s' r' T := by
  unfold parse at h
  by_cases h2 : 200 < l.length
  · rw [if_pos h2] at h; cases h
  · rw [if_neg h2] at h
    exact ⟨by omega, ok_run _ _ _ _ _ init_inv.1 init_inv.2 h⟩
theorem run_parse {l : Bs} {T : Tree} (hl : l.length ≤ 200) {s' : St} {r' : Bs} (hR : Run St.init l s' r') (hE : Ends s' r' T) : parse l = .ok T := by
  unfold parse
  rw [if_neg (by omega)]
  obtain ⟨f', hf, e⟩ := go_run hR (l.length + 1) l.length (by omega)
  obtain ⟨f', rfl⟩ : ∃ g, f' = g + 1 := ⟨f' - 1, by omega⟩
  rw [e, go_ends hE]
theorem run_many {l : Bs} (hl : l.length ≤ 200) {s' : St} {r' : Bs} (hR : Run St.init l s' r') (hE : Many s' r') : ∃ pos, parse l = .err pos 5 := by
  unfold parse
  rw [if_neg (by omega)]
  obtain ⟨f', hf, e⟩ := go_run hR (l.length + 1) l.length (by omega)
  obtain ⟨f', rfl⟩ : ∃ g, f' = g + 1 := ⟨f' - 1, by omega⟩
  exact ⟨_, by rw [e, go_many hE]⟩
/-- An error lies in the text and is one of four. -/
theorem err_cases (s : St) (k : Nat) (t : Bs) : s.errOf k t = 0 ∨ s.errOf k t = 5 ∨ s.errOf k t = 40 ∨ s.errOf k t = 41 := by
  unfold St.errOf
  repeat' split
  all_goals simp
theorem go_err : ∀ (f N : Nat) (r : Bs) (s : St) (pos n : Nat), r.length < f → go f N r s = .err pos n → pos ≤ N ∧ (n = 5 ∨ n = 40 ∨ n = 41)
  | 0, _, _, _, _, _, hf, _ => by omega
  | f + 1, N, r, s, pos, n, hf, h => by
    simp only [go] at h
    rcases err_cases s (kindOf (skip r)) (wordOf (skip r)) with he | he
    · rw [he, if_neg (by simp)] at h
      by_cases h1 : kindOf (skip r) = 1
      · rw [if_pos h1] at h; cases h
      · rw [if_neg h1] at h
        have hst : Step s r _ _ := ⟨h1, he, rfl, rfl⟩
        have := hst.shorter
        exact go_err f N _ _ pos n (by omega) h
    · rw [if_pos (by omega)] at h
      injection h with h3 h4
      exact ⟨by omega, by omega⟩
theorem parse_errs {l : Bs} {pos n : Nat} (h : parse l = .err pos n) : pos ≤ l.length ∧ (n = 2 ∨ n = 5 ∨ n = 40 ∨ n = 41) := by
  unfold parse at h
  by_cases h2 : 200 < l.length
  · rw [if_pos h2] at h; injection h with h3 h4; exact ⟨by omega, by omega⟩
  · rw [if_neg h2] at h
    obtain ⟨a, b⟩ := go_err _ _ _ _ _ _ (by omega) h
    exact ⟨a, .inr b⟩
end Go.Proofs.YtlkaaembeakicaaDoor.Ex
