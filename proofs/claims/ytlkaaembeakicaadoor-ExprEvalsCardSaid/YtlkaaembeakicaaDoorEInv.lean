/-
  What the machine of two stacks keeps. Conditions: none; nothing of a program.
-/
import Derived.Test.YtlkaaembeakicaaDoorELevel
import Derived.Lib.ItoaLen
namespace Go.Proofs.YtlkaaembeakicaaDoor.Ex
open Go.RowKit
namespace Tree
/-- Trees as texts say them. -/
def WF : Tree → Prop
  | num k => k < 1000000000000000000
  | name c => c = 110 ∨ c = 116 ∨ c = 118
  | pre s x => (s = [45] ∨ s = [33]) ∧ x.WF
  | bin s a b => s ∈ ops ∧ a.WF ∧ b.WF
theorem size_pos : ∀ T : Tree, 0 < T.size
  | num _ => by simp [size]
  | name _ => by simp [size]
  | pre _ _ => by simp only [size]; omega
  | bin _ _ _ => by simp only [size]; omega
end Tree
theorem ops_len {s : Bs} (h : s ∈ ops) : s.length ≤ 2 ∧ 0 < s.length := by
  simp only [ops, List.mem_cons, List.not_mem_nil, or_false] at h
  rcases h with h | h | h | h | h | h | h | h | h | h | h | h | h <;> rw [h] <;> simp
theorem text_le : ∀ {T : Tree}, T.WF → T.text.length ≤ 30 * T.size
  | .num k, h => by
    have hk : k < 1000000000000000000 := h
    have := Lib.itoa_length_le (k : Int) (by omega) (by omega)
    unfold Lib.itoa at this
    rw [if_neg (by omega)] at this
    simp only [Int.toNat_natCast] at this
    simp only [Tree.text, Tree.size]
    omega
  | .name _, _ => by simp [Tree.text, Tree.size]
  | .pre s x, ⟨h1, h2⟩ => by
    have := text_le h2
    have hs : s.length = 1 := by rcases h1 with rfl | rfl <;> rfl
    simp only [Tree.text, Tree.size, List.length_append]
    omega
  | .bin s a b, ⟨h1, h2, h3⟩ => by
    have h4 := text_le h2
    have h5 := text_le h3
    have h6 := ops_len h1
    simp only [Tree.text, Tree.size, List.length_append, List.length_cons, List.length_nil]
    omega
/-- A sign that waits, with its level. -/
def WOK (q : Bs × Nat) : Prop := (q.2 = 0 ∧ q.1 = [40]) ∨ (q.2 = 6 ∧ (q.1 = [45] ∨ q.1 = [33])) ∨ (1 ≤ q.2 ∧ q.2 ≤ 5 ∧ q.1 ∈ ops ∧ q.2 = levelOf q.1)
def nb : List (Bs × Nat) → Nat
  | [] => 0
  | q :: r => (if q.2 = 0 ∨ q.2 = 6 then 0 else 1) + nb r
def no : List (Bs × Nat) → Nat
  | [] => 0
  | q :: r => (if q.2 = 0 then 1 else 0) + no r
def nz : List (Bs × Nat) → Nat
  | [] => 0
  | q :: r => (if q.2 = 0 then 0 else 1) + nz r
def tot : List Tree → Nat
  | [] => 0
  | T :: r => T.size + tot r
theorem tot_mem : ∀ {l : List Tree} {T : Tree}, T ∈ l → T.size ≤ tot l
  | x :: r, T, h => by
    simp only [List.mem_cons] at h
    simp only [tot]
    rcases h with rfl | h
    · omega
    · have := tot_mem h; omega
theorem tot_len : ∀ l : List Tree, l.length ≤ tot l
  | [] => by simp
  | T :: r => by have := tot_len r; have := T.size_pos; simp only [tot, List.length_cons]; omega
structure St.Inv (s : St) : Prop where
  wf : ∀ T ∈ s.vals, T.WF
  ws : ∀ q ∈ s.waits, WOK q
  len : s.vals.length = nb s.waits + (if s.complete then 1 else 0)
  opn : s.opn = no s.waits
  few : tot s.vals + nz s.waits ≤ 64
theorem St.Inv.small {s : St} (h : s.Inv) {T : Tree} (hT : T ∈ s.vals) : T.size ≤ 64 ∧ T.text.length ≤ 1920 := by
  have h1 := tot_mem hT
  have h2 := text_le (h.wf T hT)
  have h4 := h.few
  omega
theorem St.Inv.count {s : St} (h : s.Inv) : s.vals.length ≤ 64 := by
  have h1 := tot_len s.vals
  have h4 := h.few
  omega
/-- One operator is applied. -/
theorem inv_pre {s : St} (h : s.Inv) (hc : s.complete = true) {t : Bs} {ws : List (Bs × Nat)} (hw : s.waits = (t, 6) :: ws) :
    ∃ T r, s.vals = T :: r ∧ (t = [45] ∨ t = [33]) ∧ ({ s with vals := .pre t T :: r, waits := ws } : St).Inv := by
  have hl := h.len
  rw [hc, if_pos rfl] at hl
  cases hv : s.vals with
  | nil => rw [hv] at hl; simp at hl
  | cons T r =>
    have ht : t = [45] ∨ t = [33] := by
      rcases h.ws (t, 6) (by rw [hw]; simp) with h1 | h1 | h1
      · exact absurd h1.1 (by simp)
      · exact h1.2
      · exact absurd h1.2.1 (by simp)
    refine ⟨T, r, rfl, ht, ?_, ?_, ?_, ?_, ?_⟩
    · intro U hU
      simp only [List.mem_cons] at hU
      rcases hU with rfl | hU
      · exact ⟨ht, h.wf T (by rw [hv]; simp)⟩
      · exact h.wf U (by rw [hv]; simp [hU])
    · exact fun q hq => h.ws q (by rw [hw]; simp [hq])
    · rw [hv, hw] at hl
      simp only [hc, if_pos]
      simpa [nb] using hl
    · have := h.opn
      rw [hw] at this
      simpa [no] using this
    · have := h.few
      rw [hv, hw] at this
      simp only [tot, nz, Tree.size] at this ⊢
      simp at this ⊢; omega
theorem inv_bin {s : St} (h : s.Inv) (hc : s.complete = true) {t : Bs} {l : Nat} {ws : List (Bs × Nat)} (hw : s.waits = (t, l) :: ws) (h0 : l ≠ 0) (h6 : l ≠ 6) :
    ∃ B A r, s.vals = B :: A :: r ∧ t ∈ ops ∧ ({ s with vals := .bin t A B :: r, waits := ws } : St).Inv := by
  have hl := h.len
  rw [hc, if_pos rfl, hw] at hl
  simp only [nb, h0, h6, or_self, if_false] at hl
  have ht : t ∈ ops := by
    rcases h.ws (t, l) (by rw [hw]; simp) with h1 | h1 | h1
    · exact absurd h1.1 h0
    · exact absurd h1.1 h6
    · exact h1.2.2.1
  match hv : s.vals with
  | [] => rw [hv] at hl; simp at hl
  | [_] => rw [hv] at hl; simp at hl
  | B :: A :: r =>
    refine ⟨B, A, r, rfl, ht, ?_, ?_, ?_, ?_, ?_⟩
    · intro U hU
      simp only [List.mem_cons] at hU
      rcases hU with rfl | hU
      · exact ⟨ht, h.wf A (by rw [hv]; simp), h.wf B (by rw [hv]; simp)⟩
      · exact h.wf U (by rw [hv]; simp [hU])
    · exact fun q hq => h.ws q (by rw [hw]; simp [hq])
    · rw [hv] at hl
      simp only [hc, if_pos]
      simp at hl ⊢
      omega
    · have := h.opn
      rw [hw] at this
      simpa [no, h0] using this
    · have := h.few
      rw [hv, hw] at this
      simp only [tot, nz, Tree.size, h0, if_false] at this ⊢
      omega
theorem joinL_stop {level : Nat} {vs : List Tree} {t : Bs} {l : Nat} {ws : List (Bs × Nat)} (h : ¬ level ≤ l) : joinL level vs ((t, l) :: ws) = (vs, (t, l) :: ws) := by simp [joinL, h]
theorem joinL_pre {level : Nat} {T : Tree} {r : List Tree} {t : Bs} {ws : List (Bs × Nat)} (h : level ≤ 6) : joinL level (T :: r) ((t, 6) :: ws) = joinL level (.pre t T :: r) ws := by simp [joinL, h, app]
theorem joinL_bin {level : Nat} {A B : Tree} {r : List Tree} {t : Bs} {l : Nat} {ws : List (Bs × Nat)} (h : level ≤ l) (h6 : l ≠ 6) : joinL level (B :: A :: r) ((t, l) :: ws) = joinL level (.bin t A B :: r) ws := by simp [joinL, h, app, h6]
/-- Joining counts nothing twice, and stops at what is open. -/
theorem joinL_inv {level : Nat} (h1 : 1 ≤ level) (h6 : level ≤ 6) : ∀ (ws : List (Bs × Nat)) (s : St), s.waits = ws → s.Inv → s.complete = true →
    (s.join level).Inv ∧ tot (s.join level).vals + nz (s.join level).waits = tot s.vals + nz s.waits ∧ (s.join level).waits.length ≤ s.waits.length ∧ (∀ q r, (s.join level).waits = q :: r → q.2 < level)
  | [], s, hw, hi, hc => by
    have e : s.join level = s := by unfold St.join; rw [hw]; cases s; simp only at hw; subst hw; rfl
    rw [e]
    exact ⟨hi, rfl, Nat.le_refl _, fun q r h => by rw [hw] at h; cases h⟩
  | (t, l) :: ws, s, hw, hi, hc => by
    by_cases hle : level ≤ l
    · by_cases hl : l = 6
      · subst hl
        obtain ⟨T, r, hv, ht, hi2⟩ := inv_pre hi hc hw
        have e : s.join level = ({ s with vals := .pre t T :: r, waits := ws } : St).join level := by
          unfold St.join; rw [hv, hw, joinL_pre h6]
        obtain ⟨a, b, c, d⟩ := joinL_inv h1 h6 ws _ rfl hi2 hc
        rw [e]
        refine ⟨a, b.trans ?_, Nat.le_trans c (by rw [hw]; simp), d⟩
        rw [hv, hw]
        simp [tot, nz, Tree.size]; omega
      · obtain ⟨B, A, r, hv, ht, hi2⟩ := inv_bin hi hc hw (by omega) hl
        have e : s.join level = ({ s with vals := .bin t A B :: r, waits := ws } : St).join level := by
          unfold St.join; rw [hv, hw, joinL_bin hle hl]
        obtain ⟨a, b, c, d⟩ := joinL_inv h1 h6 ws _ rfl hi2 hc
        rw [e]
        refine ⟨a, b.trans ?_, Nat.le_trans c (by rw [hw]; simp), d⟩
        rw [hv, hw]
        simp only [tot, nz, Tree.size]
        rw [if_neg (by omega)]; omega
    · have e : s.join level = s := by unfold St.join; rw [hw, joinL_stop hle]; cases s; simp only at hw; subst hw; rfl
      rw [e]
      exact ⟨hi, rfl, Nat.le_refl _, fun q r h => by rw [hw] at h; injection h with h _; subst h; simp; omega⟩
theorem St.join_complete (s : St) (level : Nat) : (s.join level).complete = s.complete ∧ (s.join level).opn = s.opn ∧ (s.join level).parts = s.parts := ⟨rfl, rfl, rfl⟩
end Go.Proofs.YtlkaaembeakicaaDoor.Ex
