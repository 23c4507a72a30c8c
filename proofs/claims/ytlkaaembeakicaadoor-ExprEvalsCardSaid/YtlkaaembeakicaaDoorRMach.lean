/-
  The document's reader holds the same machine: its parts are trees by their numbers. Conditions: as the statements say.
-/
import Derived.Test.YtlkaaembeakicaaDoorRApply
namespace Go.Proofs.YtlkaaembeakicaaDoor.Ex
open Go.RowKit
def wtx (q : Bs × Nat) : Bs := if q.1 = [45] ∧ q.2 = 6 then [126] else q.1
def pre1 (s : Bs) : Bs := if s = [45] then [126] else s
theorem wtx_rank {q : Bs × Nat} (h : WOK q) : rankOf (wtx q) = q.2 := by
  obtain ⟨t, l⟩ := q
  rcases h with ⟨h1, h2⟩ | ⟨h1, h2 | h2⟩ | ⟨h1, h2, h3, h4⟩
  · simp only at h1 h2; subst h1 h2; rfl
  · simp only at h1 h2; subst h1 h2; rfl
  · simp only at h1 h2; subst h1 h2; rfl
  · simp only at h1 h2 h3 h4
    have e : wtx (t, l) = t := by unfold wtx; rw [if_neg (fun e => by simp only at e; omega)]
    rw [e, h4]
    unfold rankOf
    rw [if_neg]
    rintro (e | e) <;> (subst e; revert h3; decide)
theorem wtx_open {q : Bs × Nat} (h : WOK q) : (wtx q = [40]) ↔ q.2 = 0 := by
  obtain ⟨t, l⟩ := q
  rcases h with ⟨h1, h2⟩ | ⟨h1, h2 | h2⟩ | ⟨h1, h2, h3, h4⟩
  · simp only at h1 h2; subst h1 h2; decide
  · simp only at h1 h2; subst h1 h2; decide
  · simp only at h1 h2; subst h1 h2; decide
  · simp only at h1 h2 h3 h4
    have e : wtx (t, l) = t := by unfold wtx; rw [if_neg (fun e => by simp only at e; omega)]
    rw [e]
    refine ⟨fun e => by subst e; exact absurd h3 (by decide), fun e => by simp only at e; omega⟩
/-- A part stands for a tree, its parts for the tree's. -/
def Fit (Ts : List Tree) (i : Nat) (nd : Nd) : Tree → Prop
  | .num k => nd.op = [48] ∧ nd.n = k
  | .name c => nd.op = [c]
  | .pre s a => nd.op = pre1 s ∧ nd.l < i ∧ Ts[nd.l]? = some a
  | .bin s a b => nd.op = s ∧ nd.l < i ∧ nd.r < i ∧ Ts[nd.l]? = some a ∧ Ts[nd.r]? = some b
theorem get_more {Ts : List Tree} {i : Nat} {T : Tree} (h : Ts[i]? = some T) (M : List Tree) : (Ts ++ M)[i]? = some T := by
  have := (List.getElem?_eq_some_iff.1 h).1
  rw [List.getElem?_append_left this]; exact h
theorem Fit.more {Ts : List Tree} {i : Nat} {nd : Nd} : ∀ {T : Tree}, Fit Ts i nd T → ∀ M, Fit (Ts ++ M) i nd T
  | .num _, h, _ => h
  | .name _, h, _ => h
  | .pre _ _, ⟨a, b, c⟩, M => ⟨a, b, get_more c M⟩
  | .bin _ _ _, ⟨a, b, c, d, e⟩, M => ⟨a, b, c, get_more d M, get_more e M⟩
structure Good (L : List Nd) (Ts : List Tree) : Prop where
  len : L.length = Ts.length
  wf : ∀ T ∈ Ts, T.WF
  fit : ∀ i nd T, L[i]? = some nd → Ts[i]? = some T → Fit Ts i nd T
  small : ∀ T ∈ Ts, T.size ≤ 64
theorem Good.push {L : List Nd} {Ts : List Tree} (h : Good L Ts) {nd : Nd} {T : Tree} (hT : T.WF) (hz : T.size ≤ 64) (hf : Fit Ts L.length nd T) : Good (L ++ [nd]) (Ts ++ [T]) where
  len := by simp [h.len]
  wf := fun U hU => by
    simp only [List.mem_append, List.mem_singleton] at hU
    rcases hU with hU | rfl
    · exact h.wf U hU
    · exact hT
  fit := fun i md U h1 h2 => by
    by_cases hi : i < L.length
    · rw [List.getElem?_append_left hi] at h1
      rw [List.getElem?_append_left (by rw [← h.len]; exact hi)] at h2
      exact (h.fit i md U h1 h2).more _
    · have : i < (L ++ [nd]).length := (List.getElem?_eq_some_iff.1 h1).1
      have e : i = L.length := by simp at this; omega
      subst e
      rw [List.getElem?_append_right (Nat.le_refl _)] at h1
      rw [List.getElem?_append_right (by rw [h.len]; exact Nat.le_refl _), h.len] at h2
      simp at h1 h2
      subst h1 h2
      exact hf.more _
  small := fun U hU => by
    simp only [List.mem_append, List.mem_singleton] at hU
    rcases hU with hU | rfl
    · exact h.small U hU
    · exact hz
def At (Ts : List Tree) : List Nat → List Tree → Prop
  | [], [] => True
  | i :: is, T :: r => Ts[i]? = some T ∧ At Ts is r
  | _, _ => False
theorem At.more {Ts : List Tree} : ∀ {is : List Nat} {r : List Tree}, At Ts is r → ∀ M, At (Ts ++ M) is r
  | [], [], _, _ => trivial
  | _ :: _, _ :: _, ⟨a, b⟩, M => ⟨get_more a M, At.more b M⟩
theorem At.len {Ts : List Tree} : ∀ {is : List Nat} {r : List Tree}, At Ts is r → is.length = r.length
  | [], [], _ => rfl
  | _ :: _, _ :: _, ⟨_, b⟩ => by simp [At.len b]
theorem get_new (Ts : List Tree) (T : Tree) {n : Nat} (h : n = Ts.length) : (Ts ++ [T])[n]? = some T := by subst h; simp
/-- The reader holds the machine's state. -/
def RM (w0 : World) (p x : Nat) (s : St) (w : World) : Prop :=
  ∃ L Ts is vL vV vW, RX w0 p x L is (s.waits.map wtx) 0 vL vV vW w ∧ Good L Ts ∧ At Ts is s.vals ∧ L.length = tot s.vals
theorem RM.grow {w0 w w' : World} {p x : Nat} {s : St} (h : RM w0 p x s w) (hb : Below w.heap.size w w') : RM w0 p x s w' := by
  obtain ⟨L, Ts, is, vL, vV, vW, hx, h1, h2, h3⟩ := h
  exact ⟨L, Ts, is, vL, vV, vW, hx.grow hb, h1, h2, h3⟩
theorem RM.drewN {w0 w : World} {p x : Nat} {s : St} (h : RM w0 p x s w) (n : Nat) : RM w0 p x s (w.drewN n) := h.grow ⟨rfl, rfl, rfl, Nat.le_refl _, fun _ _ => rfl⟩
/-- The operator that waits last is applied. -/
theorem apply_any {w0 w : World} {p x : Nat} {s : St} (h : RM w0 p x s w) (hi : s.Inv) (hc : s.complete = true) {t : Bs} {l : Nat} {ws : List (Bs × Nat)} (hw : s.waits = (t, l) :: ws) (h0 : l ≠ 0) (hn : ws.length ≤ 1000) :
    Calls Tryd.prog 36 #[ptr p] w fun e w' => e = .returned (.tuple #[]) ∧ RM w0 p x { s with vals := app t l s.vals, waits := ws } w' ∧ ({ s with vals := app t l s.vals, waits := ws } : St).Inv := by
  obtain ⟨L, Ts, is, vL, vV, vW, hx, hg, ha, hl⟩ := h
  have h64 : L.length ≤ 64 := by have := hi.few; omega
  by_cases h6 : l = 6
  · subst h6
    obtain ⟨T, r, hv, ht, hi2⟩ := inv_pre hi hc hw
    rw [hv] at ha hl
    obtain ⟨i, is, rfl⟩ : ∃ i js, is = i :: js := by cases is with | nil => exact ha.elim | cons i js => exact ⟨i, js, rfl⟩
    obtain ⟨a1, a2⟩ := ha
    have hlen := a2.len
    have hr : r.length ≤ 64 := by have := tot_len r; simp only [tot] at hl; omega
    have e : wtx (t, 6) = pre1 t := by unfold wtx pre1; simp
    have hpt : (⟨(pre1 t).toArray⟩ : ByteArray) = ⟨#[126]⟩ ∨ (⟨(pre1 t).toArray⟩ : ByteArray) = ⟨#[33]⟩ := by
      rcases ht with rfl | rfl
      · exact .inl rfl
      · exact .inr rfl
    rw [hw, List.map_cons, e] at hx
    have hTW : T.WF := hi.wf T (by rw [hv]; simp)
    refine (apply_pre (t := ⟨(pre1 t).toArray⟩) hpt (by simpa using hx) (by omega) (by omega) (by simpa using hn)).mono ?_
    rintro e w' ⟨rfl, vL', vV', vW', hx'⟩
    have eapp : app t 6 s.vals = .pre t T :: r := by rw [hv]; rfl
    rw [eapp]
    refine ⟨rfl, ⟨_, Ts ++ [.pre t T], _, vL', vV', vW', hx', ?_, ⟨get_new _ _ hg.len, a2.more _⟩, ?_⟩, hi2⟩
    · exact hg.push ⟨ht, hTW⟩ (by have := hi2.few; simp only [tot] at this; omega) ⟨by simp, by rw [hg.len]; exact (List.getElem?_eq_some_iff.1 a1).1, a1⟩
    · simp only [List.length_append, List.length_singleton, tot, Tree.size] at hl ⊢; omega
  · obtain ⟨B, A, r, hv, ht, hi2⟩ := inv_bin hi hc hw h0 h6
    rw [hv] at ha hl
    obtain ⟨j, i, is, rfl⟩ : ∃ j i js, is = j :: i :: js := by
      cases is with
      | nil => exact ha.elim
      | cons j js =>
        cases js with
        | nil => exact ha.2.elim
        | cons i js => exact ⟨j, i, js, rfl⟩
    obtain ⟨a1, a2, a3⟩ := ha
    have hlen := a3.len
    have hr : r.length ≤ 64 := by have := tot_len r; simp only [tot] at hl; omega
    have e : wtx (t, l) = t := by unfold wtx; rw [if_neg (fun e => h6 e.2)]
    rw [hw, List.map_cons, e] at hx
    have hAW : A.WF := hi.wf A (by rw [hv]; simp)
    have hBW : B.WF := hi.wf B (by rw [hv]; simp)
    refine (apply_bin (t := ⟨t.toArray⟩) (by simpa using ht) (by simpa using hx) (by omega) (by omega) (by simpa using hn)).mono ?_
    rintro e w' ⟨rfl, vL', vV', vW', hx'⟩
    have eapp : app t l s.vals = .bin t A B :: r := by rw [hv]; simp [app, h6]
    rw [eapp]
    refine ⟨rfl, ⟨_, Ts ++ [.bin t A B], _, vL', vV', vW', hx', ?_, ⟨get_new _ _ hg.len, a3.more _⟩, ?_⟩, hi2⟩
    · exact hg.push ⟨ht, hAW, hBW⟩ (by have := hi2.few; simp only [tot] at this; omega) ⟨by simp, by rw [hg.len]; exact (List.getElem?_eq_some_iff.1 a2).1, by rw [hg.len]; exact (List.getElem?_eq_some_iff.1 a1).1, a2, a1⟩
    · simp only [List.length_append, List.length_singleton, tot, Tree.size] at hl ⊢; omega
end Go.Proofs.YtlkaaembeakicaaDoor.Ex
