/-
  Sessions of times that follow one another, in mathematics and as two rows of one's own in memory. Conditions: as each theorem names them.
-/
import Derived.Test.YtfkdkcdknpjoeaaWApp
import Derived.OneCell
import Derived.Laws.OwnMore
namespace Go.Proofs.Ytfkdkcdknpjoeaa.Wi
set_option linter.unusedVariables false
set_option linter.unusedSimpArgs false
open Go.RowKit

/-- The spans A of times up to t are, merged, W; W's last one ends a gap behind t. -/
structure Ch (g t : Int) (A W : List Sp) : Prop where
  ok : ∀ s ∈ A, s.1 < s.2
  srt : Srt W
  alike : Alike A W
  last : ∃ W0 f, W = W0 ++ [(f, t + g)] ∧ f ≤ t
theorem Ch.is {g t : Int} {A W : List Sp} (h : Ch g t A W) : mg A = W := mg_is h.ok h.srt h.alike
theorem ch_start {g t : Int} (hg : 1 ≤ g) : Ch g t [(t, t + g)] [(t, t + g)] :=
  ⟨fun s hs => by rw [List.mem_singleton.1 hs]; show t < t + g; omega, ⟨fun s hs => by rw [List.mem_singleton.1 hs]; show t < t + g; omega, List.pairwise_singleton _ _⟩, Alike.refl _, [], t, rfl, Int.le_refl _⟩
theorem ok_snoc {A : List Sp} {q : Sp} (h : ∀ s ∈ A, s.1 < s.2) (hq : q.1 < q.2) : ∀ s ∈ A ++ [q], s.1 < s.2 := fun s hs => by
  rcases List.mem_append.1 hs with h1 | h1
  · exact h s h1
  · rw [List.mem_singleton.1 h1]; exact hq
theorem Ch.far {g t u : Int} {A W : List Sp} (h : Ch g t A W) (hg : 1 ≤ g) (hu : t + g ≤ u) : Ch g u (A ++ [(u, u + g)]) (W ++ [(u, u + g)]) := by
  obtain ⟨h1, h2, h3, W0, f, rfl, hf⟩ := h
  have hq : ((u, u + g) : Sp).1 < ((u, u + g) : Sp).2 := by show u < u + g; omega
  refine ⟨ok_snoc h1 hq, ⟨ok_snoc h2.1 hq, ?_⟩, Alike.append h3 (Alike.refl _), _, u, rfl, Int.le_refl _⟩
  rw [List.pairwise_append]
  refine ⟨h2.2, List.pairwise_singleton _ _, fun a ha b hb => ?_⟩
  rw [List.mem_singleton.1 hb]
  show a.2 ≤ u
  rcases List.mem_append.1 ha with ha | ha
  · have := (List.pairwise_append.1 h2.2).2.2 a ha (f, t + g) (by simp)
    dsimp only at this
    omega
  · rw [List.mem_singleton.1 ha]; exact hu
theorem Ch.near {g t u : Int} {A W0 : List Sp} {f : Int} (h : Ch g t A (W0 ++ [(f, t + g)])) (hg : 1 ≤ g) (htu : t ≤ u) (hu : u < t + g) : Ch g u (A ++ [(u, u + g)]) (W0 ++ [(f, u + g)]) := by
  obtain ⟨h1, h2, h3, W1, f1, hw, hf⟩ := h
  obtain ⟨-, e2⟩ := List.append_inj' hw rfl
  simp only [List.cons.injEq, Prod.mk.injEq, and_true] at e2
  subst e2
  have hq : ((u, u + g) : Sp).1 < ((u, u + g) : Sp).2 := by show u < u + g; omega
  have hq2 : ((f, u + g) : Sp).1 < ((f, u + g) : Sp).2 := by show f < u + g; omega
  have hp := List.pairwise_append.1 h2.2
  refine ⟨ok_snoc h1 hq, ⟨ok_snoc (fun s hs => h2.1 s (List.mem_append_left _ hs)) hq2, ?_⟩, ?_, _, f, rfl, by omega⟩
  · rw [List.pairwise_append]
    refine ⟨hp.1, List.pairwise_singleton _ _, fun a ha b hb => ?_⟩
    rw [List.mem_singleton.1 hb]
    have := hp.2.2 a ha (f, t + g) (by simp)
    exact this
  · refine (Alike.append h3 (Alike.refl [(u, u + g)])).trans ?_
    rw [List.append_assoc]
    refine Alike.append (Alike.refl _) ?_
    have := hull_alike (a := (f, t + g)) (b := (u, u + g)) (by show f < t + g; omega) hq (share_iff.2 ⟨by show f < u + g; omega, by show u < t + g; omega⟩)
    have e : hull (f, t + g) (u, u + g) = (f, u + g) := by
      unfold hull
      simp only
      rw [show min u f = f by omega, show max (u + g) (t + g) = u + g by omega]
    rw [e] at this
    exact this
/-- Two rows of spans of one's own, apart. -/
structure Two (w : World) (B : Nat) (v u : Value) (A W : List Sp) : Prop where
  r1 : w.ownsRow B 34 2 v A.length (scs A)
  r2 : w.ownsRow B 34 2 u W.length (scs W)
  ne : ∀ k, v.ownBlock = some k → u.ownBlock ≠ some k
theorem Two.swap {w : World} {B : Nat} {v u : Value} {A W : List Sp} (h : Two w B v u A W) : Two w B u v W A := ⟨h.r2, h.r1, fun k e e' => h.ne k e' e⟩
theorem Two.grow {w w' : World} {B : Nat} {v u : Value} {A W : List Sp} (h : Two w B v u A W) (hb : Below w.heap.size w w') : Two w' B v u A W := ⟨ownsRow_below h.r1 hb, ownsRow_below h.r2 hb, h.ne⟩
theorem Two.push {w w' : World} {B g cap : Nat} {v u : Value} {A W : List Sp} {q : Sp} (h : Two w B v u A W) (hown : w'.ownsRow B 34 2 (.slice (some ⟨g, 0, none⟩) (A ++ [q]).length cap) (A ++ [q]).length (scs (A ++ [q]))) (hgr : w.grownBy w' v.ownBlock) (hg : v.ownBlock = some g ∨ w.heap.size ≤ g) : Two w' B (.slice (some ⟨g, 0, none⟩) (A ++ [q]).length cap) u (A ++ [q]) W := by
  refine ⟨hown, h.r2.kept hgr ?_, fun k e e' => ?_⟩
  · cases hu : u.ownBlock with
    | none => exact .inl rfl
    | some k => exact .inr (fun e => h.ne k e.symm hu)
  · simp only [Value.ownBlock, Option.some.injEq] at e
    subst e
    rcases hg with h1 | h1
    · exact h.ne _ h1 e'
    · have := (h.r2.lt _ e').2
      omega
theorem scs_set {W0 : List Sp} {f t u : Int} : (scs (W0 ++ [(f, t)])).set (W0.length * 2 + 1) (.int .i64 u) = scs (W0 ++ [(f, u)]) := by
  rw [scs_append, scs_append, List.set_append_right _ _ (by rw [scs_len]; omega), scs_len]
  rw [show W0.length * 2 + 1 - W0.length * 2 = 1 by omega]
  rfl
theorem Two.turn {w : World} {B g n cap : Nat} {v : Value} {A W0 : List Sp} {f t : Int} (h : Two w B v (.slice (some ⟨g, 0, none⟩) n cap) A (W0 ++ [(f, t)])) (u : Int) :
    Two (w.setCell ⟨g, W0.length * 2 + 1, none⟩ (.int .i64 u)) B v (.slice (some ⟨g, 0, none⟩) n cap) A (W0 ++ [(f, u)]) := by
  have hlen : (W0 ++ [(f, t)]).length = (W0 ++ [(f, u)]).length := by simp
  have hn : n = (W0 ++ [(f, t)]).length := by
    obtain ⟨a, c, e, -⟩ := row_slice h.r2
    injection e
  have h2 := h.r2
  rw [← hn] at h2
  have hs := World.ownsRow.stored h2 (W0.length * 2 + 1) (.int .i64 u)
  rw [scs_set] at hs
  refine ⟨ownsRow_setCell_other h.r1 (fun e => h.ne g e rfl) _, ?_, h.ne⟩
  rw [← hlen, ← hn]
  exact hs.1
theorem Two.last {w : World} {B g n cap : Nat} {v : Value} {A W0 : List Sp} {f t : Int} (h : Two w B v (.slice (some ⟨g, 0, none⟩) n cap) A (W0 ++ [(f, t)])) :
    n = W0.length + 1 ∧ n ≤ cap ∧ w.cell? ⟨g, W0.length * 2 + 1, none⟩ = some (.int .i64 t) ∧ w.frozen? ⟨g, W0.length * 2 + 1, none⟩ = false ∧ B ≤ g := by
  have hn : n = W0.length + 1 := by
    obtain ⟨a, c, e, -⟩ := row_slice h.r2
    injection e with _ e _
    simpa using e
  have h2 := h.r2
  rw [show (W0 ++ [(f, t)]).length = n by simp [hn]] at h2
  refine ⟨hn, ?_, ?_, h2.frozenAt _, (h2.lt g rfl).1⟩
  · rcases h2.2 with ⟨e, -⟩ | ⟨g', cap', cur, e, -, -, hnc, -⟩
    · simp at e
    · injection e with _ _ e
      subst e
      exact hnc
  · have hl : (scs (W0 ++ [(f, t)]))[W0.length * 2 + 1]? = some (.int .i64 t) := by
      rw [scs_append, List.getElem?_append_right (by rw [scs_len]; omega), scs_len]
      rw [show W0.length * 2 + 1 - W0.length * 2 = 1 by omega]
      rfl
    rw [h2.cellAt _ (by rw [hn]; omega), hl]
end Go.Proofs.Ytfkdkcdknpjoeaa.Wi
