/-
  Files by name: what put does to get, to the order, to what holds of every disk; how a file is turned and added in memory. Conditions: none but those that each theorem names.
-/
import Derived.Test.YtkiombbdddbkfaaApp
namespace Go.Proofs.Ytkiombbdddbkfaa.Dk
open Go.RowKit Go.Proofs.Ytkiombbdddbkfaa.Pk

theorem get_put_same (k : Nm) (f : Fl) : ∀ m, get (put k f m) k = some f
  | [] => by simp [put, get]
  | (n, g) :: r => by
    simp only [put]
    split
    · simp [get]
    · rename_i hne
      split
      · simp only [get, if_neg hne]; exact get_put_same k f r
      · simp [get]
theorem get_put_other {k j : Nm} (f : Fl) (h : j ≠ k) : ∀ m, get (put k f m) j = get m j
  | [] => by simp [put, get, Ne.symm h]
  | (n, g) :: r => by
    simp only [put]
    split
    · rename_i e; subst e; simp [get, Ne.symm h]
    · split
      · simp only [get, get_put_other f h r]
      · simp only [get, if_neg (Ne.symm h)]
theorem get_put (k j : Nm) (f : Fl) (m : List (Nm × Fl)) : get (put k f m) j = if j = k then some f else get m j := by
  by_cases h : j = k
  · subst h; rw [if_pos rfl, get_put_same]
  · rw [if_neg h, get_put_other f h]
theorem length_put_le (k : Nm) (f : Fl) : ∀ m, (put k f m).length ≤ m.length + 1 ∧ m.length ≤ (put k f m).length
  | [] => by simp [put]
  | (n, g) :: r => by
    have := length_put_le k f r
    simp only [put]
    split
    · simp
    · split
      · simp only [List.length_cons]; omega
      · simp
theorem length_put_new {k : Nm} (f : Fl) : ∀ {m}, get m k = none → (put k f m).length = m.length + 1
  | [], _ => by simp [put]
  | (n, g) :: r, h => by
    simp only [get] at h
    split at h
    · cases h
    · rename_i hne
      have := length_put_new f h
      simp only [put, if_neg hne]
      split
      · simp only [List.length_cons, this]
      · simp
theorem put_mem {k : Nm} {f : Fl} {p : Nm × Fl} : ∀ {m}, p ∈ put k f m → p = (k, f) ∨ p ∈ m
  | [], h => by simp [put] at h; exact .inl h
  | (n, g) :: r, h => by
    simp only [put] at h
    split at h
    · rcases List.mem_cons.1 h with h | h
      · exact .inl h
      · exact .inr (List.mem_cons_of_mem _ h)
    · split at h
      · rcases List.mem_cons.1 h with h | h
        · exact .inr (h ▸ List.mem_cons_self)
        · rcases put_mem h with h | h
          · exact .inl h
          · exact .inr (List.mem_cons_of_mem _ h)
      · rcases List.mem_cons.1 h with h | h
        · exact .inl h
        · exact .inr h
theorem nm_lt {n k : Nm} (h1 : ¬ n = k) (h2 : ¬ n < k) : k < n := by
  have h3 : k ≤ n := List.not_lt.mp h2
  refine List.not_le.mp fun h4 => h1 (List.le_antisymm h4 h3)
theorem sorted_put {k : Nm} {f : Fl} : ∀ {m}, Sorted m → Sorted (put k f m)
  | [], _ => by simp [put, Sorted]
  | (n, g) :: r, h => by
    unfold Sorted at h ⊢
    rw [List.map_cons, List.pairwise_cons] at h
    obtain ⟨h1, h2⟩ := h
    simp only [put]
    split
    · rename_i e; subst e
      rw [List.map_cons, List.pairwise_cons]; exact ⟨h1, h2⟩
    · rename_i hne
      split
      · rename_i hlt
        rw [List.map_cons, List.pairwise_cons]
        refine ⟨fun x hx => ?_, sorted_put (m := r) h2⟩
        obtain ⟨p, hp, rfl⟩ := List.mem_map.1 hx
        rcases put_mem hp with rfl | hp
        · exact hlt
        · exact h1 _ (List.mem_map.2 ⟨p, hp, rfl⟩)
      · rename_i hlt
        have hkn := nm_lt hne hlt
        rw [List.map_cons, List.pairwise_cons]
        refine ⟨fun x hx => ?_, by rw [List.map_cons, List.pairwise_cons]; exact ⟨h1, h2⟩⟩
        rw [List.map_cons] at hx
        rcases List.mem_cons.1 hx with rfl | hx
        · exact hkn
        · exact List.lt_trans hkn (h1 x hx)
theorem good_put {s : Ds} {k : Nm} {f : Fl} (h : Good s) (hk : isName k = true) (hs : f.safe ≤ f.data.length) (hl : f.data.length ≤ 16777216) : Good (withFile s k f) := by
  refine ⟨sorted_put h.sorted, fun p hp => ?_, fun p hp => ?_, fun p hp => ?_, h.fuse, h.keepLo, h.keepHi⟩
  all_goals rcases put_mem hp with rfl | hp
  · exact hk
  · exact h.names p hp
  · exact hs
  · exact h.safe p hp
  · exact hl
  · exact h.long p hp

section
variable {w w' : World} {S : Nat → Prop} {D : DataW Unit} {m : List (Nm × Fl)} {pl : Nm → Nat} {v : Nm → Value} {k : Nm} {f f' : Fl} {v' : Value}
/-- A file is turned: it keeps its row, or gets a new one. -/
theorem Held.set (hh : Held w S D m pl v) (hk : get m k = some f) (hfile : File w' (pl k) v' f') (hloc : ∀ g, v'.ownBlock = some g → (v k).ownBlock = some g ∨ w.heap.size ≤ g)
    (hkeep : ∀ b, S b → b ≠ pl k → (v k).ownBlock ≠ some b → w'.heap[b]? = w.heap[b]?) (hlt : ∀ b, S b → b < w.heap.size) :
    Held w' (fun b => S b ∨ v'.ownBlock = some b) D (put k f' m) pl (fun j => if j = k then v' else v j) := by
  have hfk := hh.file k f hk
  have some_of : ∀ j g, get (put k f' m) j = some g → ∃ g0, get m j = some g0 ∧ (j ≠ k → g0 = g) := fun j g hg => by
    rw [get_put] at hg
    by_cases hj : j = k
    · subst hj; exact ⟨f, hk, fun h => absurd rfl h⟩
    · rw [if_neg hj] at hg; exact ⟨g, hg, fun _ => rfl⟩
  have row_new : ∀ j g0, get m j = some g0 → j ≠ k → ∀ g, v'.ownBlock = some g → (v j).ownBlock = some g → False := fun j g0 hj hne g h1 h2 => by
    rcases hloc g h1 with h3 | h3
    · exact hne (hh.rows j k g0 f g hj hk h2 h3)
    · have := hlt g ((hh.foot j g0 hj).2 g h2); omega
  refine ⟨fun j => ?_, fun j g hg => ?_, fun j g hg => ?_, fun j j' g g' hg hg' => ?_, fun j j' g g' b hg hg' => ?_, fun j g hg => ?_⟩
  · rw [hh.has, get_put]
    by_cases hj : j = k
    · subst hj; rw [hk, if_pos rfl]; rfl
    · rw [if_neg hj]
  · obtain ⟨g0, h0, _⟩ := some_of j g hg
    exact hh.el j g0 h0
  · by_cases hj : j = k
    · subst hj
      rw [get_put, if_pos rfl] at hg
      cases hg
      simpa using hfile
    · obtain ⟨g0, h0, h1⟩ := some_of j g hg
      obtain rfl := h1 hj
      rw [if_neg hj]
      have hfj := hh.file j g0 h0
      refine hfj.keep (hkeep _ (hh.foot j g0 h0).1 (fun e => hj (hh.inj j k g0 f h0 hk e)) (fun e => ?_)) (fun b hb => hkeep _ ((hh.foot j g0 h0).2 b hb) (fun e => ?_) (fun e => ?_))
      · obtain ⟨cur, hc⟩ := hfk.rows e
        rw [hfj.1] at hc; simp at hc
      · obtain ⟨cur, hc⟩ := hfj.rows hb
        rw [e, hfk.1] at hc; simp at hc
      · exact hj (hh.rows j k g0 f b h0 hk hb e)
  · obtain ⟨g0, h0, _⟩ := some_of j g hg
    obtain ⟨g1, h1, _⟩ := some_of j' g' hg'
    exact hh.inj j j' g0 g1 h0 h1
  · obtain ⟨g0, h0, _⟩ := some_of j g hg
    obtain ⟨g1, h1, _⟩ := some_of j' g' hg'
    by_cases hj : j = k <;> by_cases hj' : j' = k
    · intros; rw [hj, hj']
    · rw [if_pos hj, if_neg hj']; intro a b; exact (row_new j' g1 h1 hj' _ a b).elim
    · rw [if_neg hj, if_pos hj']; intro a b; exact (row_new j g0 h0 hj _ b a).elim
    · rw [if_neg hj, if_neg hj']; exact hh.rows j j' g0 g1 b h0 h1
  · obtain ⟨g0, h0, _⟩ := some_of j g hg
    refine ⟨.inl (hh.foot j g0 h0).1, fun b hb => ?_⟩
    by_cases hj : j = k
    · rw [if_pos hj] at hb; exact .inr hb
    · rw [if_neg hj] at hb; exact .inl ((hh.foot j g0 h0).2 b hb)

/-- A file is added, empty. -/
theorem Held.add (hh : Held w S D m pl v) (hD : Maps.IsMap D) (hk : get m k = none) {fb : Nat} (hfc : FC w' fb (.slice none 0 0) 0) (hkeep : ∀ j g, get m j = some g → File w' (pl j) (v j) g) (hnew : ∀ b, S b → b ≠ fb) :
    Held w' (fun b => S b ∨ b = fb) (D.put (.string k) (.lit (.int .i64 (fb : Int)))) (put k ⟨[], 0⟩ m) (fun j => if j = k then fb else pl j) (fun j => if j = k then .slice none 0 0 else v j) := by
  have hkl : WideAt.IsKeyLit (.string k) := trivial
  have hne : ∀ {j : Nm}, j ≠ k → Lit.string j ≠ Lit.string k := fun h e => h (by injection e)
  have other : ∀ j g, get (put k ⟨[], 0⟩ m) j = some g → j ≠ k → get m j = some g := fun j g hg hj => by
    rwa [get_put, if_neg hj] at hg
  refine ⟨fun j => ?_, fun j g hg => ?_, fun j g hg => ?_, fun j j' g g' hg hg' => ?_, fun j j' g g' b hg hg' => ?_, fun j g hg => ?_⟩
  · rw [get_put]
    by_cases hj : j = k
    · subst hj; rw [Maps.has_put_same hD hkl, if_pos rfl]; rfl
    · rw [Maps.has_put_other (hne hj), if_neg hj]; exact hh.has j
  · intro zd
    by_cases hj : j = k
    · subst hj; rw [Maps.atKey_put_same hD hkl, if_pos rfl]
    · rw [Maps.atKey_put_other (hne hj), if_neg hj]; exact hh.el j g (other j g hg hj) zd
  · by_cases hj : j = k
    · subst hj
      rw [get_put, if_pos rfl] at hg; cases hg
      rw [if_pos rfl, if_pos rfl]
      exact ⟨hfc, World.ownsRow_nil _ _ _ _⟩
    · rw [if_neg hj, if_neg hj]; exact hkeep j g (other j g hg hj)
  · by_cases hj : j = k <;> by_cases hj' : j' = k
    · intro _; rw [hj, hj']
    · rw [if_pos hj, if_neg hj']; intro e; exact absurd e.symm (hnew _ (hh.foot j' g' (other j' g' hg' hj')).1)
    · rw [if_neg hj, if_pos hj']; intro e; exact absurd e (hnew _ (hh.foot j g (other j g hg hj)).1)
    · rw [if_neg hj, if_neg hj']; exact hh.inj j j' g g' (other j g hg hj) (other j' g' hg' hj')
  · by_cases hj : j = k <;> by_cases hj' : j' = k
    · intros; rw [hj, hj']
    · rw [if_pos hj]; intro a; cases a
    · rw [if_pos hj']; intro _ a; cases a
    · rw [if_neg hj, if_neg hj']; exact hh.rows j j' g g' b (other j g hg hj) (other j' g' hg' hj')
  · by_cases hj : j = k
    · rw [if_pos hj, if_pos hj]; exact ⟨.inr rfl, fun b hb => by cases hb⟩
    · rw [if_neg hj, if_neg hj]
      have := hh.foot j g (other j g hg hj)
      exact ⟨.inl this.1, fun b hb => .inl (this.2 b hb)⟩
theorem held_none (w : World) (S : Nat → Prop) (pl : Nm → Nat) (v : Nm → Value) : Held w S (.map []) [] pl v :=
  ⟨fun _ => rfl, fun _ _ hf => (by cases hf), fun _ _ hf => (by cases hf), fun _ _ _ _ hf => (by cases hf), fun _ _ _ _ _ hf => (by cases hf), fun _ _ hf => (by cases hf)⟩
end
end Go.Proofs.Ytkiombbdddbkfaa.Dk
