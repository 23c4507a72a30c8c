/-
  The document's disk: its calls, of a whole disk. Conditions: it stands in memory, few deeds.
-/
import Derived.Test.YtkiombbdddbkfaaRefNew
namespace Go.Proofs.Ytkiombbdddbkfaa.Dk
open Go.RowKit Go.Proofs.Ytkiombbdddbkfaa.Pk

structure RIn (w : World) (T : Nat → Prop) (m : List (Nm × Fl)) (vL : Value) (vs : List Value) : Prop where
  len : vs.length = m.length
  own : w.ownsRow 0 72 3 vL m.length (rowOf m vs)
  root : ∀ g, vL.ownBlock = some g → T g
  file : ∀ i (h : i < m.length), ∃ A c, vs[i]'(by omega) = .slice A m[i].2.data.length c ∧ m[i].2.data.length ≤ c ∧ c ≤ maxLen ∧ LiesT T w A m[i].2.data
/-- The document's disk between its calls. -/
def RefD (w : World) (T : Nat → Prop) (r : Nat) (t : Ds) : Prop :=
  Good t ∧ t.m.length ≤ t.deeds ∧ T r ∧ (∀ b, T b → b < w.heap.size) ∧ ∃ vL vs, RTop w r vL t.off t.fuse t.keep t.deeds ∧ RIn w T t.m vL vs
def AfterR (T : Nat → Prop) (r : Nat) (w : World) (t' : Ds) (w' : World) : Prop := ∃ T', RefD w' T' r t' ∧ Upd T T' w w'
theorem AfterR.same {T : Nat → Prop} {r : Nat} {w : World} {t : Ds} (h : RefD w T r t) : AfterR T r w t w := ⟨T, h, Upd.refl _ _⟩

section
variable {w w1 : World} {T T' : Nat → Prop} {r : Nat} {t : Ds} {m : List (Nm × Fl)} {vL : Value} {vs : List Value}
theorem own_keep37 {n : Nat} {xs : List Value} (h : w.ownsRow 0 72 3 vL n xs) (hk : ∀ g, vL.ownBlock = some g → w1.heap[g]? = w.heap[g]?) : w1.ownsRow 0 72 3 vL n xs := by
  refine ⟨h.1, ?_⟩
  rcases h.2 with h1 | ⟨g, cap, cur, rfl, hb, hg, rest⟩
  · exact .inl h1
  · exact .inr ⟨g, cap, cur, rfl, hb, (hk g rfl).trans hg, rest⟩
theorem RIn.keep (h : RIn w T m vL vs) (hk : ∀ b, T b → w1.heap[b]? = w.heap[b]?) : RIn w1 T m vL vs :=
  ⟨h.len, own_keep37 h.own (fun g hg => hk g (h.root g hg)), h.root, fun i hi => by
    obtain ⟨A, c, h1, h2, h3, h4⟩ := h.file i hi
    exact ⟨A, c, h1, h2, h3, h4.keep (fun _ h => h) (fun b _ _ hb _ => hk b hb)⟩⟩
theorem RefD.keep (h : RefD w T r t) (hz : w.heap.size ≤ w1.heap.size) (hk : ∀ b, T b → w1.heap[b]? = w.heap[b]?) : RefD w1 T r t := by
  obtain ⟨g, hm, hr, hl, vL, vs, ht, hi⟩ := h
  exact ⟨g, hm, hr, fun b hb => Nat.lt_of_lt_of_le (hl b hb) hz, vL, vs, (hk r hr).trans ht, hi.keep hk⟩
theorem RefD.lt (h : RefD w T r t) (b : Nat) (hb : T b) : b < w.heap.size := h.2.2.2.1 b hb
/-- The row lies in no other block than its own kind's. -/
theorem RIn.ne (h : RIn w T m vL vs) {off : Bool} {a b c : Int} (ht : RTop w r vL off a b c) : vL.ownBlock ≠ some r := fun e => by
  rcases h.own.2 with ⟨hv, _⟩ | ⟨g, cap, cur, hv, _, hg, _⟩
  · rw [hv] at e; cases e
  · rw [hv] at e
    have := Option.some.inj e
    simp only at this
    unfold RTop at ht
    rw [this, ht] at hg; simp at hg
/-- Block r alone has turned. -/
theorem RIn.keepR (h : RIn w T m vL vs) {vL' : Value} {off : Bool} {a b c : Int} (ht : RTop w r vL' off a b c) (ho : Only r w w1) : RIn w1 T m vL vs := by
  unfold RTop at ht
  refine ⟨h.len, own_keep37 h.own (fun g hg => ho.block g (fun e => ?_)), h.root, fun i hi => ?_⟩
  · rcases h.own.2 with ⟨hv, _⟩ | ⟨g', cap, cur, hv, _, hg', _⟩
    · rw [hv] at hg; cases hg
    · rw [hv] at hg
      have := Option.some.inj hg
      simp only at this
      rw [this, e, ht] at hg'; simp at hg'
  · obtain ⟨A, c, h1, h2, h3, h4⟩ := h.file i hi
    refine ⟨A, c, h1, h2, h3, h4.keep (fun _ h => h) (fun b cur fr _ hb => ho.block b (fun e => ?_))⟩
    rw [e, ht] at hb; simp at hb
theorem RIn.upd {i : Nat} {p' : Nm × Fl} {v' : Value} (h : RIn w T m vL vs) (hT : ∀ b, T b → T' b) (own1 : w1.ownsRow 0 72 3 vL m.length (rowOf (m.set i p') (vs.set i v')))
    (hk : ∀ b cur fr, T b → w.heap[b]? = some (.cells cur 5 fr) → w1.heap[b]? = w.heap[b]?) (hf : ∃ A c, v' = .slice A p'.2.data.length c ∧ p'.2.data.length ≤ c ∧ c ≤ maxLen ∧ LiesT T' w1 A p'.2.data) : RIn w1 T' (m.set i p') vL (vs.set i v') := by
  refine ⟨by simp [h.len], by rw [List.length_set]; exact own1, fun g hg => hT g (h.root g hg), fun j hj => ?_⟩
  rw [List.length_set] at hj
  by_cases e : i = j
  · subst e
    simpa using hf
  · obtain ⟨A, c, h1, h2, h3, h4⟩ := h.file j hj
    refine ⟨A, c, ?_, ?_, h3, ?_⟩
    · rw [List.getElem_set_ne e, List.getElem_set_ne e]; exact h1
    · rw [List.getElem_set_ne e]; exact h2
    · rw [List.getElem_set_ne e]; exact h4.keep hT hk

/-- find. -/
theorem rfind_any {name : ByteArray} (h : RefD w T r t) (hd : t.deeds ≤ 1000000) :
    (get t.m name.data.toList = none ∧ Calls Try.prog 44 #[.pointer (some ⟨r, 0, none⟩), .string name] w fun e w' => e = .returned (.int .i64 (-1)) ∧ w = w') ∨
    ∃ i f, ∃ hi : i < t.m.length, t.m[i] = (name.data.toList, f) ∧ get t.m name.data.toList = some f ∧ (∀ f', put name.data.toList f' t.m = t.m.set i (name.data.toList, f')) ∧ Calls Try.prog 44 #[.pointer (some ⟨r, 0, none⟩), .string name] w fun e w' => e = .returned (.int .i64 i) ∧ w = w' := by
  obtain ⟨g, hm, hr, hl, vL, vs, ht, hi⟩ := h
  have hn : t.m.length ≤ 1000000 := by omega
  obtain ⟨A, cap, hv⟩ : ∃ A cap, vL = .slice A t.m.length cap := by
    rcases hi.own.2 with ⟨hv, h0⟩ | ⟨g, cap, cur, hv, _⟩
    · exact ⟨none, 0, by rw [hv, h0]⟩
    · exact ⟨_, cap, hv⟩
  have hA : ∀ i, i < t.m.length → ∃ g, A = some ⟨g, 0, none⟩ ∧ w.cell? ⟨g, i * 3, none⟩ = some (.string (if h : i < t.m.length then ⟨t.m[i].1.toArray⟩ else ⟨#[]⟩)) := fun i h => by
    obtain ⟨g, cap', hv', _, _, _, _, hc⟩ := row_cell hi.len hi.own (by omega)
    rw [hv] at hv'
    injection hv' with hA _ _
    rw [dif_pos h]
    exact ⟨g, hA, (hc i h).1⟩
  have c0 := ht.c0
  rw [hv] at c0
  cases hg : get t.m name.data.toList with
  | none =>
    refine .inl ⟨rfl, rfind_miss c0 hn _ hA (fun i h e => ?_)⟩
    rw [dif_pos h] at e
    exact get_no hg i h (by rw [← e])
  | some f =>
    obtain ⟨i, hil, h1, h2, h3⟩ := get_at hg g.sorted
    refine .inr ⟨i, f, hil, h1, rfl, h3, rfind_hit c0 hn i hil _ hA (fun j hj e => ?_) ?_⟩
    · rw [dif_pos (by omega)] at e
      exact h2 j hj (by rw [← e])
    · rw [dif_pos hil, h1]

/-- An operation is counted. -/
def dd (t : Ds) : Ds := { t with deeds := t.deeds + 1, fuse := t.fuse - 1 }
theorem good_dd (h : Good t) : Good (dd t) := ⟨h.sorted, h.names, h.safe, h.long, by have := h.fuse; show t.fuse - 1 ≤ _; omega, h.keepLo, h.keepHi⟩
theorem rdeed_any (ht : RTop w r vL t.off t.fuse t.keep t.deeds) (g : Good t) (hd : t.deeds ≤ 1000000) :
    Calls Try.prog 45 #[.pointer (some ⟨r, 0, none⟩)] w fun e w' => e = .returned (.bool (decide (t.fuse = 1))) ∧ Only r w w' ∧ RTop w' r vL t.off (dd t).fuse t.keep (dd t).deeds := by
  have hf := g.fuse
  by_cases h0 : t.fuse = 0
  · have h2 := ht.c2
    rw [h0] at h2
    refine (rdeed_zero h2 ht.c4 (ht.fz 4) (by omega) (by omega)).mono ?_
    rintro e w' ⟨rfl, rfl⟩
    refine ⟨by simp [h0], (Only.refl _ _).setCell _ _, ?_⟩
    have : ((dd t).fuse : Int) = (t.fuse : Int) := by show ((t.fuse - 1 : Nat) : Int) = _; omega
    rw [this]
    exact ht.set4 _
  · refine (rdeed_more (b := decide (t.fuse = 1)) ht.c2 ht.c4 (ht.fz 2) (ht.fz 4) (by omega) (by omega) (by omega) (by omega) (by rw [Bool.eq_iff_iff]; simp; omega)).mono ?_
    rintro e w' ⟨rfl, rfl⟩
    refine ⟨rfl, ((Only.refl _ _).setCell _ _).setCell _ _, ?_⟩
    have : ((dd t).fuse : Int) = (t.fuse : Int) - 1 := by show ((t.fuse - 1 : Nat) : Int) = _; omega
    rw [this]
    exact (ht.set4 _).set2 _
end
end Go.Proofs.Ytkiombbdddbkfaa.Dk
