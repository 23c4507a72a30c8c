/-
  Layer 9 in mathematics: spans of times, merged: the one sorted row of spans that share no time, covers the same times and parts them at the same places. Conditions: none but those that each theorem names; nothing of a program.
-/
import Derived.IntWalk
import Derived.RowKit
namespace Go.Proofs.Ytlmnkmfpdjkijaa.Wi
set_option linter.unusedVariables false
set_option linter.unusedSimpArgs false

abbrev Sp := Int × Int
theorem lt_or_ge2 (a b : Int) : a < b ∨ b ≤ a := by omega
/-- A time lies in one of them; a time and the one ahead of it lie in one of them. -/
def cov (l : List Sp) (t : Int) : Prop := ∃ s ∈ l, s.1 ≤ t ∧ t < s.2
def con (l : List Sp) (t : Int) : Prop := ∃ s ∈ l, s.1 < t ∧ t < s.2
def Alike (l m : List Sp) : Prop := (∀ t, cov l t ↔ cov m t) ∧ (∀ t, con l t ↔ con m t)
def Srt (m : List Sp) : Prop := (∀ s ∈ m, s.1 < s.2) ∧ m.Pairwise (fun a b => a.2 ≤ b.1)
theorem Alike.refl (l : List Sp) : Alike l l := ⟨fun _ => Iff.rfl, fun _ => Iff.rfl⟩
theorem Alike.symm {l m : List Sp} (h : Alike l m) : Alike m l := ⟨fun t => (h.1 t).symm, fun t => (h.2 t).symm⟩
theorem Alike.trans {l m n : List Sp} (h : Alike l m) (k : Alike m n) : Alike l n := ⟨fun t => (h.1 t).trans (k.1 t), fun t => (h.2 t).trans (k.2 t)⟩
theorem cov_append (l m : List Sp) (t : Int) : cov (l ++ m) t ↔ cov l t ∨ cov m t := by
  unfold cov
  constructor
  · rintro ⟨s, hs, h⟩
    rcases List.mem_append.1 hs with h1 | h1
    · exact .inl ⟨s, h1, h⟩
    · exact .inr ⟨s, h1, h⟩
  · rintro (⟨s, hs, h⟩ | ⟨s, hs, h⟩)
    · exact ⟨s, List.mem_append_left _ hs, h⟩
    · exact ⟨s, List.mem_append_right _ hs, h⟩
theorem con_append (l m : List Sp) (t : Int) : con (l ++ m) t ↔ con l t ∨ con m t := by
  unfold con
  constructor
  · rintro ⟨s, hs, h⟩
    rcases List.mem_append.1 hs with h1 | h1
    · exact .inl ⟨s, h1, h⟩
    · exact .inr ⟨s, h1, h⟩
  · rintro (⟨s, hs, h⟩ | ⟨s, hs, h⟩)
    · exact ⟨s, List.mem_append_left _ hs, h⟩
    · exact ⟨s, List.mem_append_right _ hs, h⟩
theorem cov_one (s : Sp) (t : Int) : cov [s] t ↔ s.1 ≤ t ∧ t < s.2 := by
  unfold cov; simp
theorem con_one (s : Sp) (t : Int) : con [s] t ↔ s.1 < t ∧ t < s.2 := by
  unfold con; simp
theorem cov_cons (s : Sp) (l : List Sp) (t : Int) : cov (s :: l) t ↔ (s.1 ≤ t ∧ t < s.2) ∨ cov l t := by
  rw [← List.singleton_append, cov_append, cov_one]
theorem con_cons (s : Sp) (l : List Sp) (t : Int) : con (s :: l) t ↔ (s.1 < t ∧ t < s.2) ∨ con l t := by
  rw [← List.singleton_append, con_append, con_one]
theorem Alike.append {l l' m m' : List Sp} (h : Alike l l') (k : Alike m m') : Alike (l ++ m) (l' ++ m') :=
  ⟨fun t => by rw [cov_append, cov_append, h.1 t, k.1 t], fun t => by rw [con_append, con_append, h.2 t, k.2 t]⟩
/-- The same spans are alike, in whatever order. -/
theorem alike_mem {l m : List Sp} (h : ∀ s, s ∈ l ↔ s ∈ m) : Alike l m :=
  ⟨fun t => ⟨fun ⟨s, hs, k⟩ => ⟨s, (h s).1 hs, k⟩, fun ⟨s, hs, k⟩ => ⟨s, (h s).2 hs, k⟩⟩, fun t => ⟨fun ⟨s, hs, k⟩ => ⟨s, (h s).1 hs, k⟩, fun ⟨s, hs, k⟩ => ⟨s, (h s).2 hs, k⟩⟩⟩
theorem Srt.tail {a : Sp} {r : List Sp} (h : Srt (a :: r)) : Srt r := ⟨fun s hs => h.1 s (List.mem_cons_of_mem _ hs), (List.pairwise_cons.1 h.2).2⟩
theorem Srt.head {a : Sp} {r : List Sp} (h : Srt (a :: r)) : a.1 < a.2 ∧ ∀ s ∈ r, a.2 ≤ s.1 := ⟨h.1 a (by simp), (List.pairwise_cons.1 h.2).1⟩
theorem head_le {a b : Sp} {r r' : List Sp} (h : Srt (a :: r)) (k : Srt (b :: r')) (e : Alike (a :: r) (b :: r')) : b.1 ≤ a.1 ∧ (b.1 = a.1 → b.2 ≤ a.2) := by
  obtain ⟨h1, h2⟩ := h.head
  obtain ⟨k1, k2⟩ := k.head
  constructor
  · have hc : cov (a :: r) a.1 := ⟨a, by simp, Int.le_refl _, h1⟩
    obtain ⟨s, hs, hs1, hs2⟩ := (e.1 _).1 hc
    rcases List.mem_cons.1 hs with rfl | hs
    · exact hs1
    · have := k2 s hs; omega
  · intro he
    rcases lt_or_ge2 a.2 b.2 with hlt | hge
    · have hc : con (b :: r') a.2 := ⟨b, by simp, by omega, hlt⟩
      obtain ⟨s, hs, hs1, hs2⟩ := (e.2 _).2 hc
      rcases List.mem_cons.1 hs with rfl | hs
      · omega
      · have := h2 s hs; omega
    · exact hge
/-- There is one sorted row alike. -/
theorem uniq : ∀ (m m' : List Sp), Srt m → Srt m' → Alike m m' → m = m'
  | [], [], _, _, _ => rfl
  | [], b :: r', _, k, e => by
    have hc : cov (b :: r') b.1 := ⟨b, by simp, Int.le_refl _, k.head.1⟩
    obtain ⟨s, hs, _⟩ := (e.1 _).2 hc
    cases hs
  | a :: r, [], h, _, e => by
    have hc : cov (a :: r) a.1 := ⟨a, by simp, Int.le_refl _, h.head.1⟩
    obtain ⟨s, hs, _⟩ := (e.1 _).1 hc
    cases hs
  | a :: r, b :: r', h, k, e => by
    obtain ⟨x1, x2⟩ := head_le h k e
    obtain ⟨y1, y2⟩ := head_le k h e.symm
    have h1 : a.1 = b.1 := by omega
    have h2 : a.2 = b.2 := by
      have := x2 h1.symm
      have := y2 h1
      omega
    have hab : a = b := Prod.ext h1 h2
    subst hab
    obtain ⟨p1, p2⟩ := h.head
    obtain ⟨q1, q2⟩ := k.head
    have er : Alike r r' := by
      constructor
      · intro t
        constructor
        · rintro ⟨s, hs, ht⟩
          have h3 := p2 s hs
          rcases (cov_cons a r' t).1 ((e.1 t).1 ((cov_cons a r t).2 (.inr ⟨s, hs, ht⟩))) with h4 | h4
          · omega
          · exact h4
        · rintro ⟨s, hs, ht⟩
          have h3 := q2 s hs
          rcases (cov_cons a r t).1 ((e.1 t).2 ((cov_cons a r' t).2 (.inr ⟨s, hs, ht⟩))) with h4 | h4
          · omega
          · exact h4
      · intro t
        constructor
        · rintro ⟨s, hs, ht⟩
          have h3 := p2 s hs
          rcases (con_cons a r' t).1 ((e.2 t).1 ((con_cons a r t).2 (.inr ⟨s, hs, ht⟩))) with h4 | h4
          · omega
          · exact h4
        · rintro ⟨s, hs, ht⟩
          have h3 := q2 s hs
          rcases (con_cons a r t).1 ((e.2 t).2 ((con_cons a r' t).2 (.inr ⟨s, hs, ht⟩))) with h4 | h4
          · omega
          · exact h4
    rw [uniq r r' h.tail k.tail er]
/-- Two spans that share a time, as one. -/
def share (a b : Sp) : Bool := decide (a.1 < b.2) && decide (b.1 < a.2)
theorem share_iff {a b : Sp} : share a b = true ↔ a.1 < b.2 ∧ b.1 < a.2 := by
  unfold share
  rw [Bool.and_eq_true, decide_eq_true_eq, decide_eq_true_eq]
def hull (a b : Sp) : Sp := (min b.1 a.1, max b.2 a.2)
theorem hull_alike {a b : Sp} (ha : a.1 < a.2) (hb : b.1 < b.2) (h : share a b = true) : Alike [a, b] [hull a b] := by
  rw [share_iff] at h
  constructor
  · intro t
    rw [cov_cons, cov_one, cov_one]
    show _ ↔ min b.1 a.1 ≤ t ∧ t < max b.2 a.2
    omega
  · intro t
    rw [con_cons, con_one, con_one]
    show _ ↔ min b.1 a.1 < t ∧ t < max b.2 a.2
    omega
/-- The document's Put: grown by those that it shares a time with; then put among the rest. -/
def grown (s : Sp) (m : List Sp) : Sp := m.foldl (fun s x => if share x s = true then hull x s else s) s
def put (m : List Sp) (s : Sp) : List Sp := m.takeWhile (fun x => decide (x.1 < (grown s m).1)) ++ [grown s m] ++ (m.dropWhile (fun x => decide (x.1 < (grown s m).1))).filter (fun x => !share x (grown s m))
def mg (l : List Sp) : List Sp := l.foldl put []
theorem grown_snoc (s : Sp) (m : List Sp) (x : Sp) : grown s (m ++ [x]) = if share x (grown s m) = true then hull x (grown s m) else grown s m := by
  unfold grown
  rw [List.foldl_append]
  rfl
theorem grown_full {s : Sp} (hs : s.1 < s.2) : ∀ (m : List Sp), (∀ x ∈ m, x.1 < x.2) → (grown s m).1 < (grown s m).2 := by
  intro m
  rw [← List.reverse_reverse m]
  generalize m.reverse = R
  induction R with
  | nil => intro _; exact hs
  | cons x r ih =>
    intro h
    rw [List.reverse_cons, grown_snoc]
    have h1 := ih (fun y hy => h y (by rw [List.reverse_cons]; exact List.mem_append_left _ hy))
    have h2 := h x (by rw [List.reverse_cons]; simp)
    split
    · show min _ _ < max _ _
      omega
    · exact h1
/-- What it shares a time with lies in it. -/
theorem grown_holds {s : Sp} (hs : s.1 < s.2) : ∀ (m : List Sp), Srt m → ∀ x ∈ m, share x (grown s m) = true → (grown s m).1 ≤ x.1 ∧ x.2 ≤ (grown s m).2 := by
  intro m
  rw [← List.reverse_reverse m]
  generalize m.reverse = R
  induction R with
  | nil => intro _ x hx; cases hx
  | cons y r ih =>
    intro h
    rw [List.reverse_cons] at h ⊢
    have h1 : Srt r.reverse := ⟨fun z hz => h.1 z (List.mem_append_left _ hz), (List.pairwise_append.1 h.2).1⟩
    have h2 := h.1 y (by simp)
    have h3 := grown_full hs r.reverse h1.1
    have h4 : ∀ z ∈ r.reverse, z.2 ≤ y.1 := fun z hz => (List.pairwise_append.1 h.2).2.2 z hz y (by simp)
    intro x hx hsh
    rw [grown_snoc] at hsh ⊢
    split at hsh
    · rename_i hy
      rw [if_pos hy]
      rw [share_iff] at hy hsh
      rcases List.mem_append.1 hx with hx | hx
      · have h5 := h4 x hx
        have h6 := h.1 x (List.mem_append_left _ hx)
        have h7 := ih h1 x hx
        rw [share_iff] at h7
        have h8 : (hull y (grown s r.reverse)).1 < x.2 := hsh.2
        have h9 : x.1 < (hull y (grown s r.reverse)).2 := hsh.1
        have e1 : (hull y (grown s r.reverse)).1 = min (grown s r.reverse).1 y.1 := rfl
        have e2 : (hull y (grown s r.reverse)).2 = max (grown s r.reverse).2 y.2 := rfl
        rw [e1] at h8 ⊢
        rw [e2] at h9 ⊢
        have h10 := h7 (by omega)
        omega
      · rw [List.mem_singleton.1 hx]
        show min _ _ ≤ _ ∧ _ ≤ max _ _
        omega
    · rename_i hy
      rw [if_neg hy]
      rcases List.mem_append.1 hx with hx | hx
      · exact ih h1 x hx hsh
      · rw [List.mem_singleton.1 hx] at hsh
        exact absurd hsh hy
theorem grown_alike {s : Sp} (hs : s.1 < s.2) : ∀ (m p : List Sp), (∀ x ∈ m, x.1 < x.2) → (∀ x ∈ m, x ∈ p) → Alike (p ++ [s]) (p ++ [grown s m]) := by
  intro m
  rw [← List.reverse_reverse m]
  generalize m.reverse = R
  induction R with
  | nil => intro p _ _; exact Alike.refl _
  | cons y r ih =>
    intro p h hp
    rw [List.reverse_cons] at h hp ⊢
    have h0 := ih p (fun z hz => h z (List.mem_append_left _ hz)) (fun z hz => hp z (List.mem_append_left _ hz))
    have hy := h y (by simp)
    have hyp := hp y (by simp)
    have hg := grown_full hs r.reverse (fun z hz => h z (List.mem_append_left _ hz))
    rw [grown_snoc]
    split
    · rename_i hsh
      refine h0.trans ?_
      have k := hull_alike hy hg hsh
      have e1 : Alike (p ++ [grown s r.reverse]) (p ++ [y, grown s r.reverse]) := alike_mem (fun z => by
        simp only [List.mem_append, List.mem_cons, List.not_mem_nil, or_false]
        constructor
        · rintro (h | h)
          · exact .inl h
          · exact .inr (.inr h)
        · rintro (h | h | h)
          · exact .inl h
          · subst h; exact .inl hyp
          · exact .inr h)
      exact e1.trans (Alike.append (Alike.refl p) k)
    · exact h0
theorem takeWhile_mem {m : List Sp} {c : Int} (h : Srt m) (x : Sp) : x ∈ m.takeWhile (fun x => decide (x.1 < c)) ↔ x ∈ m ∧ x.1 < c := by
  induction m with
  | nil => simp
  | cons a r ih =>
    have ih := ih h.tail
    rw [List.takeWhile_cons]
    by_cases ha : a.1 < c
    · rw [decide_eq_true ha]
      simp only [if_true, List.mem_cons, ih]
      constructor
      · rintro (h | ⟨h1, h2⟩)
        · exact ⟨.inl h, h ▸ ha⟩
        · exact ⟨.inr h1, h2⟩
      · rintro ⟨h | h, h2⟩
        · exact .inl h
        · exact .inr ⟨h, h2⟩
    · rw [decide_eq_false ha]
      simp only [Bool.false_eq_true, if_false, List.not_mem_nil, List.mem_cons, false_iff]
      rintro ⟨h1 | h1, h2⟩
      · subst h1; exact ha h2
      · have h3 := h.head.2 x h1
        have h4 := h.head.1
        omega
theorem dropWhile_mem {m : List Sp} {c : Int} (h : Srt m) (x : Sp) : x ∈ m.dropWhile (fun x => decide (x.1 < c)) ↔ x ∈ m ∧ c ≤ x.1 := by
  induction m with
  | nil => simp
  | cons a r ih =>
    have ih := ih h.tail
    rw [List.dropWhile_cons]
    by_cases ha : a.1 < c
    · rw [decide_eq_true ha]
      simp only [if_true, List.mem_cons, ih]
      constructor
      · rintro ⟨h1, h2⟩
        exact ⟨.inr h1, h2⟩
      · rintro ⟨h1 | h1, h2⟩
        · subst h1; omega
        · exact ⟨h1, h2⟩
    · rw [decide_eq_false ha]
      simp only [Bool.false_eq_true, if_false, List.mem_cons]
      constructor
      · rintro (h1 | h1)
        · subst h1; exact ⟨.inl rfl, by omega⟩
        · have h3 := h.head.2 x h1
          have h4 := h.head.1
          exact ⟨.inr h1, by omega⟩
      · rintro ⟨h1, h2⟩
        exact h1
theorem put_spec {m : List Sp} {s : Sp} (h : Srt m) (hs : s.1 < s.2) : Srt (put m s) ∧ Alike (m ++ [s]) (put m s) := by
  obtain ⟨g, hg⟩ : ∃ g, grown s m = g := ⟨_, rfl⟩
  have hgf := grown_full hs m h.1
  have hgh := grown_holds hs m h
  have hga := grown_alike hs m m h.1 (fun x hx => hx)
  unfold put
  rw [hg] at hgf hgh hga ⊢
  have hlo : ∀ x ∈ m.takeWhile (fun x => decide (x.1 < g.1)), x ∈ m ∧ x.1 < g.1 := fun x hx => (takeWhile_mem h x).1 hx
  have hhi : ∀ x ∈ (m.dropWhile (fun x => decide (x.1 < g.1))).filter (fun x => !share x g), x ∈ m ∧ g.1 ≤ x.1 ∧ share x g = false := fun x hx => by
    obtain ⟨h1, h2⟩ := List.mem_filter.1 hx
    obtain ⟨h3, h4⟩ := (dropWhile_mem h x).1 h1
    exact ⟨h3, h4, by simpa using h2⟩
  have hlo2 : ∀ x ∈ m.takeWhile (fun x => decide (x.1 < g.1)), x.2 ≤ g.1 := fun x hx => by
    obtain ⟨h1, h2⟩ := hlo x hx
    rcases lt_or_ge2 g.1 x.2 with h3 | h3
    · have := hgh x h1 (share_iff.2 ⟨by omega, h3⟩)
      omega
    · exact h3
  have hhi2 : ∀ x ∈ (m.dropWhile (fun x => decide (x.1 < g.1))).filter (fun x => !share x g), g.2 ≤ x.1 := fun x hx => by
    obtain ⟨h1, h2, h3⟩ := hhi x hx
    have h4 := h.1 x h1
    rcases lt_or_ge2 x.1 g.2 with h5 | h5
    · have : share x g = true := share_iff.2 ⟨h5, by omega⟩
      rw [this] at h3; cases h3
    · exact h5
  refine ⟨⟨fun x hx => ?_, ?_⟩, hga.trans ?_⟩
  · simp only [List.mem_append, List.mem_singleton] at hx
    rcases hx with (hx | hx) | hx
    · exact h.1 x (hlo x hx).1
    · rw [hx]; exact hgf
    · exact h.1 x (hhi x hx).1
  · rw [List.append_assoc, List.pairwise_append]
    refine ⟨h.2.sublist (List.takeWhile_sublist _), ?_, ?_⟩
    · rw [List.singleton_append, List.pairwise_cons]
      exact ⟨hhi2, (h.2.sublist (List.dropWhile_sublist _)).filter _⟩
    · intro x hx y hy
      have h1 := hlo2 x hx
      rw [List.singleton_append] at hy
      rcases List.mem_cons.1 hy with rfl | hy
      · exact h1
      · have := hhi2 y hy
        omega
  · have hin : ∀ x ∈ m, share x g = true → g.1 ≤ x.1 ∧ x.2 ≤ g.2 := hgh
    have hset : ∀ x, x ∈ m.takeWhile (fun x => decide (x.1 < g.1)) ++ [g] ++ (m.dropWhile (fun x => decide (x.1 < g.1))).filter (fun x => !share x g) ↔ x = g ∨ (x ∈ m ∧ share x g = false) := by
      intro x
      simp only [List.mem_append, List.mem_singleton, takeWhile_mem h, List.mem_filter, dropWhile_mem h]
      constructor
      · rintro ((⟨h1, h2⟩ | h1) | ⟨⟨h1, h2⟩, h3⟩)
        · refine .inr ⟨h1, ?_⟩
          cases hb : share x g with
          | false => rfl
          | true => have := (hin x h1 hb).1; omega
        · exact .inl h1
        · exact .inr ⟨h1, by simpa using h3⟩
      · rintro (h1 | ⟨h1, h2⟩)
        · exact .inl (.inr h1)
        · rcases lt_or_ge2 x.1 g.1 with h3 | h3
          · exact .inl (.inl ⟨h1, h3⟩)
          · exact .inr ⟨⟨h1, h3⟩, by rw [h2]; rfl⟩
    constructor
    · intro t
      constructor
      · rintro ⟨x, hx, h1, h2⟩
        rcases List.mem_append.1 hx with hx | hx
        · cases hb : share x g with
          | false => exact ⟨x, (hset x).2 (.inr ⟨hx, hb⟩), h1, h2⟩
          | true => have := hin x hx hb; exact ⟨g, (hset g).2 (.inl rfl), by omega, by omega⟩
        · rw [List.mem_singleton.1 hx] at h1 h2; exact ⟨g, (hset g).2 (.inl rfl), h1, h2⟩
      · rintro ⟨x, hx, h1⟩
        rcases (hset x).1 hx with hx | hx
        · exact ⟨g, by simp, hx ▸ h1⟩
        · exact ⟨x, List.mem_append_left _ hx.1, h1⟩
    · intro t
      constructor
      · rintro ⟨x, hx, h1, h2⟩
        rcases List.mem_append.1 hx with hx | hx
        · cases hb : share x g with
          | false => exact ⟨x, (hset x).2 (.inr ⟨hx, hb⟩), h1, h2⟩
          | true => have := hin x hx hb; exact ⟨g, (hset g).2 (.inl rfl), by omega, by omega⟩
        · rw [List.mem_singleton.1 hx] at h1 h2; exact ⟨g, (hset g).2 (.inl rfl), h1, h2⟩
      · rintro ⟨x, hx, h1⟩
        rcases (hset x).1 hx with hx | hx
        · exact ⟨g, by simp, hx ▸ h1⟩
        · exact ⟨x, List.mem_append_left _ hx.1, h1⟩
theorem srt_nil : Srt [] := ⟨fun s hs => (by cases hs), List.Pairwise.nil⟩
theorem mg_snoc (l : List Sp) (s : Sp) : mg (l ++ [s]) = put (mg l) s := by
  unfold mg
  rw [List.foldl_append]
  rfl
theorem mg_spec : ∀ (l : List Sp), (∀ s ∈ l, s.1 < s.2) → Srt (mg l) ∧ Alike l (mg l) := by
  intro l
  rw [← List.reverse_reverse l]
  generalize l.reverse = R
  induction R with
  | nil => intro _; exact ⟨srt_nil, Alike.refl _⟩
  | cons x r ih =>
    intro h
    rw [List.reverse_cons] at h ⊢
    obtain ⟨h1, h2⟩ := ih (fun y hy => h y (List.mem_append_left _ hy))
    obtain ⟨h3, h4⟩ := put_spec h1 (h x (by simp))
    rw [mg_snoc]
    exact ⟨h3, (Alike.append h2 (Alike.refl [x])).trans h4⟩
/-- Whatever is sorted and alike is what is merged. -/
theorem mg_is {l m : List Sp} (hl : ∀ s ∈ l, s.1 < s.2) (h : Srt m) (k : Alike l m) : mg l = m :=
  uniq _ _ (mg_spec l hl).1 h ((mg_spec l hl).2.symm.trans k)
theorem mg_reverse {l : List Sp} (hl : ∀ s ∈ l, s.1 < s.2) : mg l.reverse = mg l :=
  mg_is (fun s hs => hl s (List.mem_reverse.1 hs)) (mg_spec l hl).1 ((alike_mem fun s => List.mem_reverse).trans (mg_spec l hl).2)
theorem mg_again {l : List Sp} (hl : ∀ s ∈ l, s.1 < s.2) : mg (mg l) = mg l :=
  mg_is (mg_spec l hl).1.1 (mg_spec l hl).1 (Alike.refl _)
theorem mg_more {l : List Sp} {s : Sp} (hl : ∀ s ∈ l, s.1 < s.2) (hs : s.1 < s.2) : mg (mg l ++ [s]) = mg (l ++ [s]) := by
  have hls : ∀ x ∈ l ++ [s], x.1 < x.2 := fun x hx => by
    rcases List.mem_append.1 hx with h | h
    · exact hl x h
    · rw [List.mem_singleton.1 h]; exact hs
  refine mg_is (fun x hx => ?_) (mg_spec _ hls).1 ((Alike.append (mg_spec l hl).2.symm (Alike.refl [s])).trans (mg_spec _ hls).2)
  rcases List.mem_append.1 hx with h | h
  · exact (mg_spec l hl).1.1 x h
  · rw [List.mem_singleton.1 h]; exact hs
/-- Each span lies in just one of the merged ones. -/
def inB (s x : Sp) : Bool := decide (x.1 ≤ s.1) && decide (s.2 ≤ x.2)
theorem count_le_one {s : Sp} (hs : s.1 < s.2) : ∀ (m : List Sp), Srt m → m.countP (inB s) ≤ 1
  | [], _ => by simp
  | a :: r, h => by
    rw [List.countP_cons]
    by_cases ha : inB s a = true
    · have h0 : r.countP (inB s) = 0 := by
        rw [List.countP_eq_zero]
        intro x hx hc
        unfold inB at ha hc
        simp only [Bool.and_eq_true, decide_eq_true_eq] at ha hc
        have := h.head.2 x hx
        omega
      rw [h0, if_pos ha]
      omega
    · rw [if_neg ha]
      exact count_le_one hs r h.tail
theorem lies_in {l : List Sp} {s : Sp} (hl : ∀ s ∈ l, s.1 < s.2) (h : s ∈ l) : (mg l).countP (inB s) = 1 := by
  obtain ⟨h1, h2⟩ := mg_spec l hl
  have hs := hl s h
  have hle := count_le_one hs (mg l) h1
  have hpos : 0 < (mg l).countP (inB s) := by
    rw [List.countP_pos_iff]
    obtain ⟨x, hx, hx1, hx2⟩ := (h2.1 s.1).1 ⟨s, h, Int.le_refl _, hs⟩
    refine ⟨x, hx, ?_⟩
    unfold inB
    rw [decide_eq_true hx1, Bool.true_and, decide_eq_true_eq]
    rcases lt_or_ge2 x.2 s.2 with h3 | h3
    · obtain ⟨y, hy, hy1, hy2⟩ := (h2.2 x.2).1 ⟨s, h, hx2, h3⟩
      obtain ⟨i, hi, rfl⟩ := List.getElem_of_mem hx
      obtain ⟨j, hj, rfl⟩ := List.getElem_of_mem hy
      rcases Nat.lt_trichotomy i j with hij | hij | hij
      · have := List.pairwise_iff_getElem.1 h1.2 i j hi hj hij
        omega
      · subst hij; omega
      · have := List.pairwise_iff_getElem.1 h1.2 j i hj hi hij
        have := h1.1 _ hx
        omega
    · exact h3
  omega
end Go.Proofs.Ytlmnkmfpdjkijaa.Wi
