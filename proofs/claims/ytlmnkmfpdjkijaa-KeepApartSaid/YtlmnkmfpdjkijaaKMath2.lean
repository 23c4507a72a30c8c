/-
  Panes put in any order: the same panes lie there. Conditions: each holds a value at least, all together no more than 1000000000.
-/
import Derived.Test.YtlmnkmfpdjkijaaKMath
namespace Go.Proofs.Ytlmnkmfpdjkijaa.Ke
set_option linter.unusedVariables false
set_option linter.unusedSimpArgs false
open Go.Proofs.Ytlmnkmfpdjkijaa.Ag (Ac jn vl wr wr_in wr_add wr_add2 ac_ext)

theorem pn_ext {x y : Pn} (h1 : x.k = y.k) (h2 : x.f = y.f) (h3 : x.t = y.t) (h4 : x.a = y.a) : x = y := by
  cases x; cases y
  simp only at h1 h2 h3 h4
  subst h1 h2 h3 h4
  rfl
/-- x is all of l made one. -/
structure IsM (x : Pn) (l : List Pn) : Prop where
  f : (∃ y ∈ l, x.f = y.f) ∧ ∀ y ∈ l, x.f ≤ y.f
  t : (∃ y ∈ l, x.t = y.t) ∧ ∀ y ∈ l, y.t ≤ x.t
  c : x.a.c = csum l
  s : x.a.s = wr (ssum l)
  mn : (∃ y ∈ l, x.a.mn = y.a.mn) ∧ ∀ y ∈ l, x.a.mn ≤ y.a.mn
  mx : (∃ y ∈ l, x.a.mx = y.a.mx) ∧ ∀ y ∈ l, y.a.mx ≤ x.a.mx
theorem IsM.uniq {x y : Pn} {l : List Pn} (h : IsM x l) (k : IsM y l) (hk : x.k = y.k) : x = y := by
  refine pn_ext hk ?_ ?_ (ac_ext (by rw [h.c, k.c]) (by rw [h.s, k.s]) ?_ ?_)
  · obtain ⟨⟨a, ha, e⟩, h2⟩ := h.f
    obtain ⟨⟨b, hb, e'⟩, k2⟩ := k.f
    have := h2 b hb
    have := k2 a ha
    omega
  · obtain ⟨⟨a, ha, e⟩, h2⟩ := h.t
    obtain ⟨⟨b, hb, e'⟩, k2⟩ := k.t
    have := h2 b hb
    have := k2 a ha
    omega
  · obtain ⟨⟨a, ha, e⟩, h2⟩ := h.mn
    obtain ⟨⟨b, hb, e'⟩, k2⟩ := k.mn
    have := h2 b hb
    have := k2 a ha
    omega
  · obtain ⟨⟨a, ha, e⟩, h2⟩ := h.mx
    obtain ⟨⟨b, hb, e'⟩, k2⟩ := k.mx
    have := h2 b hb
    have := k2 a ha
    omega
theorem csum_append (l m : List Pn) : csum (l ++ m) = csum l + csum m := by
  induction l with
  | nil => show csum m = 0 + csum m; omega
  | cons x r ih => rw [List.cons_append, csum_cons, csum_cons, ih]; omega
theorem ssum_append (l m : List Pn) : ssum (l ++ m) = ssum l + ssum m := by
  induction l with
  | nil => show ssum m = 0 + ssum m; omega
  | cons x r ih => rw [List.cons_append, ssum_cons, ssum_cons, ih]; omega
theorem csum_perm {l m : List Pn} (h : l.Perm m) : csum l = csum m := by
  induction h with
  | nil => rfl
  | cons x _ ih => rw [csum_cons, csum_cons, ih]
  | swap x y l => rw [csum_cons, csum_cons, csum_cons, csum_cons]; omega
  | trans _ _ h1 h2 => exact h1.trans h2
theorem ssum_perm {l m : List Pn} (h : l.Perm m) : ssum l = ssum m := by
  induction h with
  | nil => rfl
  | cons x _ ih => rw [ssum_cons, ssum_cons, ih]
  | swap x y l => rw [ssum_cons, ssum_cons, ssum_cons, ssum_cons]; omega
  | trans _ _ h1 h2 => exact h1.trans h2
theorem IsM.perm {x : Pn} {l m : List Pn} (h : IsM x l) (p : l.Perm m) : IsM x m := by
  have hm : ∀ y, y ∈ l ↔ y ∈ m := fun y => p.mem_iff
  refine ⟨⟨?_, fun y hy => h.f.2 y ((hm y).2 hy)⟩, ⟨?_, fun y hy => h.t.2 y ((hm y).2 hy)⟩, by rw [h.c, csum_perm p], by rw [h.s, ssum_perm p], ⟨?_, fun y hy => h.mn.2 y ((hm y).2 hy)⟩, ⟨?_, fun y hy => h.mx.2 y ((hm y).2 hy)⟩⟩
  · obtain ⟨y, hy, e⟩ := h.f.1; exact ⟨y, (hm y).1 hy, e⟩
  · obtain ⟨y, hy, e⟩ := h.t.1; exact ⟨y, (hm y).1 hy, e⟩
  · obtain ⟨y, hy, e⟩ := h.mn.1; exact ⟨y, (hm y).1 hy, e⟩
  · obtain ⟨y, hy, e⟩ := h.mx.1; exact ⟨y, (hm y).1 hy, e⟩
/-- One that is itself many made one. -/
theorem IsM.flat {x m : Pn} {l r : List Pn} (h : IsM x (m :: r)) (k : IsM m l) : IsM x (l ++ r) := by
  refine ⟨⟨?_, fun y hy => ?_⟩, ⟨?_, fun y hy => ?_⟩, ?_, ?_, ⟨?_, fun y hy => ?_⟩, ⟨?_, fun y hy => ?_⟩⟩
  · obtain ⟨y, hy, e⟩ := h.f.1
    rcases List.mem_cons.1 hy with rfl | hy
    · obtain ⟨z, hz, e'⟩ := k.f.1; exact ⟨z, List.mem_append_left _ hz, e.trans e'⟩
    · exact ⟨y, List.mem_append_right _ hy, e⟩
  · have h0 := h.f.2 m (by simp)
    rcases List.mem_append.1 hy with hy | hy
    · have := k.f.2 y hy; omega
    · exact h.f.2 y (List.mem_cons_of_mem _ hy)
  · obtain ⟨y, hy, e⟩ := h.t.1
    rcases List.mem_cons.1 hy with rfl | hy
    · obtain ⟨z, hz, e'⟩ := k.t.1; exact ⟨z, List.mem_append_left _ hz, e.trans e'⟩
    · exact ⟨y, List.mem_append_right _ hy, e⟩
  · have h0 := h.t.2 m (by simp)
    rcases List.mem_append.1 hy with hy | hy
    · have := k.t.2 y hy; omega
    · exact h.t.2 y (List.mem_cons_of_mem _ hy)
  · rw [h.c, csum_cons, k.c, csum_append]
  · rw [h.s, ssum_cons, k.s, wr_add, ssum_append]
  · obtain ⟨y, hy, e⟩ := h.mn.1
    rcases List.mem_cons.1 hy with rfl | hy
    · obtain ⟨z, hz, e'⟩ := k.mn.1; exact ⟨z, List.mem_append_left _ hz, e.trans e'⟩
    · exact ⟨y, List.mem_append_right _ hy, e⟩
  · have h0 := h.mn.2 m (by simp)
    rcases List.mem_append.1 hy with hy | hy
    · have := k.mn.2 y hy; omega
    · exact h.mn.2 y (List.mem_cons_of_mem _ hy)
  · obtain ⟨y, hy, e⟩ := h.mx.1
    rcases List.mem_cons.1 hy with rfl | hy
    · obtain ⟨z, hz, e'⟩ := k.mx.1; exact ⟨z, List.mem_append_left _ hz, e.trans e'⟩
    · exact ⟨y, List.mem_append_right _ hy, e⟩
  · have h0 := h.mx.2 m (by simp)
    rcases List.mem_append.1 hy with hy | hy
    · have := k.mx.2 y hy; omega
    · exact h.mx.2 y (List.mem_cons_of_mem _ hy)
/-- A sum that an int holds. -/
def Nrm (x : Pn) : Prop := wr x.a.s = x.a.s
theorem wr_wr (n : Int) : wr (wr n) = wr n := by
  have := wr_add n 0
  rwa [Int.add_zero, Int.add_zero] at this
theorem isM_one {x : Pn} (h : Nrm x) : IsM x [x] :=
  ⟨⟨⟨x, by simp, rfl⟩, fun y hy => by rw [List.mem_singleton.1 hy]; exact Int.le_refl _⟩, ⟨⟨x, by simp, rfl⟩, fun y hy => by rw [List.mem_singleton.1 hy]; exact Int.le_refl _⟩,
    by show x.a.c = x.a.c + 0; omega, by show x.a.s = wr (x.a.s + 0); rw [Int.add_zero]; exact h.symm,
    ⟨⟨x, by simp, rfl⟩, fun y hy => by rw [List.mem_singleton.1 hy]; exact Int.le_refl _⟩, ⟨⟨x, by simp, rfl⟩, fun y hy => by rw [List.mem_singleton.1 hy]; exact Int.le_refl _⟩⟩
theorem isM_two {p x : Pn} (hx : 1 ≤ x.a.c) (hp : 1 ≤ p.a.c) (hm : x.a.c + p.a.c ≤ 1000000000) : IsM ⟨p.k, min p.f x.f, max p.t x.t, jn x.a p.a⟩ [p, x] := by
  have e := jn_pos hx hp
  refine ⟨⟨?_, fun y hy => ?_⟩, ⟨?_, fun y hy => ?_⟩, ?_, ?_, ⟨?_, fun y hy => ?_⟩, ⟨?_, fun y hy => ?_⟩⟩
  · rcases Int.le_total p.f x.f with q | q
    · exact ⟨p, by simp, by simp only; omega⟩
    · exact ⟨x, by simp, by simp only; omega⟩
  · simp only [List.mem_cons, List.not_mem_nil, or_false] at hy
    rcases hy with rfl | rfl <;> (simp only; omega)
  · rcases Int.le_total p.t x.t with q | q
    · exact ⟨x, by simp, by simp only; omega⟩
    · exact ⟨p, by simp, by simp only; omega⟩
  · simp only [List.mem_cons, List.not_mem_nil, or_false] at hy
    rcases hy with rfl | rfl <;> (simp only; omega)
  · simp only [e]
    show wr (x.a.c + p.a.c) = p.a.c + (x.a.c + 0)
    rw [wr_in (by omega)]; omega
  · simp only [e]
    show wr (x.a.s + p.a.s) = wr (p.a.s + (x.a.s + 0))
    congr 1; omega
  · simp only [e]
    rcases Int.le_total p.a.mn x.a.mn with q | q
    · exact ⟨p, by simp, by omega⟩
    · exact ⟨x, by simp, by omega⟩
  · simp only [e]
    simp only [List.mem_cons, List.not_mem_nil, or_false] at hy
    rcases hy with rfl | rfl <;> omega
  · simp only [e]
    rcases Int.le_total p.a.mx x.a.mx with q | q
    · exact ⟨x, by simp, by omega⟩
    · exact ⟨p, by simp, by omega⟩
  · simp only [e]
    simp only [List.mem_cons, List.not_mem_nil, or_false] at hy
    rcases hy with rfl | rfl <;> omega
theorem isM_mrg : ∀ (l : List Pn) (p : Pn), Pos l → 1 ≤ p.a.c → Nrm p → p.a.c + csum l ≤ 1000000000 → IsM (mrg p l) (p :: l)
  | [], p, _, _, hn, _ => isM_one hn
  | x :: r, p, h, hp, hn, hm => by
    have hx := h x (by simp)
    have hr : Pos r := fun y hy => h y (List.mem_cons_of_mem _ hy)
    have hc := hr.csum
    rw [csum_cons] at hm
    have k := isM_two (p := p) (x := x) hx hp (by omega)
    have e : (jn x.a p.a).c = x.a.c + p.a.c := by rw [jn_pos hx hp]; exact wr_in (by omega)
    have h1 := isM_mrg r ⟨p.k, min p.f x.f, max p.t x.t, jn x.a p.a⟩ hr (by simp only; omega) (by
      show wr (jn x.a p.a).s = (jn x.a p.a).s
      rw [jn_pos hx hp]; exact wr_wr _) (by simp only; omega)
    rw [mrg_cons]
    exact h1.flat k
theorem perm_or (P Q : Pn → Bool) : ∀ l : List Pn, (l.filter P ++ l.filter (fun x => Q x && !P x)).Perm (l.filter fun x => P x || Q x)
  | [] => List.Perm.nil
  | x :: r => by
    have ih := perm_or P Q r
    cases hP : P x <;> cases hQ : Q x
    · simp [List.filter_cons, hP, hQ]; exact ih
    · simp only [List.filter_cons, hP, hQ, Bool.false_eq_true, if_false, Bool.not_false, Bool.and_self, if_true, Bool.false_or]
      exact List.perm_middle.trans (List.Perm.cons x ih)
    · simp only [List.filter_cons, hP, hQ, Bool.false_eq_true, if_false, Bool.not_true, Bool.and_false, if_true, Bool.or_false, List.cons_append]
      exact List.Perm.cons x ih
    · simp only [List.filter_cons, hP, hQ, Bool.false_eq_true, if_false, Bool.not_true, Bool.and_false, if_true, Bool.or_self, List.cons_append]
      exact List.Perm.cons x ih
end Go.Proofs.Ytlmnkmfpdjkijaa.Ke
