/-
  Keeps at once, each in memory of its own: what a call of one leaves of the others and of the law's own rows. Conditions: as each theorem names them.
-/
import Derived.Test.YtlmnkmfpdjkijaaKProg
namespace Go.Proofs.Ytlmnkmfpdjkijaa.Ke
set_option linter.unusedVariables false
set_option linter.unusedSimpArgs false
open Go.RowKit

/-- One number turned. -/
def upd {α : Type} (f : Nat → α) (i : Nat) (x : α) : Nat → α := fun j => if j = i then x else f j
theorem upd_same {α : Type} (f : Nat → α) (i : Nat) (x : α) : upd f i x i = x := by unfold upd; rw [if_pos rfl]
theorem upd_other {α : Type} (f : Nat → α) {i j : Nat} (x : α) (h : j ≠ i) : upd f i x j = f j := by unfold upd; rw [if_neg h]
/-- Keeps 0 to n - 1 lie apart, above w0, and apart from the rows X. -/
def Fam (w0 : World) (X : Nat → Prop) (n : Nat) (b : Nat → Nat) (C : Cfg) (w : World) (ls : Nat → List Pn) (ms : Nat → Int) : Prop :=
  (∀ x, X x → x < w.heap.size) ∧ Below w0.heap.size w0 w ∧ ∃ S : Nat → Nat → Prop, (∀ i, i < n → KAt w (S i) (b i) C (ls i) (ms i) ∧ ∀ x, S i x → w0.heap.size ≤ x ∧ ¬ X x) ∧ ∀ i j, i < n → j < n → i ≠ j → ∀ x, S i x → ¬ S j x
/-- What lies in X lies as it lay. -/
def Kept (X : Nat → Prop) (w w' : World) : Prop := w.heap.size ≤ w'.heap.size ∧ ∀ x, X x → w'.heap[x]? = w.heap[x]?
def More (X : Nat → Prop) (v : Value) : Nat → Prop := fun x => X x ∨ v.ownBlock = some x
variable {w0 w w' : World} {X : Nat → Prop} {n : Nat} {b : Nat → Nat} {C : Cfg} {ls : Nat → List Pn} {ms : Nat → Int}
theorem Fam.below (h : Fam w0 X n b C w ls ms) : Below w0.heap.size w0 w := h.2.1
theorem Fam.low {X' : Nat → Prop} (h : Fam w0 X n b C w ls ms) (hx : ∀ x, X' x → X x) : Fam w0 X' n b C w ls ms := by
  obtain ⟨h1, h2, S, h3, h4⟩ := h
  exact ⟨fun x hx' => h1 x (hx x hx'), h2, S, fun i hi => ⟨(h3 i hi).1, fun x hs => ⟨((h3 i hi).2 x hs).1, fun hx' => ((h3 i hi).2 x hs).2 (hx x hx')⟩⟩, h4⟩
/-- New memory. -/
theorem Fam.grow (h : Fam w0 X n b C w ls ms) (hb : Below w.heap.size w w') : Fam w0 X n b C w' ls ms ∧ Kept X w w' := by
  obtain ⟨h1, h2, S, h3, h4⟩ := h
  exact ⟨⟨fun x hx => Nat.lt_of_lt_of_le (h1 x hx) hb.size, grow_below h2 hb, S, fun i hi => ⟨(h3 i hi).1.keep hb.size (fun x hx => hb.block x ((h3 i hi).1.lt x hx)), (h3 i hi).2⟩, h4⟩, hb.size, fun x hx => hb.block x (h1 x hx)⟩
/-- A row of the law's own turned, or new. -/
theorem Fam.own {row : Option Nat} (h : Fam w0 X n b C w ls ms) (hg : w.grownBy w' row) (hr : ∀ g, row = some g → X g ∧ w0.heap.size ≤ g) : Fam w0 X n b C w' ls ms := by
  obtain ⟨h1, h2, S, h3, h4⟩ := h
  refine ⟨fun x hx => Nat.lt_of_lt_of_le (h1 x hx) hg.size, h2.grown hg h2.size (fun g e => (hr g e).2), S, fun i hi => ⟨(h3 i hi).1.keep hg.size (fun x hx => ?_), (h3 i hi).2⟩, h4⟩
  exact hg.block x ((h3 i hi).1.lt x hx) (fun e => ((h3 i hi).2 x hx).2 (hr x e.symm).1)
/-- New rows of the law's own. -/
theorem Fam.more (h : Fam w0 X n b C w ls ms) {v : Value} (hv : ∀ g, v.ownBlock = some g → g < w'.heap.size ∧ w.heap.size ≤ g) (hb : Below w.heap.size w w') : Fam w0 (More X v) n b C w' ls ms := by
  obtain ⟨h1, h2, S, h3, h4⟩ := h
  refine ⟨fun x hx => ?_, grow_below h2 hb, S, fun i hi => ⟨(h3 i hi).1.keep hb.size (fun x hx => hb.block x ((h3 i hi).1.lt x hx)), fun x hs => ⟨((h3 i hi).2 x hs).1, fun hx => ?_⟩⟩, h4⟩
  · rcases hx with hx | hx
    · exact Nat.lt_of_lt_of_le (h1 x hx) hb.size
    · exact (hv x hx).1
  · rcases hx with hx | hx
    · exact ((h3 i hi).2 x hs).2 hx
    · have := (hv x hx).2
      have := (h3 i hi).1.lt x hs
      omega
theorem Fam.after (h : Fam w0 X n b C w ls ms) {i : Nat} (hi : i < n) {S : Nat → Nat → Prop} (h3 : ∀ i, i < n → KAt w (S i) (b i) C (ls i) (ms i) ∧ ∀ x, S i x → w0.heap.size ≤ x ∧ ¬ X x) (h4 : ∀ i j, i < n → j < n → i ≠ j → ∀ x, S i x → ¬ S j x)
    {v : Value} {S' : Nat → Prop} {l' : List Pn} {m' : Int} (hv : Own w w' S' v) (hk : KAt w' S' (b i) C l' m') (hu : Upd (S i) S' w w') :
    Fam w0 (More X v) n b C w' (upd ls i l') (upd ms i m') ∧ Kept X w w' := by
  obtain ⟨h1, h2, -⟩ := h
  have hlow : ∀ x, S' x → w0.heap.size ≤ x ∧ ¬ X x := fun x hx => by
    rcases hu.foot x hx with e | e
    · exact (h3 i hi).2 x e
    · exact ⟨Nat.le_trans h2.size e, fun hX => by have := h1 x hX; omega⟩
  refine ⟨⟨fun x hx => ?_, h2.trans ⟨hu.os, hu.tape, hu.output, hu.size, fun x hx => hu.block x (Nat.lt_of_lt_of_le hx h2.size) (fun e => by have := ((h3 i hi).2 x e).1; omega)⟩, upd S i S', fun j hj => ?_, fun j k hj hk' hne x hx => ?_⟩, hu.size, fun x hx => hu.block x (h1 x hx) (fun e => ((h3 i hi).2 x e).2 hx)⟩
  · rcases hx with hx | hx
    · exact Nat.lt_of_lt_of_le (h1 x hx) hu.size
    · exact (hv x hx).2.1
  · by_cases e : j = i
    · subst e
      rw [upd_same, upd_same, upd_same]
      exact ⟨hk, fun x hs => ⟨(hlow x hs).1, fun hx => hx.elim (hlow x hs).2 (fun hx => (hv x hx).2.2 hs)⟩⟩
    · rw [upd_other _ _ e, upd_other _ _ e, upd_other _ _ e]
      refine ⟨(h3 j hj).1.keep hu.size (fun x hx => hu.block x ((h3 j hj).1.lt x hx) (h4 j i hj hi e x hx)), fun x hs => ⟨((h3 j hj).2 x hs).1, fun hx => hx.elim ((h3 j hj).2 x hs).2 (fun hx => ?_)⟩⟩
      have := (hv x hx).1
      have := (h3 j hj).1.lt x hs
      omega
  · by_cases e : j = i
    · subst e
      rw [upd_same] at hx
      rw [upd_other _ _ (fun q => hne q.symm)]
      rcases hu.foot x hx with q | q
      · exact h4 j k hj hk' hne x q
      · intro q'
        have := (h3 k hk').1.lt x q'
        omega
    · rw [upd_other _ _ e] at hx
      by_cases e' : k = i
      · subst e'
        rw [upd_same]
        intro q
        rcases hu.foot x q with q | q
        · exact h4 j k hj hk' hne x hx q
        · have := (h3 j hj).1.lt x hx
          omega
      · rw [upd_other _ _ e']
        exact h4 j k hj hk' hne x hx
theorem Fam.inv (h : Fam w0 X n b C w ls ms) {i : Nat} (hi : i < n) : Inv C.k C.s (ls i) (ms i) := by
  obtain ⟨-, -, S, h3, -⟩ := h
  exact (h3 i hi).1.inv
theorem Fam.at_ (h : Fam w0 X n b C w ls ms) {i : Nat} (hi : i < n) {g : Nat} (hb : b i = g) {m : Int} (hm : ms i = m) : Calls Try.prog 14 #[.pointer (some ⟨g, 0, none⟩)] w fun e' w' => e' = .returned (.int .i64 m) ∧ Fam w0 X n b C w' ls ms ∧ Below w.heap.size w w' := by
  subst hb
  obtain ⟨-, -, S, h3, -⟩ := id h
  exact (at_at (h3 i hi).1).mono fun e w' ⟨h1, h2⟩ => ⟨by rw [h1, hm], (h.grow h2).1, h2⟩
theorem Fam.open_ (h : Fam w0 X n b C w ls ms) {i : Nat} (hi : i < n) {g : Nat} (hb : b i = g) {l : List Pn} (hl : ls i = l) : Calls Try.prog 17 #[.pointer (some ⟨g, 0, none⟩)] w fun e' w' => ∃ v, e' = .returned v ∧ PnsAt w' v l ∧ Fam w0 X n b C w' ls ms ∧ Below w.heap.size w w' := by
  subst hb
  obtain ⟨-, -, S, h3, -⟩ := id h
  exact (open_at (h3 i hi).1).mono fun e w' ⟨v, h1, h2, _, h4⟩ => ⟨v, h1, by rw [← hl]; exact h2, (h.grow h4).1, h4⟩
theorem Fam.put (h : Fam w0 X n b C w ls ms) {i : Nat} (hi : i < n) {g : Nat} (hb : b i = g) {l : List Pn} (hl : ls i = l) {m : Int} (hm : ms i = m) {r : Rc} (hv : I64 r.v) (hc : 100 + csum l ≤ 1000000) {l' : List Pn} {out : List Rc} {e : Int} (hs : sPut C l m r = (l', out, e)) : Calls Try.prog 13 #[.pointer (some ⟨g, 0, none⟩), rcV r] w fun e' w' =>
    ∃ v, e' = .returned (.tuple #[v, .int .i64 e]) ∧ RcsAt w' v out ∧ Fam w0 (More X v) n b C w' (upd ls i l') (upd ms i m) ∧ Kept X w w' := by
  subst hb hl hm
  obtain ⟨h1, h2, S, h3, h4⟩ := id h
  exact (put_at (h3 i hi).1 hv hc hs).mono fun e' w' ⟨v, S', k1, k2, k3, k4, k5⟩ => ⟨v, k1, k2, h.after hi h3 h4 k3 k4 k5⟩
theorem Fam.mark (h : Fam w0 X n b C w ls ms) {i : Nat} (hi : i < n) {g : Nat} (hb : b i = g) {l : List Pn} (hl : ls i = l) {m : Int} (hm : ms i = m) {x : Int} {l' : List Pn} {m' : Int} {out : List Rc} {e : Int} (hs : sMark C l m x = (l', m', out, e)) : Calls Try.prog 16 #[.pointer (some ⟨g, 0, none⟩), .int .i64 x] w fun e' w' =>
    ∃ v, e' = .returned (.tuple #[v, .int .i64 e]) ∧ RcsAt w' v out ∧ Fam w0 (More X v) n b C w' (upd ls i l') (upd ms i m') ∧ Kept X w w' := by
  subst hb hl hm
  obtain ⟨h1, h2, S, h3, h4⟩ := id h
  exact (mark_at (h3 i hi).1 hs).mono fun e' w' ⟨v, S', k1, k2, k3, k4, k5⟩ => ⟨v, k1, k2, h.after hi h3 h4 k3 k4 k5⟩
/-- A keep is made. -/
theorem Fam.new (h : Fam w0 X n b C w ls ms) (hC : okA C = true) : Calls Try.prog 11 #[winV C.k C.s C.l, .int .i64 C.agg] w fun e' w' => ∃ g, e' = .returned (.tuple #[.pointer (some ⟨g, 0, none⟩), .int .i64 0]) ∧ Fam w0 X (n + 1) (upd b n g) C w' (upd ls n []) (upd ms n 0) ∧ Below w.heap.size w w' := by
  obtain ⟨h1, h2, S, h3, h4⟩ := id h
  refine (new_ok hC w).mono fun e w' ⟨g, S', k1, k2, k3, k4⟩ => ⟨g, k1, ⟨fun x hx => Nat.lt_of_lt_of_le (h1 x hx) k4.size, grow_below h2 k4, upd S n S', fun j hj => ?_, fun j k hj hk hne x hx => ?_⟩, k4⟩
  · by_cases e : j = n
    · subst e
      rw [upd_same, upd_same, upd_same, upd_same]
      exact ⟨k2, fun x hs => ⟨Nat.le_trans h2.size (k3 x hs), fun hX => by have := h1 x hX; have := k3 x hs; omega⟩⟩
    · rw [upd_other _ _ e, upd_other _ _ e, upd_other _ _ e, upd_other _ _ e]
      have hjn : j < n := by omega
      exact ⟨(h3 j hjn).1.keep k4.size (fun x hx => k4.block x ((h3 j hjn).1.lt x hx)), (h3 j hjn).2⟩
  · by_cases e : j = n
    · subst e
      rw [upd_same] at hx
      rw [upd_other _ _ (fun q => hne q.symm)]
      intro q
      have := (h3 k (by omega)).1.lt x q
      have := k3 x hx
      omega
    · rw [upd_other _ _ e] at hx
      by_cases e' : k = n
      · subst e'
        rw [upd_same]
        intro q
        have := (h3 j (by omega)).1.lt x hx
        have := k3 x q
        omega
      · rw [upd_other _ _ e']
        exact h4 j k (by omega) (by omega) hne x hx
theorem Fam.none (w0 : World) (hb : Below w0.heap.size w0 w) (C : Cfg) (b : Nat → Nat) (ls : Nat → List Pn) (ms : Nat → Int) : Fam w0 (fun _ => False) 0 b C w ls ms :=
  ⟨(fun x hx => hx.elim), hb, (fun _ _ => False), (fun i hi => absurd hi (Nat.not_lt_zero i)), (fun i j hi => absurd hi (Nat.not_lt_zero i))⟩
end Go.Proofs.Ytlmnkmfpdjkijaa.Ke
