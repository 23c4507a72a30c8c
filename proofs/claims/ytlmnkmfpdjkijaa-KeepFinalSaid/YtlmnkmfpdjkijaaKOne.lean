/-
  One keep among the law's own rows; the copy of a call. Conditions: as the theorems name them.
-/
import Derived.Test.YtlmnkmfpdjkijaaKSmall
namespace Go.Proofs.Ytlmnkmfpdjkijaa.Ke
set_option linter.unusedVariables false
set_option linter.unusedSimpArgs false
open Go.RowKit
open Go.Proofs.Ytlmnkmfpdjkijaa.Ag (Ac jn vl wr wr_in wr_add wr_add2 ac_ext)
open Go.Proofs.Ytlmnkmfpdjkijaa.Wi (Sp ofS okW okT okT_is okW_cases cov_of Cov)

/-- One keep, at block g. -/
def One (w0 : World) (X : Nat → Prop) (g : Nat) (C : Cfg) (w : World) (l : List Pn) (m : Int) : Prop := ∃ b ls ms, Fam w0 X 1 b C w ls ms ∧ b 0 = g ∧ ls 0 = l ∧ ms 0 = m
variable {w0 w w' : World} {X : Nat → Prop} {g : Nat} {C : Cfg} {l : List Pn} {m : Int}
theorem one_new (hb : Below w0.heap.size w0 w) (hC : okA C = true) : Calls Try.prog 11 #[winV C.k C.s C.l, .int .i64 C.agg] w fun e' w' => ∃ g, e' = .returned (.tuple #[.pointer (some ⟨g, 0, none⟩), .int .i64 0]) ∧ One w0 (fun _ => False) g C w' [] 0 :=
  ((Fam.none w0 hb C (fun _ => 0) (fun _ => []) (fun _ => 0)).new hC).mono fun e w' ⟨g, h1, h2, _⟩ => ⟨g, h1, _, _, _, h2, upd_same _ _ _, upd_same _ _ _, upd_same _ _ _⟩
theorem One.below (h : One w0 X g C w l m) : Below w0.heap.size w0 w := by obtain ⟨b, ls, ms, h, -⟩ := h; exact h.below
theorem One.inv (h : One w0 X g C w l m) : Inv C.k C.s l m := by
  obtain ⟨b, ls, ms, h, -, rfl, rfl⟩ := h
  exact h.inv (by omega)
theorem One.low {X' : Nat → Prop} (h : One w0 X g C w l m) (hx : ∀ x, X' x → X x) : One w0 X' g C w l m := by
  obtain ⟨b, ls, ms, h, r⟩ := h
  exact ⟨b, ls, ms, h.low hx, r⟩
theorem One.grow (h : One w0 X g C w l m) (hb : Below w.heap.size w w') : One w0 X g C w' l m ∧ Kept X w w' := by
  obtain ⟨b, ls, ms, h, r⟩ := h
  exact ⟨⟨b, ls, ms, (h.grow hb).1, r⟩, (h.grow hb).2⟩
theorem One.own {row : Option Nat} (h : One w0 X g C w l m) (hg : w.grownBy w' row) (hr : ∀ g, row = some g → X g ∧ w0.heap.size ≤ g) : One w0 X g C w' l m := by
  obtain ⟨b, ls, ms, h, r⟩ := h
  exact ⟨b, ls, ms, h.own hg hr, r⟩
/-- A new block of the law's own. -/
theorem One.block (h : One w0 X g C w l m) (o : Obj) : One w0 (fun x => X x ∨ w.heap.size = x) g C (w.alloc o) l m := by
  obtain ⟨b, ls, ms, h, r⟩ := h
  have k := h.more (w' := w.alloc o) (v := .slice (some ⟨w.heap.size, 0, none⟩) 0 0) (fun q e => by simp only [Value.ownBlock, Option.some.injEq] at e; subst e; simp) ((Below.refl _ _).alloc (Nat.le_refl _) _)
  exact ⟨b, ls, ms, k.low (fun x hx => hx.elim .inl (fun e => .inr (by rw [e]; rfl))), r⟩
theorem One.put (h : One w0 X g C w l m) {r : Rc} (hv : I64 r.v) (hc : 100 + csum l ≤ 1000000) {l' : List Pn} {out : List Rc} {e : Int} (hs : sPut C l m r = (l', out, e)) : Calls Try.prog 13 #[.pointer (some ⟨g, 0, none⟩), rcV r] w fun e' w' =>
    ∃ v, e' = .returned (.tuple #[v, .int .i64 e]) ∧ RcsAt w' v out ∧ One w0 (More X v) g C w' l' m ∧ Kept X w w' := by
  obtain ⟨b, ls, ms, h, h1, h2, h3⟩ := h
  exact (h.put (by omega) h1 h2 h3 hv hc hs).mono fun e' w' ⟨v, k1, k2, k3, k4⟩ => ⟨v, k1, k2, ⟨_, _, _, k3, h1, upd_same _ _ _, upd_same _ _ _⟩, k4⟩
theorem One.mark (h : One w0 X g C w l m) {x : Int} {l' : List Pn} {m' : Int} {out : List Rc} {e : Int} (hs : sMark C l m x = (l', m', out, e)) : Calls Try.prog 16 #[.pointer (some ⟨g, 0, none⟩), .int .i64 x] w fun e' w' =>
    ∃ v, e' = .returned (.tuple #[v, .int .i64 e]) ∧ RcsAt w' v out ∧ One w0 (More X v) g C w' l' m' ∧ Kept X w w' := by
  obtain ⟨b, ls, ms, h, h1, h2, h3⟩ := h
  exact (h.mark (by omega) h1 h2 h3 hs).mono fun e' w' ⟨v, k1, k2, k3, k4⟩ => ⟨v, k1, k2, ⟨_, _, _, k3, h1, upd_same _ _ _, upd_same _ _ _⟩, k4⟩
theorem One.at_ (h : One w0 X g C w l m) : Calls Try.prog 14 #[.pointer (some ⟨g, 0, none⟩)] w fun e' w' => e' = .returned (.int .i64 m) ∧ One w0 X g C w' l m ∧ Below w.heap.size w w' := by
  obtain ⟨b, ls, ms, h, h1, h2, h3⟩ := h
  exact (h.at_ (by omega) h1 h3).mono fun e' w' ⟨k1, k2, k3⟩ => ⟨k1, ⟨_, _, _, k2, h1, h2, h3⟩, k3⟩
theorem One.at_same (h : One w0 X g C w l m) : Calls Try.prog 14 #[.pointer (some ⟨g, 0, none⟩)] w fun e' w' => e' = .returned (.int .i64 m) ∧ w' = w := by
  obtain ⟨b, ls, ms, ⟨-, -, S, h0, -⟩, rfl, -, rfl⟩ := h
  exact at_same (h0 0 (by omega)).1
theorem One.open_ (h : One w0 X g C w l m) : Calls Try.prog 17 #[.pointer (some ⟨g, 0, none⟩)] w fun e' w' => ∃ v, e' = .returned v ∧ PnsAt w' v l ∧ One w0 X g C w' l m ∧ Below w.heap.size w w' := by
  obtain ⟨b, ls, ms, h, h1, h2, h3⟩ := h
  exact (h.open_ (by omega) h1 h2).mono fun e' w' ⟨v, k1, k2, k3, k4⟩ => ⟨v, k1, k2, ⟨_, _, _, k3, h1, h2, h3⟩, k4⟩
/-- The law's copy of a call. -/
structure Cpy (w : World) (q : Nat) (x : Ob) : Prop where
  blk : w.heap[q]? = some (.cells #[.int .i64 x.kind, kyV x.r.k, .int .i64 x.r.t, .int .i64 x.r.v, .int .i64 x.at_, x.b] 35 (0, 0))
theorem Cpy.cells {q : Nat} {x : Ob} (h : Cpy w q x) : w.cell? ⟨q, 0, none⟩ = some (.int .i64 x.kind) ∧ w.cell? ⟨q, 1, none⟩ = some (kyV x.r.k) ∧ w.cell? ⟨q, 2, none⟩ = some (.int .i64 x.r.t) ∧ w.cell? ⟨q, 3, none⟩ = some (.int .i64 x.r.v) ∧ w.cell? ⟨q, 4, none⟩ = some (.int .i64 x.at_) := by
  refine ⟨?_, ?_, ?_, ?_, ?_⟩ <;> (rw [cell_of_heap h.blk]; rfl)
theorem Cpy.kept {q : Nat} {x : Ob} (h : Cpy w q x) (hk : Kept X w w') (hq : X q) : Cpy w' q x := ⟨(hk.2 q hq).trans h.blk⟩
/-- What a record that is put, or isn't, leaves. -/
theorem sPut_cases (C : Cfg) (l : List Pn) (m : Int) (r : Rc) (h0 : C.k ≠ 0) : (∃ e : Int, e ≠ 0 ∧ sPut C l m r = (l, [], e)) ∨ (okT r.t = true ∧ m ≤ r.t ∧ sPut C l m r = (kall (decide (C.k = 3)) l (raws C.k C.s C.l r.k r.t r.v), [], 0)) := by
  unfold sPut
  by_cases h1 : 16 < r.k.length ∨ okT r.t = false
  · rw [if_pos h1]; exact .inl ⟨1, by omega, rfl⟩
  · rw [if_neg h1]
    by_cases h2 : r.t < m
    · rw [if_pos h2]; exact .inl ⟨7, by omega, rfl⟩
    · rw [if_neg h2, if_neg h0]
      refine .inr ⟨?_, by omega, rfl⟩
      cases h : okT r.t with
      | true => rfl
      | false => exact absurd (.inr h) h1
theorem sMark_cases (C : Cfg) (l : List Pn) (m x : Int) : (∃ e, sMark C l m x = (l, m, [], e)) ∨ (m < x ∧ x ≤ 1000000001 ∧ sMark C l m x = (rest x l, x, told C.agg x l, 0)) := by
  unfold sMark
  cases h1 : okM x with
  | false => rw [if_pos rfl]; exact .inl ⟨1, rfl⟩
  | true =>
    rw [if_neg (by simp)]
    by_cases h2 : x ≤ m
    · rw [if_pos h2]; exact .inl ⟨0, rfl⟩
    · rw [if_neg h2]
      unfold okM at h1
      simp at h1
      exact .inr ⟨by omega, h1.2, rfl⟩
theorem vsum_take {T : List Rc} {k : Nat} (h : k < T.length) : vsum (T.take (k + 1)) = vsum (T.take k) + T[k].v := by
  rw [List.take_succ_eq_append_getElem h]
  induction T.take k with
  | nil => show T[k].v + 0 = 0 + T[k].v; omega
  | cons x r ih => show x.v + vsum (r ++ [T[k]]) = x.v + vsum r + T[k].v; rw [ih]; omega
theorem ssum_take {T : List Pn} {k : Nat} (h : k < T.length) : ssum (T.take (k + 1)) = ssum (T.take k) + T[k].a.s := by
  rw [List.take_succ_eq_append_getElem h, ssum_append]
  show _ + (T[k].a.s + 0) = _
  omega
theorem csum_take {T : List Pn} {k : Nat} (h : k < T.length) : csum (T.take (k + 1)) = csum (T.take k) + T[k].a.c := by
  rw [List.take_succ_eq_append_getElem h, csum_append]
  show _ + (T[k].a.c + 0) = _
  omega
end Go.Proofs.Ytlmnkmfpdjkijaa.Ke
