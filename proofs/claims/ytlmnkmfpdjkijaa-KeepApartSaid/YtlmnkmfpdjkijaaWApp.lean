/-
  A row of spans put behind one's own: append(own, l...). Conditions: l lies in memory.
-/
import Derived.Test.YtlmnkmfpdjkijaaWKit
import Derived.Deep.Upon
namespace Go.Proofs.Ytlmnkmfpdjkijaa.Wi
set_option linter.unusedVariables false
set_option linter.unusedSimpArgs false
open Go.RowKit

theorem scs_at : ∀ {L : List Sp} {j : Nat} {u : Value}, (scs L)[j]? = some u → ∃ x, L[j / 2]? = some x ∧ (spC x)[j % 2]? = some u
  | [], j, u, h => by simp [scs] at h
  | x :: r, 0, u, h => ⟨x, rfl, by simpa [scs] using h⟩
  | x :: r, 1, u, h => ⟨x, rfl, by simpa [scs] using h⟩
  | x :: r, j + 2, u, h => by
    have h' : (scs r)[j]? = some u := by simpa [scs] using h
    obtain ⟨y, h1, h2⟩ := scs_at h'
    refine ⟨y, ?_, ?_⟩
    · rw [show (j + 2) / 2 = j / 2 + 1 by omega]; simpa using h1
    · rw [show (j + 2) % 2 = j % 2 by omega]; exact h2
theorem SpansAt.flat {w : World} {b o n c : Nat} {L : List Sp} (h : SpansAt w (.slice (some ⟨b, o, none⟩) n c) L) (h0 : L ≠ []) : ∀ (j : Nat) (u : Value), (scs L)[j]? = some u → w.cell? (Addr.add ⟨b, o, none⟩ j) = some u := by
  obtain ⟨a', cap', h1, h2, h3, h3', h4⟩ := h
  injection h1 with e1 e2 e3
  obtain ⟨b', o', e, hl, hc⟩ := h4 h0
  rw [e] at e1
  injection e1 with e1
  injection e1 with e1 e1'
  subst e1 e1'
  intro j u hu
  obtain ⟨x, hx, hxu⟩ := scs_at hu
  have := hc (j / 2) x hx (j % 2) u hxu
  rw [Addr.add_lit]
  rw [show o + j = o + j / 2 * 2 + j % 2 by omega]
  exact this
theorem run_append_no {w : World} (base : Nat) (v : Value) (n : Nat) (xs : List Value) (hown : w.ownsRow base 49 2 v n xs) (ty : TypeId) (a : Option Addr) (c : Nat) :
    (Builtin.append_ #[40, 40] ty #[v, .slice a 0 c]).run Try.prog w = .ok v w := by
  obtain ⟨i0, hi, hz0, hz1, hz2⟩ := info_parts infoS
  have hs : Src Try.prog i0.size 40 (.slice a 0 c) 0 [] w := by
    cases a with
    | none => exact Src.ofNil w Try.underlying40 c
    | some p => exact Src.ofSlice w Try.underlying40 p 0 c [] (by simp) (fun j u h => by simp at h) (fun u h => by cases h)
  rcases hown.2 with ⟨rfl, rfl⟩ | ⟨g, cap, cur, rfl, _, _, hnc, _⟩
  · exact run_append_nothing w _ _ ty 49 i0 Try.underlying40 hi none 0 0 (Nat.le_refl _) _ hs
  · exact run_append_nothing w _ _ ty 49 i0 Try.underlying40 hi (some ⟨g, 0, none⟩) n cap hnc _ hs
/-- append(own, l...), whatever l lists. -/
theorem wpList_append_spans {w : World} {ops : Array Oper} {rest : List Oper} {o : Oper} {a : Act} {Q : Exit → Act → World → Prop} (hgd : o.guard = none) (s x : Operand)
    (ho : o.op = .call { callee := .builtin .append, args := #[s, x], argTypes := #[40, 40] })
    (base : Nat) (v : Value) (M : List Sp) (hs : a.eval s = v) (hown : w.ownsRow base 49 2 v M.length (scs M))
    (p : Option Addr) (m c : Nat) (L : List Sp) (hx : a.eval x = .slice p m c) (hl : SpansAt w (.slice p m c) L)
    (h63 : M.length + m ≤ 100000) (hbase : base ≤ w.heap.size)
    (h : ∀ v' w', w'.ownsRow base 49 2 v' (M ++ L).length (scs (M ++ L)) → w.grownBy w' v.ownBlock → wpList Try.prog ops Q rest (a.put o.dst v') w') : wpList Try.prog ops Q (o :: rest) a w := by
  obtain ⟨hml, k1, k2, k3⟩ := hl.len
  by_cases h0 : m = 0
  · have hL : L = [] := List.length_eq_zero_iff.1 (by omega)
    subst hL
    subst h0
    have hr := run_append_no base v M.length (scs M) hown o.type p c
    refine wpList_plain hgd fun K hK => ?_
    unfold Oper.wp
    simp [execOp, ho, resolve, invoke, builtin, hs, hx, hr, Result.andThen]
    exact hK _ _ (h v w (by simpa using hown) ⟨rfl, rfl, rfl, Nat.le_refl _, fun _ _ _ => rfl⟩)
  · have hL0 : L ≠ [] := fun e => h0 (by rw [hml, e]; rfl)
    obtain ⟨b, oo, rfl, -, -⟩ := hl.at_ (i := 0) (by omega)
    obtain ⟨i0, hi, hz0, hz1, hz2⟩ := info_parts infoS
    refine wpList_append_lies w hgd s x 40 ho base 49 i0 (.agg #[.int .i64 0, .int .i64 0]) 2 16 Try.underlying40 hi hz0 hz1 hz2 rfl (by decide) v M.length (scs M) hs hown ⟨b, oo, none⟩ m c (scs L) hx (by rw [scs_len, hml]) (hl.flat hL0) (one_scs L) (by omega) (by unfold maxLen; omega) (by omega) hbase _ rfl ?_
    intro g cap w' h1 h2 h3 h4
    refine h _ w' ?_ h2
    rw [scs_append, List.length_append, ← hml]
    exact h1
/-- One span more. -/
theorem wpList_append_span {w : World} {ops : Array Oper} {rest : List Oper} {o : Oper} {a : Act} {Q : Exit → Act → World → Prop} (hgd : o.guard = none) (s x : Operand)
    (ho : o.op = .call { callee := .builtin .append, args := #[s, x], argTypes := #[40, 40] })
    (base : Nat) (v : Value) (M : List Sp) (hs : a.eval s = v) (w0 : World) (q : Sp) (hw : w = w0.alloc (.cells #[.int .i64 q.1, .int .i64 q.2] 49)) (hown : w0.ownsRow base 49 2 v M.length (scs M))
    (hx : a.eval x = .slice (some ⟨w0.heap.size, 0, none⟩) 1 1)
    (h63 : M.length ≤ 90000) (hbase : base ≤ w0.heap.size)
    (h : ∀ v' w', w'.ownsRow base 49 2 v' (M ++ [q]).length (scs (M ++ [q])) → w.grownBy w' v.ownBlock → wpList Try.prog ops Q rest (a.put o.dst v') w') : wpList Try.prog ops Q (o :: rest) a w := by
  have hb : w.heap[w0.heap.size]? = some (.cells #[.int .i64 q.1, .int .i64 q.2] 49 (0, 0)) := by rw [hw]; exact heap_alloc_new w0 _
  have hl : SpansAt w (.slice (some ⟨w0.heap.size, 0, none⟩) 1 1) [q] := ⟨some ⟨w0.heap.size, 0, none⟩, 1, rfl, Nat.le_refl _, by unfold maxLen; simp, by unfold maxLen; decide, fun _ => ⟨w0.heap.size, 0, rfl, lt_of_heap hb, fun i x hi j u hj => by
    match i, hi with
    | 0, hi =>
      simp only [List.getElem?_cons_zero, Option.some.injEq] at hi
      subst hi
      rw [cell_of_heap hb]
      match j, hj with
      | 0, hj => simpa using hj
      | 1, hj => simpa using hj
      | j + 2, hj => simp at hj
    | i + 1, hi => simp at hi⟩⟩
  exact wpList_append_spans hgd s x ho base v M hs (ownsRow_below hown (by rw [hw]; exact (Below.refl _ _).alloc (Nat.le_refl _) _)) _ 1 1 [q] hx hl (by omega) (by rw [hw]; simp; omega) h
end Go.Proofs.Ytlmnkmfpdjkijaa.Wi
