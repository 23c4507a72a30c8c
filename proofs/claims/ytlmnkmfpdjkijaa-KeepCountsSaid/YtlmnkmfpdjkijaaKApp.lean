/-
  A row of panes put behind one's own. Conditions: at most 8000000 panes.
-/
import Derived.Test.YtlmnkmfpdjkijaaKSrt2
import Derived.Deep.AppendLies
import Derived.Deep.Upon
import Derived.Lib.AppendZeros
namespace Go.Proofs.Ytlmnkmfpdjkijaa.Kp
set_option linter.unusedVariables false
set_option linter.unusedSimpArgs false
open Go.Proofs.Ytlmnkmfpdjkijaa Go.Proofs.Ytlmnkmfpdjkijaa.Ke
open Go.RowKit

theorem pns_append (L M : List Pn) : pns (L ++ M) = pns L ++ pns M := by simp [pns]
theorem one_pns (L : List Pn) : ∀ u ∈ pns L, u.oneCell' = true := by
  intro u hu
  obtain ⟨x, -, hx⟩ := List.mem_flatMap.1 hu
  exact one_pn x u hx
theorem infoN : (Try.prog.info? 51).map (fun i => (i.zero, i.size, i.bytes)) = some (some (.agg #[.string ⟨#[]⟩, .int .i64 0, .int .i64 0, .int .i64 0, .int .i64 0, .int .i64 0, .int .i64 0]), 7, 64) := by kernel_rfl
theorem pnsFlat {w : World} {b o n c : Nat} {L : List Pn} (h : PnsAt w (.slice (some ⟨b, o, none⟩) n c) L) (h0 : L ≠ []) : ∀ (j : Nat) (u : Value), (pns L)[j]? = some u → w.cell? (Addr.add ⟨b, o, none⟩ j) = some u := by
  obtain ⟨a', cap', h1, h2, h3, h3', h4⟩ := h
  injection h1 with e1 e2 e3
  obtain ⟨b', o', e, hl, hc⟩ := h4 h0
  rw [e] at e1
  injection e1 with e1
  injection e1 with e1 e1'
  subst e1 e1'
  intro j u hu
  have hj : j < L.length * 7 := by
    have := (List.getElem?_eq_some_iff.1 hu).1
    rwa [pns_len] at this
  rw [pns_at hj] at hu
  have hi : j / 7 < L.length := by omega
  have hx : L[j / 7]? = some L[j / 7]! := by rw [List.getElem?_eq_getElem hi, getElem!_pos L (j / 7) hi]
  have := hc (j / 7) _ hx (j % 7) u hu
  rw [Addr.add_lit]
  rw [show o + j = o + j / 7 * 7 + j % 7 by omega]
  exact this
theorem run_app_types {w : World} {T1 T2 ty : TypeId} (h1 : Try.prog.underlying T1 = some (.slice 51)) (h2 : Try.prog.underlying T2 = some (.slice 51)) (a : Option Addr) (n c : Nat) (x : Value) :
    (Builtin.append_ #[T1, T2] ty #[.slice a n c, x]).run Try.prog w = (Builtin.append_ #[T1, T1] ty #[.slice a n c, x]).run Try.prog w := by
  obtain ⟨i0, hi, hz0, hz1, hz2⟩ := info_parts infoN
  simp [Builtin.append_, Sem.run_bind, run_underlying h1, run_underlying h2, sizeOf, typeInfo, hi]
theorem run_app_no {w : World} (base : Nat) (v : Value) (n : Nat) (xs : List Value) (hown : w.ownsRow base 51 7 v n xs) {T ty : TypeId} (hT : Try.prog.underlying T = some (.slice 51)) (a : Option Addr) (c : Nat) :
    (Builtin.append_ #[T, T] ty #[v, .slice a 0 c]).run Try.prog w = .ok v w := by
  obtain ⟨i0, hi, hz0, hz1, hz2⟩ := info_parts infoN
  have hs : Src Try.prog i0.size T (.slice a 0 c) 0 [] w := by
    cases a with
    | none => exact Src.ofNil w hT c
    | some p => exact Src.ofSlice w hT p 0 c [] (by simp) (fun j u h => by simp at h) (fun u h => by cases h)
  rcases hown.2 with ⟨rfl, rfl⟩ | ⟨g, cap, cur, rfl, _, _, hnc, _⟩
  · exact run_append_nothing w _ _ ty 51 i0 hT hi none 0 0 (Nat.le_refl _) _ hs
  · exact run_append_nothing w _ _ ty 51 i0 hT hi (some ⟨g, 0, none⟩) n cap hnc _ hs
/-- append(own, l...), whatever l lists. -/
theorem run_app {w : World} {T1 T2 : TypeId} (h1 : Try.prog.underlying T1 = some (.slice 51)) (h2 : Try.prog.underlying T2 = some (.slice 51)) (ty : TypeId) {base : Nat} {v : Value} {M : List Pn} (hown : w.ownsRow base 51 7 v M.length (pns M))
    {x : Value} {L : List Pn} (hl : PnsAt w x L) (h63 : M.length + L.length ≤ 8000000) (hbase : base ≤ w.heap.size) :
    ∃ v' w', (Builtin.append_ #[T1, T2] ty #[v, x]).run Try.prog w = .ok v' w' ∧ w'.ownsRow base 51 7 v' (M ++ L).length (pns (M ++ L)) ∧ w.grownBy w' v.ownBlock ∧ (∀ g, v'.ownBlock = some g → g < w'.heap.size ∧ (v.ownBlock = some g ∨ w.heap.size ≤ g)) := by
  obtain ⟨p, c, rfl⟩ := hl.val
  obtain ⟨va, vc, hv⟩ : ∃ va vc, v = .slice va M.length vc := (row_slice hown).elim fun a h => h.elim fun c h => ⟨a, c, h.1⟩
  have ht : ∀ x, (Builtin.append_ #[T1, T2] ty #[v, x]).run Try.prog w = (Builtin.append_ #[T1, T1] ty #[v, x]).run Try.prog w := fun x => by rw [hv]; exact run_app_types h1 h2 _ _ _ _
  rw [ht]
  by_cases h0 : L = []
  · subst h0
    refine ⟨v, w, run_app_no base v M.length (pns M) hown h1 p c, by simpa using hown, ⟨rfl, rfl, rfl, Nat.le_refl _, fun _ _ _ => rfl⟩, fun g e => ⟨?_, .inl e⟩⟩
    rcases hown.2 with ⟨rfl, -⟩ | ⟨g', cap, cur, rfl, k1, k2, -⟩
    · cases e
    · simp only [Value.ownBlock, Option.some.injEq] at e; subst e; exact lt_of_heap k2
  · have hL : 0 < L.length := List.length_pos_iff.2 h0
    obtain ⟨b, oo, rfl, -, -⟩ := Lst.at_ hl (i := 0) hL
    obtain ⟨i0, hi, hz0, hz1, hz2⟩ := info_parts infoN
    obtain ⟨g, cap, w', hr, k1, k2, k3, k4⟩ := run_append_lies (P := Try.prog) w T1 ty base 51 i0 (.agg #[.string ⟨#[]⟩, .int .i64 0, .int .i64 0, .int .i64 0, .int .i64 0, .int .i64 0, .int .i64 0]) 7 64 h1 hi hz0 hz1 hz2 rfl (by decide) v M.length (pns M) hown ⟨b, oo, none⟩ L.length c (pns L) (pns_len L) (pnsFlat hl h0) (one_pns L) hL (by unfold maxLen; omega) (by omega) hbase _ rfl
    refine ⟨_, w', hr, ?_, k2, fun k e => ?_⟩
    · rw [pns_append, List.length_append]; exact k1
    · simp only [Value.ownBlock, Option.some.injEq] at e
      subst e
      exact ⟨k4, k3.imp_right (fun e => by omega)⟩
theorem wpList_app {w : World} {ops : Array Oper} {rest : List Oper} {o : Oper} {a : Act} {Q : Exit → Act → World → Prop} (hgd : o.guard = none) (s x : Operand) (T1 T2 : TypeId)
    (ho : o.op = .call { callee := .builtin .append, args := #[s, x], argTypes := #[T1, T2] }) (h1 : Try.prog.underlying T1 = some (.slice 51)) (h2 : Try.prog.underlying T2 = some (.slice 51))
    (base : Nat) (v : Value) (M : List Pn) (hs : a.eval s = v) (hown : w.ownsRow base 51 7 v M.length (pns M)) (vx : Value) (L : List Pn) (hx : a.eval x = vx) (hl : PnsAt w vx L) (h63 : M.length + L.length ≤ 8000000) (hbase : base ≤ w.heap.size)
    (h : ∀ v' w', w'.ownsRow base 51 7 v' (M ++ L).length (pns (M ++ L)) → w.grownBy w' v.ownBlock → (∀ g, v'.ownBlock = some g → g < w'.heap.size ∧ (v.ownBlock = some g ∨ w.heap.size ≤ g)) → wpList Try.prog ops Q rest (a.put o.dst v') w') : wpList Try.prog ops Q (o :: rest) a w := by
  obtain ⟨v', w', hr, k1, k2, k3⟩ := run_app h1 h2 o.type hown hl h63 hbase
  exact Lib.wpList_append_run w hgd s x T1 T2 ho v vx hs hx v' w' hr (h v' w' k1 k2 k3)
theorem pn_block {w : World} {b : Nat} {q : Pn} (hb : w.heap[b]? = some (pnO q)) : PnsAt w (.slice (some ⟨b, 0, none⟩) 1 1) [q] :=
  ⟨some ⟨b, 0, none⟩, 1, rfl, Nat.le_refl _, by unfold maxLen; simp, by unfold maxLen; decide, fun _ => ⟨b, 0, rfl, lt_of_heap hb, fun i x hi j u hj => by
    match i, hi with
    | 0, hi =>
      simp only [List.getElem?_cons_zero, Option.some.injEq] at hi
      subst hi
      rw [cell_of_heap hb, show 0 + 0 * 7 + j = j by omega, ← Array.getElem?_toList]
      exact hj
    | i + 1, hi => simp at hi⟩⟩
end Go.Proofs.Ytlmnkmfpdjkijaa.Kp
