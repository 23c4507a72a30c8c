/-
  A row of records of the law's own, grown by one at a time beside one keep: append(told, r). Conditions: as each theorem names them.
-/
import Derived.Test.YtlmnkmfpdjkijaaKOne
namespace Go.Proofs.Ytlmnkmfpdjkijaa.Ke
set_option linter.unusedVariables false
set_option linter.unusedSimpArgs false
open Go.RowKit

def rcs (L : List Rc) : List Value := L.flatMap rcC
theorem one_rc (s : Rc) : ∀ u ∈ rcC s, u.oneCell' = true := by
  intro u hu; simp only [List.mem_cons, List.not_mem_nil, or_false] at hu; rcases hu with rfl | rfl | rfl <;> rfl
theorem infoR : (Try.prog.info? 32).map (fun i => (i.zero, i.size, i.bytes)) = some (some (.agg #[.string ⟨#[]⟩, .int .i64 0, .int .i64 0]), 3, 32) := by kernel_rfl
theorem rcs_row {w : World} {B : Nat} {v : Value} {L : List Rc} (h : w.ownsRow B 32 3 v L.length (rcs L)) : RcsAt w v L := lst_row h (fun _ _ => rfl)
theorem row_kept {X : Nat → Prop} {w w' : World} {B : Nat} {e : TypeId} {size n : Nat} {v : Value} {xs : List Value} (h : w.ownsRow B e size v n xs) (hk : Kept X w w') (hv : ∀ g, v.ownBlock = some g → X g) : w'.ownsRow B e size v n xs := by
  refine ⟨h.1, ?_⟩
  rcases h.2 with h2 | ⟨g, cap, cur, rfl, k1, k2, k3⟩
  · exact .inl h2
  · exact .inr ⟨g, cap, cur, rfl, k1, (hk.2 g (hv g rfl)).trans k2, k3⟩
/-- One record more. -/
theorem wpList_append_rc {w : World} {ops : Array Oper} {rest : List Oper} {o : Oper} {a : Act} {Q : Exit → Act → World → Prop} (hgd : o.guard = none) (s x : Operand)
    (ho : o.op = .call { callee := .builtin .append, args := #[s, x], argTypes := #[36, 36] })
    (base : Nat) (v : Value) (M : List Rc) (hs : a.eval s = v) (w0 : World) (q : Rc) (hw : w = w0.alloc (.cells #[kyV q.k, .int .i64 q.t, .int .i64 q.v] 32)) (hown : w0.ownsRow base 32 3 v M.length (rcs M))
    (hx : a.eval x = .slice (some ⟨w0.heap.size, 0, none⟩) 1 1)
    (h63 : M.length ≤ 90000) (hbase : base ≤ w0.heap.size)
    (h : ∀ v' w', w'.ownsRow base 32 3 v' (M ++ [q]).length (rcs (M ++ [q])) → w.grownBy w' v.ownBlock → (∀ g, v'.ownBlock = some g → g < w'.heap.size ∧ (v.ownBlock = some g ∨ w0.heap.size ≤ g)) → wpList Try.prog ops Q rest (a.put o.dst v') w') : wpList Try.prog ops Q (o :: rest) a w := by
  have hb : w.heap[w0.heap.size]? = some (.cells #[kyV q.k, .int .i64 q.t, .int .i64 q.v] 32 (0, 0)) := by rw [hw]; exact heap_alloc_new w0 _
  have hz : w.heap.size = w0.heap.size + 1 := by rw [hw]; simp
  obtain ⟨i0, hi, hz0, hz1, hz2⟩ := info_parts infoR
  refine wpList_append_lies w hgd s x 36 ho base 32 i0 (.agg #[.string ⟨#[]⟩, .int .i64 0, .int .i64 0]) 3 32 Try.underlying36 hi hz0 hz1 hz2 rfl (by decide) v M.length (rcs M) hs (ownsRow_below hown (by rw [hw]; exact (Below.refl _ _).alloc (Nat.le_refl _) _)) ⟨w0.heap.size, 0, none⟩ 1 1 (rcC q) hx rfl (fun j u hj => ?_) (one_rc q) (by omega) (by unfold maxLen; omega) (by omega) (by omega) _ rfl ?_
  · rw [Addr.add_lit, cell_of_heap hb]
    rw [Nat.zero_add]
    match j, hj with
    | 0, hj => simpa using hj
    | 1, hj => simpa using hj
    | 2, hj => simpa using hj
    | j + 3, hj => simp at hj
  · intro g cap w' h1 h2 h3 h4
    refine h _ w' ?_ h2 (fun k e => ?_)
    · rw [show rcs (M ++ [q]) = rcs M ++ rcC q by simp [rcs], List.length_append]
      exact h1
    · simp only [Value.ownBlock, Option.some.injEq] at e
      subst e
      exact ⟨h4, h3.imp_right (fun e => by omega)⟩
/-- One keep beside one row of records. -/
structure Fin (w0 : World) (X : Nat → Prop) (g : Nat) (C : Cfg) (w : World) (l : List Pn) (m : Int) (v : Value) (M : List Rc) : Prop where
  one : One w0 (fun x => v.ownBlock = some x ∨ X x) g C w l m
  row : w.ownsRow w0.heap.size 32 3 v M.length (rcs M)
variable {w0 w w' : World} {X : Nat → Prop} {g : Nat} {C : Cfg} {l : List Pn} {m : Int} {v : Value} {M : List Rc}
theorem Fin.nil (h : One w0 (fun _ => False) g C w l m) : Fin w0 (fun _ => False) g C w l m (.slice none 0 0) [] := ⟨h.low (fun x e => e.elim (fun e => by cases e) id), World.ownsRow_nil _ _ _ _⟩
theorem Fin.low {X' : Nat → Prop} (h : Fin w0 X g C w l m v M) (hx : ∀ x, X' x → X x) : Fin w0 X' g C w l m v M := ⟨h.one.low (fun x e => e.imp_right (hx x)), h.row⟩
theorem Fin.block (h : Fin w0 X g C w l m v M) (o : Obj) : Fin w0 (fun x => X x ∨ w.heap.size = x) g C (w.alloc o) l m v M :=
  ⟨(h.one.block o).low (fun x e => e.elim (fun e => .inl (.inl e)) (fun e => Or.elim e (fun e => .inl (.inr e)) .inr)), ownsRow_below h.row ((Below.refl _ _).alloc (Nat.le_refl _) _)⟩
theorem Fin.grow (h : Fin w0 X g C w l m v M) (hb : Below w.heap.size w w') : Fin w0 X g C w' l m v M ∧ Kept X w w' :=
  ⟨⟨(h.one.grow hb).1, ownsRow_below h.row hb⟩, (h.one.grow hb).2.1, fun x hx => (h.one.grow hb).2.2 x (.inr hx)⟩
theorem Fin.at_ (h : Fin w0 X g C w l m v M) : Calls Try.prog 14 #[.pointer (some ⟨g, 0, none⟩)] w fun e' w' => e' = .returned (.int .i64 m) ∧ Fin w0 X g C w' l m v M ∧ Kept X w w' :=
  h.one.at_.mono fun e w' ⟨k1, k2, k3⟩ => ⟨k1, h.grow k3⟩
theorem Fin.put (h : Fin w0 X g C w l m v M) {r : Rc} (hv : I64 r.v) (hc : 100 + csum l ≤ 1000000) {l' : List Pn} {out : List Rc} {e : Int} (hs : sPut C l m r = (l', out, e)) : Calls Try.prog 13 #[.pointer (some ⟨g, 0, none⟩), rcV r] w fun e' w' =>
    ∃ u, e' = .returned (.tuple #[u, .int .i64 e]) ∧ Fin w0 X g C w' l' m v M ∧ Kept X w w' :=
  (h.one.put hv hc hs).mono fun e' w' ⟨u, k1, k2, k3, k4⟩ => ⟨u, k1, ⟨k3.low (fun x e => .inl e), row_kept h.row k4 (fun g e => .inl e)⟩, k4.1, fun x hx => k4.2 x (.inr hx)⟩
/-- A mark: what is told lies in new memory. -/
theorem Fin.mark (h : Fin w0 X g C w l m v M) {x : Int} {l' : List Pn} {m' : Int} {out : List Rc} {e : Int} (hs : sMark C l m x = (l', m', out, e)) : Calls Try.prog 16 #[.pointer (some ⟨g, 0, none⟩), .int .i64 x] w fun e' w' =>
    ∃ u, e' = .returned (.tuple #[u, .int .i64 e]) ∧ RcsAt w' u out ∧ Fin w0 (fun _ => False) g C w' l' m' v M ∧ ∀ b, v.ownBlock = some b → ¬ u.ownBlock = some b := by
  obtain ⟨⟨b, ls, ms, hf, h1, h2, h3⟩, hrow⟩ := h
  subst h1 h2 h3
  obtain ⟨i1, i2, S, i3, i4⟩ := id hf
  refine (mark_at (i3 0 (by omega)).1 hs).mono fun e' w' ⟨u, S', k1, k2, k3, k4, k5⟩ => ?_
  have hA := hf.after (by omega) i3 i4 k3 k4 k5
  refine ⟨u, k1, k2, ⟨⟨b, _, _, hA.1.low (fun x e => ?_), rfl, upd_same _ _ _, upd_same _ _ _⟩, row_kept hrow hA.2 (fun g e => .inl e)⟩, fun c e e' => ?_⟩
  · exact e.elim (fun e => .inl (.inl e)) (fun e => False.elim e)
  · have q1 := i1 c (.inl e)
    have q2 := (k3 c e').1
    omega
/-- One record more, in the row. -/
theorem Fin.add {q : Rc} {v' : Value} {wq : World} (h : Fin w0 (fun _ => False) g C wq l m v M) {o : Obj} (hown : w'.ownsRow w0.heap.size 32 3 v' (M ++ [q]).length (rcs (M ++ [q]))) (hg : (wq.alloc o).grownBy w' v.ownBlock) (hv : ∀ g, v'.ownBlock = some g → g < w'.heap.size ∧ (v.ownBlock = some g ∨ wq.heap.size ≤ g)) :
    Fin w0 (fun _ => False) g C w' l m v' (M ++ [q]) := by
  obtain ⟨⟨b, ls, ms, ⟨i1, i2, S, i3, i4⟩, h1, h2, h3⟩, hrow⟩ := h
  have hz : wq.heap.size ≤ w'.heap.size := by have := hg.size; simp at this; omega
  have hblk : ∀ k, k < wq.heap.size → v.ownBlock ≠ some k → w'.heap[k]? = wq.heap[k]? := fun k hk hn => by
    rw [hg.block k (by simp; omega) (fun e => hn e.symm)]
    exact ((Below.refl wq.heap.size wq).alloc (Nat.le_refl _) o).block k hk
  have hlow : ∀ k, v.ownBlock = some k → w0.heap.size ≤ k := fun k e => by
    rcases hrow.2 with ⟨rfl, -⟩ | ⟨g, cap, cur, rfl, k1, -⟩
    · cases e
    · simp only [Value.ownBlock, Option.some.injEq] at e; omega
  refine ⟨⟨b, ls, ms, ⟨fun x hx => ?_, ?_, S, fun i hi => ⟨(i3 i hi).1.keep hz (fun x hx => hblk x ((i3 i hi).1.lt x hx) (fun e => ((i3 i hi).2 x hx).2 (.inl e))), fun x hs => ⟨((i3 i hi).2 x hs).1, fun hx => ?_⟩⟩, i4⟩, h1, h2, h3⟩, hown⟩
  · exact hx.elim (fun e => (hv x e).1) (fun e => e.elim)
  · exact (i2.trans ((Below.refl _ _).alloc (Nat.le_refl _) o |>.mono i2.size)).grown hg (by simp; have := i2.size; omega) hlow
  · rcases hx with hx | hx
    · rcases (hv x hx).2 with e | e
      · exact ((i3 i hi).2 x hs).2 (.inl e)
      · have := (i3 i hi).1.lt x hs
        omega
    · exact hx
/-- What is told lies as it lay while the row grows. -/
theorem rcs_add {u v' : Value} {wq : World} {T : List Rc} (h : RcsAt wq u T) {o : Obj} (hg : (wq.alloc o).grownBy w' v.ownBlock) (hu : ∀ b, v.ownBlock = some b → ¬ u.ownBlock = some b) (hv : ∀ g, v'.ownBlock = some g → g < w'.heap.size ∧ (v.ownBlock = some g ∨ wq.heap.size ≤ g)) :
    RcsAt w' u T ∧ (T ≠ [] → ∀ b, v'.ownBlock = some b → ¬ u.ownBlock = some b) := by
  obtain ⟨a, cap, rfl, h2, h3, h3', h4⟩ := h
  refine ⟨⟨a, cap, rfl, h2, h3, h3', fun h0 => ?_⟩, fun h0 => ?_⟩
  · obtain ⟨b, o', e, hl, hc⟩ := h4 h0
    subst e
    have hz : wq.heap.size ≤ w'.heap.size := by have := hg.size; simp at this; omega
    refine ⟨b, o', rfl, by omega, fun i x hi j z hj => ?_⟩
    rw [World.cell?_of_block (w := wq) (by
      show w'.heap[b]? = wq.heap[b]?
      rw [hg.block b (by simp; omega) (fun e => hu b e.symm rfl)]
      exact ((Below.refl wq.heap.size wq).alloc (Nat.le_refl _) o).block b hl)]
    exact hc i x hi j z hj
  · obtain ⟨b, o', e, hl, hc⟩ := h4 h0
    subst e
    intro c hc' e
    simp only [Value.ownBlock, Option.some.injEq] at e
    subst e
    rcases (hv b hc').2 with e | e
    · exact hu b e rfl
    · omega
theorem told_len (agg m : Int) (l : List Pn) : (told agg m l).length = (l.filter (due m)).length := by
  unfold told
  rw [List.length_map, (tsort_perm _).length_eq]
end Go.Proofs.Ytlmnkmfpdjkijaa.Ke
