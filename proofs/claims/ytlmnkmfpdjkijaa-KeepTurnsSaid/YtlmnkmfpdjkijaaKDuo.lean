/-
  Two keeps of the same windows beside one another; what the records of a block of calls leave, whatever their order. Conditions: as each theorem names them.
-/
import Derived.Test.YtlmnkmfpdjkijaaKOne
import Derived.Test.YtlmnkmfpdjkijaaKSame
namespace Go.Proofs.Ytlmnkmfpdjkijaa.Ke
set_option linter.unusedVariables false
set_option linter.unusedSimpArgs false
open Go.RowKit
open Go.Proofs.Ytlmnkmfpdjkijaa.Ag (Ac jn vl wr wr_in wr_add wr_add2 ac_ext)
open Go.Proofs.Ytlmnkmfpdjkijaa.Wi (Sp ofS okW okT okT_is okW_cases cov_of Cov sl)

/-- What a record puts. -/
def acc (C : Cfg) (m : Int) (r : Rc) : List Pn := if 16 < r.k.length ∨ okT r.t = false ∨ r.t < m then [] else raws C.k C.s C.l r.k r.t r.v
def accs (C : Cfg) (m : Int) (O : List Ob) : List Pn := O.flatMap fun o => if o.kind = 0 then acc C m o.r else []
theorem sPut_acc {C : Cfg} (h0 : C.k ≠ 0) (l : List Pn) (m : Int) (r : Rc) : ∃ e, sPut C l m r = (kall (decide (C.k = 3)) l (acc C m r), [], e) := by
  unfold sPut acc
  by_cases h1 : 16 < r.k.length ∨ okT r.t = false
  · rw [if_pos h1, if_pos (h1.imp_right .inl)]
    exact ⟨1, rfl⟩
  · rw [if_neg h1]
    by_cases h2 : r.t < m
    · rw [if_pos h2, if_pos (.inr (.inr h2))]
      exact ⟨7, rfl⟩
    · rw [if_neg h2, if_neg h0, if_neg (fun h => h.elim (fun e => h1 (.inl e)) (fun h => h.elim (fun e => h1 (.inr e)) h2))]
      exact ⟨0, rfl⟩
theorem sl_le (t s l : Int) : ∀ (q : Nat) (f : Int), (sl t s l q f).length ≤ q
  | 0, _ => Nat.le_refl _
  | q + 1, f => by
    unfold sl
    have h := sl_le t s l q (f + l)
    split
    · rw [List.length_append]
      split
      · simp only [List.length_cons, List.length_nil]; omega
      · simp only [List.length_nil]; omega
    · exact Nat.zero_le _
theorem ofS_le (k s l t : Int) : (ofS k s l t).length ≤ 20 := by
  unfold ofS
  split
  · exact (by decide : 1 ≤ 20)
  · split
    · exact (by decide : 1 ≤ 20)
    · split
      · exact sl_le _ _ _ _ _
      · exact Nat.zero_le _
theorem acc_put {C : Cfg} {m : Int} {r : Rc} (hw : okW C.k C.s C.l = true) (hv : I64 r.v) : ∀ p ∈ acc C m r, Put (decide (C.k = 3)) C.s p := fun p hp => by
  unfold acc at hp
  split at hp
  · cases hp
  · rename_i h
    have ht : okT r.t = true := by
      cases h1 : okT r.t with
      | true => rfl
      | false => exact absurd (.inr (.inl h1)) h
    exact raws_put hw ht hv p hp
theorem acc_csum (C : Cfg) (m : Int) (r : Rc) : 0 ≤ csum (acc C m r) ∧ csum (acc C m r) ≤ 20 := by
  unfold acc
  split
  · exact ⟨Int.le_refl _, by decide⟩
  · rw [raws_len]
    have := ofS_le C.k C.s C.l r.t
    omega
theorem accs_put {C : Cfg} {m : Int} {O : List Ob} (hw : okW C.k C.s C.l = true) (hv : ∀ o ∈ O, I64 o.r.v) : ∀ p ∈ accs C m O, Put (decide (C.k = 3)) C.s p := fun p hp => by
  obtain ⟨o, ho, hp⟩ := List.mem_flatMap.1 hp
  split at hp
  · exact acc_put hw (hv o ho) p hp
  · cases hp
theorem accs_append (C : Cfg) (m : Int) (O P : List Ob) : accs C m (O ++ P) = accs C m O ++ accs C m P := by unfold accs; rw [List.flatMap_append]
theorem accs_one (C : Cfg) (m : Int) (o : Ob) : accs C m [o] = if o.kind = 0 then acc C m o.r else [] := by
  unfold accs
  simp
theorem accs_csum (C : Cfg) (m : Int) : ∀ O : List Ob, 0 ≤ csum (accs C m O) ∧ csum (accs C m O) ≤ 20 * (O.length : Int)
  | [] => ⟨Int.le_refl _, Int.le_refl _⟩
  | o :: O => by
    have h := accs_csum C m O
    rw [show o :: O = [o] ++ O from rfl, accs_append, csum_append, accs_one]
    have h1 := acc_csum C m o.r
    simp only [List.cons_append, List.nil_append, List.length_cons]
    split
    · omega
    · show 0 ≤ (0 : Int) + _ ∧ (0 : Int) + _ ≤ _
      omega
/-- Turned round they leave the same. -/
theorem accs_turn {C : Cfg} {l : List Pn} {m : Int} {O : List Ob} (hI : Inv C.k C.s l m) (hw : okW C.k C.s C.l = true) (hv : ∀ o ∈ O, I64 o.r.v) (hm : 20 * (O.length : Int) + csum l ≤ 1000000000) :
    kall (decide (C.k = 3)) l (accs C m O) = kall (decide (C.k = 3)) l (accs C m O.reverse) := by
  have h : (accs C m O).Perm (accs C m O.reverse) := List.Perm.flatMap_right _ (List.reverse_perm O).symm
  exact kall_perm h hI.good hI.pos (accs_put hw hv) (by have := accs_csum C m O; omega)
theorem kall_csum {C : Cfg} {l : List Pn} {m : Int} {O : List Ob} (hI : Inv C.k C.s l m) (hw : okW C.k C.s C.l = true) (hv : ∀ o ∈ O, I64 o.r.v) (hm : 20 * (O.length : Int) + csum l ≤ 1000000000) :
    csum (kall (decide (C.k = 3)) l (accs C m O)) ≤ 20 * (O.length : Int) + csum l := by
  have h := accs_csum C m O
  rw [(kall_is _ hI.good hI.pos (accs_put hw hv) (by omega)).2.2.1]
  omega
theorem sMark_csum {C : Cfg} {l : List Pn} {m x : Int} (hp : Pos l) {l' : List Pn} {m' e : Int} {T : List Rc} (h : sMark C l m x = (l', m', T, e)) : csum l' ≤ csum l := by
  rcases sMark_cases C l m x with ⟨e', hs⟩ | ⟨-, -, hs⟩
  · rw [hs] at h
    injection h with h
    rw [h]; exact Int.le_refl _
  · rw [hs] at h
    injection h with h
    rw [← h]
    exact csum_filter_le hp _
/-- Two keeps, at blocks g and h. -/
def Duo (w0 : World) (X : Nat → Prop) (g g' : Nat) (C : Cfg) (w : World) (l l' : List Pn) (m m' : Int) : Prop := ∃ b ls ms, Fam w0 X 2 b C w ls ms ∧ (b 0 = g ∧ b 1 = g') ∧ (ls 0 = l ∧ ls 1 = l') ∧ ms 0 = m ∧ ms 1 = m'
variable {w0 w w' : World} {X : Nat → Prop} {g g' : Nat} {C : Cfg} {l l' : List Pn} {m m' : Int}
theorem duo_new {b : Nat → Nat} {ls : Nat → List Pn} {ms : Nat → Int} (h : Fam w0 X 1 b C w ls ms) (h1 : b 0 = g) (h2 : ls 0 = []) (h3 : ms 0 = 0) (hC : okA C = true) : Calls Try.prog 11 #[winV C.k C.s C.l, .int .i64 C.agg] w fun e' w' => ∃ g', e' = .returned (.tuple #[.pointer (some ⟨g', 0, none⟩), .int .i64 0]) ∧ Duo w0 X g g' C w' [] [] 0 0 :=
  (h.new hC).mono fun e w' ⟨g', k1, k2, _⟩ => ⟨g', k1, _, _, _, k2, ⟨(upd_other b (i := 1) (j := 0) _ (by decide)).trans h1, upd_same _ _ _⟩, ⟨(upd_other ls (i := 1) (j := 0) _ (by decide)).trans h2, upd_same _ _ _⟩, (upd_other ms (i := 1) (j := 0) _ (by decide)).trans h3, upd_same _ _ _⟩
theorem Duo.below (h : Duo w0 X g g' C w l l' m m') : Below w0.heap.size w0 w := by obtain ⟨b, ls, ms, h, -⟩ := h; exact h.below
theorem Duo.inv (h : Duo w0 X g g' C w l l' m m') : Inv C.k C.s l m ∧ Inv C.k C.s l' m' := by
  obtain ⟨b, ls, ms, h, -, ⟨rfl, rfl⟩, rfl, rfl⟩ := h
  exact ⟨h.inv (by omega), h.inv (by omega)⟩
theorem Duo.low {X' : Nat → Prop} (h : Duo w0 X g g' C w l l' m m') (hx : ∀ x, X' x → X x) : Duo w0 X' g g' C w l l' m m' := by
  obtain ⟨b, ls, ms, h, r⟩ := h
  exact ⟨b, ls, ms, h.low hx, r⟩
theorem Duo.grow (h : Duo w0 X g g' C w l l' m m') (hb : Below w.heap.size w w') : Duo w0 X g g' C w' l l' m m' ∧ Kept X w w' := by
  obtain ⟨b, ls, ms, h, r⟩ := h
  exact ⟨⟨b, ls, ms, (h.grow hb).1, r⟩, (h.grow hb).2⟩
theorem Duo.own {row : Option Nat} (h : Duo w0 X g g' C w l l' m m') (hg : w.grownBy w' row) (hr : ∀ g, row = some g → X g ∧ w0.heap.size ≤ g) : Duo w0 X g g' C w' l l' m m' := by
  obtain ⟨b, ls, ms, h, r⟩ := h
  exact ⟨b, ls, ms, h.own hg hr, r⟩
theorem Duo.more {v : Value} (h : Duo w0 X g g' C w l l' m m') (hv : ∀ g, v.ownBlock = some g → g < w'.heap.size ∧ w.heap.size ≤ g) (hb : Below w.heap.size w w') : Duo w0 (More X v) g g' C w' l l' m m' := by
  obtain ⟨b, ls, ms, h, r⟩ := h
  exact ⟨b, ls, ms, h.more hv hb, r⟩
/-- A new block of the law's own. -/
theorem Duo.block (h : Duo w0 X g g' C w l l' m m') (o : Obj) : Duo w0 (fun x => X x ∨ w.heap.size = x) g g' C (w.alloc o) l l' m m' := by
  obtain ⟨b, ls, ms, h, r⟩ := h
  have k := h.more (w' := w.alloc o) (v := .slice (some ⟨w.heap.size, 0, none⟩) 0 0) (fun q e => by simp only [Value.ownBlock, Option.some.injEq] at e; subst e; simp) ((Below.refl _ _).alloc (Nat.le_refl _) _)
  exact ⟨b, ls, ms, k.low (fun x hx => hx.elim .inl (fun e => .inr (by rw [e]; rfl))), r⟩
theorem Duo.put0 (h : Duo w0 X g g' C w l l' m m') {r : Rc} (hv : I64 r.v) (hc : 100 + csum l ≤ 1000000) {l2 : List Pn} {out : List Rc} {e : Int} (hs : sPut C l m r = (l2, out, e)) : Calls Try.prog 13 #[.pointer (some ⟨g, 0, none⟩), rcV r] w fun e' w' =>
    ∃ v, e' = .returned (.tuple #[v, .int .i64 e]) ∧ RcsAt w' v out ∧ Duo w0 (More X v) g g' C w' l2 l' m m' ∧ Kept X w w' := by
  obtain ⟨b, ls, ms, h, h1, h2, h3⟩ := h
  exact (h.put (by omega) h1.1 h2.1 h3.1 hv hc hs).mono fun e' w' ⟨v, k1, k2, k3, k4⟩ => ⟨v, k1, k2, ⟨_, _, _, k3, h1, ⟨upd_same _ _ _, (upd_other ls (i := 0) (j := 1) _ (by decide)).trans h2.2⟩, upd_same _ _ _, (upd_other ms (i := 0) (j := 1) _ (by decide)).trans h3.2⟩, k4⟩
theorem Duo.put1 (h : Duo w0 X g g' C w l l' m m') {r : Rc} (hv : I64 r.v) (hc : 100 + csum l' ≤ 1000000) {l2 : List Pn} {out : List Rc} {e : Int} (hs : sPut C l' m' r = (l2, out, e)) : Calls Try.prog 13 #[.pointer (some ⟨g', 0, none⟩), rcV r] w fun e' w' =>
    ∃ v, e' = .returned (.tuple #[v, .int .i64 e]) ∧ RcsAt w' v out ∧ Duo w0 (More X v) g g' C w' l l2 m m' ∧ Kept X w w' := by
  obtain ⟨b, ls, ms, h, h1, h2, h3⟩ := h
  exact (h.put (i := 1) (by omega) h1.2 h2.2 h3.2 hv hc hs).mono fun e' w' ⟨v, k1, k2, k3, k4⟩ => ⟨v, k1, k2, ⟨_, _, _, k3, h1, ⟨(upd_other ls (i := 1) (j := 0) _ (by decide)).trans h2.1, upd_same _ _ _⟩, (upd_other ms (i := 1) (j := 0) _ (by decide)).trans h3.1, upd_same _ _ _⟩, k4⟩
theorem Duo.mark0 (h : Duo w0 X g g' C w l l' m m') {x : Int} {l2 : List Pn} {m2 : Int} {out : List Rc} {e : Int} (hs : sMark C l m x = (l2, m2, out, e)) : Calls Try.prog 16 #[.pointer (some ⟨g, 0, none⟩), .int .i64 x] w fun e' w' =>
    ∃ v, e' = .returned (.tuple #[v, .int .i64 e]) ∧ RcsAt w' v out ∧ Duo w0 (More X v) g g' C w' l2 l' m2 m' ∧ Kept X w w' := by
  obtain ⟨b, ls, ms, h, h1, h2, h3⟩ := h
  exact (h.mark (by omega) h1.1 h2.1 h3.1 hs).mono fun e' w' ⟨v, k1, k2, k3, k4⟩ => ⟨v, k1, k2, ⟨_, _, _, k3, h1, ⟨upd_same _ _ _, (upd_other ls (i := 0) (j := 1) _ (by decide)).trans h2.2⟩, upd_same _ _ _, (upd_other ms (i := 0) (j := 1) _ (by decide)).trans h3.2⟩, k4⟩
theorem Duo.mark1 (h : Duo w0 X g g' C w l l' m m') {x : Int} {l2 : List Pn} {m2 : Int} {out : List Rc} {e : Int} (hs : sMark C l' m' x = (l2, m2, out, e)) : Calls Try.prog 16 #[.pointer (some ⟨g', 0, none⟩), .int .i64 x] w fun e' w' =>
    ∃ v, e' = .returned (.tuple #[v, .int .i64 e]) ∧ RcsAt w' v out ∧ Duo w0 (More X v) g g' C w' l l2 m m2 ∧ Kept X w w' := by
  obtain ⟨b, ls, ms, h, h1, h2, h3⟩ := h
  exact (h.mark (i := 1) (by omega) h1.2 h2.2 h3.2 hs).mono fun e' w' ⟨v, k1, k2, k3, k4⟩ => ⟨v, k1, k2, ⟨_, _, _, k3, h1, ⟨(upd_other ls (i := 1) (j := 0) _ (by decide)).trans h2.1, upd_same _ _ _⟩, (upd_other ms (i := 1) (j := 0) _ (by decide)).trans h3.1, upd_same _ _ _⟩, k4⟩
theorem Duo.open0 (h : Duo w0 X g g' C w l l' m m') : Calls Try.prog 17 #[.pointer (some ⟨g, 0, none⟩)] w fun e' w' => ∃ v, e' = .returned v ∧ PnsAt w' v l ∧ Duo w0 X g g' C w' l l' m m' ∧ Below w.heap.size w w' := by
  obtain ⟨b, ls, ms, h, h1, h2, h3⟩ := h
  exact (h.open_ (by omega) h1.1 h2.1).mono fun e' w' ⟨v, k1, k2, k3, k4⟩ => ⟨v, k1, k2, ⟨_, _, _, k3, h1, h2, h3⟩, k4⟩
theorem Duo.open1 (h : Duo w0 X g g' C w l l' m m') : Calls Try.prog 17 #[.pointer (some ⟨g', 0, none⟩)] w fun e' w' => ∃ v, e' = .returned v ∧ PnsAt w' v l' ∧ Duo w0 X g g' C w' l l' m m' ∧ Below w.heap.size w w' := by
  obtain ⟨b, ls, ms, h, h1, h2, h3⟩ := h
  exact (h.open_ (i := 1) (by omega) h1.2 h2.2).mono fun e' w' ⟨v, k1, k2, k3, k4⟩ => ⟨v, k1, k2, ⟨_, _, _, k3, h1, h2, h3⟩, k4⟩
end Go.Proofs.Ytlmnkmfpdjkijaa.Ke
