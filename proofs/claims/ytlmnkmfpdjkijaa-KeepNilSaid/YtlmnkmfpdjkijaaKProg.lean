/-
  The program's own functions of layer 11. Conditions: as each theorem names them.
-/
import Derived.Test.YtlmnkmfpdjkijaaKKit
import Derived.Test.YtlmnkmfpdjkijaaKEnc
import Derived.Test.YtlmnkmfpdjkijaaKGrp
import Derived.Test.YtlmnkmfpdjkijaaKPutE
import Derived.Test.YtlmnkmfpdjkijaaKGat
namespace Go.Proofs.Ytlmnkmfpdjkijaa.Ke
set_option linter.unusedVariables false
set_option linter.unusedSimpArgs false
open Go.RowKit
open Go.Proofs.Ytlmnkmfpdjkijaa.Wi (Sp ofS okW okT okT_is okW_cases cov_of Cov)

theorem len_csum {l : List Pn} (h : Pos l) : (l.length : Int) ≤ csum l := by
  induction l with
  | nil => exact Int.le_refl _
  | cons x r ih =>
    have h1 := h x (by simp)
    have h2 := ih (fun y hy => h y (by simp [hy]))
    rw [csum_cons]
    simp only [List.length_cons]
    omega
def sPut (C : Cfg) (l : List Pn) (m : Int) (r : Rc) : List Pn × List Rc × Int :=
  if 16 < r.k.length ∨ okT r.t = false then (l, [], 1)
  else if r.t < m then (l, [], 7)
  else if C.k = 0 then (l, [r], 0)
  else (kall (decide (C.k = 3)) l (raws C.k C.s C.l r.k r.t r.v), [], 0)
def sMark (C : Cfg) (l : List Pn) (m m' : Int) : List Pn × Int × List Rc × Int :=
  if okM m' = false then (l, m, [], 1)
  else if m' ≤ m then (l, m, [], 0)
  else (rest m' l, m', told C.agg m' l, 0)
/-- What a keep of C, with the panes l and the mark m, is in the memory S: worn or not, with these groups loaded. (To be said of the landed code.) -/
def MemF (w : World) (S : Nat → Prop) (b : Nat) (C : Cfg) (l : List Pn) (m : Int) (wo : Bool) (ld : Nat → Bool) : Prop := ∃ bm, Kp.MemV w S b bm C.k C.s C.l C.agg l m wo ld
theorem MemF.keep {w w' : World} {S : Nat → Prop} {b : Nat} {C : Cfg} {l : List Pn} {m : Int} {wo : Bool} {ld : Nat → Bool} (h : MemF w S b C l m wo ld) (hb : S b) (hk : ∀ x, S x → w'.heap[x]? = w.heap[x]?) : MemF w' S b C l m wo ld := by
  obtain ⟨bm, h1, h2, h3⟩ := h
  exact ⟨bm, h1.keep (hk b hb), h2.keep hk, h3⟩
/-- A keep, and what Load asks of it. -/
structure KFl (w : World) (S : Nat → Prop) (b : Nat) (C : Cfg) (l : List Pn) (m : Int) (wo : Bool) (ld : Nat → Bool) : Prop where
  ok : okA C = true
  inv : Inv C.k C.s l m
  fine : Fine C.k C.s C.l l
  at_ : S b
  lt : ∀ x, S x → x < w.heap.size
  mem : MemF w S b C l m wo ld
def KAt (w : World) (S : Nat → Prop) (b : Nat) (C : Cfg) (l : List Pn) (m : Int) : Prop := ∃ wo ld, KFl w S b C l m wo ld
section
variable {w w' : World} {S : Nat → Prop} {b : Nat} {C : Cfg} {l : List Pn} {m : Int} {wo : Bool} {ld : Nat → Bool}
theorem KFl.keep (h : KFl w S b C l m wo ld) (hz : w.heap.size ≤ w'.heap.size) (hk : ∀ x, S x → w'.heap[x]? = w.heap[x]?) : KFl w' S b C l m wo ld :=
  ⟨h.ok, h.inv, h.fine, h.at_, fun x hx => Nat.lt_of_lt_of_le (h.lt x hx) hz, h.mem.keep h.at_ hk⟩
theorem KAt.keep (h : KAt w S b C l m) (hz : w.heap.size ≤ w'.heap.size) (hk : ∀ x, S x → w'.heap[x]? = w.heap[x]?) : KAt w' S b C l m := by
  obtain ⟨wo, ld, h⟩ := h
  exact ⟨wo, ld, h.keep hz hk⟩
theorem KAt.inv (h : KAt w S b C l m) : Inv C.k C.s l m := by obtain ⟨_, _, h⟩ := h; exact h.inv
theorem KAt.fine (h : KAt w S b C l m) : Fine C.k C.s C.l l := by obtain ⟨_, _, h⟩ := h; exact h.fine
theorem KAt.lt (h : KAt w S b C l m) : ∀ x, S x → x < w.heap.size := by obtain ⟨_, _, h⟩ := h; exact h.lt
end
/-- A result's slice lies in new memory that the keep knows nothing of. -/
def Own (w w' : World) (S' : Nat → Prop) (v : Value) : Prop := ∀ g, v.ownBlock = some g → w.heap.size ≤ g ∧ g < w'.heap.size ∧ ¬ S' g
variable {w : World} {S : Nat → Prop} {b : Nat} {C : Cfg} {l : List Pn} {m : Int}
/-- No record. -/
theorem nil_rcs (w : World) : RcsAt w (.slice none 0 0) [] := ⟨none, 0, rfl, Nat.le_refl _, Nat.zero_le _, Nat.zero_le _, fun h => absurd rfl h⟩
/-- Where a pane ends: no number is too great. -/
theorem fit_i64 {k s lw : Int} {l : List Pn} (hw : okW k s lw = true) (hg : Good (decide (k = 3)) s l) (hf : Fine k s lw l) : ∀ y ∈ l, I64 (y.t - 1) := fun y hy => by
  have h1 := (hf y hy).fit
  have h2 := hg.full y hy
  have hs : 0 ≤ s ∧ s ≤ 1000000 := by rcases okW_cases hw with h | h | h | h <;> omega
  unfold fitS at h1
  unfold I64
  by_cases h3 : k = 3
  · rw [if_pos h3] at h1; omega
  · rw [if_neg h3] at h1
    have := hg.size (decide_eq_false h3) y hy
    omega
theorem new_fl {C : Cfg} (h : okA C = true) (w : World) : Calls Try.prog 11 #[winV C.k C.s C.l, .int .i64 C.agg] w fun e w' => ∃ b S, e = .returned (.tuple #[.pointer (some ⟨b, 0, none⟩), .int .i64 0]) ∧ KFl w' S b C [] 0 false (fun _ => false) ∧ (∀ x, S x → w.heap.size ≤ x) ∧ Below w.heap.size w w' := by
  refine (Kp.new_mem h w).mono ?_
  rintro e w' ⟨b, bm, rfl, h1, h2, h3, ht, hm, hb⟩
  have hbm : bm < w'.heap.size := Nat.lt_trans h3 ht.lt
  exact ⟨b, fun x => x = b ∨ x = bm, rfl, ⟨h, Inv.nil _ _, (fun x hx => by cases hx), .inl rfl, fun x hx => hx.elim (fun e => e ▸ ht.lt) (fun e => e ▸ hbm), bm, ht, Kp.rows_new (.inr rfl) hm, Nat.zero_le _⟩, fun x hx => hx.elim (fun e => e ▸ h1) (fun e => e ▸ h2), hb⟩
theorem new_ok {C : Cfg} (h : okA C = true) (w : World) : Calls Try.prog 11 #[winV C.k C.s C.l, .int .i64 C.agg] w fun e w' => ∃ b S, e = .returned (.tuple #[.pointer (some ⟨b, 0, none⟩), .int .i64 0]) ∧ KAt w' S b C [] 0 ∧ (∀ x, S x → w.heap.size ≤ x) ∧ Below w.heap.size w w' :=
  (new_fl h w).mono fun e w' ⟨b, S, h1, h2, h3⟩ => ⟨b, S, h1, ⟨_, _, h2⟩, h3⟩
theorem new_no {C : Cfg} (h : okA C = false) (w : World) : Calls Try.prog 11 #[winV C.k C.s C.l, .int .i64 C.agg] w fun e w' => e = .returned (.tuple #[.pointer none, .int .i64 1]) ∧ Below w.heap.size w w' := Kp.new_no h w
theorem put_at (h : KAt w S b C l m) {r : Rc} (hv : I64 r.v) (hm : 100 + csum l ≤ 1000000) {l' : List Pn} {out : List Rc} {e : Int} (hs : sPut C l m r = (l', out, e)) : Calls Try.prog 13 #[.pointer (some ⟨b, 0, none⟩), rcV r] w fun e' w' =>
    ∃ v S', e' = .returned (.tuple #[v, .int .i64 e]) ∧ RcsAt w' v out ∧ Own w w' S' v ∧ KAt w' S' b C l' m ∧ Upd S S' w w' := by
  obtain ⟨wo, ld, hk⟩ := h
  obtain ⟨bm, ht, hr, hf⟩ := hk.mem
  have hw : okW C.k C.s C.l = true := by have := hk.ok; unfold okA at this; rw [Bool.and_eq_true] at this; exact this.1
  unfold sPut at hs
  have nov : ∀ (w' : World) (S' : Nat → Prop), Own w w' S' (.slice none 0 0) := fun w' S' g e => by cases e
  have low : ∀ {w' : World}, Below w.heap.size w w' → KAt w' S b C l m ∧ Upd S S w w' := fun hb => ⟨⟨wo, ld, hk.keep hb.size (fun x hx => hb.block x (hk.lt x hx))⟩, Upd.of_below hb⟩
  by_cases h1 : 16 < r.k.length ∨ okT r.t = false
  · rw [if_pos h1] at hs
    simp only [Prod.mk.injEq] at hs
    obtain ⟨rfl, rfl, rfl⟩ := hs
    have hc : Calls Try.prog 13 #[.pointer (some ⟨b, 0, none⟩), rcV r] w fun e' w' => e' = .returned (.tuple #[.slice none 0 0, .int .i64 1]) ∧ Below w.heap.size w w' := by
      cases h2 : okT r.t with
      | false => exact Kp.put_t ht h2
      | true => exact Kp.put_k ht hw h2 (h1.resolve_right (by rw [h2]; decide))
    refine hc.mono ?_
    rintro e w' ⟨rfl, hb⟩
    exact ⟨_, S, rfl, nil_rcs w', nov _ _, low hb⟩
  · rw [if_neg h1] at hs
    have h2 : okT r.t = true := by
      cases h3 : okT r.t with
      | true => rfl
      | false => exact absurd (.inr h3) h1
    have h3 : r.k.length ≤ 16 := Nat.le_of_not_lt (fun q => h1 (.inl q))
    by_cases h4 : r.t < m
    · rw [if_pos h4] at hs
      simp only [Prod.mk.injEq] at hs
      obtain ⟨rfl, rfl, rfl⟩ := hs
      refine (Kp.put_late ht hw h2 h3 h4).mono ?_
      rintro e w' ⟨rfl, hb⟩
      exact ⟨_, S, rfl, nil_rcs w', nov _ _, low hb⟩
    · rw [if_neg h4] at hs
      by_cases h5 : C.k = 0
      · rw [if_pos h5] at hs
        simp only [Prod.mk.injEq] at hs
        obtain ⟨rfl, rfl, rfl⟩ := hs
        refine (Kp.put_one ht hr hk.at_ hk.lt hw h2 h3 (by omega) h5).mono ?_
        rintro e w' ⟨v, rfl, k1, k2, k3, k4, k5⟩
        exact ⟨v, S, rfl, k1, fun g e => ⟨(k2 g e).1, (k2 g e).2, fun hs => by have := hk.lt g hs; have := (k2 g e).1; omega⟩, ⟨true, ld, hk.ok, hk.inv, hk.fine, hk.at_, fun x hx => Nat.lt_of_lt_of_le (hk.lt x hx) k5.size, bm, k3, k4, hf⟩, k5⟩
      · rw [if_neg h5] at hs
        simp only [Prod.mk.injEq] at hs
        obtain ⟨rfl, rfl, rfl⟩ := hs
        obtain ⟨i1, i2, -⟩ := hk.inv.put (key := r.k) hw h2 hv (by omega) (by have := Kp.ofS_le C.k C.s C.l r.t; omega)
        refine (Kp.put_go ht hr hk.at_ hk.lt hk.inv hw hm h3 h2 (by omega) h5 hv).mono ?_
        rintro e w' ⟨S', rfl, k1, k2, k3, k4, k5⟩
        exact ⟨_, S', rfl, nil_rcs w', nov _ _, ⟨true, ld, hk.ok, i1, kall_fine _ hk.fine (raws_fine hw h2 hv h3), k3, k4, bm, k1, k2, by have := len_csum i1.pos; have := Kp.ofS_le C.k C.s C.l r.t; omega⟩, k5⟩
theorem mark_at (h : KAt w S b C l m) {x : Int} {l' : List Pn} {m' : Int} {out : List Rc} {e : Int} (hs : sMark C l m x = (l', m', out, e)) : Calls Try.prog 16 #[.pointer (some ⟨b, 0, none⟩), .int .i64 x] w fun e' w' =>
    ∃ v S', e' = .returned (.tuple #[v, .int .i64 e]) ∧ RcsAt w' v out ∧ Own w w' S' v ∧ KAt w' S' b C l' m' ∧ Upd S S' w w' := by
  obtain ⟨wo, ld, hk⟩ := h
  obtain ⟨bm, ht, hr, hf⟩ := hk.mem
  have hw : okW C.k C.s C.l = true := by have := hk.ok; unfold okA at this; rw [Bool.and_eq_true] at this; exact this.1
  unfold sMark at hs
  have nov : ∀ (w' : World) (S' : Nat → Prop), Own w w' S' (.slice none 0 0) := fun w' S' g e => by cases e
  cases h1 : okM x with
  | false =>
    rw [if_pos h1] at hs
    simp only [Prod.mk.injEq] at hs
    obtain ⟨rfl, rfl, rfl, rfl⟩ := hs
    refine (Kp.mark_no h1 b w).mono ?_
    rintro e w' ⟨rfl, hw'⟩
    subst hw'
    exact ⟨_, S, rfl, nil_rcs _, nov _ _, ⟨wo, ld, hk⟩, Upd.refl _ _⟩
  | true =>
    rw [if_neg (by rw [h1]; decide)] at hs
    by_cases h2 : x ≤ m
    · rw [if_pos h2] at hs
      simp only [Prod.mk.injEq] at hs
      obtain ⟨rfl, rfl, rfl, rfl⟩ := hs
      refine (Kp.mark_same ht h1 h2).mono ?_
      rintro e w' ⟨rfl, hw'⟩
      subst hw'
      exact ⟨_, S, rfl, nil_rcs _, nov _ _, ⟨wo, ld, hk⟩, Upd.refl _ _⟩
    · rw [if_neg h2] at hs
      simp only [Prod.mk.injEq] at hs
      obtain ⟨rfl, rfl, rfl, rfl⟩ := hs
      have hxm : x ≤ 1000000001 := by unfold okM at h1; rw [Bool.and_eq_true, decide_eq_true_eq, decide_eq_true_eq] at h1; exact h1.2
      refine (Kp.mark_go ht hr hk.lt hf hk.inv.good (fun y hy => fit_i64 hw hk.inv.good hk.fine y hy) h1 (by omega)).mono ?_
      rintro e w' ⟨v, rfl, k1, k2, k3, k4, k5, k6, k7, k8⟩
      obtain ⟨D, V, hrv⟩ := id hr
      exact ⟨v, S, rfl, lst_row k1 (fun _ _ => rfl), fun g e => ⟨(k1.lt g e).1, (k1.lt g e).2, fun hs => by have := hk.lt g hs; have := (k1.lt g e).1; omega⟩, ⟨true, ld, hk.ok, hk.inv.mark (by omega) hxm, hk.fine.filter _, hk.at_, fun y hy => Nat.lt_of_lt_of_le (hk.lt y hy) k4, bm, k2, k3, Nat.le_trans (List.length_filter_le _ _) hf⟩, k5, k6, k7, k4, fun y hy hys => k8 y hy (fun e => hys (e ▸ hk.at_)) (fun e => hys (e ▸ hrv.foot)), fun y hy => .inl hy⟩
theorem at_same (h : KAt w S b C l m) : Calls Try.prog 14 #[.pointer (some ⟨b, 0, none⟩)] w fun e' w' => e' = .returned (.int .i64 m) ∧ w' = w := by
  obtain ⟨wo, ld, hk⟩ := h
  obtain ⟨bm, ht, -, -⟩ := hk.mem
  exact Kp.at_mem ht
theorem at_at (h : KAt w S b C l m) : Calls Try.prog 14 #[.pointer (some ⟨b, 0, none⟩)] w fun e' w' => e' = .returned (.int .i64 m) ∧ Below w.heap.size w w' := by
  exact (at_same h).mono fun e w' ⟨h1, h2⟩ => ⟨h1, by rw [h2]; exact Below.refl _ _⟩
theorem open_at (h : KAt w S b C l m) : Calls Try.prog 17 #[.pointer (some ⟨b, 0, none⟩)] w fun e' w' => ∃ v, e' = .returned v ∧ PnsAt w' v l ∧ Own w w' S v ∧ Below w.heap.size w w' := by
  obtain ⟨wo, ld, hk⟩ := h
  obtain ⟨bm, ht, hr, hf⟩ := hk.mem
  refine (Kp.open_mem ht hr hk.lt hf hk.inv.good.sd).mono ?_
  rintro e w' ⟨v, rfl, k1, k2⟩
  exact ⟨v, rfl, lst_row k1 (fun _ _ => rfl), fun g e => ⟨by have := (k1.lt g e).1; omega, (k1.lt g e).2, fun hs => by have := hk.lt g hs; have := (k1.lt g e).1; omega⟩, k2⟩
/-- The slice v lists these bytes. -/
def BtsAt (w : World) (v : Value) (B : Bs) : Prop := Lst 1 (fun (x : UInt8) => [Value.int .u8 (x.toNat : Int)]) w v B
/-- What Load leaves: panes, mark, is it worn, which groups were loaded; and the error. -/
def lod (G : Ky → Nat) (C : Cfg) (l : List Pn) (m : Int) (wo : Bool) (ld : Nat → Bool) (b : Bs) : List Pn × Int × Bool × (Nat → Bool) × Int :=
  match rd G C.k C.s C.l b with
  | none => (l, m, wo, ld, 4)
  | some (g, m', xs) =>
    if ld g = true ∨ l.any (fun x => decide (G x.k = g)) = true then (l, m, wo, ld, 52)
    else if wo = true ∧ m' ≠ m then (l, m, wo, ld, 1)
    else (kall (decide (C.k = 3)) l xs, m', true, (fun i => if i = g then true else ld i), 0)
theorem put_nil (r : Rc) (w : World) : Calls Try.prog 13 #[.pointer none, rcV r] w fun e w' => e = .returned (.tuple #[.slice none 0 0, .int .i64 3]) ∧ Below w.heap.size w w' := Kp.put_nil r w
theorem mark_nil (x : Int) (w : World) : Calls Try.prog 16 #[.pointer none, .int .i64 x] w fun e w' => e = .returned (.tuple #[.slice none 0 0, .int .i64 3]) ∧ Below w.heap.size w w' := Kp.mark_nil x w
theorem save_nil (x : Int) (w : World) : Calls Try.prog 21 #[.pointer none, .int .i64 x] w fun e w' => e = .returned (.tuple #[.slice none 0 0, .int .i64 3]) ∧ Below w.heap.size w w' := Kp.save_nil x w
theorem load_nil (v : Value) (w : World) : Calls Try.prog 23 #[.pointer none, v] w fun e w' => e = .returned (.int .i64 3) ∧ Below w.heap.size w w' := Kp.load_nil v w
theorem at_nil (w : World) : Calls Try.prog 14 #[.pointer none] w fun e w' => e = .returned (.int .i64 0) ∧ Below w.heap.size w w' := Kp.at_nil w
theorem open_nil (w : World) : Calls Try.prog 17 #[.pointer none] w fun e w' => e = .returned (.slice none 0 0) ∧ Below w.heap.size w w' := Kp.open_nil w
end Go.Proofs.Ytlmnkmfpdjkijaa.Ke
