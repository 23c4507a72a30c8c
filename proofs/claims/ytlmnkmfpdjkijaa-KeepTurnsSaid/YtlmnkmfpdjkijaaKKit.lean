/-
  Rows of panes, of records, of calls in memory, seen from outside and as their maker's own. Conditions: as the statements say.
-/
import Derived.Test.YtlmnkmfpdjkijaaKState
import Derived.Test.YtlmnkmfpdjkijaaRows
import Derived.WalkKit
import Derived.WalkSpells
import Derived.WalkLawsBesides
import Derived.Lib.Hide
import Derived.Lib.Strings
import Derived.Deep.AppendLies
import Derived.Deep.RegionHeld3
import Derived.BigQuiet
import Derived.Below
import Derived.ChangeKeysEq
namespace Go.Proofs.Ytlmnkmfpdjkijaa.Ke
set_option linter.unusedVariables false
set_option linter.unusedSimpArgs false
open Go.RowKit

theorem ret_int {k : IntKind} {a b : Int} (h : a = b) : Ending.returned (.int k a) = .returned (.int k b) := by rw [h]
theorem ret_bool {a b : Bool} (h : a = b) : Ending.returned (.bool a) = .returned (.bool b) := by rw [h]
theorem inebt {a b : Int} (h : ¬ a = b) : (a != b) = true := by simp [bne, h]
theorem inebf {a b : Int} (h : a = b) : (a != b) = false := by simp [bne, h]
theorem ibeq {a b : Int} (h : a = b) : (a == b) = true := by simp [h]
theorem ibne {a b : Int} (h : ¬ a = b) : (a == b) = false := by simp [h]
theorem lt_of_heap {w : World} {k : Nat} {o : Obj} (h : w.heap[k]? = some o) : k < w.heap.size := by
  rcases Nat.lt_or_ge k w.heap.size with h1 | h1
  · exact h1
  · rw [Array.getElem?_eq_none h1] at h; cases h
theorem cell_of_heap {w : World} {b : Nat} {cs : Array Value} {t : TypeId} {fz : Nat × Nat} (h : w.heap[b]? = some (.cells cs t fz)) (i : Nat) : w.cell? ⟨b, i, none⟩ = cs[i]? := by
  simp [World.cell?, h]
theorem free_of_heap {w : World} {b : Nat} {cs : Array Value} {t : TypeId} (h : w.heap[b]? = some (.cells cs t (0, 0))) (i : Nat) : w.frozen? ⟨b, i, none⟩ = false := by
  simp [World.frozen?, h]
theorem heap_setCell {w : World} {k : Nat} {o : Obj} (h : w.heap[k]? = some o) {a : Addr} (ha : a.block ≠ k) (v : Value) : (w.setCell a v).heap[k]? = some o := by
  simp only [World.setCell, Array.getElem?_modify, ha, if_false]; exact h
/-- The slice v lists L, k cells an element. -/
def Lst {α : Type} (k : Nat) (C : α → List Value) (w : World) (v : Value) (L : List α) : Prop :=
  ∃ a cap, v = .slice a L.length cap ∧ L.length ≤ cap ∧ L.length ≤ maxLen ∧ cap ≤ maxLen ∧
    (L ≠ [] → ∃ b o, a = some ⟨b, o, none⟩ ∧ b < w.heap.size ∧ ∀ i x, L[i]? = some x → ∀ j u, (C x)[j]? = some u → w.cell? ⟨b, o + i * k + j, none⟩ = some u)
theorem Lst.grow {α : Type} {k : Nat} {C : α → List Value} {w w' : World} {v : Value} {L : List α} (h : Lst k C w v L) (hb : Below w.heap.size w w') : Lst k C w' v L := by
  obtain ⟨a, cap, h1, h2, h3, h3', h4⟩ := h
  refine ⟨a, cap, h1, h2, h3, h3', fun h0 => ?_⟩
  obtain ⟨b, o, e, hl, hc⟩ := h4 h0
  exact ⟨b, o, e, Nat.lt_of_lt_of_le hl hb.size, fun i x hi j u hj => by rw [hb.cell (p := ⟨b, _, none⟩) hl]; exact hc i x hi j u hj⟩
/-- Its first i elements. -/
theorem Lst.take {α : Type} {k : Nat} {C : α → List Value} {w : World} {a : Option Addr} {n cap : Nat} {L : List α} (h : Lst k C w (.slice a n cap) L) {i : Nat} (hi : i ≤ L.length) : Lst k C w (.slice a i cap) (L.take i) := by
  obtain ⟨a', cap', h1, h2, h3, h3', h4⟩ := h
  injection h1 with e1 e2 e3
  subst e1 e2 e3
  have hl : (L.take i).length = i := by rw [List.length_take]; omega
  refine ⟨a, cap, by rw [hl], by omega, by omega, h3', fun h0 => ?_⟩
  obtain ⟨b, o, e, hlt, hc⟩ := h4 (fun e => by rw [e] at h0; simp at h0)
  refine ⟨b, o, e, hlt, fun j x hj => hc j x ?_⟩
  rw [List.getElem?_take] at hj
  split at hj
  · exact hj
  · cases hj
theorem Lst.len {α : Type} {k : Nat} {C : α → List Value} {w : World} {a : Option Addr} {n cap : Nat} {L : List α} (h : Lst k C w (.slice a n cap) L) : n = L.length ∧ n ≤ cap ∧ n ≤ maxLen ∧ cap ≤ maxLen := by
  obtain ⟨a', cap', h1, h2, h3, h3', h4⟩ := h
  injection h1 with e1 e2 e3
  subst e1 e2 e3
  exact ⟨rfl, h2, h3, h3'⟩
theorem Lst.at_ {α : Type} {k : Nat} {C : α → List Value} {w : World} {a : Option Addr} {n cap : Nat} {L : List α} (h : Lst k C w (.slice a n cap) L) {i : Nat} (hi : i < L.length) :
    ∃ b o, a = some ⟨b, o, none⟩ ∧ b < w.heap.size ∧ ∀ j u, (C L[i])[j]? = some u → w.cell? ⟨b, o + i * k + j, none⟩ = some u := by
  obtain ⟨a', cap', h1, h2, h3, h3', h4⟩ := h
  injection h1 with e1 e2 e3
  subst e1 e2 e3
  obtain ⟨b, o, e, hl, hc⟩ := h4 (fun e => by rw [e] at hi; simp at hi)
  exact ⟨b, o, e, hl, fun j u hj => hc i _ (List.getElem?_eq_getElem hi) j u hj⟩
theorem Lst.val {α : Type} {k : Nat} {C : α → List Value} {w : World} {v : Value} {L : List α} (h : Lst k C w v L) : ∃ a cap, v = .slice a L.length cap := by
  obtain ⟨a, cap, h1, _⟩ := h; exact ⟨a, cap, h1⟩
theorem ownsRow_below {w w' : World} {base : Nat} {e : TypeId} {size : Nat} {v : Value} {n : Nat} {xs : List Value} (h : w.ownsRow base e size v n xs) (hb : Below w.heap.size w w') : w'.ownsRow base e size v n xs :=
  h.kept (row := none) ⟨hb.os, hb.tape, hb.output, hb.size, fun k hk _ => hb.block k hk⟩ (by cases v.ownBlock <;> simp)
theorem row_ne {w : World} {base : Nat} {e : TypeId} {size : Nat} {v : Value} {n : Nat} {xs : List Value} {p : Nat} {cs : Array Value} {t : TypeId} {fz : Nat × Nat} (h : w.ownsRow base e size v n xs) (hp : w.heap[p]? = some (.cells cs t fz)) (ht : t ≠ e) : v.ownBlock ≠ some p := by
  intro hv
  rcases h.2 with ⟨rfl, _⟩ | ⟨g, cap, cur, rfl, _, hg, _⟩
  · simp [Value.ownBlock] at hv
  · simp only [Value.ownBlock, Option.some.injEq] at hv
    subst hv
    rw [hp] at hg
    injection hg with hg
    injection hg with _ hg
    exact ht hg
theorem flatMap_at {α : Type} {C : α → List Value} {k : Nat} : ∀ (L : List α), (∀ x ∈ L, (C x).length = k) → ∀ (i : Nat) (x : α), L[i]? = some x → ∀ (j : Nat) (u : Value), (C x)[j]? = some u → (L.flatMap C)[i * k + j]? = some u ∧ i * k + j < L.length * k
  | [], _, i, x, hi, _, _, _ => by simp at hi
  | y :: r, hC, 0, x, hi, j, u, hj => by
    simp only [List.getElem?_cons_zero, Option.some.injEq] at hi
    subst hi
    have hl : (C y).length = k := hC y (by simp)
    have hjk : j < k := by rw [← hl]; exact (List.getElem?_eq_some_iff.1 hj).1
    refine ⟨?_, ?_⟩
    · simp only [List.flatMap_cons, Nat.zero_mul, Nat.zero_add]
      rw [List.getElem?_append_left (by omega)]; exact hj
    · simp only [List.length_cons, Nat.zero_mul, Nat.zero_add, Nat.succ_mul]; omega
  | y :: r, hC, i + 1, x, hi, j, u, hj => by
    have hl : (C y).length = k := hC y (by simp)
    obtain ⟨h1, h2⟩ := flatMap_at r (fun z hz => hC z (by simp [hz])) i x (by simpa using hi) j u hj
    refine ⟨?_, ?_⟩
    · simp only [List.flatMap_cons]
      rw [List.getElem?_append_right (by rw [hl, Nat.succ_mul]; omega), hl]
      rw [show (i + 1) * k + j - k = i * k + j by rw [Nat.succ_mul]; omega]
      exact h1
    · simp only [List.length_cons, Nat.succ_mul]; omega
theorem lst_row {α : Type} {k : Nat} {C : α → List Value} {w : World} {B : Nat} {e : TypeId} {v : Value} {L : List α} (h : w.ownsRow B e k v L.length (L.flatMap C)) (hC : ∀ x ∈ L, (C x).length = k) : Lst k C w v L := by
  rcases h.2 with ⟨rfl, h0⟩ | ⟨g, cap, cur, rfl, hb, hg, hnc, hcm, -⟩
  · have hL : L = [] := List.length_eq_zero_iff.1 h0
    subst hL
    exact ⟨none, 0, rfl, Nat.le_refl _, Nat.zero_le _, Nat.zero_le _, fun h => absurd rfl h⟩
  · refine ⟨_, cap, rfl, hnc, Nat.le_trans hnc hcm, hcm, fun _ => ⟨g, 0, rfl, lt_of_heap hg, fun i x hi j u hj => ?_⟩⟩
    obtain ⟨h1, h2⟩ := flatMap_at L hC i x hi j u hj
    have c := h.cellAt (i * k + j) h2
    rw [Nat.zero_add, c, h1]
theorem drewN_below {B : Nat} (w : World) (k : Nat) : Below B w (w.drewN k) := ⟨rfl, rfl, rfl, Nat.le_refl _, fun _ _ => rfl⟩
theorem row_slice {w : World} {B n : Nat} {e : TypeId} {size : Nat} {v : Value} {xs : List Value} (h : w.ownsRow B e size v n xs) : ∃ a c, v = .slice a n c ∧ n ≤ maxLen := by
  rcases h.2 with ⟨rfl, h0⟩ | ⟨g, cap, cur, rfl, hb, hg, hnc, hcm, -⟩
  · exact ⟨none, 0, by rw [h0], by rw [h0]; exact Nat.zero_le _⟩
  · exact ⟨_, _, rfl, Nat.le_trans hnc hcm⟩
theorem info3 : (Try.prog.info? 3).map (fun i => (i.zero, i.size, i.bytes)) = some (some (.int .i64 0), 1, 8) := by kernel_rfl
theorem grow_below {W w w' : World} (h : Below W.heap.size W w) (hb : Below w.heap.size w w') : Below W.heap.size W w' := h.trans (hb.mono h.size)
/-- A key as a string. -/
abbrev kyV (k : Ky) : Value := .string ⟨k.toArray⟩
abbrev rcC (r : Rc) : List Value := [kyV r.k, .int .i64 r.t, .int .i64 r.v]
abbrev rcV (r : Rc) : Value := .agg #[kyV r.k, .int .i64 r.t, .int .i64 r.v]
abbrev pnC (x : Pn) : List Value := [kyV x.k, .int .i64 x.f, .int .i64 x.t, .int .i64 x.a.c, .int .i64 x.a.s, .int .i64 x.a.mn, .int .i64 x.a.mx]
abbrev winV (k s l : Int) : Value := .agg #[.int .i64 k, .int .i64 s, .int .i64 l]
def RcsAt (w : World) (v : Value) (L : List Rc) : Prop := Lst 3 rcC w v L
def PnsAt (w : World) (v : Value) (L : List Pn) : Prop := Lst 7 pnC w v L
theorem RcsAt.grow {w w' : World} {v : Value} {L : List Rc} (h : RcsAt w v L) (hb : Below w.heap.size w w') : RcsAt w' v L := Lst.grow h hb
theorem PnsAt.grow {w w' : World} {v : Value} {L : List Pn} (h : PnsAt w v L) (hb : Below w.heap.size w w') : PnsAt w' v L := Lst.grow h hb
theorem RcsAt.cells {w : World} {a : Option Addr} {n c : Nat} {L : List Rc} (h : RcsAt w (.slice a n c) L) {i : Nat} (hi : i < L.length) : ∃ b o, a = some ⟨b, o, none⟩ ∧ b < w.heap.size ∧ w.cell? ⟨b, o + i * 3, none⟩ = some (kyV L[i].k) ∧ w.cell? ⟨b, o + i * 3 + 1, none⟩ = some (.int .i64 L[i].t) ∧ w.cell? ⟨b, o + i * 3 + 2, none⟩ = some (.int .i64 L[i].v) := by
  obtain ⟨b, o, e, hl, hc⟩ := h.at_ hi
  exact ⟨b, o, e, hl, hc 0 _ rfl, hc 1 _ rfl, hc 2 _ rfl⟩
theorem PnsAt.cells {w : World} {a : Option Addr} {n c : Nat} {L : List Pn} (h : PnsAt w (.slice a n c) L) {i : Nat} (hi : i < L.length) : ∃ b o, a = some ⟨b, o, none⟩ ∧ b < w.heap.size ∧ w.cell? ⟨b, o + i * 7, none⟩ = some (kyV L[i].k) ∧ w.cell? ⟨b, o + i * 7 + 1, none⟩ = some (.int .i64 L[i].f) ∧ w.cell? ⟨b, o + i * 7 + 2, none⟩ = some (.int .i64 L[i].t) ∧ w.cell? ⟨b, o + i * 7 + 3, none⟩ = some (.int .i64 L[i].a.c) ∧ w.cell? ⟨b, o + i * 7 + 4, none⟩ = some (.int .i64 L[i].a.s) ∧ w.cell? ⟨b, o + i * 7 + 5, none⟩ = some (.int .i64 L[i].a.mn) ∧ w.cell? ⟨b, o + i * 7 + 6, none⟩ = some (.int .i64 L[i].a.mx) := by
  obtain ⟨b, o, e, hl, hc⟩ := h.at_ hi
  exact ⟨b, o, e, hl, hc 0 _ rfl, hc 1 _ rfl, hc 2 _ rfl, hc 3 _ rfl, hc 4 _ rfl, hc 5 _ rfl, hc 6 _ rfl⟩
/-- A call of a script. -/
structure Ob where
  kind : Int
  r : Rc
  at_ : Int
  b : Value
abbrev obC (o : Ob) : List Value := [.int .i64 o.kind, kyV o.r.k, .int .i64 o.r.t, .int .i64 o.r.v, .int .i64 o.at_, o.b]
/-- A script that came in: each call's values are ints, its bytes a slice. -/
structure OpOk (o : Ob) : Prop where
  t : I64 o.r.t
  v : I64 o.r.v
  at_ : I64 o.at_
  b : ∃ a n c, o.b = .slice a n c ∧ n ≤ maxLen
  k : o.r.k.length ≤ maxLen
def ObsAt (w : World) (v : Value) (L : List Ob) : Prop := Lst 6 obC w v L ∧ ∀ o ∈ L, OpOk o
theorem ObsAt.grow {w w' : World} {v : Value} {L : List Ob} (h : ObsAt w v L) (hb : Below w.heap.size w w') : ObsAt w' v L := ⟨Lst.grow h.1 hb, h.2⟩
theorem ObsAt.cells {w : World} {a : Option Addr} {n c : Nat} {L : List Ob} (h : ObsAt w (.slice a n c) L) {i : Nat} (hi : i < L.length) : ∃ b o, a = some ⟨b, o, none⟩ ∧ b < w.heap.size ∧ w.cell? ⟨b, o + i * 6, none⟩ = some (.int .i64 L[i].kind) ∧ w.cell? ⟨b, o + i * 6 + 1, none⟩ = some (kyV L[i].r.k) ∧ w.cell? ⟨b, o + i * 6 + 2, none⟩ = some (.int .i64 L[i].r.t) ∧ w.cell? ⟨b, o + i * 6 + 3, none⟩ = some (.int .i64 L[i].r.v) ∧ w.cell? ⟨b, o + i * 6 + 4, none⟩ = some (.int .i64 L[i].at_) ∧ w.cell? ⟨b, o + i * 6 + 5, none⟩ = some L[i].b := by
  obtain ⟨b, o, e, hl, hc⟩ := h.1.at_ hi
  exact ⟨b, o, e, hl, hc 0 _ rfl, hc 1 _ rfl, hc 2 _ rfl, hc 3 _ rfl, hc 4 _ rfl, hc 5 _ rfl⟩
end Go.Proofs.Ytlmnkmfpdjkijaa.Ke
