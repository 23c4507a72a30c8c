/-
  Rows of integers in memory, and what is kept of them, seen from outside and as their maker's own. Conditions: as the statements say.
-/
import Derived.Test.YtlmnkmfpdjkijaaAMath
import Derived.Test.YtlmnkmfpdjkijaaRows
import Derived.WalkKit
import Derived.WalkSpells
import Derived.WalkLawsBesides
import Derived.Lib.Hide
import Derived.Lib.Strings
import Derived.Deep.AppendLies
import Derived.Deep.RegionHeld3
import Derived.BigQuiet
import Derived.Below
import Derived.ChangeKeysEq
namespace Go.Proofs.Ytlmnkmfpdjkijaa.Ag
set_option linter.unusedVariables false
set_option linter.unusedSimpArgs false
open Go.RowKit

theorem ret_int {k : IntKind} {a b : Int} (h : a = b) : Ending.returned (.int k a) = .returned (.int k b) := by rw [h]
theorem ret_bool {a b : Bool} (h : a = b) : Ending.returned (.bool a) = .returned (.bool b) := by rw [h]
theorem inebt {a b : Int} (h : ¬ a = b) : (a != b) = true := by simp [bne, h]
theorem inebf {a b : Int} (h : a = b) : (a != b) = false := by simp [bne, h]
theorem ibeq {a b : Int} (h : a = b) : (a == b) = true := by simp [h]
theorem ibne {a b : Int} (h : ¬ a = b) : (a == b) = false := by simp [h]
theorem lt_of_heap {w : World} {k : Nat} {o : Obj} (h : w.heap[k]? = some o) : k < w.heap.size := by
  rcases Nat.lt_or_ge k w.heap.size with h1 | h1
  · exact h1
  · rw [Array.getElem?_eq_none h1] at h; cases h
theorem cell_of_heap {w : World} {b : Nat} {cs : Array Value} {t : TypeId} {fz : Nat × Nat} (h : w.heap[b]? = some (.cells cs t fz)) (i : Nat) : w.cell? ⟨b, i, none⟩ = cs[i]? := by
  simp [World.cell?, h]
theorem free_of_heap {w : World} {b : Nat} {cs : Array Value} {t : TypeId} (h : w.heap[b]? = some (.cells cs t (0, 0))) (i : Nat) : w.frozen? ⟨b, i, none⟩ = false := by
  simp [World.frozen?, h]
theorem heap_setCell {w : World} {k : Nat} {o : Obj} (h : w.heap[k]? = some o) {a : Addr} (ha : a.block ≠ k) (v : Value) : (w.setCell a v).heap[k]? = some o := by
  simp only [World.setCell, Array.getElem?_modify, ha, if_false]; exact h
/-- The slice v lists L, k cells an element. -/
def Lst {α : Type} (k : Nat) (C : α → List Value) (w : World) (v : Value) (L : List α) : Prop :=
  ∃ a cap, v = .slice a L.length cap ∧ L.length ≤ cap ∧ L.length ≤ maxLen ∧ cap ≤ maxLen ∧
    (L ≠ [] → ∃ b o, a = some ⟨b, o, none⟩ ∧ b < w.heap.size ∧ ∀ i x, L[i]? = some x → ∀ j u, (C x)[j]? = some u → w.cell? ⟨b, o + i * k + j, none⟩ = some u)
theorem Lst.grow {α : Type} {k : Nat} {C : α → List Value} {w w' : World} {v : Value} {L : List α} (h : Lst k C w v L) (hb : Below w.heap.size w w') : Lst k C w' v L := by
  obtain ⟨a, cap, h1, h2, h3, h3', h4⟩ := h
  refine ⟨a, cap, h1, h2, h3, h3', fun h0 => ?_⟩
  obtain ⟨b, o, e, hl, hc⟩ := h4 h0
  exact ⟨b, o, e, Nat.lt_of_lt_of_le hl hb.size, fun i x hi j u hj => by rw [hb.cell (p := ⟨b, _, none⟩) hl]; exact hc i x hi j u hj⟩
/-- Its first i elements. -/
theorem Lst.take {α : Type} {k : Nat} {C : α → List Value} {w : World} {a : Option Addr} {n cap : Nat} {L : List α} (h : Lst k C w (.slice a n cap) L) {i : Nat} (hi : i ≤ L.length) : Lst k C w (.slice a i cap) (L.take i) := by
  obtain ⟨a', cap', h1, h2, h3, h3', h4⟩ := h
  injection h1 with e1 e2 e3
  subst e1 e2 e3
  have hl : (L.take i).length = i := by rw [List.length_take]; omega
  refine ⟨a, cap, by rw [hl], by omega, by omega, h3', fun h0 => ?_⟩
  obtain ⟨b, o, e, hlt, hc⟩ := h4 (fun e => by rw [e] at h0; simp at h0)
  refine ⟨b, o, e, hlt, fun j x hj => hc j x ?_⟩
  rw [List.getElem?_take] at hj
  split at hj
  · exact hj
  · cases hj
theorem Lst.len {α : Type} {k : Nat} {C : α → List Value} {w : World} {a : Option Addr} {n cap : Nat} {L : List α} (h : Lst k C w (.slice a n cap) L) : n = L.length ∧ n ≤ cap ∧ n ≤ maxLen ∧ cap ≤ maxLen := by
  obtain ⟨a', cap', h1, h2, h3, h3', h4⟩ := h
  injection h1 with e1 e2 e3
  subst e1 e2 e3
  exact ⟨rfl, h2, h3, h3'⟩
theorem Lst.at_ {α : Type} {k : Nat} {C : α → List Value} {w : World} {a : Option Addr} {n cap : Nat} {L : List α} (h : Lst k C w (.slice a n cap) L) {i : Nat} (hi : i < L.length) :
    ∃ b o, a = some ⟨b, o, none⟩ ∧ b < w.heap.size ∧ ∀ j u, (C L[i])[j]? = some u → w.cell? ⟨b, o + i * k + j, none⟩ = some u := by
  obtain ⟨a', cap', h1, h2, h3, h3', h4⟩ := h
  injection h1 with e1 e2 e3
  subst e1 e2 e3
  obtain ⟨b, o, e, hl, hc⟩ := h4 (fun e => by rw [e] at hi; simp at hi)
  exact ⟨b, o, e, hl, fun j u hj => hc i _ (List.getElem?_eq_getElem hi) j u hj⟩
theorem Lst.val {α : Type} {k : Nat} {C : α → List Value} {w : World} {v : Value} {L : List α} (h : Lst k C w v L) : ∃ a cap, v = .slice a L.length cap := by
  obtain ⟨a, cap, h1, _⟩ := h; exact ⟨a, cap, h1⟩
theorem ownsRow_below {w w' : World} {base : Nat} {e : TypeId} {size : Nat} {v : Value} {n : Nat} {xs : List Value} (h : w.ownsRow base e size v n xs) (hb : Below w.heap.size w w') : w'.ownsRow base e size v n xs :=
  h.kept (row := none) ⟨hb.os, hb.tape, hb.output, hb.size, fun k hk _ => hb.block k hk⟩ (by cases v.ownBlock <;> simp)
theorem row_ne {w : World} {base : Nat} {e : TypeId} {size : Nat} {v : Value} {n : Nat} {xs : List Value} {p : Nat} {cs : Array Value} {t : TypeId} {fz : Nat × Nat} (h : w.ownsRow base e size v n xs) (hp : w.heap[p]? = some (.cells cs t fz)) (ht : t ≠ e) : v.ownBlock ≠ some p := by
  intro hv
  rcases h.2 with ⟨rfl, _⟩ | ⟨g, cap, cur, rfl, _, hg, _⟩
  · simp [Value.ownBlock] at hv
  · simp only [Value.ownBlock, Option.some.injEq] at hv
    subst hv
    rw [hp] at hg
    injection hg with hg
    injection hg with _ hg
    exact ht hg
theorem flatMap_at {α : Type} {C : α → List Value} {k : Nat} : ∀ (L : List α), (∀ x ∈ L, (C x).length = k) → ∀ (i : Nat) (x : α), L[i]? = some x → ∀ (j : Nat) (u : Value), (C x)[j]? = some u → (L.flatMap C)[i * k + j]? = some u ∧ i * k + j < L.length * k
  | [], _, i, x, hi, _, _, _ => by simp at hi
  | y :: r, hC, 0, x, hi, j, u, hj => by
    simp only [List.getElem?_cons_zero, Option.some.injEq] at hi
    subst hi
    have hl : (C y).length = k := hC y (by simp)
    have hjk : j < k := by rw [← hl]; exact (List.getElem?_eq_some_iff.1 hj).1
    refine ⟨?_, ?_⟩
    · simp only [List.flatMap_cons, Nat.zero_mul, Nat.zero_add]
      rw [List.getElem?_append_left (by omega)]; exact hj
    · simp only [List.length_cons, Nat.zero_mul, Nat.zero_add, Nat.succ_mul]; omega
  | y :: r, hC, i + 1, x, hi, j, u, hj => by
    have hl : (C y).length = k := hC y (by simp)
    obtain ⟨h1, h2⟩ := flatMap_at r (fun z hz => hC z (by simp [hz])) i x (by simpa using hi) j u hj
    refine ⟨?_, ?_⟩
    · simp only [List.flatMap_cons]
      rw [List.getElem?_append_right (by rw [hl, Nat.succ_mul]; omega), hl]
      rw [show (i + 1) * k + j - k = i * k + j by rw [Nat.succ_mul]; omega]
      exact h1
    · simp only [List.length_cons, Nat.succ_mul]; omega
theorem lst_row {α : Type} {k : Nat} {C : α → List Value} {w : World} {B : Nat} {e : TypeId} {v : Value} {L : List α} (h : w.ownsRow B e k v L.length (L.flatMap C)) (hC : ∀ x ∈ L, (C x).length = k) : Lst k C w v L := by
  rcases h.2 with ⟨rfl, h0⟩ | ⟨g, cap, cur, rfl, hb, hg, hnc, hcm, -⟩
  · have hL : L = [] := List.length_eq_zero_iff.1 h0
    subst hL
    exact ⟨none, 0, rfl, Nat.le_refl _, Nat.zero_le _, Nat.zero_le _, fun h => absurd rfl h⟩
  · refine ⟨_, cap, rfl, hnc, Nat.le_trans hnc hcm, hcm, fun _ => ⟨g, 0, rfl, lt_of_heap hg, fun i x hi j u hj => ?_⟩⟩
    obtain ⟨h1, h2⟩ := flatMap_at L hC i x hi j u hj
    have c := h.cellAt (i * k + j) h2
    rw [Nat.zero_add, c, h1]
theorem drewN_below {B : Nat} (w : World) (k : Nat) : Below B w (w.drewN k) := ⟨rfl, rfl, rfl, Nat.le_refl _, fun _ _ => rfl⟩
theorem row_slice {w : World} {B n : Nat} {e : TypeId} {size : Nat} {v : Value} {xs : List Value} (h : w.ownsRow B e size v n xs) : ∃ a c, v = .slice a n c ∧ n ≤ maxLen := by
  rcases h.2 with ⟨rfl, h0⟩ | ⟨g, cap, cur, rfl, hb, hg, hnc, hcm, -⟩
  · exact ⟨none, 0, by rw [h0], by rw [h0]; exact Nat.zero_le _⟩
  · exact ⟨_, _, rfl, Nat.le_trans hnc hcm⟩
theorem info3 : (Try.prog.info? 3).map (fun i => (i.zero, i.size, i.bytes)) = some (some (.int .i64 0), 1, 8) := by kernel_rfl
/-- The slice v lists the integers L. -/
def IntsZ (w : World) (v : Value) (L : List Int) : Prop := Lst 1 (fun (z : Int) => [Value.int .i64 z]) w v L
theorem IntsZ.grow {w w' : World} {v : Value} {L : List Int} (h : IntsZ w v L) (hb : Below w.heap.size w w') : IntsZ w' v L := Lst.grow h hb
theorem IntsZ.cell {w : World} {a : Option Addr} {n c : Nat} {L : List Int} (h : IntsZ w (.slice a n c) L) {i : Nat} (hi : i < L.length) : ∃ b o, a = some ⟨b, o, none⟩ ∧ b < w.heap.size ∧ w.cell? ⟨b, o + i, none⟩ = some (.int .i64 L[i]) := by
  obtain ⟨b, o, e, hl, hc⟩ := h.at_ hi
  refine ⟨b, o, e, hl, ?_⟩
  have := hc 0 _ rfl
  rwa [Nat.mul_one, Nat.add_zero] at this
/-- Numbers, as they lie in a row. -/
def ics (L : List Int) : List Value := L.flatMap fun (k : Int) => [Value.int .i64 k]
theorem ics_snoc (L : List Int) (k : Int) : ics (L ++ [k]) = ics L ++ [.int .i64 k] := by simp [ics]
theorem one_int (i : Int) : ∀ u ∈ [Value.int .i64 i], u.oneCell' = true := by
  intro u hu; simp only [List.mem_cons, List.not_mem_nil, or_false] at hu; subst hu; rfl
theorem ints_row {w : World} {B : Nat} {v : Value} {L : List Int} (h : w.ownsRow B 3 1 v L.length (ics L)) : IntsZ w v L := lst_row h (fun _ _ => rfl)
theorem grow_below {W w w' : World} (h : Below W.heap.size W w) (hb : Below w.heap.size w w') : Below W.heap.size W w' := h.trans (hb.mono h.size)
/-- Its elements from i on. -/
theorem Lst.drop {α : Type} {k : Nat} {C : α → List Value} {w : World} {b o n cap : Nat} {L : List α} (h : Lst k C w (.slice (some ⟨b, o, none⟩) n cap) L) {i : Nat} (hi : i < L.length) : Lst k C w (.slice (some ⟨b, o + i * k, none⟩) (n - i) (cap - i)) (L.drop i) := by
  obtain ⟨a', cap', h1, h2, h3, h3', h4⟩ := h
  injection h1 with e1 e2 e3
  subst e1 e2 e3
  have hl : (L.drop i).length = L.length - i := List.length_drop
  refine ⟨some ⟨b, o + i * k, none⟩, cap - i, by rw [hl], by omega, by omega, by omega, fun h0 => ?_⟩
  obtain ⟨b', o', e, hlt, hc⟩ := h4 (fun e => by rw [e] at hi; simp at hi)
  injection e with e
  injection e with q1 q2
  subst q1 q2
  refine ⟨b, o + i * k, rfl, hlt, fun j x hj => ?_⟩
  rw [List.getElem?_drop] at hj
  intro p u hp
  have := hc (i + j) x hj p u hp
  rw [show o + i * k + j * k + p = o + (i + j) * k + p by rw [Nat.add_mul]; omega]
  exact this
abbrev acC (a : Ac) : Array Value := #[.int .i64 a.c, .int .i64 a.s, .int .i64 a.mn, .int .i64 a.mx]
abbrev acV (a : Ac) : Value := .agg #[.int .i64 a.c, .int .i64 a.s, .int .i64 a.mn, .int .i64 a.mx]
def accEq (a b : Ac) : Bool := a.c == b.c && (a.s == b.s && (a.mn == b.mn && a.mx == b.mx))
theorem accEq_refl (a : Ac) : accEq a a = true := by simp [accEq]
theorem run_acc (w : World) (a b c d a' b' c' d' : Int) : (Op.equalIn 10000 47 (.agg #[.int .i64 a, .int .i64 b, .int .i64 c, .int .i64 d]) (.agg #[.int .i64 a', .int .i64 b', .int .i64 c', .int .i64 d'])).run Try.prog w = .ok (a == a' && (b == b' && (c == c' && d == d'))) w := by
  rw [run_equalIn_struct w 9999 _ _ _ (by kernel_rfl) (by kernel_rfl)]
  have hf : (Try.prog.fieldsOf 47).toList.map (fun f => (f.name, f.type, f.offset)) = [("Count", 3, 0), ("Sum", 3, 1), ("Min", 3, 2), ("Max", 3, 3)] := by kernel_rfl
  generalize (Try.prog.fieldsOf 47).toList = fs at hf
  match fs with
  | [] => simp at hf
  | [_] => simp at hf
  | [_, _] => simp at hf
  | [_, _, _] => simp at hf
  | _ :: _ :: _ :: _ :: _ :: _ => simp at hf
  | [f, g, h, i] =>
    simp only [List.map_cons, List.map_nil, List.cons.injEq, Prod.mk.injEq, and_true] at hf
    obtain ⟨⟨f1, f2, f3⟩, ⟨g1, g2, g3⟩, ⟨h1, h2, h3⟩, i1, i2, i3⟩ := hf
    have hp : Try.prog.plainKey 3 = true := by kernel_rfl
    have p0 : ∀ (x y z u : Value) (w : World), (part 3 #[x, y, z, u] 0).run Try.prog w = .ok x w := fun x y z u w => run_part_plain w hp rfl
    have p1 : ∀ (x y z u : Value) (w : World), (part 3 #[x, y, z, u] 1).run Try.prog w = .ok y w := fun x y z u w => run_part_plain w hp rfl
    have p2 : ∀ (x y z u : Value) (w : World), (part 3 #[x, y, z, u] 2).run Try.prog w = .ok z w := fun x y z u w => run_part_plain w hp rfl
    have p3 : ∀ (x y z u : Value) (w : World), (part 3 #[x, y, z, u] 3).run Try.prog w = .ok u w := fun x y z u w => run_part_plain w hp rfl
    have he : ∀ (x y : Int) (w : World), (Op.equalIn 9999 3 (.int .i64 x) (.int .i64 y)).run Try.prog w = .ok (x == y) w := fun x y w => run_equalIn_int w 9998 3 .i64 .i64 x y Try.underlying3
    cases ha : (a == a') <;> cases hb : (b == b') <;> cases hc : (c == c') <;> cases hd : (d == d') <;> simp [Op.eqFields, f1, f2, f3, g1, g2, g3, h1, h2, h3, i1, i2, i3, Sem.run_bind, Result.andThen_ok, p0, p1, p2, p3, he, ha, hb, hc, hd]
/-- A record of what is kept lies at block b. -/
structure AcAt (w : World) (b : Nat) (a : Ac) : Prop where
  blk : w.heap[b]? = some (.cells (acC a) 47 (0, 0))
theorem AcAt.grow {w w' : World} {b : Nat} {a : Ac} (h : AcAt w b a) (hb : Below w.heap.size w w') : AcAt w' b a := ⟨(hb.block b (lt_of_heap h.blk)).trans h.blk⟩
theorem AcAt.lt {w : World} {b : Nat} {a : Ac} (h : AcAt w b a) : b < w.heap.size := lt_of_heap h.blk
theorem AcAt.cells {w : World} {b : Nat} {a : Ac} (h : AcAt w b a) : w.cell? ⟨b, 0, none⟩ = some (.int .i64 a.c) ∧ w.cell? ⟨b, 1, none⟩ = some (.int .i64 a.s) ∧ w.cell? ⟨b, 2, none⟩ = some (.int .i64 a.mn) ∧ w.cell? ⟨b, 3, none⟩ = some (.int .i64 a.mx) := by
  refine ⟨?_, ?_, ?_, ?_⟩ <;> (rw [cell_of_heap h.blk]; rfl)
theorem AcAt.free {w : World} {b : Nat} {a : Ac} (h : AcAt w b a) : w.frozen? ⟨b, 0, none⟩ = false ∧ w.frozen? ⟨b, 1, none⟩ = false ∧ w.frozen? ⟨b, 2, none⟩ = false ∧ w.frozen? ⟨b, 3, none⟩ = false :=
  ⟨free_of_heap h.blk 0, free_of_heap h.blk 1, free_of_heap h.blk 2, free_of_heap h.blk 3⟩
theorem ac_new (w : World) (a : Ac) : AcAt (w.alloc (.cells (acC a) 47)) w.heap.size a := ⟨heap_alloc_new w _⟩
theorem AcAt.other {w : World} {b : Nat} {a : Ac} (h : AcAt w b a) {p : Addr} (hp : p.block ≠ b) (v : Value) : AcAt (w.setCell p v) b a := ⟨heap_setCell h.blk hp v⟩
end Go.Proofs.Ytlmnkmfpdjkijaa.Ag
