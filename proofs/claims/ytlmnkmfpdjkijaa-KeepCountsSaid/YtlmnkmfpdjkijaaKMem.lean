/-
  A keep of the program in memory: its own cells, its map, the rows of panes that the map leads to; a set S of blocks holds them all. Conditions: none but those that each theorem names.
-/
import Derived.Test.YtlmnkmfpdjkijaaKKit
import Derived.Test.YtlmnkmfpdjkijaaKCut
import Derived.Maps.RangeWalk
import Derived.Maps.OwnSet
import Derived.Maps.Views
import Derived.Sort.Grow
namespace Go.Proofs.Ytlmnkmfpdjkijaa.Ke
open Go.RowKit
/-- From w to w' nothing has turned but what lies in S, and S' is S and new blocks. -/
structure Upd (S S' : Nat → Prop) (w w' : World) : Prop where
  os : w'.os = w.os
  tape : w'.tape = w.tape
  output : w'.output = w.output
  size : w.heap.size ≤ w'.heap.size
  block : ∀ b, b < w.heap.size → ¬ S b → w'.heap[b]? = w.heap[b]?
  foot : ∀ b, S' b → S b ∨ w.heap.size ≤ b
section
variable {S S' S'' : Nat → Prop} {w w' w'' : World}
theorem Upd.refl (S : Nat → Prop) (w : World) : Upd S S w w := ⟨rfl, rfl, rfl, Nat.le_refl _, fun _ _ _ => rfl, fun _ h => .inl h⟩
theorem Upd.trans (h : Upd S S' w w') (k : Upd S' S'' w' w'') : Upd S S'' w w'' :=
  ⟨k.os.trans h.os, k.tape.trans h.tape, k.output.trans h.output, Nat.le_trans h.size k.size,
   fun b hb hs => (k.block b (Nat.lt_of_lt_of_le hb h.size) (fun h1 => (h.foot b h1).elim hs (fun h2 => by omega))).trans (h.block b hb hs),
   fun b hb => (k.foot b hb).elim (fun h1 => h.foot b h1) (fun h1 => .inr (Nat.le_trans h.size h1))⟩
theorem Upd.of_below (h : Below w.heap.size w w') : Upd S S w w' := ⟨h.os, h.tape, h.output, h.size, fun b hb _ => h.block b hb, fun _ h => .inl h⟩
theorem Upd.grown {row : Option Nat} (h : w.grownBy w' row) (hr : ∀ g, row = some g → S g ∨ w.heap.size ≤ g) (hf : ∀ b, S' b → S b ∨ w.heap.size ≤ b) : Upd S S' w w' :=
  ⟨h.os, h.tape, h.output, h.size, fun b hb hs => h.block b hb (fun e => (hr b e.symm).elim hs (fun h2 => by omega)), hf⟩
theorem Upd.below (h : Upd S S' w w') {B : Nat} (hB : B ≤ w.heap.size) (hs : ∀ b, b < B → ¬ S b) : Below B w w' :=
  ⟨h.os, h.tape, h.output, h.size, fun b hb => h.block b (by omega) (hs b hb)⟩
end
end Go.Proofs.Ytlmnkmfpdjkijaa.Ke
namespace Go.Proofs.Ytlmnkmfpdjkijaa.Kp
set_option linter.unusedVariables false
set_option linter.unusedSimpArgs false
open Go.Proofs.Ytlmnkmfpdjkijaa Go.Proofs.Ytlmnkmfpdjkijaa.Ke
open Go.RowKit

/-- An element of the map as it lies. -/
def asIs (v : Value) : Option (DataW Value × List MemPlace) := some (.held v, [])
theorem asIs_inv {v : Value} {z : DataW Value × List MemPlace} (h : asIs v = some z) : z = (.held v, []) := by
  unfold asIs at h; injection h with h; exact h.symm
theorem law : Maps.Keyed Try.prog 9 := Maps.string_keyed Try.underlying9
theorem zeroRow (w : World) : (zeroValue 82).run Try.prog w = .ok (.slice none 0 0) w := by kernel_rfl
theorem key_of {k : Ky} (h : k.length ≤ maxLen) : keyOf Try.prog 9 (kyV k) = some (.string k) := by
  have := WideMaps.keyOf_string_mk (P := Try.prog) Try.underlying9 (s := ⟨k.toArray⟩) (by show k.toArray.size ≤ maxLen; simpa using h)
  simpa using this
theorem key_lit (k : Ky) (h : k.length ≤ maxLen) : WideAt.IsKeyLit (.string k) := law.key (key_of h)
/-- A row of panes as it lies, anywhere in its block. -/
def RowIn (w : World) (v : Value) (L : List Pn) : Prop :=
  ∃ g o cap cur, v = .slice (some ⟨g, o, none⟩) L.length cap ∧ w.heap[g]? = some (.cells cur 51 (0, 0)) ∧ L.length ≤ cap ∧ cap ≤ maxLen ∧ cur.size = o + cap * 7 ∧ (cur.toList.drop o).take (L.length * 7) = L.flatMap pnC
theorem pn7 (x : Pn) : (pnC x).length = 7 := rfl
theorem pns_len (L : List Pn) : (L.flatMap pnC).length = L.length * 7 := by
  induction L with
  | nil => rfl
  | cons x r ih =>
    rw [List.flatMap_cons, List.length_append, ih]
    show 7 + r.length * 7 = (r.length + 1) * 7
    omega
theorem RowIn.keep {w w' : World} {v : Value} {L : List Pn} (h : RowIn w v L) (hk : ∀ g, v.ownBlock = some g → w'.heap[g]? = w.heap[g]?) : RowIn w' v L := by
  obtain ⟨g, o, cap, cur, rfl, h1, h2⟩ := h
  exact ⟨g, o, cap, cur, rfl, (hk g rfl).trans h1, h2⟩
theorem RowIn.lt {w : World} {v : Value} {L : List Pn} (h : RowIn w v L) {g : Nat} (hg : v.ownBlock = some g) : g < w.heap.size := by
  obtain ⟨g', o, cap, cur, rfl, h1, h2⟩ := h
  injection hg with hg
  subst hg
  exact lt_of_heap h1
theorem RowIn.cell {w : World} {v : Value} {L : List Pn} (h : RowIn w v L) : ∃ g o cap, v = .slice (some ⟨g, o, none⟩) L.length cap ∧ g < w.heap.size ∧ L.length ≤ cap ∧ cap ≤ maxLen ∧ ∀ i x, L[i]? = some x → ∀ j u, (pnC x)[j]? = some u → w.cell? ⟨g, o + i * 7 + j, none⟩ = some u := by
  obtain ⟨g, o, cap, cur, rfl, h1, h2, h3, h4, h5⟩ := h
  refine ⟨g, o, cap, rfl, lt_of_heap h1, h2, h3, fun i x hi j u hj => ?_⟩
  obtain ⟨k1, k2⟩ := flatMap_at L (fun x _ => pn7 x) i x hi j u hj
  rw [cell_of_heap h1, ← Array.getElem?_toList]
  rw [← h5, List.getElem?_take_of_lt k2, List.getElem?_drop] at k1
  rw [Nat.add_assoc]
  exact k1
theorem RowIn.lst {w : World} {v : Value} {L : List Pn} (h : RowIn w v L) : PnsAt w v L := by
  obtain ⟨g, o, cap, rfl, h1, h2, h3, h4⟩ := h.cell
  exact ⟨_, cap, rfl, h2, Nat.le_trans h2 h3, h3, fun _ => ⟨g, o, rfl, h1, h4⟩⟩
/-- One function turned at one key. -/
def updK {α : Type} (f : Ky → α) (k : Ky) (x : α) : Ky → α := fun j => if j = k then x else f j
theorem updK_same {α : Type} (f : Ky → α) (k : Ky) (x : α) : updK f k x k = x := by unfold updK; rw [if_pos rfl]
theorem updK_other {α : Type} (f : Ky → α) {k j : Ky} (x : α) (h : j ≠ k) : updK f k x j = f j := by unfold updK; rw [if_neg h]
/-- The rows R lie behind the map at bm; V: where each lies. -/
structure RowsV (w : World) (S : Nat → Prop) (bm : Nat) (D : DataW Value) (V : Ky → Value) (R : Ky → List Pn) : Prop where
  own : w.ownsMap Try.prog 9 asIs bm (Maps.size D) D
  foot : S bm
  key : ∀ k, R k ≠ [] → k.length ≤ 16
  has : ∀ k, Maps.has D (.string k) = !(R k).isEmpty
  el : ∀ k, R k ≠ [] → ∀ zd, D.atKey (.string k) zd = .held (V k)
  row : ∀ k, R k ≠ [] → RowIn w (V k) (R k)
  inj : ∀ k k' g, R k ≠ [] → R k' ≠ [] → (V k).ownBlock = some g → (V k').ownBlock = some g → k = k'
  rows : ∀ k g, R k ≠ [] → (V k).ownBlock = some g → S g
def Rws (w : World) (S : Nat → Prop) (bm : Nat) (R : Ky → List Pn) : Prop := ∃ D V, RowsV w S bm D V R
theorem ownsMap_trim {P : Program} {k : TypeId} {R : Value → Option (DataW Value × List MemPlace)} {w : World} {b n : Nat} {D : DataW Value} (h : w.ownsMap P k R b n D) : w.ownsMap P k R b (Maps.size D) D := by
  obtain ⟨es, clock, hb, F, hs, rfl⟩ := h
  exact ⟨es, clock, hb, F, by simp [Maps.size, length_sorted], rfl⟩
section
variable {w w' : World} {S S' : Nat → Prop} {bm : Nat} {D : DataW Value} {V : Ky → Value} {R R' : Ky → List Pn}
theorem isE {L : List Pn} : (!L.isEmpty) = true ↔ L ≠ [] := by cases L <;> simp
theorem RowsV.keep (h : RowsV w S bm D V R) (hk : ∀ x, S x → w'.heap[x]? = w.heap[x]?) : RowsV w' S bm D V R := by
  obtain ⟨⟨es, clock, hb, r⟩, h1, h2, h3, h4, h5, h6, h7⟩ := h
  exact ⟨⟨es, clock, (hk bm h1).trans hb, r⟩, h1, h2, h3, h4, fun k hr => (h5 k hr).keep (fun g hg => hk g (h7 k g hr hg)), h6, h7⟩
theorem Rws.keep (h : Rws w S bm R) (hk : ∀ x, S x → w'.heap[x]? = w.heap[x]?) : Rws w' S bm R := by
  obtain ⟨D, V, h⟩ := h; exact ⟨D, V, h.keep hk⟩
theorem RowsV.sub (h : RowsV w S bm D V R) (hs : ∀ x, S x → S' x) : RowsV w S' bm D V R :=
  { h with foot := hs _ h.foot, rows := fun k g a b => hs _ (h.rows k g a b) }
theorem RowsV.congr (h : RowsV w S bm D V R) (he : ∀ k, R k = R' k) : RowsV w S bm D V R' := by
  obtain rfl : R = R' := funext he
  exact h
theorem RowsV.map_ne (h : RowsV w S bm D V R) {k : Ky} (hr : R k ≠ []) : (V k).ownBlock ≠ some bm := by
  intro e
  obtain ⟨g, o, cap, cur, hv, h1, -⟩ := h.row k hr
  obtain ⟨es, clock, hb, -⟩ := h.own
  rw [hv] at e
  injection e with e
  dsimp only at e
  rw [e, hb] at h1
  cases h1
theorem RowsV.lt (h : RowsV w S bm D V R) {k : Ky} (hr : R k ≠ []) {g : Nat} (hg : (V k).ownBlock = some g) : g < w.heap.size := (h.row k hr).lt hg
/-- A key's row, looked up. -/
def rowV (V : Ky → Value) (R : Ky → List Pn) (k : Ky) : Value := if R k = [] then .slice none 0 0 else V k
set_option maxRecDepth 20000 in
theorem RowsV.look (h : RowsV w S bm D V R) {k : Ky} (hk : k.length ≤ maxLen) : (Instr.lookup 71 (.map (some bm)) (kyV k) false).run Try.prog w = .ok (rowV V R k) w := by
  obtain ⟨u, ps, hrun, hu⟩ := h.own.lookup law Try.underlying71 (zeroRow w) (zd := .held (.slice none 0 0)) (zp := []) rfl (key_of hk)
  have hu := asIs_inv hu
  injection hu with hu _
  unfold rowV
  by_cases hr : R k = []
  · rw [if_pos hr, hrun]
    have := h.has k
    rw [hr] at this
    rw [Maps.atKey_of_not_has (by simpa using this)] at hu
    injection hu with hu
    rw [hu]
  · rw [if_neg hr, hrun]
    rw [h.el k hr] at hu
    injection hu with hu
    rw [hu]
/-- A row stored at its key: in the block that it lay in, or in new memory. -/
theorem RowsV.put {w1 : World} {n : Nat} {k : Ky} {v : Value} {L : List Pn} (h : RowsV w S bm D V R) (hk : k.length ≤ 16) (hL : L ≠ []) (hm : w1.ownsMap Try.prog 9 asIs bm n (D.put (.string k) (.held v))) (hrow : RowIn w1 v L)
    (hold : ∀ x, x < w.heap.size → x ≠ bm → (R k ≠ [] → (V k).ownBlock ≠ some x) → w1.heap[x]? = w.heap[x]?) (hv : ∀ g, v.ownBlock = some g → (R k ≠ [] ∧ (V k).ownBlock = some g) ∨ w.heap.size ≤ g) :
    RowsV w1 (fun x => S x ∨ v.ownBlock = some x) bm (D.put (.string k) (.held v)) (updK V k v) (updK R k L) := by
  have hmap := h.own.isMap
  have hkl := key_lit k (by unfold maxLen; omega)
  have hne : ∀ j, j ≠ k → (Lit.string j) ≠ .string k := fun j hj e => hj (by injection e)
  have hap : ∀ j g, j ≠ k → R j ≠ [] → (V j).ownBlock = some g → v.ownBlock ≠ some g := fun j g hj hr hg e => by
    rcases hv g e with ⟨h1, h2⟩ | h1
    · exact hj (h.inj j k g hr h1 hg h2)
    · have := h.lt hr hg; omega
  refine ⟨ownsMap_trim hm, .inl h.foot, fun j hr => ?_, fun j => ?_, fun j hr zd => ?_, fun j hr => ?_, fun j j' g hr hr' hg hg' => ?_, fun j g hr hg => ?_⟩
  · by_cases e : j = k
    · rw [e]; exact hk
    · rw [updK_other _ _ e] at hr; exact h.key j hr
  · by_cases e : j = k
    · subst e
      rw [updK_same, Maps.has_put_same hmap hkl, isE.2 hL]
    · rw [updK_other _ _ e, Maps.has_put_other (hne j e)]; exact h.has j
  · by_cases e : j = k
    · subst e
      rw [updK_same, Maps.atKey_put_same hmap hkl]
    · rw [updK_other _ _ e] at hr ⊢
      rw [Maps.atKey_put_other (hne j e)]; exact h.el j hr zd
  · by_cases e : j = k
    · subst e; rw [updK_same, updK_same]; exact hrow
    · rw [updK_other _ _ e] at hr
      rw [updK_other _ _ e, updK_other _ _ e]
      refine (h.row j hr).keep (fun g hg => hold g (h.lt hr hg) (fun e' => h.map_ne hr (e' ▸ hg)) (fun hk' hg' => e (h.inj j k g hr hk' hg hg')))
  · by_cases e : j = k
    · subst e
      rw [updK_same] at hg
      by_cases e' : j' = j
      · exact e'.symm
      · rw [updK_other _ _ e'] at hg' hr'
        exact absurd hg (hap j' g e' hr' hg')
    · rw [updK_other _ _ e] at hg hr
      by_cases e' : j' = k
      · subst e'
        rw [updK_same] at hg'
        exact absurd hg' (hap j g e hr hg)
      · rw [updK_other _ _ e'] at hg' hr'
        exact h.inj j j' g hr hr' hg hg'
  · by_cases e : j = k
    · subst e; rw [updK_same] at hg; exact .inr hg
    · rw [updK_other _ _ e] at hg hr; exact .inl (h.rows j g hr hg)
/-- A key dropped. -/
theorem RowsV.del {w1 : World} {n : Nat} {k : Ky} (h : RowsV w S bm D V R) (hm : w1.ownsMap Try.prog 9 asIs bm n (D.del (.string k))) (hold : ∀ x, x < w.heap.size → x ≠ bm → w1.heap[x]? = w.heap[x]?) : RowsV w1 S bm (D.del (.string k)) V (updK R k []) := by
  have hne : ∀ j, j ≠ k → (Lit.string j) ≠ .string k := fun j hj e => hj (by injection e)
  have hk : ∀ j, updK R k [] j ≠ [] → j ≠ k ∧ R j ≠ [] := fun j hr => by
    by_cases e : j = k
    · subst e; rw [updK_same] at hr; exact absurd rfl hr
    · rw [updK_other _ _ e] at hr; exact ⟨e, hr⟩
  refine ⟨ownsMap_trim hm, h.foot, fun j hr => h.key j (hk j hr).2, fun j => ?_, fun j hr zd => ?_, fun j hr => ?_, fun j j' g hr hr' => h.inj j j' g (hk j hr).2 (hk j' hr').2, fun j g hr => h.rows j g (hk j hr).2⟩
  · by_cases e : j = k
    · subst e; rw [updK_same, Maps.has_del_same]; rfl
    · rw [updK_other _ _ e, Maps.has_del_other (hne j e)]; exact h.has j
  · obtain ⟨e, hr⟩ := hk j hr
    rw [Maps.atKey_del_other (hne j e)]; exact h.el j hr zd
  · obtain ⟨e, hr⟩ := hk j hr
    rw [updK_other _ _ e]
    exact (h.row j hr).keep (fun g hg => hold g (h.lt hr hg) (fun e' => h.map_ne hr (e' ▸ hg)))
/-- There are no more keys than panes. -/
theorem RowsV.few {l : List Pn} (h : RowsV w S bm D V R) (hR : ∀ k, R k = krow l k) : Maps.size D ≤ l.length := by
  obtain ⟨es, rfl, hp, hk⟩ := h.own.entries law
  have hh : ∀ p ∈ es, ∃ k, p.1 = .string k ∧ R k ≠ [] := fun p hp' => by
    have hs : Maps.has (.map es) p.1 = true := List.any_eq_true.2 ⟨p, hp', WideAt.sameKey_self (hk p hp')⟩
    have : ∃ k, p.1 = .string k := by
      obtain ⟨es', clock, hb, F, -, e⟩ := h.own
      injection e with e
      rw [e] at hp'
      obtain ⟨x, hx, rfl⟩ := List.mem_map.1 (mem_sorted.1 hp')
      obtain ⟨y, hy⟩ := F.reads x hx
      have hy' := WideElems.rd_key hy
      rw [WideElems.rg_of hy]
      cases hxk : x.key <;> rw [hxk] at hy' <;> simp [keyOf, Try.underlying9, mapKey] at hy'
      exact ⟨_, hy'.2.symm⟩
    obtain ⟨k, e⟩ := this
    rw [e, h.has] at hs
    exact ⟨k, e, isE.1 hs⟩
  have h1 : (es.map fun p => p.1).Nodup := by
    unfold List.Nodup
    rw [List.pairwise_map]
    exact hp
  have h2 := @nodup_le Lit (fun a b => Classical.propDecidable (a = b)) (es.map fun p => p.1) (l.map fun x => Lit.string x.k) h1 (fun y hy => by
    obtain ⟨p, hp', rfl⟩ := List.mem_map.1 hy
    obtain ⟨k, e, hr⟩ := hh p hp'
    rw [hR] at hr
    obtain ⟨x, hx⟩ := List.exists_mem_of_ne_nil _ hr
    obtain ⟨h3, h4⟩ := krow_mem.1 hx
    exact List.mem_map.2 ⟨x, h3, by rw [e, h4]⟩)
  simpa [Maps.size] using h2
end
/-- A keep's own cells. -/
def ldV (ld : Nat → Bool) (i : Nat) : Value := .bool (ld i)
def topC (k s l agg m : Int) (fr : Bool) (ld : Nat → Bool) (bm : Nat) : Array Value :=
  #[.int .i64 k, .int .i64 s, .int .i64 l, .int .i64 agg, .int .i64 m, .bool fr, ldV ld 0, ldV ld 1, ldV ld 2, ldV ld 3, ldV ld 4, ldV ld 5, ldV ld 6, ldV ld 7, ldV ld 8, ldV ld 9, ldV ld 10, ldV ld 11, ldV ld 12, ldV ld 13, ldV ld 14, ldV ld 15, .map (some bm)]
def KTop (w : World) (b : Nat) (k s l agg m : Int) (fr : Bool) (ld : Nat → Bool) (bm : Nat) : Prop := w.heap[b]? = some (.cells (topC k s l agg m fr ld bm) 74 (0, 0))
section
variable {w w' : World} {b bm : Nat} {k s l agg m : Int} {fr : Bool} {ld : Nat → Bool}
theorem KTop.lt (h : KTop w b k s l agg m fr ld bm) : b < w.heap.size := lt_of_heap h
theorem KTop.c0 (h : KTop w b k s l agg m fr ld bm) : w.cell? ⟨b, 0, none⟩ = some (.int .i64 k) := cell_of_heap h 0
theorem KTop.c1 (h : KTop w b k s l agg m fr ld bm) : w.cell? ⟨b, 1, none⟩ = some (.int .i64 s) := cell_of_heap h 1
theorem KTop.c2 (h : KTop w b k s l agg m fr ld bm) : w.cell? ⟨b, 2, none⟩ = some (.int .i64 l) := cell_of_heap h 2
theorem KTop.c3 (h : KTop w b k s l agg m fr ld bm) : w.cell? ⟨b, 3, none⟩ = some (.int .i64 agg) := cell_of_heap h 3
theorem KTop.c4 (h : KTop w b k s l agg m fr ld bm) : w.cell? ⟨b, 4, none⟩ = some (.int .i64 m) := cell_of_heap h 4
theorem KTop.c5 (h : KTop w b k s l agg m fr ld bm) : w.cell? ⟨b, 5, none⟩ = some (.bool fr) := cell_of_heap h 5
theorem KTop.c22 (h : KTop w b k s l agg m fr ld bm) : w.cell? ⟨b, 22, none⟩ = some (.map (some bm)) := cell_of_heap h 22
theorem top_ld (k s l agg m : Int) (fr : Bool) (ld : Nat → Bool) (bm : Nat) {g : Nat} (hg : g < 16) : (topC k s l agg m fr ld bm)[6 + g]? = some (ldV ld g) := by
  rcases (by omega : g = 0 ∨ g = 1 ∨ g = 2 ∨ g = 3 ∨ g = 4 ∨ g = 5 ∨ g = 6 ∨ g = 7 ∨ g = 8 ∨ g = 9 ∨ g = 10 ∨ g = 11 ∨ g = 12 ∨ g = 13 ∨ g = 14 ∨ g = 15) with rfl | rfl | rfl | rfl | rfl | rfl | rfl | rfl | rfl | rfl | rfl | rfl | rfl | rfl | rfl | rfl <;> rfl
theorem KTop.cl (h : KTop w b k s l agg m fr ld bm) {g : Nat} (hg : g < 16) : w.cell? ⟨b, 6 + g, none⟩ = some (.bool (ld g)) := (cell_of_heap h (6 + g)).trans (top_ld _ _ _ _ _ _ _ _ hg)
theorem KTop.fz (h : KTop w b k s l agg m fr ld bm) (o : Nat) : w.frozen? ⟨b, o, none⟩ = false := free_of_heap h o
theorem KTop.keep (h : KTop w b k s l agg m fr ld bm) (hk : w'.heap[b]? = w.heap[b]?) : KTop w' b k s l agg m fr ld bm := hk.trans h
theorem KTop.set4 (h : KTop w b k s l agg m fr ld bm) (u : Int) : KTop (w.setCell ⟨b, 4, none⟩ (.int .i64 u)) b k s l agg u fr ld bm := by
  unfold KTop at h ⊢; simp [World.setCell, Array.getElem?_modify, h]; rfl
theorem KTop.set5 (h : KTop w b k s l agg m fr ld bm) (u : Bool) : KTop (w.setCell ⟨b, 5, none⟩ (.bool u)) b k s l agg m u ld bm := by
  unfold KTop at h ⊢; simp [World.setCell, Array.getElem?_modify, h]; rfl
theorem top_setL (k s l agg m : Int) (fr : Bool) (ld : Nat → Bool) (bm : Nat) {g : Nat} (hg : g < 16) : (topC k s l agg m fr ld bm).setIfInBounds (6 + g) (.bool true) = topC k s l agg m fr (fun i => if i = g then true else ld i) bm := by
  rcases (by omega : g = 0 ∨ g = 1 ∨ g = 2 ∨ g = 3 ∨ g = 4 ∨ g = 5 ∨ g = 6 ∨ g = 7 ∨ g = 8 ∨ g = 9 ∨ g = 10 ∨ g = 11 ∨ g = 12 ∨ g = 13 ∨ g = 14 ∨ g = 15) with rfl | rfl | rfl | rfl | rfl | rfl | rfl | rfl | rfl | rfl | rfl | rfl | rfl | rfl | rfl | rfl <;> rfl
theorem KTop.setL (h : KTop w b k s l agg m fr ld bm) {g : Nat} (hg : g < 16) : KTop (w.setCell ⟨b, 6 + g, none⟩ (.bool true)) b k s l agg m fr (fun i => if i = g then true else ld i) bm := by
  unfold KTop at h ⊢
  rw [← top_setL _ _ _ _ _ _ _ _ hg]
  simp [World.setCell, Array.getElem?_modify, h]
end
/-- What a keep of C, with the panes l and the mark m, is in the memory S: worn or not, with these groups loaded. -/
structure MemV (w : World) (S : Nat → Prop) (b bm : Nat) (k s lw agg : Int) (l : List Pn) (m : Int) (wo : Bool) (ld : Nat → Bool) : Prop where
  top : KTop w b k s lw agg m (!wo) ld bm
  rows : Rws w S bm (krow l)
  few : l.length ≤ 4000000
end Go.Proofs.Ytlmnkmfpdjkijaa.Kp
