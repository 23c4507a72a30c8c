/-
  A disk of the program in memory: its own five cells, the map, the files, their rows; a set S of blocks holds them all. Conditions: none.
-/
import Derived.Test.YtkiombbdddbkfaaMem
import Derived.Test.YtkiombbdddbkfaaMath
import Derived.Test.YtkiombbdddbkfaaRows
import Derived.Maps.RangeWalk
import Derived.Sort.KeysCollected
namespace Go.Proofs.Ytkiombbdddbkfaa.Dk
open Go.RowKit Go.Proofs.Ytkiombbdddbkfaa.Pk

/-- How an element of the map reads: by the block that it points to. -/
def ptrElem : Value → Option (DataW Unit × List MemPlace)
  | .pointer (some ⟨b, 0, none⟩) => some (.lit (.int .i64 (b : Int)), [])
  | .pointer none => some (.nil, [])
  | _ => none
def ptrV : Option Nat → Value
  | some b => .pointer (some ⟨b, 0, none⟩)
  | none => .pointer none
theorem ptrElem_some (b : Nat) : ptrElem (.pointer (some ⟨b, 0, none⟩)) = some (.lit (.int .i64 (b : Int)), []) := rfl
theorem ptrElem_none : ptrElem (.pointer none) = some (.nil, []) := rfl
theorem ptrElem_inv {v : Value} {y : DataW Unit × List MemPlace} (h : ptrElem v = some y) : ∃ c, v = ptrV c := by
  unfold ptrElem at h
  split at h
  · rename_i b; exact ⟨some b, rfl⟩
  · exact ⟨none, rfl⟩
  · cases h
theorem ptrElem_nil {v : Value} {ps : List MemPlace} (h : ptrElem v = some (.nil, ps)) : v = .pointer none := by
  unfold ptrElem at h
  split at h
  · simp at h
  · rfl
  · cases h
theorem ptrElem_at {v : Value} {b : Nat} {ps : List MemPlace} (h : ptrElem v = some (.lit (.int .i64 (b : Int)), ps)) : v = .pointer (some ⟨b, 0, none⟩) := by
  unfold ptrElem at h
  split at h
  · rename_i c
    simp only [Option.some.injEq, Prod.mk.injEq, DataW.lit.injEq, Lit.int.injEq, true_and] at h
    have : c = b := by have := h.1; omega
    rw [this]
  · simp at h
  · cases h

theorem law : Maps.Keyed Try.prog 9 := Maps.string_keyed Try.underlying9
theorem zero60 (w : World) : (zeroValue 69).run Try.prog w = .ok (.pointer none) w := by kernel_rfl

/-- Block fb is a file; v: its row. -/
def File (w : World) (fb : Nat) (v : Value) (f : Fl) : Prop :=
  w.heap[fb]? = some (.cells #[v, .int .i64 (f.safe : Int)] 75 (0, 0)) ∧ w.ownsRow 0 5 1 v f.data.length (cells f.data)

/-- The files of a disk: a map's datum D, where each lies, its row. -/
structure Held (w : World) (S : Nat → Prop) (D : DataW Unit) (m : List (Nm × Fl)) (pl : Nm → Nat) (v : Nm → Value) : Prop where
  has : ∀ k, Maps.has D (.string k) = (get m k).isSome
  el : ∀ k f, get m k = some f → ∀ zd, D.atKey (.string k) zd = .lit (.int .i64 (pl k : Int))
  file : ∀ k f, get m k = some f → File w (pl k) (v k) f
  inj : ∀ k k' f f', get m k = some f → get m k' = some f' → pl k = pl k' → k = k'
  rows : ∀ k k' f f' g, get m k = some f → get m k' = some f' → (v k).ownBlock = some g → (v k').ownBlock = some g → k = k'
  foot : ∀ k f, get m k = some f → S (pl k) ∧ ∀ g, (v k).ownBlock = some g → S g

def Inner (w : World) (S : Nat → Prop) (m : List (Nm × Fl)) (mv : Value) : Prop :=
  (mv = .map none ∧ m = []) ∨ ∃ bm D pl v, mv = .map (some bm) ∧ S bm ∧ w.ownsMap Try.prog 9 ptrElem bm m.length D ∧ Held w S D m pl v

def Top (w : World) (d : Nat) (mv : Value) (off : Bool) (deeds fuse keep : Int) : Prop :=
  w.heap[d]? = some (.cells #[mv, .bool off, .int .i64 deeds, .int .i64 fuse, .int .i64 keep] 60 (0, 0))

/-- Block d is a disk of state s; all that it reaches lies in S. (Between operations it has no more files than deeds: 'Disk'.) -/
def Mid (w : World) (S : Nat → Prop) (d : Nat) (s : Ds) : Prop :=
  Good s ∧ S d ∧ (∀ b, S b → b < w.heap.size) ∧ ∃ mv, Top w d mv s.off s.deeds s.fuse s.keep ∧ Inner w S s.m mv

def Disk (w : World) (S : Nat → Prop) (d : Nat) (s : Ds) : Prop := Mid w S d s ∧ s.m.length ≤ s.deeds

/-- From w to w' nothing has turned but what lies in S, and S' is S and new blocks. -/
structure Upd (S S' : Nat → Prop) (w w' : World) : Prop where
  os : w'.os = w.os
  tape : w'.tape = w.tape
  output : w'.output = w.output
  size : w.heap.size ≤ w'.heap.size
  block : ∀ b, b < w.heap.size → ¬ S b → w'.heap[b]? = w.heap[b]?
  foot : ∀ b, S' b → S b ∨ w.heap.size ≤ b

section
variable {S S' S'' : Nat → Prop} {w w' w'' : World} {d : Nat} {s s' : Ds}
theorem Upd.refl (S : Nat → Prop) (w : World) : Upd S S w w := ⟨rfl, rfl, rfl, Nat.le_refl _, fun _ _ _ => rfl, fun _ h => .inl h⟩
theorem Upd.trans (h : Upd S S' w w') (k : Upd S' S'' w' w'') : Upd S S'' w w'' :=
  ⟨k.os.trans h.os, k.tape.trans h.tape, k.output.trans h.output, Nat.le_trans h.size k.size,
   fun b hb hs => (k.block b (Nat.lt_of_lt_of_le hb h.size) (fun h1 => (h.foot b h1).elim hs (fun h2 => by omega))).trans (h.block b hb hs),
   fun b hb => (k.foot b hb).elim (fun h1 => h.foot b h1) (fun h1 => .inr (Nat.le_trans h.size h1))⟩
theorem Upd.below (h : Upd S S' w w') {B : Nat} (hB : B ≤ w.heap.size) (hs : ∀ b, b < B → ¬ S b) : Below B w w' :=
  ⟨h.os, h.tape, h.output, h.size, fun b hb => h.block b (by omega) (hs b hb)⟩
theorem Upd.of_below (h : Below w.heap.size w w') : Upd S S w w' := ⟨h.os, h.tape, h.output, h.size, fun b hb _ => h.block b hb, fun _ h => .inl h⟩

/-- A disk is a disk as long as its blocks are what they were. -/
theorem File.keep {fb : Nat} {v : Value} {f : Fl} (h : File w fb v f) (h1 : w'.heap[fb]? = w.heap[fb]?) (h2 : ∀ g, v.ownBlock = some g → w'.heap[g]? = w.heap[g]?) : File w' fb v f := by
  refine ⟨h1.trans h.1, h.2.1, ?_⟩
  rcases h.2.2 with hn | ⟨g, cap, cur, rfl, hb, hg, rest⟩
  · exact .inl hn
  · exact .inr ⟨g, cap, cur, rfl, hb, (h2 g rfl).trans hg, rest⟩
theorem Held.keep {D : DataW Unit} {m : List (Nm × Fl)} {pl : Nm → Nat} {v : Nm → Value} (h : Held w S D m pl v) (hk : ∀ b, S b → w'.heap[b]? = w.heap[b]?) : Held w' S D m pl v :=
  { h with file := fun k f hf => (h.file k f hf).keep (hk _ (h.foot k f hf).1) (fun g hg => hk _ ((h.foot k f hf).2 g hg)) }
theorem Inner.keep {m : List (Nm × Fl)} {mv : Value} (h : Inner w S m mv) (hk : ∀ b, S b → w'.heap[b]? = w.heap[b]?) : Inner w' S m mv := by
  rcases h with h | ⟨bm, D, pl, v, rfl, hs, ⟨es, clock, hb, r⟩, hh⟩
  · exact .inl h
  · exact .inr ⟨bm, D, pl, v, rfl, hs, ⟨es, clock, (hk bm hs).trans hb, r⟩, hh.keep hk⟩
/-- Where block d alone has turned, and is still a disk's. -/
theorem Inner.keepD {m : List (Nm × Fl)} {mv mv' : Value} {off : Bool} {x y z : Int} (h : Inner w S m mv) (ht : Top w d mv' off x y z) (hk : ∀ b, S b → b ≠ d → w'.heap[b]? = w.heap[b]?) : Inner w' S m mv := by
  unfold Top at ht
  rcases h with h | ⟨bm, D, pl, v, rfl, hs, ⟨es, clock, hb, r⟩, hh⟩
  · exact .inl h
  · refine .inr ⟨bm, D, pl, v, rfl, hs, ⟨es, clock, (hk bm hs (fun e => by subst e; rw [hb] at ht; cases ht)).trans hb, r⟩, { hh with file := fun k f hf => ?_ }⟩
    have hfile := hh.file k f hf
    refine hfile.keep (hk _ (hh.foot k f hf).1 (fun e => ?_)) (fun g hg => hk _ ((hh.foot k f hf).2 g hg) (fun e => ?_))
    · rw [← e, hfile.1] at ht; simp at ht
    · rcases hfile.2.2 with ⟨hn, _⟩ | ⟨g', cap, cur, hv, _, hgg, _⟩
      · rw [hn] at hg; cases hg
      · rw [hv] at hg
        simp only [Value.ownBlock, Option.some.injEq] at hg
        rw [hg, e, ht] at hgg
        simp at hgg
theorem Mid.keep (h : Mid w S d s) (hz : w.heap.size ≤ w'.heap.size) (hk : ∀ b, S b → w'.heap[b]? = w.heap[b]?) : Mid w' S d s := by
  obtain ⟨g, hd, hl, mv, ht, hi⟩ := h
  exact ⟨g, hd, fun b hb => Nat.lt_of_lt_of_le (hl b hb) hz, mv, (hk d hd).trans ht, hi.keep hk⟩
theorem Mid.lt (h : Mid w S d s) (b : Nat) (hb : S b) : b < w.heap.size := h.2.2.1 b hb
theorem Disk.keep (h : Disk w S d s) (hz : w.heap.size ≤ w'.heap.size) (hk : ∀ b, S b → w'.heap[b]? = w.heap[b]?) : Disk w' S d s := ⟨h.1.keep hz hk, h.2⟩
theorem Disk.below (h : Disk w S d s) (hb : Below w.heap.size w w') : Disk w' S d s := h.keep hb.size fun b hs => hb.block b (h.1.lt b hs)
end

section
variable {w : World} {d : Nat} {mv : Value} {off : Bool} {deeds fuse keep : Int}
theorem Top.lt (h : Top w d mv off deeds fuse keep) : d < w.heap.size := (Array.getElem?_eq_some_iff.1 h).1
theorem Top.c0 (h : Top w d mv off deeds fuse keep) : w.cell? ⟨d, 0, none⟩ = some mv := by unfold Top at h; simp [World.cell?, h]
theorem Top.c1 (h : Top w d mv off deeds fuse keep) : w.cell? ⟨d, 1, none⟩ = some (.bool off) := by unfold Top at h; simp [World.cell?, h]
theorem Top.c2 (h : Top w d mv off deeds fuse keep) : w.cell? ⟨d, 2, none⟩ = some (.int .i64 deeds) := by unfold Top at h; simp [World.cell?, h]
theorem Top.c3 (h : Top w d mv off deeds fuse keep) : w.cell? ⟨d, 3, none⟩ = some (.int .i64 fuse) := by unfold Top at h; simp [World.cell?, h]
theorem Top.c4 (h : Top w d mv off deeds fuse keep) : w.cell? ⟨d, 4, none⟩ = some (.int .i64 keep) := by unfold Top at h; simp [World.cell?, h]
theorem Top.fz (h : Top w d mv off deeds fuse keep) (o : Nat) : w.frozen? ⟨d, o, none⟩ = false := by unfold Top at h; simp [World.frozen?, h]
theorem Top.set0 (h : Top w d mv off deeds fuse keep) (u : Value) : Top (w.setCell ⟨d, 0, none⟩ u) d u off deeds fuse keep := by
  unfold Top at h ⊢; simp [World.setCell, Array.getElem?_modify, h]
theorem Top.set1 (h : Top w d mv off deeds fuse keep) (u : Bool) : Top (w.setCell ⟨d, 1, none⟩ (.bool u)) d mv u deeds fuse keep := by
  unfold Top at h ⊢; simp [World.setCell, Array.getElem?_modify, h]
theorem Top.set2 (h : Top w d mv off deeds fuse keep) (u : Int) : Top (w.setCell ⟨d, 2, none⟩ (.int .i64 u)) d mv off u fuse keep := by
  unfold Top at h ⊢; simp [World.setCell, Array.getElem?_modify, h]
theorem Top.set3 (h : Top w d mv off deeds fuse keep) (u : Int) : Top (w.setCell ⟨d, 3, none⟩ (.int .i64 u)) d mv off deeds u keep := by
  unfold Top at h ⊢; simp [World.setCell, Array.getElem?_modify, h]
theorem Top.set4 (h : Top w d mv off deeds fuse keep) (u : Int) : Top (w.setCell ⟨d, 4, none⟩ (.int .i64 u)) d mv off deeds fuse u := by
  unfold Top at h ⊢; simp [World.setCell, Array.getElem?_modify, h]
end
end Go.Proofs.Ytkiombbdddbkfaa.Dk
