/-
  A disk that a law has made for itself: its calls, told by what they leave. Conditions: few deeds.
-/
import Derived.Test.YtkiombbdddbkfaaSync
import Derived.Lib.SlBytesConst
import Derived.Laws.BytesArg
import Derived.Lib.SlBytesRow
namespace Go.Proofs.Ytkiombbdddbkfaa.Dk
open Go.RowKit Go.Proofs.Ytkiombbdddbkfaa.Pk

/-- wr holds a disk of state s in memory that is new since w0 and none of X's; what was there in w0 is as it was. -/
def Fresh (X : Nat → Prop) (w0 wr : World) (d : Nat) (s : Ds) : Prop := (∀ b, X b → b < wr.heap.size) ∧ ∃ S, Disk wr S d s ∧ (∀ b, S b → w0.heap.size ≤ b ∧ ¬ X b) ∧ Below w0.heap.size w0 wr
/-- The blocks of X are as they were. -/
def Kept (X : Nat → Prop) (w w' : World) : Prop := ∀ b, X b → w'.heap[b]? = w.heap[b]?
/-- X and all blocks that are new from w to w'. -/
def More (X : Nat → Prop) (w w' : World) (b : Nat) : Prop := X b ∨ (w.heap.size ≤ b ∧ b < w'.heap.size)

section
variable {X : Nat → Prop} {w0 w w' : World} {d : Nat} {s s' : Ds}
theorem Kept.refl : Kept X w w := fun _ _ => rfl
theorem Kept.trans {w'' : World} (h : Kept X w w') (k : Kept X w' w'') : Kept X w w'' := fun b hb => (k b hb).trans (h b hb)
theorem Kept.own {base n : Nat} {v : Value} {xs : List Value} (h : Kept X w w') (ho : w.ownsRow base 5 1 v n xs) (hX : ∀ g, v.ownBlock = some g → X g) : w'.ownsRow base 5 1 v n xs := by
  refine ⟨ho.1, ?_⟩
  rcases ho.2 with h1 | ⟨g, cap, cur, rfl, hb, hg, rest⟩
  · exact .inl h1
  · exact .inr ⟨g, cap, cur, rfl, hb, (h g (hX g rfl)).trans hg, rest⟩
theorem Fresh.bel (h : Fresh X w0 w d s) : Below w0.heap.size w0 w := by obtain ⟨_, S, _, _, hb⟩ := h; exact hb
theorem Fresh.size (h : Fresh X w0 w d s) : w0.heap.size ≤ w.heap.size := h.bel.size
theorem Fresh.low {X' : Nat → Prop} (h : Fresh X w0 w d s) (hX : ∀ b, X' b → X b) : Fresh X' w0 w d s := by
  obtain ⟨hx, S, hD, hs, hbel⟩ := h
  exact ⟨fun b hb => hx b (hX b hb), S, hD, fun b hb => ⟨(hs b hb).1, fun h => (hs b hb).2 (hX b h)⟩, hbel⟩
/-- While the caller makes memory, and writes one row that is X's. -/
theorem Fresh.grown {row : Option Nat} (h : Fresh X w0 w d s) (hg : w.grownBy w' row) (hr : ∀ g, row = some g → X g ∧ w0.heap.size ≤ g) : Fresh (More X w w') w0 w' d s := by
  obtain ⟨hx, S, hD, hs, hbel⟩ := h
  refine ⟨fun b hb => ?_, S, hD.keep hg.size (fun b hb => hg.block b (hD.1.lt b hb) (fun e => (hs b hb).2 (hr b e.symm).1)), fun b hb => ⟨(hs b hb).1, fun h => ?_⟩, hbel.grown hg hbel.size (fun k e => (hr k e).2)⟩
  · rcases hb with hb | hb
    · exact Nat.lt_of_lt_of_le (hx b hb) hg.size
    · exact hb.2
  · rcases h with h | h
    · exact (hs b hb).2 h
    · have := hD.1.lt b hb; omega
theorem Fresh.keep (h : Fresh X w0 w d s) (hb : Below w.heap.size w w') : Fresh (More X w w') w0 w' d s := h.grown (row := none) ⟨hb.os, hb.tape, hb.output, hb.size, fun k hk _ => hb.block k hk⟩ (fun g e => by cases e)
theorem Fresh.alloc (h : Fresh X w0 w d s) (o : Obj) : Fresh X w0 (w.alloc o) d s := (h.keep ((Below.refl _ _).alloc (Nat.le_refl _) _)).low fun _ hb => .inl hb
theorem Fresh.drewN (h : Fresh X w0 w d s) (n : Nat) : Fresh X w0 (w.drewN n) d s := (h.keep (w' := w.drewN n) ⟨rfl, rfl, rfl, Nat.le_refl _, fun _ _ => rfl⟩).low fun _ hb => .inl hb
theorem Fresh.of {S : Nat → Prop} (hx : ∀ b, X b → b < w.heap.size) (hs : ∀ b, S b → w0.heap.size ≤ b ∧ ¬ X b) (hbel : Below w0.heap.size w0 w) (h : AfterD S d w s' w') : Fresh X w0 w' d s' ∧ Kept X w w' := by
  obtain ⟨S', hD, hu⟩ := h
  refine ⟨⟨fun b hb => Nat.lt_of_lt_of_le (hx b hb) hu.size, S', hD, fun b hb => ?_, hbel.trans (hu.below hbel.size (fun b hb hsb => by have := (hs b hsb).1; omega))⟩, fun b hb => hu.block b (hx b hb) (fun h => (hs b h).2 hb)⟩
  rcases hu.foot b hb with h1 | h1
  · exact hs b h1
  · exact ⟨by have := hbel.size; omega, fun h2 => by have := hx b h2; omega⟩

theorem Fresh.new (hx : ∀ b, X b → b < w.heap.size) (hbel : Below w0.heap.size w0 w) : Calls Try.prog 8 #[] w fun e w' => ∃ d, e = .returned (.pointer (some ⟨d, 0, none⟩)) ∧ Fresh X w0 w' d newD ∧ Kept X w w' := by
  refine (new_disk w).mono ?_
  rintro e w' ⟨rfl, hD, hb⟩
  exact ⟨_, rfl, ⟨fun b hb' => Nat.lt_of_lt_of_le (hx b hb') hb.size, _, hD, fun b hb => by rw [hb]; exact ⟨hbel.size, fun h => by have := hx _ h; omega⟩, hbel.trans (hb.mono hbel.size)⟩, fun b hb' => hb.block b (hx b hb')⟩
theorem Fresh.append {m c : Nat} {A : Option Addr} {name : ByteArray} {l' : List UInt8} {r : Int} (h : Fresh X w0 w d s) (hs : name.size ≤ maxLen) (hl : l'.length = m) (hr : Lies w w.heap.size A l') (hd : s.deeds < 4611686018427387904) (he : appendD s name.data.toList l' = (r, s')) :
    Calls Try.prog 20 #[.pointer (some ⟨d, 0, none⟩), .string name, .slice A m c] w fun e w' => e = .returned (.int .i64 r) ∧ Fresh X w0 w' d s' ∧ Kept X w w' := by
  obtain ⟨hx, S, hD, hS, hbel⟩ := h
  refine (append_any hD hs hl hr hd).mono ?_
  rw [he]
  rintro e w' ⟨rfl, ha⟩
  exact ⟨rfl, Fresh.of hx hS hbel ha⟩
theorem Fresh.sync {name : ByteArray} {r : Int} (h : Fresh X w0 w d s) (hs : name.size ≤ maxLen) (hd : s.deeds < 4611686018427387904) (he : syncD s name.data.toList = (r, s')) :
    Calls Try.prog 52 #[.pointer (some ⟨d, 0, none⟩), .string name] w fun e w' => e = .returned (.int .i64 r) ∧ Fresh X w0 w' d s' ∧ Kept X w w' := by
  obtain ⟨hx, S, hD, hS, hbel⟩ := h
  refine (sync_any hD hs hd).mono ?_
  rw [he]
  rintro e w' ⟨rfl, ha⟩
  exact ⟨rfl, Fresh.of hx hS hbel ha⟩
theorem Fresh.cut {name : ByteArray} {r n : Int} (h : Fresh X w0 w d s) (hs : name.size ≤ maxLen) (hd : s.deeds < 4611686018427387904) (he : cutD s name.data.toList n = (r, s')) :
    Calls Try.prog 30 #[.pointer (some ⟨d, 0, none⟩), .string name, .int .i64 n] w fun e w' => e = .returned (.int .i64 r) ∧ Fresh X w0 w' d s' ∧ Kept X w w' := by
  obtain ⟨hx, S, hD, hS, hbel⟩ := h
  refine (cut_any hD hs hd).mono ?_
  rw [he]
  rintro e w' ⟨rfl, ha⟩
  exact ⟨rfl, Fresh.of hx hS hbel ha⟩
theorem Fresh.read {name : ByteArray} {r : Int} {l : List UInt8} (h : Fresh X w0 w d s) (hs : name.size ≤ maxLen) (he : findD s name.data.toList = r) (hl : readD s name.data.toList = l) :
    Calls Try.prog 27 #[.pointer (some ⟨d, 0, none⟩), .string name] w fun e w' => ∃ A c, e = .returned (.tuple #[.slice A l.length c, .int .i64 r]) ∧ w'.ownsRow w.heap.size 5 1 (.slice A l.length c) l.length (cells l) ∧ (∀ g, (Value.slice A l.length c).ownBlock = some g → More X w w' g) ∧ Fresh (More X w w') w0 w' d s ∧ Below w.heap.size w w' := by
  have h_ := h
  obtain ⟨hx, S, hD, hS, hbel⟩ := h
  refine (read_any hD hs).mono ?_
  rw [he, hl]
  rintro e w' ⟨A, c, rfl, hown, hb⟩
  exact ⟨A, c, rfl, hown, fun g hg => .inr (hown.lt g hg), h_.keep hb, hb⟩
theorem Fresh.on (h : Fresh X w0 w d s) (he : onD s = s') : Calls Try.prog 19 #[.pointer (some ⟨d, 0, none⟩)] w fun e w' => e = .returned (.tuple #[]) ∧ Fresh X w0 w' d s' ∧ Kept X w w' := by
  subst he
  obtain ⟨hx, S, hD, hS, hbel⟩ := h
  refine (on_any hD).mono ?_
  rintro e w' ⟨rfl, ha⟩
  exact ⟨rfl, Fresh.of hx hS hbel ha⟩
theorem Fresh.off {keep : Int} (h : Fresh X w0 w d s) (hk1 : -9223372036854775808 ≤ keep) (hk2 : keep ≤ 9223372036854775807) (he : offD s keep = s') : Calls Try.prog 17 #[.pointer (some ⟨d, 0, none⟩), .int .i64 keep] w fun e w' => e = .returned (.tuple #[]) ∧ Fresh X w0 w' d s' ∧ Kept X w w' := by
  subst he
  obtain ⟨hx, S, hD, hS, hbel⟩ := h
  refine (off_disk hD hk1 hk2).mono ?_
  rintro e w' ⟨rfl, ha⟩
  exact ⟨rfl, Fresh.of hx hS hbel ha⟩
theorem Fresh.arm {n keep : Int} (h : Fresh X w0 w d s) (hn1 : -9223372036854775808 ≤ n) (hn2 : n ≤ 9223372036854775807) (hk1 : -9223372036854775808 ≤ keep) (hk2 : keep ≤ 9223372036854775807) (he : armD s n keep = s') :
    Calls Try.prog 15 #[.pointer (some ⟨d, 0, none⟩), .int .i64 n, .int .i64 keep] w fun e w' => e = .returned (.tuple #[]) ∧ Fresh X w0 w' d s' ∧ Kept X w w' := by
  subst he
  obtain ⟨hx, S, hD, hS, hbel⟩ := h
  refine (arm_any hD hn1 hn2 hk1 hk2).mono ?_
  rintro e w' ⟨rfl, ha⟩
  exact ⟨rfl, Fresh.of hx hS hbel ha⟩
theorem Fresh.up {u : Bool} (h : Fresh X w0 w d s) (he : (!s.off) = u) : Calls Try.prog 22 #[.pointer (some ⟨d, 0, none⟩)] w fun e w' => e = .returned (.bool u) ∧ w = w' := by
  subst he
  obtain ⟨_, S, hD, _, _⟩ := h
  exact up_any hD
theorem Fresh.deeds {n : Int} (h : Fresh X w0 w d s) (he : (s.deeds : Int) = n) : Calls Try.prog 23 #[.pointer (some ⟨d, 0, none⟩)] w fun e w' => e = .returned (.int .i64 n) ∧ w = w' := by
  subst he
  obtain ⟨_, S, hD, _, _⟩ := h
  exact deeds_any hD
end

/-- A new row that was just laid. -/
theorem lies_marked (w : World) (l : List UInt8) (fr : Nat × Nat) : Lies (w.alloc (.cells (cells l).toArray 5 fr)) (w.alloc (.cells (cells l).toArray 5 fr)).heap.size (some ⟨w.heap.size, 0, none⟩) l := fun k x hx => by
  refine ⟨_, _, rfl, by simp, ?_⟩
  rw [Nat.zero_add]
  rw [cell_of_row _ _ _ _ _ _ (heap_alloc_new w _)]
  simp [cells, hx]
end Go.Proofs.Ytkiombbdddbkfaa.Dk
