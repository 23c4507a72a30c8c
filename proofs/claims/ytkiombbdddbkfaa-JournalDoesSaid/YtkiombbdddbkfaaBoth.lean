/-
  The program's disk and the document's, side by side in memory that a law has made. Conditions: few deeds.
-/
import Derived.Test.YtkiombbdddbkfaaRefAppend
import Derived.Test.YtkiombbdddbkfaaFresh
namespace Go.Proofs.Ytkiombbdddbkfaa.Dk
open Go.RowKit Go.Proofs.Ytkiombbdddbkfaa.Pk

/-- w holds the program's disk (state s) and the document's (state t), apart from one another, from X, and from what was there in w0. -/
def Both (X : Nat → Prop) (w0 w : World) (d r : Nat) (s t : Ds) : Prop :=
  (∀ b, X b → b < w.heap.size) ∧ ∃ S T, Disk w S d s ∧ RefD w T r t ∧ (∀ b, S b → w0.heap.size ≤ b ∧ ¬ X b ∧ ¬ T b) ∧ (∀ b, T b → w0.heap.size ≤ b ∧ ¬ X b) ∧ Below w0.heap.size w0 w

section
variable {X : Nat → Prop} {w0 w w' : World} {d r : Nat} {s t s' t' : Ds}
theorem Both.bel (h : Both X w0 w d r s t) : Below w0.heap.size w0 w := by obtain ⟨_, S, T, _, _, _, _, hb⟩ := h; exact hb
theorem Both.size (h : Both X w0 w d r s t) : w0.heap.size ≤ w.heap.size := h.bel.size
theorem Both.low {X' : Nat → Prop} (h : Both X w0 w d r s t) (hX : ∀ b, X' b → X b) : Both X' w0 w d r s t := by
  obtain ⟨hx, S, T, hD, hR, hs, ht, hbel⟩ := h
  exact ⟨fun b hb => hx b (hX b hb), S, T, hD, hR, fun b hb => ⟨(hs b hb).1, fun h => (hs b hb).2.1 (hX b h), (hs b hb).2.2⟩, fun b hb => ⟨(ht b hb).1, fun h => (ht b hb).2 (hX b h)⟩, hbel⟩
theorem Both.grown {row : Option Nat} (h : Both X w0 w d r s t) (hg : w.grownBy w' row) (hr : ∀ g, row = some g → X g ∧ w0.heap.size ≤ g) : Both (More X w w') w0 w' d r s t := by
  obtain ⟨hx, S, T, hD, hR, hs, ht, hbel⟩ := h
  refine ⟨fun b hb => ?_, S, T, hD.keep hg.size (fun b hb => hg.block b (hD.1.lt b hb) (fun e => (hs b hb).2.1 (hr b e.symm).1)), hR.keep hg.size (fun b hb => hg.block b (hR.lt b hb) (fun e => (ht b hb).2 (hr b e.symm).1)), fun b hb => ⟨(hs b hb).1, fun h => ?_, (hs b hb).2.2⟩, fun b hb => ⟨(ht b hb).1, fun h => ?_⟩, hbel.grown hg hbel.size (fun k e => (hr k e).2)⟩
  · rcases hb with hb | hb
    · exact Nat.lt_of_lt_of_le (hx b hb) hg.size
    · exact hb.2
  · rcases h with h | h
    · exact (hs b hb).2.1 h
    · have := hD.1.lt b hb; omega
  · rcases h with h | h
    · exact (ht b hb).2 h
    · have := hR.lt b hb; omega
theorem Both.keep (h : Both X w0 w d r s t) (hb : Below w.heap.size w w') : Both (More X w w') w0 w' d r s t := h.grown (row := none) ⟨hb.os, hb.tape, hb.output, hb.size, fun k hk _ => hb.block k hk⟩ (fun g e => by cases e)
theorem Both.alloc (h : Both X w0 w d r s t) (o : Obj) : Both (fun b => X b ∨ b = w.heap.size) w0 (w.alloc o) d r s t :=
  (h.keep ((Below.refl _ _).alloc (Nat.le_refl _) _)).low fun b hb => hb.elim .inl (fun e => .inr ⟨by omega, by subst e; simp⟩)
theorem Both.drewN (h : Both X w0 w d r s t) (n : Nat) : Both X w0 (w.drewN n) d r s t := (h.keep (w' := w.drewN n) ⟨rfl, rfl, rfl, Nat.le_refl _, fun _ _ => rfl⟩).low fun _ hb => .inl hb
/-- A call of the program's disk. -/
theorem Both.callD {f : Nat} {args : Array Value} {v : Value} (h : Both X w0 w d r s t) (hc : ∀ S, Disk w S d s → Calls Try.prog f args w fun e w' => e = .returned v ∧ AfterD S d w s' w') :
    Calls Try.prog f args w fun e w' => e = .returned v ∧ Both X w0 w' d r s' t ∧ Kept X w w' := by
  obtain ⟨hx, S, T, hD, hR, hs, ht, hbel⟩ := h
  refine (hc S hD).mono ?_
  rintro e w' ⟨rfl, S', hD', hu⟩
  refine ⟨rfl, ⟨fun b hb => Nat.lt_of_lt_of_le (hx b hb) hu.size, S', T, hD', hR.keep hu.size (fun b hb => hu.block b (hR.lt b hb) (fun h => (hs b h).2.2 hb)), fun b hb => ?_, ht, hbel.trans (hu.below hbel.size (fun b hb hsb => by have := (hs b hsb).1; omega))⟩, fun b hb => hu.block b (hx b hb) (fun h => (hs b h).2.1 hb)⟩
  rcases hu.foot b hb with h1 | h1
  · exact hs b h1
  · exact ⟨by have := hbel.size; omega, fun h2 => by have := hx b h2; omega, fun h2 => by have := hR.lt b h2; omega⟩
/-- A call of the document's. -/
theorem Both.callR {f : Nat} {args : Array Value} {v : Value} (h : Both X w0 w d r s t) (hc : ∀ T, RefD w T r t → Calls Try.prog f args w fun e w' => e = .returned v ∧ AfterR T r w t' w') :
    Calls Try.prog f args w fun e w' => e = .returned v ∧ Both X w0 w' d r s t' ∧ Kept X w w' := by
  obtain ⟨hx, S, T, hD, hR, hs, ht, hbel⟩ := h
  refine (hc T hR).mono ?_
  rintro e w' ⟨rfl, T', hR', hu⟩
  refine ⟨rfl, ⟨fun b hb => Nat.lt_of_lt_of_le (hx b hb) hu.size, S, T', hD.keep hu.size (fun b hb => hu.block b (hD.1.lt b hb) (fun h => (hs b hb).2.2 h)), hR', fun b hb => ⟨(hs b hb).1, (hs b hb).2.1, fun h2 => ?_⟩, fun b hb => ?_, hbel.trans (hu.below hbel.size (fun b hb hsb => by have := (ht b hsb).1; omega))⟩, fun b hb => hu.block b (hx b hb) (fun h => (ht b h).2 hb)⟩
  · rcases hu.foot b h2 with h1 | h1
    · exact (hs b hb).2.2 h1
    · have := hD.1.lt b hb; omega
  · rcases hu.foot b hb with h1 | h1
    · exact ht b h1
    · exact ⟨by have := hbel.size; omega, fun h2 => by have := hx b h2; omega⟩
/-- The document's On: its cell. -/
theorem Both.ronStore (h : Both X w0 w d r s t) : Both X w0 (w.setCell ⟨r, 1, none⟩ (.bool false)) d r s (onD t) ∧ Kept X w (w.setCell ⟨r, 1, none⟩ (.bool false)) := by
  obtain ⟨hx, S, T, hD, hR, hs, ht, hbel⟩ := h
  have ho : Only r w (w.setCell ⟨r, 1, none⟩ (.bool false)) := (Only.refl _ _).setCell _ _
  have hr := hR.2.2.1
  have hu : Upd T T w (w.setCell ⟨r, 1, none⟩ (.bool false)) := Upd.only ho hr
  refine ⟨⟨fun b hb => Nat.lt_of_lt_of_le (hx b hb) hu.size, S, T, hD.keep hu.size (fun b hb => hu.block b (hD.1.lt b hb) (fun h => (hs b hb).2.2 h)), ?_, hs, ht, hbel.trans (hu.below hbel.size (fun b hb hsb => by have := (ht b hsb).1; omega))⟩, fun b hb => hu.block b (hx b hb) (fun h => (ht b h).2 hb)⟩
  obtain ⟨gd, hm, hr, hl, vL, vs, ht, hi⟩ := hR
  refine ⟨⟨gd.sorted, gd.names, gd.safe, gd.long, gd.fuse, gd.keepLo, gd.keepHi⟩, hm, hr, fun b hb => by rw [ho.size]; exact hl b hb, vL, vs, ht.set1 _, hi.keepR ht ho⟩
theorem Both.rcell1 (h : Both X w0 w d r s t) : w.cell? ⟨r, 1, none⟩ = some (.bool t.off) ∧ w.frozen? ⟨r, 1, none⟩ = false := by
  obtain ⟨_, S, T, _, ⟨gd, hm, hr, hl, vL, vs, ht, hi⟩, _⟩ := h
  exact ⟨ht.c1, ht.fz 1⟩
theorem Both.rcell4 (h : Both X w0 w d r s t) : w.cell? ⟨r, 4, none⟩ = some (.int .i64 t.deeds) := by
  obtain ⟨_, S, T, _, ⟨gd, hm, hr, hl, vL, vs, ht, hi⟩, _⟩ := h
  exact ht.c4
theorem Both.up (h : Both X w0 w d r s t) : Calls Try.prog 22 #[.pointer (some ⟨d, 0, none⟩)] w fun e w' => e = .returned (.bool (!s.off)) ∧ w = w' := by
  obtain ⟨_, S, T, hD, _⟩ := h; exact up_any hD
theorem Both.deeds (h : Both X w0 w d r s t) : Calls Try.prog 23 #[.pointer (some ⟨d, 0, none⟩)] w fun e w' => e = .returned (.int .i64 s.deeds) ∧ w = w' := by
  obtain ⟨_, S, T, hD, _⟩ := h; exact deeds_any hD
theorem Kept.cell (h : Kept X w w') {p : Addr} (hp : X p.block) : w'.cell? p = w.cell? p := by
  unfold World.cell?; rw [h _ hp]
end
end Go.Proofs.Ytkiombbdddbkfaa.Dk
