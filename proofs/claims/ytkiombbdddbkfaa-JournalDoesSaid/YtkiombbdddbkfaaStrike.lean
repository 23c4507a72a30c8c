/-
  Off and the counting of an operation, of a whole disk. Conditions: the disk stands in memory; few deeds.
-/
import Derived.Test.YtkiombbdddbkfaaOff
namespace Go.Proofs.Ytkiombbdddbkfaa.Dk
open Go.RowKit Go.Proofs.Ytkiombbdddbkfaa.Pk

/-- Behind a call the disk is of state s'; nothing has turned but what it holds. -/
def After (S : Nat → Prop) (d : Nat) (w : World) (s' : Ds) (w' : World) : Prop := ∃ S', Mid w' S' d s' ∧ Upd S S' w w'
theorem After.same {S : Nat → Prop} {d : Nat} {w : World} {s : Ds} (h : Mid w S d s) : After S d w s w := ⟨S, h, Upd.refl _ _⟩

theorem Upd.only {S : Nat → Prop} {d : Nat} {w w' : World} (h : Only d w w') (hs : S d) : Upd S S w w' :=
  ⟨h.os, h.tape, h.output, by rw [h.size]; exact Nat.le_refl _, fun b _ hb => h.block b (fun e => hb (e ▸ hs)), fun _ h => .inl h⟩
/-- Block d alone has turned: the disk's own cells. -/
theorem Mid.top {S : Nat → Prop} {d : Nat} {w w' : World} {s s' : Ds} {mv : Value} (h : Mid w S d s) (ho : Only d w w') (hm : s'.m = s.m) (hg : Good s') (h0 : Top w d mv s.off s.deeds s.fuse s.keep) (ht : Top w' d mv s'.off s'.deeds s'.fuse s'.keep) : Mid w' S d s' := by
  obtain ⟨g, hd, hl, mv', ht', hi⟩ := h
  obtain rfl : mv' = mv := by
    have := ht'.symm.trans h0
    simpa using this
  exact ⟨hg, hd, fun b hb => by rw [ho.size]; exact hl b hb, mv', ht, by rw [hm]; exact hi.keepD h0 (fun b _ hb => ho.block b hb)⟩

theorem offD_on {s : Ds} (h : s.off = false) (keep : Int) : offD s keep = { s with off := true, m := loseAll keep s.m } := by unfold offD; rw [h]; rfl
theorem offD_off {s : Ds} (h : s.off = true) (keep : Int) : offD s keep = s := by unfold offD; rw [h]; rfl

theorem Losing.held {keep : Int} {m : List (Nm × Fl)} {pl : Nm → Nat} {v : Nm → Value} {w1 wr : World} {S : Nat → Prop} {D : DataW Unit} (h : Losing keep m pl v (fun _ => false) w1 wr) (hh : Held w1 S D m pl v) : ∃ v', Held wr S D (loseAll keep m) pl v' := by
  have h1 : ∀ k, ∃ u, ∀ f, get m k = some f → File wr (pl k) u (lose keep f) ∧ u.ownBlock = (v k).ownBlock := fun k => by
    cases hg : get m k with
    | none => exact ⟨.pointer none, fun f hf => by cases hf⟩
    | some f =>
      obtain ⟨u, hu, ho⟩ := h.file k f hg
      exact ⟨u, fun f' hf => by cases hf; exact ⟨by simpa using hu, ho⟩⟩
  obtain ⟨v', hv⟩ := Classical.skolem.1 h1
  have back : ∀ k f, get (loseAll keep m) k = some f → ∃ f0, get m k = some f0 ∧ f = lose keep f0 := fun k f hf => by
    rw [get_loseAll] at hf
    obtain ⟨f0, h0, rfl⟩ := Option.map_eq_some_iff.1 hf
    exact ⟨f0, h0, rfl⟩
  refine ⟨v', fun k => ?_, fun k f hf => ?_, fun k f hf => ?_, fun k k' f f' hf hf' => ?_, fun k k' f f' g hf hf' => ?_, fun k f hf => ?_⟩
  · rw [hh.has, get_loseAll]; cases get m k <;> rfl
  · obtain ⟨f0, h0, rfl⟩ := back k f hf
    exact hh.el k f0 h0
  · obtain ⟨f0, h0, rfl⟩ := back k f hf
    exact (hv k f0 h0).1
  · obtain ⟨f0, h0, rfl⟩ := back k f hf
    obtain ⟨f1, h1, rfl⟩ := back k' f' hf'
    exact hh.inj k k' f0 f1 h0 h1
  · obtain ⟨f0, h0, rfl⟩ := back k f hf
    obtain ⟨f1, h1, rfl⟩ := back k' f' hf'
    rw [(hv k f0 h0).2, (hv k' f1 h1).2]
    exact hh.rows k k' f0 f1 g h0 h1
  · obtain ⟨f0, h0, rfl⟩ := back k f hf
    rw [(hv k f0 h0).2]
    exact hh.foot k f0 h0

theorem off_any {w : World} {S : Nat → Prop} {d : Nat} {s : Ds} (keep : Int) (h : Mid w S d s) (hk1 : -9223372036854775808 ≤ keep) (hk2 : keep ≤ 9223372036854775807) :
    Calls Try.prog 17 #[.pointer (some ⟨d, 0, none⟩), .int .i64 keep] w fun e w' => e = .returned (.tuple #[]) ∧ After S d w (offD s keep) w' := by
  have h_ := h
  obtain ⟨g, hd, hl, mv, ht, hi⟩ := h
  cases ho : s.off with
  | true =>
    rw [ho] at ht
    refine (off_off keep ht.c1).mono ?_
    rintro e w' ⟨rfl, rfl⟩
    rw [offD_off ho]
    exact ⟨rfl, After.same h_⟩
  | false =>
    have ht0 := ht
    rw [ho] at ht
    have hon : Only d w (w.setCell ⟨d, 1, none⟩ (.bool true)) := (Only.refl _ _).setCell _ _
    have ht1 := ht.set1 true
    have hi1 := hi.keepD ht0 (fun b _ hb => hon.block b hb)
    have hgo := good_off g keep
    rcases hi1 with ⟨rfl, hm⟩ | ⟨bm, D, pl, v, rfl, hs, hown, hh⟩
    · refine (off_empty keep ht.c0 ht.c1 (ht.fz 1)).mono ?_
      rintro e w' ⟨rfl, hb⟩
      refine ⟨rfl, S, ⟨hgo, hd, fun b hb' => ?_, .map none, ?_, .inl ⟨rfl, ?_⟩⟩, (Upd.only hon hd).trans (Upd.of_below (by rw [hon.size]; exact hb))⟩
      · have := hl b hb'; have := hb.size; rw [hon.size] at this; omega
      · rw [offD_on ho]
        exact (hb.block d (ht.lt)).trans ht1
      · rw [offD_on ho]; show loseAll keep s.m = []; rw [hm]; rfl
    · refine (off_map keep ht.c0 ht.c1 (ht.fz 1) hown hh hk1 hk2 (fun k f hf => ⟨g.safe _ (get_mem hf), g.long _ (get_mem hf)⟩)).mono ?_
      rintro e w' ⟨rfl, hown', hlo⟩
      obtain ⟨v', hh'⟩ := hlo.held hh
      have hdne : ∀ k f, get s.m k = some f → d ≠ pl k := fun k f hf e => by
        have := (hh.file k f hf).1
        rw [← e] at this
        unfold Top at ht1
        rw [ht1] at this; simp at this
      have hz : w'.heap.size = w.heap.size + 1 := by rw [hlo.size, hon.size]
      refine ⟨rfl, S, ⟨hgo, hd, fun b hb' => by have := hl b hb'; omega, .map (some bm), ?_, .inr ⟨bm, D, pl, v', rfl, hs, ?_, ?_⟩⟩, (Upd.only hon hd).trans ⟨hlo.os, hlo.tape, hlo.output, by rw [hlo.size]; omega, fun b hb hsb => hlo.block b hb (fun k f hf e => hsb (e ▸ (hh.foot k f hf).1)), fun _ h => .inl h⟩⟩
      · rw [offD_on ho]
        exact (hlo.block d (by rw [hon.size]; exact ht.lt) hdne).trans ht1
      · rw [offD_on ho]; show w'.ownsMap _ _ _ _ (loseAll keep s.m).length _; rw [length_loseAll]; exact hown'
      · rw [offD_on ho]; exact hh'

set_option maxHeartbeats 400000 in
theorem strikes_zero {w : World} {d : Nat} {n : Int} (h2 : w.cell? ⟨d, 2, none⟩ = some (.int .i64 n)) (h3 : w.cell? ⟨d, 3, none⟩ = some (.int .i64 0)) (f2 : w.frozen? ⟨d, 2, none⟩ = false) (hn : 0 ≤ n) (hn2 : n < 4611686018427387904) :
    Calls Try.prog 43 #[.pointer (some ⟨d, 0, none⟩)] w fun e w' => e = .returned (.bool false) ∧ w.setCell ⟨d, 2, none⟩ (.int .i64 (n + 1)) = w' := by
  go_enter Try.func43, Try.ntmps43
  go_wp2
  go_ret
  exact ⟨rfl, rfl⟩
set_option maxHeartbeats 400000 in
theorem strikes_more {w : World} {d : Nat} {n u : Int} (h2 : w.cell? ⟨d, 2, none⟩ = some (.int .i64 n)) (h3 : w.cell? ⟨d, 3, none⟩ = some (.int .i64 u)) (f2 : w.frozen? ⟨d, 2, none⟩ = false) (f3 : w.frozen? ⟨d, 3, none⟩ = false) (hn : 0 ≤ n) (hn2 : n < 4611686018427387904) (hu : 1 < u) (hu2 : u ≤ 9223372036854775807) :
    Calls Try.prog 43 #[.pointer (some ⟨d, 0, none⟩)] w fun e w' => e = .returned (.bool false) ∧ (w.setCell ⟨d, 2, none⟩ (.int .i64 (n + 1))).setCell ⟨d, 3, none⟩ (.int .i64 (u - 1)) = w' := by
  have hu0 : (u == 0) = false := by simp; omega
  have hu1 : 0 < u - 1 := by omega
  go_enter Try.func43, Try.ntmps43
  go_wp2
  go_ret
  exact ⟨rfl, rfl⟩
set_option maxHeartbeats 400000 in
theorem strikes_one {w : World} {d : Nat} {n keep : Int} {Q : World → Prop} (h2 : w.cell? ⟨d, 2, none⟩ = some (.int .i64 n)) (h3 : w.cell? ⟨d, 3, none⟩ = some (.int .i64 1)) (h4 : w.cell? ⟨d, 4, none⟩ = some (.int .i64 keep)) (f2 : w.frozen? ⟨d, 2, none⟩ = false) (f3 : w.frozen? ⟨d, 3, none⟩ = false) (hn : 0 ≤ n) (hn2 : n < 4611686018427387904)
    (hoff : Calls Try.prog 17 #[.pointer (some ⟨d, 0, none⟩), .int .i64 keep] ((w.setCell ⟨d, 2, none⟩ (.int .i64 (n + 1))).setCell ⟨d, 3, none⟩ (.int .i64 0)) fun e w' => e = .returned (.tuple #[]) ∧ Q w') :
    Calls Try.prog 43 #[.pointer (some ⟨d, 0, none⟩)] w fun e w' => e = .returned (.bool true) ∧ Q w' := by
  have H := Lib.hid hoff
  clear hoff
  go_enter Try.func43, Try.ntmps43
  go_wp2_with (go_at_call 17; refine H.out.mono ?_; rintro e w' ⟨rfl, hq⟩)
  go_ret
  exact ⟨rfl, hq⟩
end Go.Proofs.Ytkiombbdddbkfaa.Dk
