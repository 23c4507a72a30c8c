/-
  Append of a whole disk. Conditions: the disk stands in memory, the bytes lie in memory, few deeds.
-/
import Derived.Test.YtkiombbdddbkfaaPut
namespace Go.Proofs.Ytkiombbdddbkfaa.Dk
open Go.RowKit Go.Proofs.Ytkiombbdddbkfaa.Pk

theorem strike_m (s : Ds) : (strike s).2.m.length = s.m.length ∧ (strike s).2.deeds = s.deeds + 1 := by
  unfold strike
  split
  · exact ⟨rfl, rfl⟩
  · split
    · unfold offD; split
      · exact ⟨rfl, rfl⟩
      · exact ⟨length_loseAll _ _, rfl⟩
    · exact ⟨rfl, rfl⟩
theorem good_strike {s : Ds} (h : Good s) : Good (strike s).2 := by
  unfold strike
  split
  · exact ⟨h.sorted, h.names, h.safe, h.long, h.fuse, h.keepLo, h.keepHi⟩
  · split
    · exact good_off (s := { s with deeds := s.deeds + 1, fuse := 0 }) ⟨h.sorted, h.names, h.safe, h.long, Nat.zero_le _, h.keepLo, h.keepHi⟩ _
    · exact ⟨h.sorted, h.names, h.safe, h.long, by have := h.fuse; show s.fuse - 1 ≤ _; omega, h.keepLo, h.keepHi⟩

theorem strikes_any {w : World} {S : Nat → Prop} {d : Nat} {s : Ds} (h : Mid w S d s) (hd : s.deeds < 4611686018427387904) :
    Calls Try.prog 43 #[.pointer (some ⟨d, 0, none⟩)] w fun e w' => e = .returned (.bool (strike s).1) ∧ After S d w (strike s).2 w' ∧ ((strike s).1 = false → Only d w w' ∧ Mid w' S d (strike s).2 ∧ ∀ mv, Top w d mv s.off s.deeds s.fuse s.keep → Top w' d mv (strike s).2.off (strike s).2.deeds (strike s).2.fuse (strike s).2.keep) := by
  have h_ := h
  obtain ⟨g, hsd, hl, mv, ht, hi⟩ := h
  have hf := g.fuse
  have gs := good_strike g
  by_cases h0 : s.fuse = 0
  · have e1 : strike s = (false, { s with deeds := s.deeds + 1 }) := by unfold strike; rw [if_pos h0]
    rw [e1] at gs ⊢
    have ht3 := ht.c3
    rw [h0] at ht3
    refine (strikes_zero ht.c2 ht3 (ht.fz 2) (by omega) (by omega)).mono ?_
    rintro e w' ⟨rfl, rfl⟩
    have ho : Only d w (w.setCell ⟨d, 2, none⟩ (.int .i64 (s.deeds + 1))) := (Only.refl _ _).setCell _ _
    have hm : Mid (w.setCell ⟨d, 2, none⟩ (.int .i64 (s.deeds + 1))) S d { s with deeds := s.deeds + 1 } := h_.top ho rfl gs ht (ht.set2 _)
    exact ⟨rfl, ⟨S, hm, Upd.only ho hsd⟩, fun _ => ⟨ho, hm, fun mv' ht' => ht'.set2 _⟩⟩
  by_cases h1 : s.fuse = 1
  · have e1 : strike s = (true, offD { s with deeds := s.deeds + 1, fuse := 0 } s.keep) := by unfold strike; rw [if_neg h0, if_pos h1]
    rw [e1]
    have ht3 := ht.c3
    rw [h1] at ht3
    have ho : Only d w ((w.setCell ⟨d, 2, none⟩ (.int .i64 (s.deeds + 1))).setCell ⟨d, 3, none⟩ (.int .i64 0)) := ((Only.refl _ _).setCell _ _).setCell _ _
    have hm : Mid ((w.setCell ⟨d, 2, none⟩ (.int .i64 (s.deeds + 1))).setCell ⟨d, 3, none⟩ (.int .i64 0)) S d { s with deeds := s.deeds + 1, fuse := 0 } :=
      h_.top ho rfl ⟨g.sorted, g.names, g.safe, g.long, Nat.zero_le _, g.keepLo, g.keepHi⟩ ht ((ht.set2 _).set3 _)
    refine (strikes_one ht.c2 ht3 ht.c4 (ht.fz 2) (ht.fz 3) (by omega) (by omega) (off_any s.keep hm g.keepLo g.keepHi)).mono ?_
    rintro e w' ⟨rfl, S', hm', hu⟩
    exact ⟨rfl, ⟨S', hm', (Upd.only ho hsd).trans hu⟩, fun h => by cases h⟩
  · have e1 : strike s = (false, { s with deeds := s.deeds + 1, fuse := s.fuse - 1 }) := by unfold strike; rw [if_neg h0, if_neg h1]
    rw [e1] at gs ⊢
    refine (strikes_more ht.c2 ht.c3 (ht.fz 2) (ht.fz 3) (by omega) (by omega) (by omega) (by omega)).mono ?_
    rintro e w' ⟨rfl, rfl⟩
    have ho : Only d w ((w.setCell ⟨d, 2, none⟩ (.int .i64 (s.deeds + 1))).setCell ⟨d, 3, none⟩ (.int .i64 (s.fuse - 1))) := ((Only.refl _ _).setCell _ _).setCell _ _
    have htop : ∀ mv, Top w d mv s.off s.deeds s.fuse s.keep → Top ((w.setCell ⟨d, 2, none⟩ (.int .i64 (s.deeds + 1))).setCell ⟨d, 3, none⟩ (.int .i64 (s.fuse - 1))) d mv s.off ((s.deeds + 1 : Nat) : Int) ((s.fuse - 1 : Nat) : Int) s.keep := fun mv' ht' => by
      rw [show ((s.fuse - 1 : Nat) : Int) = (s.fuse : Int) - 1 by omega]
      exact (ht'.set2 _).set3 _
    have hm : Mid ((w.setCell ⟨d, 2, none⟩ (.int .i64 (s.deeds + 1))).setCell ⟨d, 3, none⟩ (.int .i64 (s.fuse - 1))) S d { s with deeds := s.deeds + 1, fuse := s.fuse - 1 } := h_.top ho rfl gs ht (htop mv ht)
    exact ⟨rfl, ⟨S, hm, Upd.only ho hsd⟩, fun _ => ⟨ho, hm, htop⟩⟩

/-- Behind an operation: a disk again. -/
def AfterD (S : Nat → Prop) (d : Nat) (w : World) (s' : Ds) (w' : World) : Prop := ∃ S', Disk w' S' d s' ∧ Upd S S' w w'
theorem AfterD.same {S : Nat → Prop} {d : Nat} {w : World} {s : Ds} (h : Disk w S d s) : AfterD S d w s w := ⟨S, h, Upd.refl _ _⟩

theorem name_size {name : ByteArray} (h : isName name.data.toList = true) : name.size ≤ 16 := by
  unfold isName at h
  simp only [Bool.and_eq_true, decide_eq_true_eq] at h
  have := h.1.2
  rw [Array.length_toList] at this
  exact this

theorem appendD_off {s : Ds} {name : Nm} {b : List UInt8} (h : s.off = true) : appendD s name b = (20, s) := by unfold appendD; rw [if_pos h]
theorem appendD_name {s : Ds} {name : Nm} {b : List UInt8} (h : s.off = false) (hn : isName name = false) : appendD s name b = (51, s) := by unfold appendD; rw [if_neg (by simp [h]), if_pos hn]
theorem appendD_long {s : Ds} {name : Nm} {b : List UInt8} (h : s.off = false) (hn : isName name = true) (hl : 16777216 < (fileOr s name).data.length + b.length) : appendD s name b = (2, s) := by
  unfold appendD; rw [if_neg (by simp [h]), if_neg (by simp [hn]), if_pos hl]
theorem appendD_go {s : Ds} {name : Nm} {b : List UInt8} (h : s.off = false) (hn : isName name = true) (hl : ¬ 16777216 < (fileOr s name).data.length + b.length) :
    appendD s name b = (code (strike (withFile s name ⟨(fileOr s name).data ++ b, (fileOr s name).safe⟩)).1, (strike (withFile s name ⟨(fileOr s name).data ++ b, (fileOr s name).safe⟩)).2) := by
  unfold appendD; rw [if_neg (by simp [h]), if_neg (by simp [hn]), if_neg hl]
  unfold ends code
  cases (strike (withFile s name ⟨(fileOr s name).data ++ b, (fileOr s name).safe⟩)).1 <;> rfl

/-- A file's cell of its row is written: the disk with that file turned. -/
theorem Mid.set {w w1 : World} {S : Nat → Prop} {d bm : Nat} {s : Ds} {D : DataW Unit} {pl : Nm → Nat} {v : Nm → Value} {k : Nm} {f f' : Fl} {v' : Value} (g : Good s) (hsd : S d) (hl : ∀ b, S b → b < w.heap.size) (ht : Top w d (.map (some bm)) s.off s.deeds s.fuse s.keep) (hsb : S bm)
    (hown : w.ownsMap Try.prog 9 ptrElem bm s.m.length D) (hh : Held w S D s.m pl v) (hk : get s.m k = some f) (hfile : File w1 (pl k) v' f') (hloc : ∀ b, v'.ownBlock = some b → (v k).ownBlock = some b ∨ w.heap.size ≤ b)
    (hz : w.heap.size ≤ w1.heap.size) (hkeep : ∀ b, b < w.heap.size → b ≠ pl k → (v k).ownBlock ≠ some b → w1.heap[b]? = w.heap[b]?) (hos : w1.os = w.os) (htp : w1.tape = w.tape) (hop : w1.output = w.output) (hs : f'.safe ≤ f'.data.length) (hle : f'.data.length ≤ 16777216) :
    ∃ S', Mid w1 S' d (withFile s k f') ∧ Upd S S' w w1 := by
  have hfk := hh.file k f hk
  have hname : isName k = true := g.names _ (get_mem hk)
  have hne : ∀ b, b < w.heap.size → (∀ cur e fr, w.heap[b]? = some (.cells cur e fr) → e ≠ 75 ∧ e ≠ 5) → w1.heap[b]? = w.heap[b]? := fun b hb hc => by
    refine hkeep b hb (fun e => ?_) (fun e => ?_)
    · subst e; exact (hc _ _ _ hfk.1).1 rfl
    · obtain ⟨cur, hcur⟩ := hfk.rows e
      exact (hc _ _ _ hcur).2 rfl
  refine ⟨_, ⟨good_put g hname hs hle, .inl hsd, fun b hb => ?_, .map (some bm), ?_, .inr ⟨bm, D, pl, _, rfl, .inl hsb, ?_, hh.set hk hfile hloc (fun b hb => hkeep b (hl b hb)) hl⟩⟩, hos, htp, hop, hz, fun b hb hsb => ?_, fun b hb => ?_⟩
  · rcases hb with hb | hb
    · exact Nat.lt_of_lt_of_le (hl b hb) hz
    · exact hfile.row_lt hb
  · exact (hne d (hl d hsd) (fun cur e fr he => by unfold Top at ht; rw [ht] at he; cases he; exact ⟨by decide, by decide⟩)).trans ht
  · obtain ⟨es, clock, hb, r⟩ := hown
    have : w1.ownsMap Try.prog 9 ptrElem bm s.m.length D := ⟨es, clock, (hne bm (hl bm hsb) (fun cur e fr he => by rw [hb] at he; cases he)).trans hb, r⟩
    exact this.mono (length_put_le k f' s.m).2
  · exact hkeep b hb (fun e => hsb (e ▸ (hh.foot k f hk).1)) (fun e => hsb ((hh.foot k f hk).2 b e))
  · rcases hb with hb | hb
    · exact .inl hb
    · rcases hloc b hb with h1 | h1
      · exact .inl ((hh.foot k f hk).2 b h1)
      · exact .inr h1

theorem put_put (k : Nm) (f f' : Fl) : ∀ m, put k f' (put k f m) = put k f' m
  | [] => by simp [put]
  | (n, g) :: r => by
    simp only [put]
    split
    · rename_i e; simp [put]
    · rename_i hne
      split
      · rename_i hlt
        simp only [put, if_neg hne, if_pos hlt, put_put k f f' r]
      · simp [put]

theorem own_setCell {w : World} {fb n : Nat} {v v0 u : Value} {s0 : Int} {xs : List Value} (hf : FC w fb v0 s0) (hown : w.ownsRow 0 5 1 v n xs) (o : Nat) : (w.setCell ⟨fb, o, none⟩ u).ownsRow 0 5 1 v n xs := by
  have hne := row_ne hf hown
  refine ⟨hown.1, ?_⟩
  rcases hown.2 with h | ⟨g, cap, cur, rfl, hb, hg, rest⟩
  · exact .inl h
  · exact .inr ⟨g, cap, cur, rfl, hb, (Below.heap_setCell _ _ _ _ (fun e => hne (by show some fb = some g; rw [e]))).trans hg, rest⟩

/-- The disk behind the laying of the bytes, ahead of the counting. -/
theorem mid_laid {w w1 : World} {S : Nat → Prop} {d bm m : Nat} {s : Ds} {D : DataW Unit} {pl : Nm → Nat} {v : Nm → Value} {k : Nm} {f : Fl} {l' : List UInt8} {v' : Value} (g : Good s) (hsd : S d) (hl : ∀ b, S b → b < w.heap.size) (ht : Top w d (.map (some bm)) s.off s.deeds s.fuse s.keep) (hsb : S bm)
    (hown : w.ownsMap Try.prog 9 ptrElem bm s.m.length D) (hh : Held w S D s.m pl v) (hk : get s.m k = some f) (hm : l'.length = m) (hle : f.data.length + m ≤ 16777216)
    (h1 : w1.ownsRow 0 5 1 v' (f.data.length + m) (cells (f.data ++ l'))) (hg : w.grownBy w1 (v k).ownBlock) (hloc : v'.ownBlock = (v k).ownBlock ∨ v'.ownBlock = some w.heap.size) :
    ∃ S', Mid (w1.setCell ⟨pl k, 0, none⟩ v') S' d (withFile s k ⟨f.data ++ l', f.safe⟩) ∧ Upd S S' w (w1.setCell ⟨pl k, 0, none⟩ v') := by
  have hfk := hh.file k f hk
  have hfc : FC w1 (pl k) (v k) f.safe := (hg.block _ hfk.lt (row_ne (hfk.1 : FC w (pl k) (v k) f.safe) hfk.2)).trans hfk.1
  have hsf := g.safe _ (get_mem hk)
  refine Mid.set g hsd hl ht hsb hown hh hk (w1 := w1.setCell ⟨pl k, 0, none⟩ v') (v' := v') (f' := ⟨f.data ++ l', f.safe⟩) ⟨hfc.set0 v', ?_⟩ (fun b hb => ?_) (by rw [size_setCell]; exact hg.size) (fun b hb h2 h3 => ?_) hg.os hg.tape hg.output ?_ ?_
  · have := own_setCell (u := v') hfc h1 0
    rw [show (f.data ++ l').length = f.data.length + m by rw [List.length_append, hm]]
    exact this
  · rcases hloc with h | h
    · exact .inl (h ▸ hb)
    · rw [h] at hb; exact .inr (by have := Option.some.inj hb; omega)
  · exact (Below.heap_setCell _ _ _ _ h2).trans (hg.block b hb (fun e => h3 e.symm))
  · simp only [List.length_append]; simp only at hsf; omega
  · simp only [List.length_append]; omega

theorem after_strike {w w1 : World} {S S1 : Nat → Prop} {d : Nat} {s s1 : Ds} (hm : Mid w1 S1 d s1) (hu : Upd S S1 w w1) (hlen : s1.m.length ≤ s.m.length + 1) (hdd : s1.deeds = s.deeds) (hmany : s.m.length ≤ s.deeds) (hd : s.deeds < 4611686018427387904) :
    Calls Try.prog 43 #[.pointer (some ⟨d, 0, none⟩)] w1 fun e w' => e = .returned (.bool (strike s1).1) ∧ AfterD S d w (strike s1).2 w' := by
  refine (strikes_any hm (by omega)).mono ?_
  rintro e w' ⟨rfl, ⟨S', hm', hu'⟩, -⟩
  have := strike_m s1
  exact ⟨rfl, S', ⟨hm', by omega⟩, hu.trans hu'⟩

theorem lies_map {w w' : World} {bm : Nat} {es : Array MapEntry} {clock : Nat} {A : Option Addr} {l : List UInt8} (h : Lies w w.heap.size A l) (hb : w.heap[bm]? = some (.map es clock)) (hg : w.grownBy w' (some bm)) : Lies w' w'.heap.size A l := fun k x hx => by
  obtain ⟨b, o, e, hlt, hc⟩ := h k x hx
  refine ⟨b, o, e, Nat.lt_of_lt_of_le hlt hg.size, (World.cell?_of_block (w := w) (a := ⟨b, o + k, none⟩) (hg.block b hlt (fun e => ?_))).trans hc⟩
  have := Option.some.inj e
  subst this
  simp [World.cell?, hb] at hc
theorem lies_new {w w' : World} {bm : Nat} {A : Option Addr} {l : List UInt8} (h : Lies w w.heap.size A l) (hb : w.heap.size ≤ bm) (hg : w.grownBy w' (some bm)) : Lies w' w'.heap.size A l := fun k x hx => by
  obtain ⟨b, o, e, hlt, hc⟩ := h k x hx
  exact ⟨b, o, e, Nat.lt_of_lt_of_le hlt hg.size, (World.cell?_of_block (w := w) (a := ⟨b, o + k, none⟩) (hg.block b hlt (fun e => by have := Option.some.inj e; omega))).trans hc⟩
theorem lies_top {w : World} {d : Nat} {u mv : Value} {A : Option Addr} {l : List UInt8} (h : Lies w w.heap.size A l) (c0 : w.cell? ⟨d, 0, none⟩ = some mv) (hm : ∀ x, mv ≠ bv x) : Lies (w.setCell ⟨d, 0, none⟩ u) (w.setCell ⟨d, 0, none⟩ u).heap.size A l := fun k x hx => by
  obtain ⟨b, o, e, hlt, hc⟩ := h k x hx
  refine ⟨b, o, e, by rw [size_setCell]; exact hlt, (World.cell?_setCell_other w _ _ u (fun e => ?_)).trans hc⟩
  rw [e] at c0
  rw [c0] at hc
  exact hm x (Option.some.inj hc)

theorem append_any {w : World} {S : Nat → Prop} {d m c : Nat} {s : Ds} {A : Option Addr} {name : ByteArray} {l' : List UInt8} (h : Disk w S d s) (hs : name.size ≤ maxLen) (hl : l'.length = m) (hr : Lies w w.heap.size A l') (hd : s.deeds < 4611686018427387904) :
    Calls Try.prog 20 #[.pointer (some ⟨d, 0, none⟩), .string name, .slice A m c] w fun e w' => e = .returned (.int .i64 (appendD s name.data.toList l').1) ∧ AfterD S d w (appendD s name.data.toList l').2 w' := by
  have h_ := h
  obtain ⟨⟨g, hsd, hlt, mv, ht, hi⟩, hmany⟩ := h
  cases ho : s.off with
  | true =>
    rw [ho] at ht
    rw [appendD_off ho]
    refine (append_off name _ ht.c1).mono ?_
    rintro e w' ⟨rfl, rfl⟩
    exact ⟨rfl, AfterD.same h_⟩
  | false =>
  have ht0 := ht
  rw [ho] at ht
  cases hn : isName name.data.toList with
  | false =>
    rw [appendD_name ho hn]
    refine (append_name _ ht.c1 hs hn).mono ?_
    rintro e w' ⟨rfl, rfl⟩
    exact ⟨rfl, AfterD.same h_⟩
  | true =>
  cases hg : get s.m name.data.toList with
  | none =>
    have hfo : fileOr s name.data.toList = ⟨[], 0⟩ := by unfold fileOr; rw [hg]; rfl
    have hrun := look_none hi hs hg
    by_cases hlong : 16777216 < m
    · rw [appendD_long ho hn (by rw [hfo, hl]; simpa using hlong)]
      refine (append_long_new ht.c0 ht.c1 hs hn hrun hlong).mono ?_
      rintro e w' ⟨rfl, rfl⟩
      exact ⟨rfl, AfterD.same h_⟩
    · rw [appendD_go ho hn (by rw [hfo, hl]; simpa using hlong), hfo]
      have g0 : Good (withFile s name.data.toList ⟨[], 0⟩) := good_put g hn (by simp) (by simp)
      have hss := name_size hn
      let R : Nat → World → Prop := fun fb w1 => ∃ S1 bm D pl v, S1 d ∧ (∀ b, S1 b → b < w1.heap.size) ∧ Top w1 d (.map (some bm)) s.off s.deeds s.fuse s.keep ∧ S1 bm ∧ w1.ownsMap Try.prog 9 ptrElem bm (put name.data.toList ⟨[], 0⟩ s.m).length D ∧
        Held w1 S1 D (put name.data.toList ⟨[], 0⟩ s.m) pl v ∧ pl name.data.toList = fb ∧ v name.data.toList = .slice none 0 0 ∧ Upd S S1 w w1 ∧ Lies w1 w1.heap.size A l'
      have hC : Calls Try.prog 42 #[.pointer (some ⟨d, 0, none⟩), .string name] w (fun e w1 => ∃ fb, e = .returned (.pointer (some ⟨fb, 0, none⟩)) ∧ R fb w1) := by
        rcases hi with ⟨rfl, hm0⟩ | ⟨bm, D, pl, v, rfl, hsb, hown, hh⟩
        · refine (create_nil ht.c0 (ht.fz 0) (by omega)).mono ?_
          rintro e w1 ⟨fb, rfl, hcr⟩
          have hdl := ht.lt
          have hz1 : w.heap.size ≤ w1.heap.size := by have := hcr.grown.size; rw [size_setCell] at this; exact this
          have hnew := hcr.new
          rw [size_setCell] at hnew
          have hfl : fb < w1.heap.size := (Array.getElem?_eq_some_iff.1 hcr.file).1
          have hbml := hcr.own.lt
          have hkb : ∀ b, b < w.heap.size → b ≠ d → w1.heap[b]? = w.heap[b]? := fun b hb hbd =>
            (hcr.grown.block b (by rw [size_setCell]; exact hb) (fun e => by have := Option.some.inj e; omega)).trans (Below.heap_setCell _ _ _ _ hbd)
          have hadd := (held_none w1 (fun b => S b ∨ b = w.heap.size) (fun _ => 0) (fun _ => .slice none 0 0)).add (w' := w1) (k := name.data.toList) ⟨[], rfl⟩ rfl hcr.file (fun j g hg => by cases hg) (fun b hb => by
            rcases hb with hb | hb
            · have := hlt b hb; omega
            · intro e2
              have h1 := hcr.file
              obtain ⟨es, clock, h2, _⟩ := hcr.own
              unfold FC at h1
              rw [← e2, hb, h2] at h1; cases h1)
          refine ⟨fb, rfl, (fun b => (S b ∨ b = w.heap.size) ∨ b = fb), w.heap.size, _, _, _, .inl (.inl hsd), fun b hb => ?_, ?_, .inl (.inr rfl), ?_, by rw [hm0]; exact hadd, if_pos rfl, if_pos rfl, ?_, ?_⟩
          · rcases hb with (hb | hb) | hb
            · have := hlt b hb; omega
            · rw [hb]; exact hbml
            · rw [hb]; exact hfl
          · exact (hcr.grown.block d (by rw [size_setCell]; exact hdl) (fun e => by have := Option.some.inj e; omega)).trans (ht0.set0 _)
          · rw [hm0]; exact hcr.own
          · refine ⟨hcr.grown.os, hcr.grown.tape, hcr.grown.output, hz1, fun b hb hsb => hkb b hb (fun e => hsb (e ▸ hsd)), fun b hb => ?_⟩
            rcases hb with (hb | hb) | hb
            · exact .inl hb
            · exact .inr (by omega)
            · exact .inr (by omega)
          · exact lies_new (lies_top hr ht.c0 (fun x => by simp [bv])) (by rw [size_setCell]; exact Nat.le_refl _) hcr.grown
        · refine (create_map ht.c0 hown (by have := hmany; unfold maxLen; omega) (by omega)).mono ?_
          rintro e w1 ⟨fb, rfl, hcr⟩
          have hdl := ht.lt
          have hfl : fb < w1.heap.size := (Array.getElem?_eq_some_iff.1 hcr.file).1
          have hnew := hcr.new
          have hz1 := hcr.grown.size
          obtain ⟨es, clock, hbm, hrest⟩ := hown
          have hdne : d ≠ bm := fun e => by unfold Top at ht; rw [e, hbm] at ht; cases ht
          have hadd := hh.add (w' := w1) (k := name.data.toList) (World.ownsMap.isMap ⟨es, clock, hbm, hrest⟩) hg hcr.file (fun j g hg => by
            have hfj := hh.file j g hg
            refine hfj.keep (hcr.grown.block _ hfj.lt (fun e => ?_)) (fun b hb => hcr.grown.block _ (hfj.row_lt hb) (fun e => ?_))
            · have := Option.some.inj e
              have h1 := hfj.1
              rw [this, hbm] at h1; cases h1
            · have := Option.some.inj e
              obtain ⟨cur, hc⟩ := hfj.rows hb
              rw [this, hbm] at hc; cases hc) (fun b hb => by have := hlt b hb; omega)
          refine ⟨fb, rfl, (fun b => S b ∨ b = fb), bm, _, _, _, .inl hsd, fun b hb => ?_, ?_, .inl hsb, ?_, hadd, if_pos rfl, if_pos rfl, ?_, ?_⟩
          · rcases hb with hb | hb
            · have := hlt b hb; omega
            · rw [hb]; exact hfl
          · exact (hcr.grown.block d hdl (fun e => hdne (Option.some.inj e))).trans ht0
          · rw [length_put_new _ hg]; exact hcr.own
          · refine ⟨hcr.grown.os, hcr.grown.tape, hcr.grown.output, hz1, fun b hb hsb' => hcr.grown.block b hb (fun e => hsb' (by have := Option.some.inj e; rw [this]; exact hsb)), fun b hb => ?_⟩
            rcases hb with hb | hb
            · exact .inl hb
            · exact .inr (by omega)
          · exact lies_map hr hbm hcr.grown
      refine append_new (l' := l') ht.c0 ht.c1 hs hn hrun (by omega) hl hC ?_ ?_
      · rintro fb w1 ⟨S1, bm, D, pl, v, h1, h2, h3, h4, h5, h6, rfl, h8, h9, h10⟩
        have hf := (h6.file _ _ (get_put_same _ _ _)).1
        rw [h8] at hf
        exact ⟨hf, h10⟩
      · rintro fb w1 ⟨S1, bm, D, pl, v, h1, h2, h3, h4, h5, h6, rfl, h8, h9, h10⟩ v' w2 hown' hg2 hloc
        obtain ⟨S2, hm2, hu2⟩ := mid_laid (l' := l') g0 h1 h2 h3 h4 h5 h6 (get_put_same _ _ _) hl (by simp; omega) (by simpa using hown') (by rw [h8]; exact hg2) (by rw [h8]; exact hloc)
        have e2 : withFile (withFile s name.data.toList ⟨[], 0⟩) name.data.toList ⟨[] ++ l', 0⟩ = withFile s name.data.toList ⟨[] ++ l', 0⟩ := by
          unfold withFile; simp only [put_put]
        rw [e2] at hm2
        exact after_strike hm2 (h9.trans hu2) (length_put_le _ _ _).1 rfl hmany hd
  | some f =>
    have hfo : fileOr s name.data.toList = f := by unfold fileOr; rw [hg]; rfl
    rcases hi with ⟨rfl, hm0⟩ | ⟨bm, D, pl, v, rfl, hsb, hown, hh⟩
    · rw [hm0] at hg; cases hg
    · have hrun := look_some hown hh hs hg
      have hfk := hh.file _ f hg
      have hfl := g.long _ (get_mem hg)
      simp only at hfl
      obtain ⟨A0, cap0, hv0, _⟩ := own_cap hfk.2
      have hfc : FC w (pl name.data.toList) (v name.data.toList) f.safe := hfk.1
      by_cases hlong : 16777216 < f.data.length + m
      · rw [appendD_long ho hn (by rw [hfo, hl]; exact hlong)]
        have c0 := hfc.c0
        rw [hv0] at c0
        refine (append_long_old ht.c0 ht.c1 hs hn hrun c0 hfl hlong).mono ?_
        rintro e w' ⟨rfl, rfl⟩
        exact ⟨rfl, AfterD.same h_⟩
      · rw [appendD_go ho hn (by rw [hfo, hl]; exact hlong), hfo]
        refine append_old ht.c0 ht.c1 hs hn hrun hfc hfk.2 (by omega) hl hr ?_
        intro v' w1 h1 h2 h3
        obtain ⟨S1, hm1, hu1⟩ := mid_laid g hsd hlt ht0 hsb hown hh hg hl (by omega) h1 h2 h3
        exact after_strike hm1 hu1 (length_put_le _ _ _).1 rfl hmany hd
end Go.Proofs.Ytkiombbdddbkfaa.Dk
