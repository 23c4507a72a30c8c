/-
  Sync, Cut, Read, On, Arm, New, Off of a whole disk. Conditions: the disk stands in memory, few deeds.
-/
import Derived.Test.YtkiombbdddbkfaaOps
namespace Go.Proofs.Ytkiombbdddbkfaa.Dk
open Go.RowKit Go.Proofs.Ytkiombbdddbkfaa.Pk

section
variable {w : World} {S : Nat → Prop} {d : Nat} {s : Ds} {name : ByteArray}

/-- What find gives: an error, or the file. -/
theorem find_any (h : Mid w S d s) (hs : name.size ≤ maxLen) :
    (findD s name.data.toList ≠ 0 ∧ Calls Try.prog 47 #[.pointer (some ⟨d, 0, none⟩), .string name] w fun e w' => e = .returned (.tuple #[.pointer none, .int .i64 (findD s name.data.toList)]) ∧ w = w') ∨
    ∃ bm D pl v f, s.off = false ∧ findD s name.data.toList = 0 ∧ get s.m name.data.toList = some f ∧ fileOr s name.data.toList = f ∧ Top w d (.map (some bm)) s.off s.deeds s.fuse s.keep ∧ S bm ∧ w.ownsMap Try.prog 9 ptrElem bm s.m.length D ∧ Held w S D s.m pl v ∧
      Calls Try.prog 47 #[.pointer (some ⟨d, 0, none⟩), .string name] w fun e w' => e = .returned (.tuple #[.pointer (some ⟨pl name.data.toList, 0, none⟩), .int .i64 0]) ∧ w = w' := by
  obtain ⟨g, hsd, hlt, mv, ht, hi⟩ := h
  cases ho : s.off with
  | true =>
    have e1 : findD s name.data.toList = 20 := by unfold findD; rw [if_pos ho]
    rw [ho] at ht
    rw [e1]
    exact .inl ⟨by decide, find_off name ht.c1⟩
  | false =>
    have ht0 := ht
    rw [ho] at ht
    cases hg : get s.m name.data.toList with
    | none =>
      have e1 : findD s name.data.toList = 21 := by unfold findD; rw [if_neg (by simp [ho]), hg]; rfl
      rw [e1]
      exact .inl ⟨by decide, find_none ht.c0 ht.c1 (look_none hi hs hg)⟩
    | some f =>
      have e1 : findD s name.data.toList = 0 := by unfold findD; rw [if_neg (by simp [ho]), hg]; rfl
      rcases hi with ⟨rfl, hm0⟩ | ⟨bm, D, pl, v, rfl, hsb, hown, hh⟩
      · rw [hm0] at hg; cases hg
      · exact .inr ⟨bm, D, pl, v, f, rfl, e1, rfl, by unfold fileOr; rw [hg]; rfl, ht, hsb, hown, hh, find_some ht.c0 ht.c1 (look_some hown hh hs hg)⟩

theorem ne_bool {r : Int} (h : r ≠ 0) : (r != 0) = true := by simpa using h

/-- Behind a count that struck not: the file as it was, in the new world. -/
theorem after_count {w1 : World} {bm : Nat} {D : DataW Unit} {pl : Nm → Nat} {v : Nm → Value} (hh : Held w S D s.m pl v) (ht : Top w d (.map (some bm)) s.off s.deeds s.fuse s.keep) (hown : w.ownsMap Try.prog 9 ptrElem bm s.m.length D) (ho : Only d w w1) :
    Held w1 S D s.m pl v ∧ w1.ownsMap Try.prog 9 ptrElem bm s.m.length D := by
  unfold Top at ht
  constructor
  · refine { hh with file := fun k f hf => ?_ }
    have hfile := hh.file k f hf
    refine hfile.keep (ho.block _ (fun e => ?_)) (fun g hg => ho.block _ (fun e => ?_))
    · rw [← e, hfile.1] at ht; simp at ht
    · obtain ⟨cur, hc⟩ := hfile.rows hg
      rw [e, ht] at hc; simp at hc
  · obtain ⟨es, clock, hb, r⟩ := hown
    exact ⟨es, clock, (ho.block bm (fun e => by rw [e, ht] at hb; cases hb)).trans hb, r⟩

theorem syncD_err (h : findD s name.data.toList ≠ 0) : syncD s name.data.toList = (findD s name.data.toList, s) := by unfold syncD; rw [if_pos h]
theorem syncD_go (h : findD s name.data.toList = 0) : syncD s name.data.toList = ends (strike s) fun t => withFile t name.data.toList ⟨(fileOr s name.data.toList).data, (fileOr s name.data.toList).data.length⟩ := by
  unfold syncD; rw [if_neg (by simp [h])]
theorem ends_hit {r : Bool × Ds} {ok : Ds → Ds} (h : r.1 = true) : ends r ok = (20, r.2) := by unfold ends; rw [if_pos h]
theorem ends_ok {r : Bool × Ds} {ok : Ds → Ds} (h : r.1 = false) : ends r ok = (0, ok r.2) := by unfold ends; rw [if_neg (by simp [h])]
theorem strike_ok (h : (strike s).1 = false) : (strike s).2.m = s.m ∧ (strike s).2.off = s.off ∧ (strike s).2.keep = s.keep := by
  revert h
  unfold strike
  split
  · intro _; exact ⟨rfl, rfl, rfl⟩
  · split
    · intro h; cases h
    · intro _; exact ⟨rfl, rfl, rfl⟩

/-- One file's two cells are written anew, its row stays. -/
theorem mid_cells {w1 : World} {bm : Nat} {D : DataW Unit} {pl : Nm → Nat} {v : Nm → Value} {k : Nm} {f f' : Fl} {v' : Value} (hm : Mid w S d s) (ht : Top w d (.map (some bm)) s.off s.deeds s.fuse s.keep) (hsb : S bm) (hown : w.ownsMap Try.prog 9 ptrElem bm s.m.length D) (hh : Held w S D s.m pl v)
    (hk : get s.m k = some f) (ho : Only (pl k) w w1) (hf : FC w1 (pl k) v' f'.safe) (hrow : w.ownsRow 0 5 1 v' f'.data.length (cells f'.data)) (hob : v'.ownBlock = (v k).ownBlock) (hs : f'.safe ≤ f'.data.length) (hle : f'.data.length ≤ 16777216) :
    ∃ S', Mid w1 S' d (withFile s k f') ∧ Upd S S' w w1 := by
  have hfk := hh.file k f hk
  refine Mid.set hm.1 hm.2.1 hm.2.2.1 ht hsb hown hh hk (v' := v') ⟨hf, hrow.1, ?_⟩ (fun b hb => .inl (hob ▸ hb)) (by rw [ho.size]; exact Nat.le_refl _) (fun b _ h2 _ => ho.block b h2) ho.os ho.tape ho.output hs hle
  rcases hrow.2 with h | ⟨g, cap, cur, rfl, hb, hg, rest⟩
  · exact .inl h
  · refine .inr ⟨g, cap, cur, rfl, hb, (ho.block g (fun e => ?_)).trans hg, rest⟩
    rw [e, hfk.1] at hg; simp at hg

/-- Behind a count that struck not, a file's cells are written anew. -/
theorem count_set {w1 w2 : World} {bm : Nat} {D : DataW Unit} {pl : Nm → Nat} {v : Nm → Value} {k : Nm} {f f' : Fl} {v' : Value} (hh : Held w S D s.m pl v) (ht : Top w d (.map (some bm)) s.off s.deeds s.fuse s.keep) (hsb : S bm) (hown : w.ownsMap Try.prog 9 ptrElem bm s.m.length D) (ho : Only d w w1)
    (hm1 : Mid w1 S d (strike s).2) (htop : ∀ mv, Top w d mv s.off s.deeds s.fuse s.keep → Top w1 d mv (strike s).2.off (strike s).2.deeds (strike s).2.fuse (strike s).2.keep) (hst : (strike s).1 = false) (hk : get s.m k = some f)
    (ho2 : Only (pl k) w1 w2) (hf : FC w1 (pl k) (v k) f.safe → FC w2 (pl k) v' f'.safe) (hrow : w1.ownsRow 0 5 1 (v k) f.data.length (cells f.data) → w1.ownsRow 0 5 1 v' f'.data.length (cells f'.data)) (hob : v'.ownBlock = (v k).ownBlock) (hs : f'.safe ≤ f'.data.length) (hle : f'.data.length ≤ 16777216) :
    ∃ S', Mid w2 S' d (withFile (strike s).2 k f') ∧ Upd S S' w w2 := by
  obtain ⟨hh1, hown1⟩ := after_count hh ht hown ho
  have hso := (strike_ok hst).1
  have hfk := hh1.file k f hk
  rw [← hso] at hh1 hown1 hk
  obtain ⟨S', hm2, hu2⟩ := mid_cells hm1 (htop _ ht) hsb hown1 hh1 hk ho2 (hf hfk.1) (hrow hfk.2) hob hs hle
  exact ⟨S', hm2, (Upd.only ho hm1.2.1).trans hu2⟩
theorem length_put_old {k : Nm} {f : Fl} (f' : Fl) : ∀ {m : List (Nm × Fl)}, get m k = some f → Sorted m → (put k f' m).length = m.length
  | [], h, _ => by cases h
  | (n, g) :: r, h, hso => by
    unfold Sorted at hso
    rw [List.map_cons, List.pairwise_cons] at hso
    simp only [get] at h
    split at h
    · rename_i e; simp [put, e]
    · rename_i hne
      have hlt : n < k := hso.1 k (List.mem_map.2 ⟨_, get_mem h, rfl⟩)
      simp only [put, if_neg hne, if_pos hlt, List.length_cons, length_put_old f' h hso.2]

theorem sync_any (h : Disk w S d s) (hs : name.size ≤ maxLen) (hd : s.deeds < 4611686018427387904) :
    Calls Try.prog 52 #[.pointer (some ⟨d, 0, none⟩), .string name] w fun e w' => e = .returned (.int .i64 (syncD s name.data.toList).1) ∧ AfterD S d w (syncD s name.data.toList).2 w' := by
  obtain ⟨hm, hmany⟩ := h
  rcases find_any hm hs with ⟨hne, hc⟩ | ⟨bm, D, pl, v, f, ho, h0, hg, hfo, ht, hsb, hown, hh, hc⟩
  · rw [syncD_err hne]
    refine (sync_err (ne_bool hne) hc).mono ?_
    rintro e w' ⟨rfl, rfl⟩
    exact ⟨rfl, AfterD.same ⟨hm, hmany⟩⟩
  · rw [syncD_go h0, hfo]
    have hcnt := strikes_any hm hd
    have hsm := strike_m s
    cases hst : (strike s).1 with
    | true =>
      rw [hst] at hcnt
      rw [ends_hit hst]
      refine (sync_hit hc hcnt).mono ?_
      rintro e w' ⟨rfl, ⟨S', hm', hu⟩, -⟩
      exact ⟨rfl, S', ⟨hm', by show (strike s).2.m.length ≤ (strike s).2.deeds; omega⟩, hu⟩
    | false =>
      rw [hst] at hcnt
      rw [ends_ok hst]
      have hfk := hh.file _ f hg
      obtain ⟨A, cap, hv, hcap, _⟩ := own_cap hfk.2
      have hso := strike_ok hst
      have hfile : ∀ w1, Only d w w1 → FC w1 (pl name.data.toList) (.slice A f.data.length cap) f.safe := fun w1 ho1 => by
        have := (after_count hh ht hown ho1).1.file _ f hg
        rw [hv] at this; exact this.1
      refine (sync_ok (A := A) (n := f.data.length) (c := cap) (s0 := f.safe) hc hcnt (fun w1 hq => hfile w1 (hq.2 rfl).1)).mono ?_
      rintro e w' ⟨rfl, w1, ⟨-, hq⟩, rfl⟩
      obtain ⟨ho1, hm1, htop⟩ := hq rfl
      obtain ⟨S2, hm2, hu2⟩ := count_set hh ht hsb hown ho1 hm1 htop hst hg (w2 := w1.setCell ⟨pl name.data.toList, 1, none⟩ (.int .i64 (f.data.length : Int))) (f' := ⟨f.data, f.data.length⟩) (v' := v name.data.toList)
        ((Only.refl _ _).setCell _ _) (fun h => h.set1 _) (fun h => h) rfl (Nat.le_refl _) (hm.1.long _ (get_mem hg))
      refine ⟨rfl, S2, ⟨hm2, ?_⟩, hu2⟩
      have := (length_put_le name.data.toList ⟨f.data, f.data.length⟩ (strike s).2.m).1
      have := length_put_old ⟨f.data, f.data.length⟩ (show get (strike s).2.m name.data.toList = some f by rw [hso.1]; exact hg) (by rw [hso.1]; exact hm.1.sorted)
      show (put _ _ _).length ≤ (strike s).2.deeds
      omega

theorem cutD_err {n : Int} (h : findD s name.data.toList ≠ 0) : cutD s name.data.toList n = (findD s name.data.toList, s) := by unfold cutD; rw [if_pos h]
theorem cutD_arg {n : Int} (h : findD s name.data.toList = 0) (hn : n < 0 ∨ ((fileOr s name.data.toList).data.length : Int) < n) : cutD s name.data.toList n = (1, s) := by
  unfold cutD; rw [if_neg (by simp [h]), if_pos hn]
theorem cutD_go {n : Int} (h : findD s name.data.toList = 0) (hn : ¬ (n < 0 ∨ ((fileOr s name.data.toList).data.length : Int) < n)) :
    cutD s name.data.toList n = ends (strike s) fun t => withFile t name.data.toList ⟨(fileOr s name.data.toList).data.take n.toNat, min (fileOr s name.data.toList).safe n.toNat⟩ := by
  unfold cutD; rw [if_neg (by simp [h]), if_neg hn]

theorem cut_any {n : Int} (h : Disk w S d s) (hs : name.size ≤ maxLen) (hd : s.deeds < 4611686018427387904) :
    Calls Try.prog 30 #[.pointer (some ⟨d, 0, none⟩), .string name, .int .i64 n] w fun e w' => e = .returned (.int .i64 (cutD s name.data.toList n).1) ∧ AfterD S d w (cutD s name.data.toList n).2 w' := by
  obtain ⟨hm, hmany⟩ := h
  rcases find_any hm hs with ⟨hne, hc⟩ | ⟨bm, D, pl, v, f, ho, h0, hg, hfo, ht, hsb, hown, hh, hc⟩
  · rw [cutD_err hne]
    refine (cut_err (ne_bool hne) hc).mono ?_
    rintro e w' ⟨rfl, rfl⟩
    exact ⟨rfl, AfterD.same ⟨hm, hmany⟩⟩
  · have hfk := hh.file _ f hg
    obtain ⟨A, cap, hv, hcap, _⟩ := own_cap hfk.2
    have hfc : FC w (pl name.data.toList) (v name.data.toList) f.safe := hfk.1
    have c0 := hfc.c0
    rw [hv] at c0
    by_cases hn : n < 0 ∨ (f.data.length : Int) < n
    · rw [cutD_arg h0 (by rw [hfo]; exact hn)]
      refine (cut_arg hc c0 hn).mono ?_
      rintro e w' ⟨rfl, rfl⟩
      exact ⟨rfl, AfterD.same ⟨hm, hmany⟩⟩
    · rw [cutD_go h0 (by rw [hfo]; exact hn), hfo]
      obtain ⟨k, rfl⟩ : ∃ k : Nat, n = (k : Int) := ⟨n.toNat, by omega⟩
      have hk : k ≤ f.data.length := by omega
      rw [Int.toNat_natCast]
      have hcnt := strikes_any hm hd
      have hsm := strike_m s
      cases hst : (strike s).1 with
      | true =>
        rw [hst] at hcnt
        rw [ends_hit hst]
        refine (cut_hit hc c0 hk hcnt).mono ?_
        rintro e w' ⟨rfl, ⟨S', hm', hu⟩, -⟩
        exact ⟨rfl, S', ⟨hm', by show (strike s).2.m.length ≤ (strike s).2.deeds; omega⟩, hu⟩
      | false =>
        rw [hst] at hcnt
        rw [ends_ok hst]
        have hso := strike_ok hst
        have hfile : ∀ w1, Only d w w1 → FC w1 (pl name.data.toList) (.slice A f.data.length cap) f.safe := fun w1 ho1 => by
          have := (after_count hh ht hown ho1).1.file _ f hg
          rw [hv] at this; exact this.1
        refine (cut_ok (A := A) (l := f.data.length) (c := cap) (s0 := f.safe) hc c0 hk hcap hcnt (fun w1 hq => hfile w1 (hq.2 rfl).1)).mono ?_
        rintro e w' ⟨rfl, w1, ⟨-, hq⟩, rfl⟩
        obtain ⟨ho1, hm1, htop⟩ := hq rfl
        have hlk : (f.data.take k).length = k := by rw [List.length_take]; omega
        obtain ⟨S2, hm2, hu2⟩ := count_set hh ht hsb hown ho1 hm1 htop hst hg (w2 := (w1.setCell ⟨pl name.data.toList, 0, none⟩ (.slice A k cap)).setCell ⟨pl name.data.toList, 1, none⟩ (.int .i64 (min (f.safe : Int) (k : Int)))) (f' := ⟨f.data.take k, min f.safe k⟩) (v' := .slice A k cap)
          (((Only.refl _ _).setCell _ _).setCell _ _) (fun h => by
            show FC _ _ _ ((min f.safe k : Nat) : Int)
            rw [show ((min f.safe k : Nat) : Int) = min (f.safe : Int) (k : Int) by omega]
            exact (h.set0 _).set1 _) (fun h => by
            rw [hv] at h
            have := own_take h hk
            rw [cells_take] at this
            show w1.ownsRow 0 5 1 _ (f.data.take k).length _
            rw [hlk]; exact this) (by rw [hv]; cases A <;> rfl) (by show min f.safe k ≤ (f.data.take k).length; rw [hlk]; omega) (by show (f.data.take k).length ≤ _; rw [hlk]; have := hm.1.long _ (get_mem hg); simp only at this; omega)
        refine ⟨rfl, S2, ⟨hm2, ?_⟩, hu2⟩
        have := length_put_old ⟨f.data.take k, min f.safe k⟩ (show get (strike s).2.m name.data.toList = some f by rw [hso.1]; exact hg) (by rw [hso.1]; exact hm.1.sorted)
        show (put _ _ _).length ≤ (strike s).2.deeds
        omega

theorem read_any (h : Disk w S d s) (hs : name.size ≤ maxLen) : Calls Try.prog 27 #[.pointer (some ⟨d, 0, none⟩), .string name] w (Reads w (findD s name.data.toList) (readD s name.data.toList)) := by
  obtain ⟨hm, hmany⟩ := h
  rcases find_any hm hs with ⟨hne, hc⟩ | ⟨bm, D, pl, v, f, ho, h0, hg, hfo, ht, hsb, hown, hh, hc⟩
  · have e1 : readD s name.data.toList = [] := by unfold readD; rw [if_pos hne]
    rw [e1]
    refine (read_err (ne_bool hne) hc).mono ?_
    rintro e w' ⟨rfl, rfl⟩
    exact ⟨none, 0, rfl, World.ownsRow_nil _ _ _ _, Below.refl _ _⟩
  · have e1 : readD s name.data.toList = f.data := by unfold readD; rw [if_neg (by simp [h0]), hfo]
    rw [e1, h0]
    have hfk := hh.file _ f hg
    obtain ⟨A, cap, hv, -, -, -, hlies, -⟩ := own_form hfk.2
    have hfc : FC w (pl name.data.toList) (v name.data.toList) f.safe := hfk.1
    have c0 := hfc.c0
    rw [hv] at c0
    exact read_ok hc c0 rfl (hm.1.long _ (get_mem hg)) hlies

theorem on_any (h : Disk w S d s) : Calls Try.prog 19 #[.pointer (some ⟨d, 0, none⟩)] w fun e w' => e = .returned (.tuple #[]) ∧ AfterD S d w (onD s) w' := by
  obtain ⟨hm, hmany⟩ := h
  have hm_ := hm
  obtain ⟨g, hsd, hlt, mv, ht, hi⟩ := hm
  refine (on_cell ht.c1 (ht.fz 1)).mono ?_
  rintro e w' ⟨rfl, rfl⟩
  have ho : Only d w (w.setCell ⟨d, 1, none⟩ (.bool false)) := (Only.refl _ _).setCell _ _
  exact ⟨rfl, S, ⟨hm_.top ho (s' := onD s) rfl ⟨g.sorted, g.names, g.safe, g.long, g.fuse, g.keepLo, g.keepHi⟩ ht (ht.set1 _), hmany⟩, Upd.only ho hsd⟩

theorem arm_any {n keep : Int} (h : Disk w S d s) (hn1 : -9223372036854775808 ≤ n) (hn2 : n ≤ 9223372036854775807) (hk1 : -9223372036854775808 ≤ keep) (hk2 : keep ≤ 9223372036854775807) :
    Calls Try.prog 15 #[.pointer (some ⟨d, 0, none⟩), .int .i64 n, .int .i64 keep] w fun e w' => e = .returned (.tuple #[]) ∧ AfterD S d w (armD s n keep) w' := by
  obtain ⟨hm, hmany⟩ := h
  have hm_ := hm
  obtain ⟨g, hsd, hlt, mv, ht, hi⟩ := hm
  refine (arm_cell ht.c3 ht.c4 (ht.fz 3) (ht.fz 4)).mono ?_
  rintro e w' ⟨rfl, rfl⟩
  have ho : Only d w ((w.setCell ⟨d, 3, none⟩ (.int .i64 (max n 0))).setCell ⟨d, 4, none⟩ (.int .i64 keep)) := ((Only.refl _ _).setCell _ _).setCell _ _
  refine ⟨rfl, S, ⟨hm_.top ho (s' := armD s n keep) rfl ⟨g.sorted, g.names, g.safe, g.long, by show n.toNat ≤ _; omega, hk1, hk2⟩ ht ?_, hmany⟩, Upd.only ho hsd⟩
  show Top _ d mv s.off s.deeds ((n.toNat : Nat) : Int) keep
  rw [show ((n.toNat : Nat) : Int) = max n 0 by omega]
  exact (ht.set3 _).set4 _

theorem off_disk {keep : Int} (h : Disk w S d s) (hk1 : -9223372036854775808 ≤ keep) (hk2 : keep ≤ 9223372036854775807) :
    Calls Try.prog 17 #[.pointer (some ⟨d, 0, none⟩), .int .i64 keep] w fun e w' => e = .returned (.tuple #[]) ∧ AfterD S d w (offD s keep) w' := by
  refine (off_any keep h.1 hk1 hk2).mono ?_
  rintro e w' ⟨rfl, S', hm, hu⟩
  refine ⟨rfl, S', ⟨hm, ?_⟩, hu⟩
  have := h.2
  unfold offD
  split
  · exact this
  · show (loseAll keep s.m).length ≤ s.deeds; rw [length_loseAll]; exact this

theorem up_any (h : Disk w S d s) : Calls Try.prog 22 #[.pointer (some ⟨d, 0, none⟩)] w fun e w' => e = .returned (.bool (!s.off)) ∧ w = w' := by
  obtain ⟨⟨g, hsd, hlt, mv, ht, hi⟩, -⟩ := h
  exact up_top ht.c1
theorem deeds_any (h : Disk w S d s) : Calls Try.prog 23 #[.pointer (some ⟨d, 0, none⟩)] w fun e w' => e = .returned (.int .i64 s.deeds) ∧ w = w' := by
  obtain ⟨⟨g, hsd, hlt, mv, ht, hi⟩, -⟩ := h
  exact deeds_top ht.c2
end
theorem new_disk (w : World) : Calls Try.prog 8 #[] w fun e w' => e = .returned (.pointer (some ⟨w.heap.size, 0, none⟩)) ∧ Disk w' (fun b => b = w.heap.size) w.heap.size newD ∧ Below w.heap.size w w' := by
  refine (new_any w).mono ?_
  rintro e w' ⟨rfl, rfl⟩
  refine ⟨rfl, ⟨⟨⟨List.Pairwise.nil, fun _ hp => (by cases hp), fun _ hp => (by cases hp), fun _ hp => (by cases hp), by decide, by decide, by decide⟩, rfl, fun b hb => by rw [hb]; simp, .map none, heap_alloc_new w _, .inl ⟨rfl, rfl⟩⟩, Nat.le_refl _⟩, (Below.refl _ _).alloc (Nat.le_refl _) _⟩
end Go.Proofs.Ytkiombbdddbkfaa.Dk
