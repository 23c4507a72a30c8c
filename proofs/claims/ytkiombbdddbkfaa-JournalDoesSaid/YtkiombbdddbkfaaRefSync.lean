/-
  The document's Sync, Cut, Read, Arm, Names of a whole disk. Conditions: it stands in memory, few deeds.
-/
import Derived.Test.YtkiombbdddbkfaaRefOff
namespace Go.Proofs.Ytkiombbdddbkfaa.Dk
open Go.RowKit Go.Proofs.Ytkiombbdddbkfaa.Pk

theorem strike_hit {t : Ds} (h : t.fuse = 1) : strike t = (true, offD (dd t) t.keep) := by
  unfold strike
  rw [if_neg (by omega), if_pos h]
  unfold dd
  rw [h]
theorem strike_miss {t : Ds} (h : t.fuse ≠ 1) : strike t = (false, dd t) := Prod.ext (by rw [strike_fst, decide_eq_false h]) (strike_no h)

section
variable {w w1 w2 : World} {T T' : Nat → Prop} {r g : Nat} {t u : Ds} {vL : Value} {vs vs2 : List Value} {name : ByteArray}
theorem ref_dd (h : RefD w T r t) (ht : RTop w r vL t.off t.fuse t.keep t.deeds) (hi : RIn w T t.m vL vs) (ho : Only r w w1) (ht1 : RTop w1 r vL t.off (dd t).fuse t.keep (dd t).deeds) : RefD w1 T r (dd t) := by
  obtain ⟨gd, hm, hr, hl, _⟩ := h
  exact ⟨good_dd gd, by show t.m.length ≤ t.deeds + 1; omega, hr, fun b hb => by rw [ho.size]; exact hl b hb, vL, vs, ht1, hi.keepR ht ho⟩
theorem ref_fin {k : Nm} {f' : Fl} {i : Nat} (gd : Good u) (hmany : u.m.length ≤ u.deeds) (hname : isName k = true) (hs : f'.safe ≤ f'.data.length) (hle : f'.data.length ≤ 16777216) (hput : put k f' u.m = u.m.set i (k, f')) (hr : T' r) (hl2 : ∀ b, T' b → b < w2.heap.size)
    (ht2 : RTop w2 r vL u.off u.fuse u.keep u.deeds) (hi2 : RIn w2 T' (u.m.set i (k, f')) vL vs2) : RefD w2 T' r (withFile u k f') := by
  refine ⟨good_put gd hname hs hle, ?_, hr, hl2, vL, vs2, ht2, ?_⟩
  · show (put k f' u.m).length ≤ u.deeds; rw [hput, List.length_set]; exact hmany
  · show RIn w2 T' (put k f' u.m) vL vs2; rw [hput]; exact hi2
theorem shape_of (h : RIn w T t.m vL vs) {i : Nat} (hi : i < t.m.length) : ∃ g cap A c, vL = .slice (some ⟨g, 0, none⟩) t.m.length cap ∧ vL.ownBlock = some g ∧ T g ∧ (∀ o, w.frozen? ⟨g, o, none⟩ = false) ∧ w.cell? ⟨g, i * 3 + 1, none⟩ = some (.slice A (t.m[i]).2.data.length c) ∧ w.cell? ⟨g, i * 3 + 2, none⟩ = some (.int .i64 ((t.m[i]).2.safe : Int)) ∧ (t.m[i]).2.data.length ≤ c ∧ c ≤ maxLen ∧ LiesT T w A (t.m[i]).2.data := by
  obtain ⟨g, cap, hv, _, _, _, hfz, hc⟩ := row_cell h.len h.own (by omega)
  obtain ⟨A, c, e1, e2, e3, e4⟩ := h.file i hi
  obtain ⟨_, hB, hS⟩ := hc i hi
  have hgb : vL.ownBlock = some g := by rw [hv]; rfl
  exact ⟨g, cap, A, c, hv, hgb, h.root g hgb, hfz, by rw [hB, e1], hS, e2, e3, e4⟩

theorem rsync_any (h : RefD w T r t) (hd : t.deeds < 1000000) :
    Calls Try.prog 38 #[.pointer (some ⟨r, 0, none⟩), .string name] w fun e w' => e = .returned (.int .i64 (syncD t name.data.toList).1) ∧ AfterR T r w (syncD t name.data.toList).2 w' := by
  have h_ := h
  have hfa := rfind_any (name := name) h (by omega)
  obtain ⟨gd, hm, hr, hl, vL, vs, ht, hi⟩ := h
  cases ho : t.off with
  | true =>
    rw [ho] at ht
    rw [syn_off ho]
    refine (rsync_off ht.c1).mono ?_
    rintro e w' ⟨rfl, rfl⟩
    exact ⟨rfl, AfterR.same h_⟩
  | false =>
    have ht0 := ht
    rw [ho] at ht
    rcases hfa with ⟨hg, hc⟩ | ⟨i, f, hil, hat, hg, hput, hc⟩
    · have hf : findD t name.data.toList = 21 := by unfold findD; rw [if_neg (by simp [ho]), hg]; rfl
      have e1 : syncD t name.data.toList = (21, t) := by unfold syncD; rw [hf, if_pos (by decide)]
      rw [e1]
      refine (rsync_miss ht.c1 hc).mono ?_
      rintro e w' ⟨rfl, rfl⟩
      exact ⟨rfl, AfterR.same h_⟩
    · have e1 : syncD t name.data.toList = ends (strike t) fun u => withFile u name.data.toList ⟨f.data, f.data.length⟩ := by
        unfold syncD; rw [find_zero ho hg, if_neg (by simp), fileOr_some hg]
      rw [e1]
      have hdd := rdeed_any ht0 gd (by omega)
      by_cases hf : t.fuse = 1
      · rw [decide_eq_true hf] at hdd
        rw [ends_hit (by rw [strike_hit hf]), strike_hit hf]
        refine rsync_hit (keep := t.keep) ht.c1 hc hdd (fun w1 hq => hq.2.c3) (fun w1 hq => ?_)
        refine (roff_any (ref_dd h_ ht0 hi hq.1 hq.2) (by show t.deeds + 1 ≤ _; omega) gd.keepLo gd.keepHi).mono ?_
        rintro e w' ⟨rfl, T2, hR, hu⟩
        exact ⟨rfl, T2, hR, (Upd.only hq.1 hr).trans hu⟩
      · rw [decide_eq_false hf] at hdd
        rw [ends_ok (by rw [strike_miss hf]), strike_miss hf]
        obtain ⟨g, cap, A, c, hv, hgb, hTg, hfz, hB, hS, e2, e3, e4⟩ := shape_of hi hil
        have hrg : r ≠ g := fun e => hi.ne ht (e ▸ hgb)
        refine (rsync_ok (i := i) (g := g) (n := t.m.length) (cap := cap) (l := (t.m[i]).2.data.length) (c := c) (s0 := ((t.m[i]).2.safe : Int)) (A := A) ht.c1 hc hdd hil (fun w1 hq => ?_)).mono ?_
        · have c0 := hq.2.c0
          rw [hv] at c0
          have hblk := hq.1.block g (Ne.symm hrg)
          exact ⟨c0, (World.cell?_of_block (a := ⟨g, i * 3 + 1, none⟩) hblk).trans hB, (World.cell?_of_block (a := ⟨g, i * 3 + 2, none⟩) hblk).trans hS, (World.frozen?_of_block (a := ⟨g, i * 3 + 2, none⟩) hblk).trans (hfz _)⟩
        · rintro e w' ⟨rfl, w1, ⟨hon, ht1⟩, rfl⟩
          have hi1 := hi.keepR ht0 hon
          have hS1 := (hi1.setS hil hgb (t.m[i]).2.data.length).drew
          have ho2 : Only g w1 (w1.setCell ⟨g, i * 3 + 2, none⟩ (.int .i64 ((t.m[i]).2.data.length : Nat))).drew := ((Only.refl _ _).setCell _ _).drew
          rw [hat] at hS1 ho2
          rw [hat]
          have hlg := gd.long _ (get_mem hg)
          have hR := ref_fin (u := dd t) (i := i) (f' := ⟨f.data, f.data.length⟩) (good_dd gd) (by show t.m.length ≤ t.deeds + 1; omega) (gd.names _ (get_mem hg)) (Nat.le_refl _) hlg (hput _) hr (fun b hb => by rw [ho2.size, hon.size]; exact hl b hb) (RTop.keep (by rw [ho] at ht1; exact ho ▸ ht1) (ho2.block r hrg)) hS1
          exact ⟨rfl, T, hR, (Upd.only hon hr).trans (Upd.only ho2 hTg)⟩

theorem rcut_any {n : Int} (h : RefD w T r t) (hd : t.deeds < 1000000) :
    Calls Try.prog 34 #[.pointer (some ⟨r, 0, none⟩), .string name, .int .i64 n] w fun e w' => e = .returned (.int .i64 (cutD t name.data.toList n).1) ∧ AfterR T r w (cutD t name.data.toList n).2 w' := by
  have h_ := h
  have hfa := rfind_any (name := name) h (by omega)
  obtain ⟨gd, hm, hr, hl, vL, vs, ht, hi⟩ := h
  cases ho : t.off with
  | true =>
    rw [ho] at ht
    rw [cut_offD ho]
    refine (rcut_off ht.c1).mono ?_
    rintro e w' ⟨rfl, rfl⟩
    exact ⟨rfl, AfterR.same h_⟩
  | false =>
    have ht0 := ht
    rw [ho] at ht
    rcases hfa with ⟨hg, hc⟩ | ⟨i, f, hil, hat, hg, hput, hc⟩
    · have hf : findD t name.data.toList = 21 := by unfold findD; rw [if_neg (by simp [ho]), hg]; rfl
      rw [cutD_err (by rw [hf]; decide), hf]
      refine (rcut_miss ht.c1 hc).mono ?_
      rintro e w' ⟨rfl, rfl⟩
      exact ⟨rfl, AfterR.same h_⟩
    · obtain ⟨g, cap, A, c, hv, hgb, hTg, hfz, hB, hS, e2, e3, e4⟩ := shape_of hi hil
      have hrg : r ≠ g := fun e => hi.ne ht (e ▸ hgb)
      have c0 := ht.c0
      rw [hv] at c0
      have hfo := fileOr_some hg
      have hz := find_zero ho hg
      rw [hat] at hB hS e2 e4
      by_cases hn : n < 0 ∨ (f.data.length : Int) < n
      · rw [cutD_arg hz (by rw [hfo]; exact hn)]
        refine (rcut_arg ht.c1 hc c0 hil hB hn).mono ?_
        rintro e w' ⟨rfl, rfl⟩
        exact ⟨rfl, AfterR.same h_⟩
      · rw [cutD_go hz (by rw [hfo]; exact hn), hfo]
        obtain ⟨k, rfl⟩ : ∃ k : Nat, n = (k : Int) := ⟨n.toNat, by omega⟩
        have hk : k ≤ f.data.length := by omega
        rw [Int.toNat_natCast]
        have hdd := rdeed_any ht0 gd (by omega)
        by_cases hf : t.fuse = 1
        · rw [decide_eq_true hf] at hdd
          rw [ends_hit (by rw [strike_hit hf]), strike_hit hf]
          refine rcut_hit (keep := t.keep) ht.c1 hc c0 hil hB hk hdd (fun w1 hq => hq.2.c3) (fun w1 hq => ?_)
          refine (roff_any (ref_dd h_ ht0 hi hq.1 hq.2) (by show t.deeds + 1 ≤ _; omega) gd.keepLo gd.keepHi).mono ?_
          rintro e w' ⟨rfl, T2, hR, hu⟩
          exact ⟨rfl, T2, hR, (Upd.only hq.1 hr).trans hu⟩
        · rw [decide_eq_false hf] at hdd
          rw [ends_ok (by rw [strike_miss hf]), strike_miss hf]
          refine (rcut_ok (i := i) (g := g) (n := t.m.length) (cap := cap) (l := f.data.length) (c := c) (k := k) (s0 := f.safe) (A := A) ht.c1 hc c0 hil hB hk e2 hrg hdd (fun w1 hq => ?_)).mono ?_
          · have c0' := hq.2.c0
            rw [hv] at c0'
            have hblk := hq.1.block g (Ne.symm hrg)
            exact ⟨c0', (World.cell?_of_block (a := ⟨g, i * 3 + 1, none⟩) hblk).trans hB, (World.cell?_of_block (a := ⟨g, i * 3 + 2, none⟩) hblk).trans hS, (World.frozen?_of_block (a := ⟨g, i * 3 + 1, none⟩) hblk).trans (hfz _), (World.frozen?_of_block (a := ⟨g, i * 3 + 2, none⟩) hblk).trans (hfz _)⟩
          · rintro e w' ⟨rfl, w1, ⟨hon, ht1⟩, rfl⟩
            have hi1 := hi.keepR ht0 hon
            have htl : (f.data.take k).length = k := by rw [List.length_take]; omega
            have e4' : LiesT T w1 A (f.data.take k) := (e4.take k).keep (fun _ h => h) (fun b cur fr _ hb => hon.block b (fun e => by unfold RTop at ht; rw [e, ht] at hb; simp at hb))
            have hB1 := hi1.setB hil hgb (A := A) (c := c) (d := f.data.take k) (by have : f.data.length ≤ c := e2; omega) e3 e4'
            have hil2 : i < (t.m.set i ((t.m[i]).1, ⟨f.data.take k, (t.m[i]).2.safe⟩)).length := by rw [List.length_set]; exact hil
            have hS1 := (hB1.setS hil2 hgb (min f.safe k)).drew.drew
            simp only [List.getElem_set_self, List.set_set] at hS1
            rw [htl, hat] at hS1
            rw [show ((min f.safe k : Nat) : Int) = min (f.safe : Int) (k : Int) by omega] at hS1
            have ho2 : Only g w1 ((w1.setCell ⟨g, i * 3 + 1, none⟩ (.slice A k c)).setCell ⟨g, i * 3 + 2, none⟩ (.int .i64 (min (f.safe : Int) (k : Int)))).drew.drew := (((Only.refl _ _).setCell _ _).setCell _ _).drew.drew
            have hlg := gd.long _ (get_mem hg)
            simp only at hlg
            have hR := ref_fin (u := dd t) (i := i) (f' := ⟨f.data.take k, min f.safe k⟩) (good_dd gd) (by show t.m.length ≤ t.deeds + 1; omega) (gd.names _ (get_mem hg)) (by show min f.safe k ≤ (f.data.take k).length; rw [htl]; omega) (by show (f.data.take k).length ≤ _; rw [htl]; omega) (hput _) hr (fun b hb => by rw [ho2.size, hon.size]; exact hl b hb) (RTop.keep (by rw [ho] at ht1; exact ho ▸ ht1) (ho2.block r hrg)) hS1
            exact ⟨rfl, T, hR, (Upd.only hon hr).trans (Upd.only ho2 hTg)⟩

/-- Read hands back the bytes where they lie. -/
theorem rread_any (h : RefD w T r t) (hd : t.deeds ≤ 1000000) :
    Calls Try.prog 33 #[.pointer (some ⟨r, 0, none⟩), .string name] w fun e w' => ∃ A c, e = .returned (.tuple #[.slice A (readD t name.data.toList).length c, .int .i64 (findD t name.data.toList)]) ∧ LiesT T w A (readD t name.data.toList) ∧ w = w' := by
  have hfa := rfind_any (name := name) h hd
  obtain ⟨gd, hm, hr, hl, vL, vs, ht, hi⟩ := h
  cases ho : t.off with
  | true =>
    rw [ho] at ht
    have e1 : readD t name.data.toList = [] := by unfold readD; rw [find_offD ho, if_pos (by decide)]
    rw [e1, find_offD ho]
    refine (rread_off ht.c1).mono ?_
    rintro e w' ⟨rfl, rfl⟩
    exact ⟨none, 0, rfl, LiesT.none_, rfl⟩
  | false =>
    rw [ho] at ht
    rcases hfa with ⟨hg, hc⟩ | ⟨i, f, hil, hat, hg, hput, hc⟩
    · have hf : findD t name.data.toList = 21 := by unfold findD; rw [if_neg (by simp [ho]), hg]; rfl
      have e1 : readD t name.data.toList = [] := by unfold readD; rw [hf, if_pos (by decide)]
      rw [e1, hf]
      refine (rread_miss ht.c1 hc).mono ?_
      rintro e w' ⟨rfl, rfl⟩
      exact ⟨none, 0, rfl, LiesT.none_, rfl⟩
    · obtain ⟨g, cap, A, c, hv, hgb, hTg, hfz, hB, hS, e2, e3, e4⟩ := shape_of hi hil
      have hz := find_zero ho hg
      have e1 : readD t name.data.toList = f.data := by unfold readD; rw [hz, if_neg (by decide), fileOr_some hg]
      rw [e1, hz]
      rw [hat] at hB e4
      have c0 := ht.c0
      rw [hv] at c0
      refine (rread_ok ht.c1 hc c0 hil hB).mono ?_
      rintro e w' ⟨rfl, rfl⟩
      exact ⟨A, c, rfl, e4, rfl⟩

theorem rarm_any {n keep : Int} (h : RefD w T r t) (hn2 : n ≤ 9223372036854775807) (hk1 : -9223372036854775808 ≤ keep) (hk2 : keep ≤ 9223372036854775807) :
    Calls Try.prog 16 #[.pointer (some ⟨r, 0, none⟩), .int .i64 n, .int .i64 keep] w fun e w' => e = .returned (.tuple #[]) ∧ AfterR T r w (armD t n keep) w' := by
  obtain ⟨gd, hm, hr, hl, vL, vs, ht, hi⟩ := h
  refine (rarm_cell ht.c2 ht.c3 (ht.fz 2) (ht.fz 3)).mono ?_
  rintro e w' ⟨rfl, rfl⟩
  have ho : Only r w ((w.setCell ⟨r, 2, none⟩ (.int .i64 (max n 0))).setCell ⟨r, 3, none⟩ (.int .i64 keep)) := ((Only.refl _ _).setCell _ _).setCell _ _
  refine ⟨rfl, T, ⟨⟨gd.sorted, gd.names, gd.safe, gd.long, by show n.toNat ≤ _; omega, hk1, hk2⟩, hm, hr, fun b hb => by rw [ho.size]; exact hl b hb, vL, vs, ?_, hi.keepR ht ho⟩, Upd.only ho hr⟩
  show RTop _ r vL t.off ((n.toNat : Nat) : Int) keep t.deeds
  rw [show ((n.toNat : Nat) : Int) = max n 0 by omega]
  exact (ht.set2 _).set3 _

end
end Go.Proofs.Ytkiombbdddbkfaa.Dk
