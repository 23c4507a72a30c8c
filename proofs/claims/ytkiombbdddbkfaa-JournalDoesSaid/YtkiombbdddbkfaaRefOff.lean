/-
  The document's Off, Sync, Cut, Read, Arm, Names of a whole disk. Conditions: it stands in memory, few deeds.
-/
import Derived.Test.YtkiombbdddbkfaaRefAny
namespace Go.Proofs.Ytkiombbdddbkfaa.Dk
open Go.RowKit Go.Proofs.Ytkiombbdddbkfaa.Pk

section
variable {w w1 : World} {T T' : Nat → Prop} {r g : Nat} {t : Ds} {m : List (Nm × Fl)} {vL : Value} {vs : List Value}
theorem RIn.kind (h : RIn w T m vL vs) (hg : vL.ownBlock = some g) : ∃ cur, w.heap[g]? = some (.cells cur 72 (0, 0)) := by
  rcases h.own.2 with ⟨hv, _⟩ | ⟨g', cap, cur, hv, _, hh, _⟩
  · rw [hv] at hg; cases hg
  · rw [hv] at hg
    have : g' = g := by simpa [Value.ownBlock] using hg
    exact ⟨cur, this ▸ hh⟩
theorem RIn.bytes (h : RIn w T m vL vs) (hg : vL.ownBlock = some g) (o : Nat) (u : Value) : ∀ b cur fr, T b → w.heap[b]? = some (.cells cur 5 fr) → (w.setCell ⟨g, o, none⟩ u).heap[b]? = w.heap[b]? := fun b cur fr _ hb => by
  obtain ⟨cur', hc⟩ := h.kind hg
  exact Below.heap_setCell _ _ _ _ (fun e => by simp only at e; rw [e, hc] at hb; simp at hb)
theorem RIn.setB {i : Nat} (h : RIn w T m vL vs) (hi : i < m.length) (hg : vL.ownBlock = some g) {A : Option Addr} {c : Nat} {d : List UInt8} (h1 : d.length ≤ c) (h2 : c ≤ maxLen) (hL : LiesT T w A d) :
    RIn (w.setCell ⟨g, i * 3 + 1, none⟩ (.slice A d.length c)) T (m.set i (m[i].1, ⟨d, m[i].2.safe⟩)) vL (vs.set i (.slice A d.length c)) := by
  refine h.upd (fun _ h => h) ?_ (h.bytes hg _ _) ⟨A, c, rfl, h1, h2, hL.keep (fun _ h => h) (fun b cur fr hb => h.bytes hg _ _ b cur fr hb)⟩
  rw [rowOf_setB i hi d _ h.len]
  exact own_set h.own hg
theorem RIn.setS {i : Nat} (h : RIn w T m vL vs) (hi : i < m.length) (hg : vL.ownBlock = some g) (q : Nat) : RIn (w.setCell ⟨g, i * 3 + 2, none⟩ (.int .i64 (q : Int))) T (m.set i (m[i].1, ⟨m[i].2.data, q⟩)) vL vs := by
  have hvs : vs.set i (vs[i]'(by rw [h.len]; exact hi)) = vs := by simp
  have := h.upd (T' := T) (i := i) (p' := (m[i].1, ⟨m[i].2.data, q⟩)) (v' := vs[i]'(by rw [h.len]; exact hi)) (w1 := w.setCell ⟨g, i * 3 + 2, none⟩ (.int .i64 (q : Int))) (fun _ h => h) (by rw [hvs, rowOf_setS i hi q h.len]; exact own_set h.own hg) (h.bytes hg _ _) (by
    obtain ⟨A, c, e1, e2, e3, e4⟩ := h.file i hi
    exact ⟨A, c, e1, e2, e3, e4.keep (fun _ h => h) (fun b cur fr hb => h.bytes hg _ _ b cur fr hb)⟩)
  rwa [hvs] at this
theorem RIn.drew (h : RIn w T m vL vs) : RIn w.drew T m vL vs := h.keep fun _ _ => rfl
theorem RTop.keep {off : Bool} {a b c : Int} (h : RTop w r vL off a b c) (hk : w1.heap[r]? = w.heap[r]?) : RTop w1 r vL off a b c := hk.trans h

def lostTo (keep : Int) (j : Nat) (m : List (Nm × Fl)) : List (Nm × Fl) := (m.take j).map (fun p => (p.1, lose keep p.2)) ++ m.drop j
theorem lostTo_zero (keep : Int) (m : List (Nm × Fl)) : lostTo keep 0 m = m := by simp [lostTo]
theorem lostTo_all (keep : Int) (m : List (Nm × Fl)) : lostTo keep m.length m = loseAll keep m := by simp [lostTo, loseAll]
theorem lostTo_length (keep : Int) (j : Nat) (m : List (Nm × Fl)) : (lostTo keep j m).length = m.length := by simp [lostTo]; omega
theorem lostTo_at (keep : Int) {j : Nat} {m : List (Nm × Fl)} (h : j < m.length) : (lostTo keep j m)[j]'(by rw [lostTo_length]; exact h) = m[j] := by
  simp only [lostTo]
  rw [List.getElem_append_right (by simp; omega)]
  simp [Nat.min_eq_left (Nat.le_of_lt h)]
theorem lostTo_succ (keep : Int) {j : Nat} {m : List (Nm × Fl)} (h : j < m.length) : lostTo keep (j + 1) m = (lostTo keep j m).set j (m[j].1, lose keep m[j].2) := by
  simp only [lostTo]
  rw [List.take_succ_eq_append_getElem h, List.map_append, List.set_append_right _ _ (by simp; omega)]
  rw [show j - ((m.take j).map fun p => (p.1, lose keep p.2)).length = 0 by simp; omega]
  rw [List.drop_eq_getElem_cons h, List.set_cons_zero, List.append_assoc]
  rfl

theorem roff_any {keep : Int} (h : RefD w T r t) (hd : t.deeds ≤ 1000000) (hk1 : -9223372036854775808 ≤ keep) (hk2 : keep ≤ 9223372036854775807) :
    Calls Try.prog 18 #[.pointer (some ⟨r, 0, none⟩), .int .i64 keep] w fun e w' => e = .returned (.tuple #[]) ∧ AfterR T r w (offD t keep) w' := by
  have h_ := h
  obtain ⟨gd, hm, hr, hl, vL, vs, ht, hi⟩ := h
  obtain ⟨A, cap, hv⟩ : ∃ A cap, vL = .slice A t.m.length cap := by
    rcases hi.own.2 with ⟨hv, h0⟩ | ⟨g, cap, cur, hv, _⟩
    · exact ⟨none, 0, by rw [hv, h0]⟩
    · exact ⟨_, cap, hv⟩
  have hgo := good_off gd keep
  have hlen : (offD t keep).m.length ≤ (offD t keep).deeds := by
    unfold offD; split
    · exact hm
    · show (loseAll keep t.m).length ≤ t.deeds; rw [length_loseAll]; exact hm
  have fin : ∀ (w2 : World) (vs2 : List Value), t.off = false → RTop w2 r vL false t.fuse t.keep t.deeds → RIn w2 T (loseAll keep t.m) vL vs2 → (∀ b, T b → b < w2.heap.size) → RefD (w2.setCell ⟨r, 1, none⟩ (.bool true)) T r (offD t keep) := fun w2 vs2 ho ht2 hi2 hl2 => by
    refine ⟨hgo, hlen, hr, fun b hb => by rw [size_setCell]; exact hl2 b hb, vL, vs2, ?_, ?_⟩
    · rw [offD_on ho]; exact ht2.set1 true
    · rw [offD_on ho]; exact hi2.keepR ht2 ((Only.refl _ _).setCell _ _)
  cases ho : t.off with
  | true =>
    rw [ho] at ht
    have c0 := ht.c0
    rw [hv] at c0
    refine (roff_off keep c0 ht.c1 (ht.fz 1) (by omega)).mono ?_
    rintro e w' ⟨rfl, rfl⟩
    have hon : Only r w (w.setCell ⟨r, 1, none⟩ (.bool true)) := (Only.refl _ _).setCell _ _
    refine ⟨rfl, T, ?_, Upd.only hon hr⟩
    rw [offD_off ho]
    exact ⟨gd, hm, hr, fun b hb => by rw [hon.size]; exact hl b hb, vL, vs, by rw [ho]; exact ht.set1 true, hi.keepR ht hon⟩
  | false =>
    rw [ho] at ht
    by_cases h0 : t.m.length = 0
    · have c0 := ht.c0
      rw [hv, h0] at c0
      refine (roff_none keep c0 ht.c1 (ht.fz 1)).mono ?_
      rintro e w' ⟨rfl, rfl⟩
      have hm0 : t.m = [] := List.eq_nil_of_length_eq_zero h0
      refine ⟨rfl, T, fin w vs ho ht (by rw [hm0] at hi ⊢; exact hi) hl, Upd.only ((Only.refl _ _).setCell _ _) hr⟩
    · obtain ⟨g, cap', hv', hcn, hcm, hgl, hfz, _⟩ := row_cell hi.len hi.own (by omega)
      have hgb : vL.ownBlock = some g := by rw [hv']; rfl
      have hrg : r ≠ g := fun e => hi.ne ht (e ▸ hgb)
      refine (roff_on (w := w) (r := r) (n := t.m.length) (cap := cap') (g := g) (keep := keep) (J := fun j wr => Only g w wr ∧ ∃ vs', RIn wr T (lostTo keep j t.m) vL vs') (by omega) hk1 hk2 hrg ⟨Only.refl _ _, vs, by rw [lostTo_zero]; exact hi⟩ ?_).mono ?_
      · rintro j wr ⟨hon, vs', hi'⟩
        have ht' : RTop wr r vL false t.fuse t.keep t.deeds := ht.keep (hon.block r hrg)
        have c0 := ht'.c0
        rw [hv'] at c0
        refine ⟨c0, ht'.c1, ht'.fz 1, fun hj => ?_⟩
        have hjl : j < (lostTo keep j t.m).length := by rw [lostTo_length]; exact hj
        obtain ⟨g2, cap2, hv2, _, _, _, hfz2, hc2⟩ := row_cell hi'.len hi'.own (by omega)
        obtain rfl : g2 = g := by
          rw [hv2] at hgb
          simpa [Value.ownBlock] using hgb
        obtain ⟨hcA, hcB, hcS⟩ := hc2 j hjl
        obtain ⟨A', c', e1, e2, e3, e4⟩ := hi'.file j hjl
        have hat := lostTo_at keep hj
        rw [hat] at hcS e1 e2 e4
        have hsafe := gd.safe _ (List.getElem_mem hj)
        have hlong := gd.long _ (List.getElem_mem hj)
        refine ⟨A', c', (t.m[j]).2.data.length, (t.m[j]).2.safe, hsafe, e2, hlong, by rw [hcB, e1], hcS, hfz2 _, hfz2 _, fun q hq => ?_⟩
        have hq' : q = keptOf keep (t.m[j]).2 := hq
        have hql : q ≤ (t.m[j]).2.data.length := by rw [hq']; exact kept_le keep _ hsafe
        have htl : ((t.m[j]).2.data.take q).length = q := by rw [List.length_take]; omega
        refine ⟨((hon.setCell _ _).setCell _ _).drew, vs'.set j (.slice A' q c'), ?_⟩
        have hB := hi'.setB hjl hgb (A := A') (c := c') (d := (t.m[j]).2.data.take q) (by omega) e3 (e4.take q)
        have hjl2 : j < ((lostTo keep j t.m).set j ((lostTo keep j t.m)[j].1, ⟨(t.m[j]).2.data.take q, (lostTo keep j t.m)[j].2.safe⟩)).length := by rw [List.length_set]; exact hjl
        have hS := hB.setS hjl2 hgb q
        simp only [List.getElem_set_self, List.set_set] at hS
        rw [htl, hat] at hS
        rw [lostTo_succ keep hj]
        have e9 : lose keep (t.m[j]).2 = ⟨(t.m[j]).2.data.take q, q⟩ := by unfold lose; rw [← hq']
        rw [e9]
        exact hS.drew
      · rintro e w' ⟨rfl, wr, ⟨hon, vs', hi'⟩, rfl⟩
        have ht' : RTop wr r vL false t.fuse t.keep t.deeds := ht.keep (hon.block r hrg)
        rw [lostTo_all] at hi'
        refine ⟨rfl, T, fin wr vs' ho ht' hi' (fun b hb => by rw [hon.size]; exact hl b hb), (Upd.only hon (hi.root g hgb)).trans (Upd.only ((Only.refl _ _).setCell _ _) hr)⟩
end
end Go.Proofs.Ytkiombbdddbkfaa.Dk
