/-
  The document's Of: what is kept of some values. Conditions: they lie in memory, no more than 1000, each an int.
-/
import Derived.Test.YtilakddhljbipaaAFold
import Derived.Deep.DeepCutAuto
namespace Go.Proofs.Ytilakddhljbipaa.Ag
set_option linter.unusedVariables false
set_option linter.unusedSimpArgs false
open Go.RowKit

/-- A round's memory: the record, the result's own, the value that is read. -/
structure OF (w : World) (b i : Nat) (x : Int) (X : World) (r : Ac) : Prop where
  a : AcAt X (w.heap.size + 1) r
  r : AcAt X w.heap.size zer
  c : X.cell? ⟨b, i, none⟩ = some (.int .i64 x)
  l : b < w.heap.size
  b : Below w.heap.size w X
theorem OF.facts {w X : World} {b i : Nat} {x : Int} {r : Ac} (h : OF w b i x X r) : X.cell? ⟨w.heap.size + 1, 0, none⟩ = some (.int .i64 r.c) ∧ X.cell? ⟨w.heap.size + 1, 1, none⟩ = some (.int .i64 r.s) ∧ X.cell? ⟨w.heap.size + 1, 2, none⟩ = some (.int .i64 r.mn) ∧ X.cell? ⟨w.heap.size + 1, 3, none⟩ = some (.int .i64 r.mx) ∧
    X.frozen? ⟨w.heap.size + 1, 0, none⟩ = false ∧ X.frozen? ⟨w.heap.size + 1, 1, none⟩ = false ∧ X.frozen? ⟨w.heap.size + 1, 2, none⟩ = false ∧ X.frozen? ⟨w.heap.size + 1, 3, none⟩ = false ∧ X.cell? ⟨b, i, none⟩ = some (.int .i64 x) := by
  obtain ⟨c0, c1, c2, c3⟩ := h.a.cells
  obtain ⟨d0, d1, d2, d3⟩ := h.a.free
  exact ⟨c0, c1, c2, c3, d0, d1, d2, d3, h.c⟩
theorem OF.grow {w X Y : World} {b i : Nat} {x : Int} {r : Ac} (h : OF w b i x X r) (hb : Below X.heap.size X Y) : OF w b i x Y r :=
  ⟨h.a.grow hb, h.r.grow hb, (hb.cell (p := ⟨b, i, none⟩) (Nat.lt_of_lt_of_le h.l h.b.size)).trans h.c, h.l, grow_below h.b hb⟩
theorem OF.quiet {w X : World} {b i : Nat} {x : Int} {r : Ac} (h : OF w b i x X r) (q : Nat) : OF w b i x (X.drewN q) r := h.grow (drewN_below X q)
theorem OF.put {w X : World} {b i j : Nat} {x v : Int} {r r' : Ac} (h : OF w b i x X r) (hr : (acC r).setIfInBounds j (.int .i64 v) = acC r') : OF w b i x (X.setCell ⟨w.heap.size + 1, j, none⟩ (.int .i64 v)) r' :=
  ⟨⟨by rw [heap_setCell_same X (w.heap.size + 1) j _ _ _ h.a.blk, hr]⟩, h.r.other (by simp only; omega) _, (World.cell?_setCell_other X _ _ _ (fun e => by injection e with e; have := h.l; omega)).trans h.c, h.l, h.b.setCell (p := ⟨w.heap.size + 1, j, none⟩) (by simp only; omega) _⟩
theorem OF.cnt {w X : World} {b i : Nat} {x c s mn mx : Int} (h : OF w b i x X ⟨c, s, mn, mx⟩) (v : Int) : OF w b i x (X.setCell ⟨w.heap.size + 1, 0, none⟩ (.int .i64 v)) ⟨v, s, mn, mx⟩ := h.put rfl
theorem OF.sum {w X : World} {b i : Nat} {x c s mn mx : Int} (h : OF w b i x X ⟨c, s, mn, mx⟩) (v : Int) : OF w b i x ((X.setCell ⟨w.heap.size + 1, 1, none⟩ (.int .i64 v)).drew) ⟨c, v, mn, mx⟩ := (h.put (r' := ⟨c, v, mn, mx⟩) rfl).grow (Below.refl _ _).drew
theorem OF.mn {w X : World} {b i : Nat} {x c s mn mx : Int} (h : OF w b i x X ⟨c, s, mn, mx⟩) (v : Int) : OF w b i x (X.setCell ⟨w.heap.size + 1, 2, none⟩ (.int .i64 v)) ⟨c, s, v, mx⟩ := h.put rfl
theorem OF.mx {w X : World} {b i : Nat} {x c s mn mx : Int} (h : OF w b i x X ⟨c, s, mn, mx⟩) (v : Int) : OF w b i x (X.setCell ⟨w.heap.size + 1, 3, none⟩ (.int .i64 v)) ⟨c, s, mn, v⟩ := h.put rfl
set_option maxRecDepth 20000 in
set_option maxHeartbeats 2000000 in
theorem rof_at {w : World} {a : Option Addr} {n c : Nat} {L : List Int} (h : IntsZ w (.slice a n c) L) (hn : n ≤ 1000) (hb : ∀ z ∈ L, I64 z) : Calls Try.prog 10 #[.slice a n c] w fun e w' => ∃ r, e = .returned (acV r) ∧ Is r L ∧ Below w.heap.size w w' := by
  obtain ⟨hnl, k1, k2, k3⟩ := Lst.len h
  unfold maxLen at k2 k3
  have HI := Lib.hid h
  have HN := Lib.hid hnl
  have HZ := Lib.hid hb
  clear h hnl hb k2 k3
  have hb0 := ((Below.refl w.heap.size w).alloc (Nat.le_refl _) (.cells (acC zer) 24)).alloc (by simp) (.cells (acC zer) 24)
  have HA0 := Lib.hid (ac_new (w.alloc (.cells (acC zer) 24)) zer)
  have HR0 := Lib.hid ((ac_new w zer).grow ((Below.refl _ _).alloc (Nat.le_refl _) (.cells (acC zer) 24)))
  have HB0 := Lib.hid hb0
  have hs : (w.alloc (.cells (acC zer) 24)).heap.size = w.heap.size + 1 := by simp
  rw [hs] at HA0
  clear hb0 hs
  go_enter Try.func10, Try.ntmps10
  go_wp2
  go_loopw [4] (fun z wr => ∃ (k : Nat) (r : Ac), k ≤ n ∧ z = .int .i64 k ∧ Hid (AcAt wr (w.heap.size + 1) r) ∧ Hid (AcAt wr w.heap.size zer) ∧ Hid (Is r (L.take k)) ∧ Hid (Below w.heap.size w wr)) (fun z _ => n - (intOf z).toNat)
  case atStart => exact ⟨0, zer, Nat.zero_le _, rfl, HA0, HR0, Lib.hid is_nil, HB0⟩
  case round =>
    clear HA0 HR0 HB0
    obtain ⟨k, r, hk, rfl, HA, HR, HS, HB⟩ := hrel
    rename World => wq
    by_cases hlt : k < n
    · have hkl : k < L.length := by rw [← HN.out]; exact hlt
      obtain ⟨b, o, ha, hbl, hcx⟩ := IntsZ.cell HI.out hkl
      subst ha
      obtain ⟨x, hx⟩ : ∃ x, L[k] = x := ⟨_, rfl⟩
      rw [hx] at hcx
      have hxi := HZ.out x (by rw [← hx]; exact List.getElem_mem hkl)
      have HN : Hid (Is (jn r (one x)) (L.take (k + 1))) := Lib.hid (by
        rw [take_next hkl hx]
        refine HS.out.join (is_one hxi) ?_
        rw [List.length_take]
        simp
        omega)
      have g0 : (0 : Int) ≤ (k : Int) := by omega
      have g1 : (k : Int) < (n : Int) := by omega
      have hc2 := (HB.out.cell (p := ⟨b, o + k, none⟩) hbl).trans hcx
      obtain ⟨rc, s, mn, mx⟩ := r
      have hrc : rc = (k : Int) := by
        have := HS.out.c
        rw [List.length_take] at this
        simp only at this
        omega
      subst hrc
      have hr0 : k = 0 → s = 0 := fun e => by
        have := HS.out.s
        rw [e] at this
        simp only [List.take_zero] at this
        rw [this]
        exact wr_in (n := 0) (by omega)
      have H1 : Hid (OF w b (o + k) x wq ⟨(k : Int), s, mn, mx⟩) := Lib.hid ⟨HA.out, HR.out, hc2, hbl, HB.out⟩
      clear hx hkl hcx hc2 HA HR HB HS
      by_cases hk0 : k = 0
      · subst hk0
        have hs0 := hr0 rfl
        subst hs0
        obtain ⟨s2, hs2⟩ : ∃ s2, x = s2 := ⟨_, rfl⟩
        have HR2 : Hid (jn ⟨((0 : Nat) : Int), 0, mn, mx⟩ (one x) = ⟨1, x, x, x⟩) := Lib.hid (by unfold jn; rw [if_pos (by simp), if_neg (by simp [one])]; rfl)
        unfold I64 at hxi
        clear hs2 s2 hr0
        have H0 : Hid (OF w b o x wq ⟨0, 0, mn, mx⟩) := H1
        clear H1
        have H1 := H0
        clear H0
        go_wp2
        obtain ⟨c0, c1, c2, c3, d0, d1, d2, d3, hcx⟩ := H1.out.facts
        go_quiet (fail)
        have H1q := Lib.hid (H1.out.quiet nq)
        clear c0 c1 c2 c3 d0 d1 d2 d3 hcx
        clear H1
        generalize World.drewN wq nq = wqq at H1q ⊢
        obtain ⟨c0, c1, c2, c3, d0, d1, d2, d3, hcx⟩ := H1q.out.facts
        go_upto_region 7 with (fail)
        have H2 := Lib.hid (H1q.out.mn x)
        clear c0 c1 c2 c3 d0 d1 d2 d3 hcx
        clear H1q
        generalize World.setCell wqq ⟨w.heap.size + 1, 2, none⟩ (.int .i64 x) = w2 at H2 ⊢
        obtain ⟨c0, c1, c2, c3, d0, d1, d2, d3, hcx⟩ := H2.out.facts
        go_quiet (fail)
        have H2q := Lib.hid (H2.out.quiet nq)
        clear c0 c1 c2 c3 d0 d1 d2 d3 hcx
        clear H2
        generalize World.drewN w2 nq = w2q at H2q ⊢
        obtain ⟨c0, c1, c2, c3, d0, d1, d2, d3, hcx⟩ := H2q.out.facts
        go_upto_region 9 with (fail)
        have H3 := Lib.hid (H2q.out.mx x)
        clear c0 c1 c2 c3 d0 d1 d2 d3 hcx
        clear H2q
        generalize World.setCell w2q ⟨w.heap.size + 1, 3, none⟩ (.int .i64 x) = w4 at H3 ⊢
        obtain ⟨c0, c1, c2, c3, d0, d1, d2, d3, hcx⟩ := H3.out.facts
        go_upto_region 10 with (fail)
        have H4 := Lib.hid (H3.out.cnt (1))
        clear c0 c1 c2 c3 d0 d1 d2 d3 hcx
        clear H3
        generalize World.setCell w4 ⟨w.heap.size + 1, 0, none⟩ (.int .i64 (1)) = w6 at H4 ⊢
        obtain ⟨c0, c1, c2, c3, d0, d1, d2, d3, hcx⟩ := H4.out.facts
        go_region
        have H5 := Lib.hid (H4.out.sum x)
        have HN2 : Hid (Is ⟨1, x, x, x⟩ (L.take (0 + 1))) := Lib.hid (by have := HN.out; rwa [HR2.out] at this)
        clear H4
        go_wp2
        go_roundw
        case rel => exact ⟨0 + 1, ⟨1, x, x, x⟩, by omega, by go_num, Lib.hid (H5.out.a), Lib.hid H5.out.r, HN2, Lib.hid H5.out.b⟩
        case measure => simp [intOf]; omega
      · skip
        have hs2 : IntKind.i64.wrap (s + x) = wr (s + x) := rfl
        obtain ⟨s2, hs2'⟩ : ∃ s2, wr (s + x) = s2 := ⟨_, rfl⟩
        rw [hs2'] at hs2
        have e0 : ((k : Int) == 0) = false := ibne (by omega)
        have HJ : Hid (jn ⟨(k : Int), s, mn, mx⟩ (one x) = ⟨(k : Int) + 1, s2, min mn x, max mx x⟩) := Lib.hid (by
          unfold jn
          rw [if_neg (by simp only; omega), if_neg (by simp [one]), ← hs2']
          show (⟨wr ((k : Int) + 1), _, _, _⟩ : Ac) = _
          rw [wr_in (by omega)]
          rfl)
        unfold I64 at hxi
        clear hs2' hr0
        by_cases hm1 : x < mn
        · by_cases hm2 : mx < x
          · have HR2 : Hid (jn ⟨(k : Int), s, mn, mx⟩ (one x) = ⟨(k : Int) + 1, s2, x, x⟩) := Lib.hid (by rw [HJ.out, show min mn x = x by omega, show max mx x = x by omega])
            go_wp2
            obtain ⟨c0, c1, c2, c3, d0, d1, d2, d3, hcx⟩ := H1.out.facts
            go_quiet (fail)
            have H1q := Lib.hid (H1.out.quiet nq)
            clear c0 c1 c2 c3 d0 d1 d2 d3 hcx
            clear H1
            generalize World.drewN wq nq = wqq at H1q ⊢
            obtain ⟨c0, c1, c2, c3, d0, d1, d2, d3, hcx⟩ := H1q.out.facts
            go_upto_region 7 with (fail)
            have H2 := Lib.hid (H1q.out.mn x)
            clear c0 c1 c2 c3 d0 d1 d2 d3 hcx
            clear H1q
            generalize World.setCell wqq ⟨w.heap.size + 1, 2, none⟩ (.int .i64 x) = w2 at H2 ⊢
            obtain ⟨c0, c1, c2, c3, d0, d1, d2, d3, hcx⟩ := H2.out.facts
            go_quiet (fail)
            have H2q := Lib.hid (H2.out.quiet nq)
            clear c0 c1 c2 c3 d0 d1 d2 d3 hcx
            clear H2
            generalize World.drewN w2 nq = w2q at H2q ⊢
            obtain ⟨c0, c1, c2, c3, d0, d1, d2, d3, hcx⟩ := H2q.out.facts
            go_upto_region 9 with (fail)
            have H3 := Lib.hid (H2q.out.mx x)
            clear c0 c1 c2 c3 d0 d1 d2 d3 hcx
            clear H2q
            generalize World.setCell w2q ⟨w.heap.size + 1, 3, none⟩ (.int .i64 x) = w4 at H3 ⊢
            obtain ⟨c0, c1, c2, c3, d0, d1, d2, d3, hcx⟩ := H3.out.facts
            go_upto_region 10 with (fail)
            have H4 := Lib.hid (H3.out.cnt ((k : Int) + 1))
            clear c0 c1 c2 c3 d0 d1 d2 d3 hcx
            clear H3
            generalize World.setCell w4 ⟨w.heap.size + 1, 0, none⟩ (.int .i64 ((k : Int) + 1)) = w6 at H4 ⊢
            obtain ⟨c0, c1, c2, c3, d0, d1, d2, d3, hcx⟩ := H4.out.facts
            go_region
            have H5 := Lib.hid (H4.out.sum s2)
            have HN2 : Hid (Is ⟨(k : Int) + 1, s2, x, x⟩ (L.take (k + 1))) := Lib.hid (by have := HN.out; rwa [HR2.out] at this)
            clear H4
            go_wp2
            go_roundw
            case rel => exact ⟨k + 1, ⟨(k : Int) + 1, s2, x, x⟩, by omega, by go_num, Lib.hid (H5.out.a), Lib.hid H5.out.r, HN2, Lib.hid H5.out.b⟩
            case measure => simp [intOf]; omega
          · have HR2 : Hid (jn ⟨(k : Int), s, mn, mx⟩ (one x) = ⟨(k : Int) + 1, s2, x, mx⟩) := Lib.hid (by rw [HJ.out, show min mn x = x by omega, show max mx x = mx by omega])
            go_wp2
            obtain ⟨c0, c1, c2, c3, d0, d1, d2, d3, hcx⟩ := H1.out.facts
            go_quiet (fail)
            have H1q := Lib.hid (H1.out.quiet nq)
            clear c0 c1 c2 c3 d0 d1 d2 d3 hcx
            clear H1
            generalize World.drewN wq nq = wqq at H1q ⊢
            obtain ⟨c0, c1, c2, c3, d0, d1, d2, d3, hcx⟩ := H1q.out.facts
            go_upto_region 7 with (fail)
            have H2 := Lib.hid (H1q.out.mn x)
            clear c0 c1 c2 c3 d0 d1 d2 d3 hcx
            clear H1q
            generalize World.setCell wqq ⟨w.heap.size + 1, 2, none⟩ (.int .i64 x) = w2 at H2 ⊢
            obtain ⟨c0, c1, c2, c3, d0, d1, d2, d3, hcx⟩ := H2.out.facts
            go_quiet (fail)
            have H2q := Lib.hid (H2.out.quiet nq)
            clear c0 c1 c2 c3 d0 d1 d2 d3 hcx
            clear H2
            generalize World.drewN w2 nq = w2q at H2q ⊢
            obtain ⟨c0, c1, c2, c3, d0, d1, d2, d3, hcx⟩ := H2q.out.facts
            go_upto_region 9 with (fail)
            have H3 := H2q
            clear c0 c1 c2 c3 d0 d1 d2 d3 hcx
            clear H2q
            obtain ⟨c0, c1, c2, c3, d0, d1, d2, d3, hcx⟩ := H3.out.facts
            go_upto_region 10 with (fail)
            have H4 := Lib.hid (H3.out.cnt ((k : Int) + 1))
            clear c0 c1 c2 c3 d0 d1 d2 d3 hcx
            clear H3
            generalize World.setCell w2q ⟨w.heap.size + 1, 0, none⟩ (.int .i64 ((k : Int) + 1)) = w6 at H4 ⊢
            obtain ⟨c0, c1, c2, c3, d0, d1, d2, d3, hcx⟩ := H4.out.facts
            go_region
            have H5 := Lib.hid (H4.out.sum s2)
            have HN2 : Hid (Is ⟨(k : Int) + 1, s2, x, mx⟩ (L.take (k + 1))) := Lib.hid (by have := HN.out; rwa [HR2.out] at this)
            clear H4
            go_wp2
            go_roundw
            case rel => exact ⟨k + 1, ⟨(k : Int) + 1, s2, x, mx⟩, by omega, by go_num, Lib.hid (H5.out.a), Lib.hid H5.out.r, HN2, Lib.hid H5.out.b⟩
            case measure => simp [intOf]; omega
        · by_cases hm2 : mx < x
          · have HR2 : Hid (jn ⟨(k : Int), s, mn, mx⟩ (one x) = ⟨(k : Int) + 1, s2, mn, x⟩) := Lib.hid (by rw [HJ.out, show min mn x = mn by omega, show max mx x = x by omega])
            go_wp2
            obtain ⟨c0, c1, c2, c3, d0, d1, d2, d3, hcx⟩ := H1.out.facts
            go_quiet (fail)
            have H1q := Lib.hid (H1.out.quiet nq)
            clear c0 c1 c2 c3 d0 d1 d2 d3 hcx
            clear H1
            generalize World.drewN wq nq = wqq at H1q ⊢
            obtain ⟨c0, c1, c2, c3, d0, d1, d2, d3, hcx⟩ := H1q.out.facts
            go_upto_region 7 with (fail)
            have H2 := H1q
            clear c0 c1 c2 c3 d0 d1 d2 d3 hcx
            clear H1q
            obtain ⟨c0, c1, c2, c3, d0, d1, d2, d3, hcx⟩ := H2.out.facts
            go_quiet (fail)
            have H2q := Lib.hid (H2.out.quiet nq)
            clear c0 c1 c2 c3 d0 d1 d2 d3 hcx
            clear H2
            generalize World.drewN wqq nq = wqqq at H2q ⊢
            obtain ⟨c0, c1, c2, c3, d0, d1, d2, d3, hcx⟩ := H2q.out.facts
            go_upto_region 9 with (fail)
            have H3 := Lib.hid (H2q.out.mx x)
            clear c0 c1 c2 c3 d0 d1 d2 d3 hcx
            clear H2q
            generalize World.setCell wqqq ⟨w.heap.size + 1, 3, none⟩ (.int .i64 x) = w4 at H3 ⊢
            obtain ⟨c0, c1, c2, c3, d0, d1, d2, d3, hcx⟩ := H3.out.facts
            go_upto_region 10 with (fail)
            have H4 := Lib.hid (H3.out.cnt ((k : Int) + 1))
            clear c0 c1 c2 c3 d0 d1 d2 d3 hcx
            clear H3
            generalize World.setCell w4 ⟨w.heap.size + 1, 0, none⟩ (.int .i64 ((k : Int) + 1)) = w6 at H4 ⊢
            obtain ⟨c0, c1, c2, c3, d0, d1, d2, d3, hcx⟩ := H4.out.facts
            go_region
            have H5 := Lib.hid (H4.out.sum s2)
            have HN2 : Hid (Is ⟨(k : Int) + 1, s2, mn, x⟩ (L.take (k + 1))) := Lib.hid (by have := HN.out; rwa [HR2.out] at this)
            clear H4
            go_wp2
            go_roundw
            case rel => exact ⟨k + 1, ⟨(k : Int) + 1, s2, mn, x⟩, by omega, by go_num, Lib.hid (H5.out.a), Lib.hid H5.out.r, HN2, Lib.hid H5.out.b⟩
            case measure => simp [intOf]; omega
          · have HR2 : Hid (jn ⟨(k : Int), s, mn, mx⟩ (one x) = ⟨(k : Int) + 1, s2, mn, mx⟩) := Lib.hid (by rw [HJ.out, show min mn x = mn by omega, show max mx x = mx by omega])
            go_wp2
            obtain ⟨c0, c1, c2, c3, d0, d1, d2, d3, hcx⟩ := H1.out.facts
            go_quiet (fail)
            have H1q := Lib.hid (H1.out.quiet nq)
            clear c0 c1 c2 c3 d0 d1 d2 d3 hcx
            clear H1
            generalize World.drewN wq nq = wqq at H1q ⊢
            obtain ⟨c0, c1, c2, c3, d0, d1, d2, d3, hcx⟩ := H1q.out.facts
            go_upto_region 7 with (fail)
            have H2 := H1q
            clear c0 c1 c2 c3 d0 d1 d2 d3 hcx
            clear H1q
            obtain ⟨c0, c1, c2, c3, d0, d1, d2, d3, hcx⟩ := H2.out.facts
            go_quiet (fail)
            have H2q := Lib.hid (H2.out.quiet nq)
            clear c0 c1 c2 c3 d0 d1 d2 d3 hcx
            clear H2
            generalize World.drewN wqq nq = wqqq at H2q ⊢
            obtain ⟨c0, c1, c2, c3, d0, d1, d2, d3, hcx⟩ := H2q.out.facts
            go_upto_region 9 with (fail)
            have H3 := H2q
            clear c0 c1 c2 c3 d0 d1 d2 d3 hcx
            clear H2q
            obtain ⟨c0, c1, c2, c3, d0, d1, d2, d3, hcx⟩ := H3.out.facts
            go_upto_region 10 with (fail)
            have H4 := Lib.hid (H3.out.cnt ((k : Int) + 1))
            clear c0 c1 c2 c3 d0 d1 d2 d3 hcx
            clear H3
            generalize World.setCell wqqq ⟨w.heap.size + 1, 0, none⟩ (.int .i64 ((k : Int) + 1)) = w6 at H4 ⊢
            obtain ⟨c0, c1, c2, c3, d0, d1, d2, d3, hcx⟩ := H4.out.facts
            go_region
            have H5 := Lib.hid (H4.out.sum s2)
            have HN2 : Hid (Is ⟨(k : Int) + 1, s2, mn, mx⟩ (L.take (k + 1))) := Lib.hid (by have := HN.out; rwa [HR2.out] at this)
            clear H4
            go_wp2
            go_roundw
            case rel => exact ⟨k + 1, ⟨(k : Int) + 1, s2, mn, mx⟩, by omega, by go_num, Lib.hid (H5.out.a), Lib.hid H5.out.r, HN2, Lib.hid H5.out.b⟩
            case measure => simp [intOf]; omega
    · have HQ : Hid (Is r L) := Lib.hid (by
        have := HS.out
        rwa [List.take_of_length_le (by rw [← HN.out]; omega)] at this)
      obtain ⟨c0, c1, c2, c3⟩ := HA.out.cells
      obtain ⟨d0, d1, d2, d3⟩ := HR.out.free
      obtain ⟨e0, e1, e2, e3⟩ := HR.out.cells
      have HB4 := Lib.hid (below_stored HB.out (b := w.heap.size) (Nat.le_refl _) r)
      obtain ⟨q0, q1, q2, q3⟩ := (HR.out.store r).cells
      clear HS
      go_wp2
      refine bodyPost_ret (v := acV r) (by simp [results, Try.results10, go_sem, q0, q1, q2, q3]) rfl ⟨r, rfl, HQ.out, HB4.out⟩
end Go.Proofs.Ytilakddhljbipaa.Ag
