/-
  The document's comparison of plans says yes of two that are the same. Conditions: both lie in memory.
-/
import Derived.Test.YtogcickcodlepaaGreatDoorJP1
import Derived.Test.YtogcickcodlepaaGreatDoorJE2
import Derived.Deep.RegionHeld3
import Derived.Deep.CutRange
import Derived.Deep.DeepCutAuto
import Derived.BigRegion
import Derived.BigQuiet
import Derived.Deep.QuietTactic
namespace Go.Proofs.YtogcickcodlepaaGreatDoor.Pl
open Go.RowKit Go.Proofs.YtogcickcodlepaaGreatDoor.Ex

set_option maxRecDepth 20000 in
set_option maxHeartbeats 1000000 in
theorem sameSteps_yes {w : World} {a1 a2 : Option Addr} {n1 c1 n2 c2 : Nat} {L : List Stp} (h1 : StpsAt w (.slice a1 n1 c1) L) (h2 : StpsAt w (.slice a2 n2 c2) L) :
    Calls Tryz.prog 22 #[.slice a1 n1 c1, .slice a2 n2 c2] w fun e w' => e = .returned (.bool true) ∧ Below w.heap.size w w' := by
  obtain ⟨l1, m1, k1, j1⟩ := h1.1.len
  obtain ⟨l2, m2, k2, j2⟩ := h2.1.len
  have HL := Lib.hid l1
  obtain rfl : n2 = n1 := by omega
  have H1 := Lib.hid h1
  have H2 := Lib.hid h2
  have hm : n2 ≤ 9223372036854775807 := by unfold maxLen at k2; omega
  clear h1 h2 l1 l2
  go_enter Tryz.func22, Tryz.ntmps22
  go_wp2
  go_loopw [5] (fun i wr => ∃ k : Nat, k ≤ n2 ∧ i = .int .i64 k ∧ Hid (Below w.heap.size w wr)) (fun i _ => n2 - (intOf i).toNat)
  case atStart => exact ⟨0, Nat.zero_le _, rfl, Lib.hid (Below.refl _ _)⟩
  case round =>
    obtain ⟨k, hkn, rfl, hb⟩ := hrel
    by_cases hlt : k < n2
    · have hkl : k < L.length := by rw [← HL.out]; exact hlt
      obtain ⟨b, o, rfl, hbl, x0, x1, x2⟩ := (H1.out.grow hb.out).cells hkl
      obtain ⟨b', o', rfl, hbl', y0, y1, y2⟩ := (H2.out.grow hb.out).cells hkl
      generalize L[k] = s at x0 x1 x2 y0 y1 y2
      have g0 : (0 : Int) ≤ (k : Int) := by omega
      have g1 : (k : Int) < (n2 : Int) := by omega
      go_wp2
      go_region_held3 (fun X => X.cell? ⟨b, o + k * 3, none⟩ = some (.int .i64 s.kind) ∧ X.cell? ⟨b, o + k * 3 + 1, none⟩ = some (sv s.text) ∧ X.cell? ⟨b, o + k * 3 + 2, none⟩ = some (.int .i64 s.n) ∧ X.cell? ⟨b', o' + k * 3, none⟩ = some (.int .i64 s.kind) ∧ X.cell? ⟨b', o' + k * 3 + 1, none⟩ = some (sv s.text) ∧ X.cell? ⟨b', o' + k * 3 + 2, none⟩ = some (.int .i64 s.n)) (exact ⟨x0, x1, x2, y0, y1, y2⟩) (fail)
      all_goals go_wp2
      all_goals go_roundw
      case rel => exact ⟨k + 1, by omega, by go_num, Lib.hid (hb.out.trans (((Below.refl _ _).drew).mono hb.out.size))⟩
      case measure => simp [intOf]; omega
    · go_wp2
      go_ret
      exact ⟨rfl, hb.out⟩
theorem sameSteps_at {w : World} {v1 v2 : Value} {L : List Stp} (h1 : StpsAt w v1 L) (h2 : StpsAt w v2 L) :
    Calls Tryz.prog 22 #[v1, v2] w fun e w' => e = .returned (.bool true) ∧ Below w.heap.size w w' := by
  obtain ⟨a1, c1, rfl⟩ := h1.1.val
  obtain ⟨a2, c2, rfl⟩ := h2.1.val
  exact sameSteps_yes h1 h2
theorem map_at {es fs : List FE} (h : es.map FE.f = fs.map FE.f) {k : Nat} (hk : k < es.length) (hk2 : k < fs.length) : fs[k].f = es[k].f := by
  have := congrArg (fun l => l[k]?) h
  simp only [List.getElem?_map, List.getElem?_eq_getElem hk, List.getElem?_eq_getElem hk2, Option.map_some] at this
  injection this with this
  exact this.symm
set_option maxRecDepth 20000 in
set_option maxHeartbeats 4000000 in
theorem same_yes {w : World} {v1 v2 : Value} {p : Pln} (h1 : PlnAt w v1 p) (h2 : PlnAt w v2 p) :
    Calls Tryz.prog 12 #[v1, v2] w fun e w' => e = .returned (.bool true) ∧ Below w.heap.size w w' := by
  obtain ⟨vt, vf, es, rfl, ht, hf, he⟩ := h1
  obtain ⟨vt', vf', es', rfl, ht', hf', he'⟩ := h2
  obtain ⟨a1, c1, rfl⟩ := ht.val
  obtain ⟨a2, c2, rfl⟩ := ht'.val
  obtain ⟨b1, d1, rfl⟩ := hf.1.val
  obtain ⟨b2, d2, rfl⟩ := hf'.1.val
  have hlen : es'.length = es.length := by
    have := congrArg List.length (he.trans he'.symm); simpa using this.symm
  rw [hlen] at hf' ⊢
  obtain ⟨L, hL⟩ : ∃ L, p.tops = L := ⟨_, rfl⟩
  rw [hL] at ht ht' ⊢
  obtain ⟨-, -, k1, -⟩ := ht.len
  obtain ⟨-, -, k2, -⟩ := hf.1.len
  obtain ⟨n, hn⟩ : ∃ n, L.length = n := ⟨_, rfl⟩
  obtain ⟨m, hm⟩ : ∃ m, es.length = m := ⟨_, rfl⟩
  rw [hn] at ht ht' k1 ⊢
  rw [hm] at hf hf' hlen k2 ⊢
  have q1 : n ≤ 9223372036854775807 := by unfold maxLen at k1; omega
  have q2 : m ≤ 9223372036854775807 := by unfold maxLen at k2; omega
  have HN := Lib.hid hn
  have HM := Lib.hid hm
  have HM2 := Lib.hid hlen
  have HE := Lib.hid (he.trans he'.symm)
  have T1 := Lib.hid ht
  have T2 := Lib.hid ht'
  have F1 := Lib.hid hf
  have F2 := Lib.hid hf'
  have hb0 := ((Below.refl w.heap.size w).alloc (Nat.le_refl _) (.cells #[.slice a1 n c1, .slice b1 m d1] 25)).alloc (by simp) (.cells #[.slice a2 n c2, .slice b2 m d2] 25)
  obtain ⟨W0, hW0⟩ : ∃ W0, (w.alloc (.cells #[.slice a1 n c1, .slice b1 m d1] 25)).alloc (.cells #[.slice a2 n c2, .slice b2 m d2] 25) = W0 := ⟨_, rfl⟩
  have x1 : W0.heap[w.heap.size]? = some (.cells #[.slice a1 n c1, .slice b1 m d1] 25 (0, 0)) := by rw [← hW0]; exact (((Below.refl (w.alloc (.cells #[.slice a1 n c1, .slice b1 m d1] 25)).heap.size _).alloc (Nat.le_refl _) _).block _ (by simp)).trans (heap_alloc_new w _)
  have x2 : W0.heap[w.heap.size + 1]? = some (.cells #[.slice a2 n c2, .slice b2 m d2] 25 (0, 0)) := by rw [← hW0]; have := heap_alloc_new (w.alloc (.cells #[.slice a1 n c1, .slice b1 m d1] 25)) (.cells #[.slice a2 n c2, .slice b2 m d2] 25); rwa [World.size_alloc] at this
  rw [hW0] at hb0
  have X1 := Lib.hid x1
  have X2 := Lib.hid x2
  have HB0 := Lib.hid hb0
  have cx : ∀ W, Below W0.heap.size W0 W → W.cell? ⟨w.heap.size, 0, none⟩ = some (.slice a1 n c1) ∧ W.cell? ⟨w.heap.size, 1, none⟩ = some (.slice b1 m d1) ∧ W.cell? ⟨w.heap.size + 1, 0, none⟩ = some (.slice a2 n c2) ∧ W.cell? ⟨w.heap.size + 1, 1, none⟩ = some (.slice b2 m d2) := fun W hW => by
    have y1 : W.heap[w.heap.size]? = _ := (hW.block _ (lt_of_heap X1.out)).trans X1.out
    have y2 : W.heap[w.heap.size + 1]? = _ := (hW.block _ (lt_of_heap X2.out)).trans X2.out
    refine ⟨?_, ?_, ?_, ?_⟩
    · rw [cell_of_heap y1]; rfl
    · rw [cell_of_heap y1]; rfl
    · rw [cell_of_heap y2]; rfl
    · rw [cell_of_heap y2]; rfl
  have CX := Lib.hid cx
  clear ht ht' hf hf' he he' hn hm hL hlen hb0 x1 x2 cx k1 k2
  go_enter Tryz.func12, Tryz.ntmps12
  go_upto_region 1 with fail
  obtain ⟨z1, z2, z3, z4⟩ := CX.out W0 (Below.refl _ _)
  go_wp2
  clear z1 z2 z3 z4
  go_loopw [5] (fun i wr => ∃ k : Nat, k ≤ n ∧ i = .int .i64 k ∧ Hid (Below W0.heap.size W0 wr)) (fun i _ => n - (intOf i).toNat)
  case atStart => exact ⟨0, Nat.zero_le _, rfl, Lib.hid (Below.refl _ _)⟩
  case round =>
    obtain ⟨k, hkn, rfl, hb⟩ := hrel
    obtain ⟨z1, z2, z3, z4⟩ := CX.out wr hb.out
    by_cases hlt : k < n
    · have hkl : k < L.length := by rw [HN.out]; exact hlt
      have hB := HB0.out.trans (hb.out.mono HB0.out.size)
      obtain ⟨g, o, e1, hbl, x0, x1⟩ := (TopsAt.grow T1.out hB).cells hkl
      obtain ⟨g', o', e2, hbl', y0, y1⟩ := (TopsAt.grow T2.out hB).cells hkl
      generalize L[k] = s at x0 x1 y0 y1
      subst e1 e2
      clear hB hbl hbl'
      have g0 : (0 : Int) ≤ (k : Int) := by omega
      have g1 : (k : Int) < (n : Int) := by omega
      go_wp2
      go_region_held3 (fun X => X.cell? ⟨w.heap.size, 0, none⟩ = some (.slice (some ⟨g, o, none⟩) n c1) ∧ X.cell? ⟨w.heap.size + 1, 0, none⟩ = some (.slice (some ⟨g', o', none⟩) n c2) ∧ X.cell? ⟨g, o + k * 2, none⟩ = some (sv s.name) ∧ X.cell? ⟨g, o + k * 2 + 1, none⟩ = some (.int .i64 s.parts) ∧ X.cell? ⟨g', o' + k * 2, none⟩ = some (sv s.name) ∧ X.cell? ⟨g', o' + k * 2 + 1, none⟩ = some (.int .i64 s.parts)) (exact ⟨z1, z3, x0, x1, y0, y1⟩) (fail)
      all_goals go_wp2
      all_goals go_roundw
      case rel => exact ⟨k + 1, by omega, by go_num, Lib.hid (hb.out.trans (((Below.refl _ _).drew).mono hb.out.size))⟩
      case measure => simp [intOf]; omega
    · go_wp2
      rename World => wq
      clear z1 z2 z3 z4
      go_loopw [6, 7, 8] (fun i _ _ wr => ∃ k : Nat, k ≤ m ∧ i = .int .i64 k ∧ Hid (Below W0.heap.size W0 wr)) (fun i _ _ _ => m - (intOf i).toNat)
      case atStart => exact ⟨0, Nat.zero_le _, rfl, hb⟩
      case round =>
        clear hb
        obtain ⟨j, hjm, rfl, hb⟩ := hrel
        obtain ⟨z1, z2, z3, z4⟩ := CX.out wr hb.out
        by_cases hlt2 : j < m
        · have hk1 : j < es.length := by rw [HM.out]; exact hlt2
          have hk2 : j < es'.length := by rw [HM2.out]; exact hlt2
          have hB := HB0.out.trans (hb.out.mono HB0.out.size)
          have hm1 := ((F1.out.grow hB).2 _ (List.getElem_mem hk1))
          have hm2 := ((F2.out.grow hB).2 _ (List.getElem_mem hk2))
          have hff := map_at HE.out hk1 hk2
          obtain ⟨g, o, e1, hbl, x0, x1, x2, x3, x4, x5, x6, x7, x8, x9, x10, x11⟩ := (F1.out.grow hB).cells hk1
          obtain ⟨g', o', e2, hbl', y0, y1, y2, y3, y4, y5, y6, y7, y8, y9, y10, y11⟩ := (F2.out.grow hB).cells hk2
          generalize es'[j] = q' at hff hm2 y0 y1 y2 y3 y4 y5 y6 y7 y8 y9 y10 y11
          generalize es[j] = q at hff hm1 x0 x1 x2 x3 x4 x5 x6 x7 x8 x9 x10 x11
          obtain ⟨W1, hW1⟩ : ∃ W1, (wr.alloc (.cells (flwC q).toArray 43)).alloc (.cells (flwC q').toArray 43) = W1 := ⟨_, rfl⟩
          have bx1 : Box W1 wr.heap.size q := by rw [← hW1]; exact (Box.new wr q).grow ((Below.refl _ _).alloc (Nat.le_refl _) _)
          have bx2 : Box W1 (wr.heap.size + 1) q' := by rw [← hW1]; have := Box.new (wr.alloc (.cells (flwC q).toArray 43)) q'; rwa [World.size_alloc] at this
          have bw : Below wr.heap.size wr W1 := by rw [← hW1]; exact ((Below.refl _ _).alloc (Nat.le_refl _) _).alloc (by simp) _
          have hm1' := hm1.grow bw
          have hm2' := hm2.grow bw
          obtain ⟨f, pre1, post1⟩ := q
          obtain ⟨f', pre2, post2⟩ := q'
          dsimp only at hff
          subst hff
          subst e1 e2
          obtain ⟨u1, c5, e5⟩ := hm1.1.1.val
          obtain ⟨u2, c6, e6⟩ := hm1.2.1.val
          obtain ⟨u3, c7, e7⟩ := hm2.1.1.val
          obtain ⟨u4, c8, e8⟩ := hm2.2.1.val
          dsimp only at e5 e6 e7 e8
          subst e5 e6 e7 e8
          have g0 : (0 : Int) ≤ (j : Int) := by omega
          have g1 : (j : Int) < (m : Int) := by omega
          have P1 := Lib.hid hm1'.1
          have P2 := Lib.hid hm2'.1
          have Q1 := Lib.hid hm1'.2
          have Q2 := Lib.hid hm2'.2
          have BX1 := Lib.hid bx1
          have BX2 := Lib.hid bx2
          have BW := Lib.hid bw
          clear hB hm1 hm2 hm1' hm2' bx1 bx2 bw hbl
          dsimp only [flwC] at hW1
          have ne1 : w.heap.size + 1 < wr.heap.size := Nat.lt_of_lt_of_le (lt_of_heap X2.out) hb.out.size
          have ne2 : ¬ w.heap.size + 1 = wr.heap.size := Nat.ne_of_lt ne1
          have ne3 : ¬ g' = wr.heap.size := Nat.ne_of_lt hbl'
          obtain ⟨p0, p1, p2, p3, p4, p5, p6, p7, p8, p9, p10, p11⟩ := BX1.out.cells
          obtain ⟨t0, t1, t2, t3, t4, t5, t6, t7, t8, t9, t10, t11⟩ := BX2.out.cells
          go_wp2_with (first
            | (go_at_call 22; refine (sameSteps_at R1.out R2.out).mono ?_; rintro e w3 ⟨rfl, hb3⟩; have HB3 := Lib.hid hb3; clear hb3)
            | (go_at_call 22; refine (sameSteps_at P1.out P2.out).mono ?_; rintro e w2 ⟨rfl, hb2⟩; have HB2 := Lib.hid hb2; obtain ⟨-, -, -, -, -, -, -, -, -, -, -, r11⟩ := (BX1.out.grow hb2).cells; obtain ⟨-, -, -, -, -, -, -, -, -, -, -, s11⟩ := (BX2.out.grow hb2).cells; have R1 := Lib.hid (Q1.out.grow hb2); have R2 := Lib.hid (Q2.out.grow hb2); clear hb2))
          go_roundw
          case rel => exact ⟨j + 1, by omega, by go_num, Lib.hid (hb.out.trans ((BW.out.trans ((HB2.out.trans (HB3.out.mono HB2.out.size)).mono BW.out.size)).mono hb.out.size))⟩
          case measure => simp [intOf]; omega
        · go_wp2
          go_ret
          exact ⟨rfl, HB0.out.trans (hb.out.mono HB0.out.size)⟩
end Go.Proofs.YtogcickcodlepaaGreatDoor.Pl
