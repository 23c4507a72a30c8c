/-
  The document's Put: a span among merged ones. Conditions: the spans lie in memory, at most 4096 of them.
-/
import Derived.Test.YtfkdkcdknpjoeaaWSmall
import Derived.Test.YtfkdkcdknpjoeaaWApp
import Derived.Deep.DeepCutAuto
namespace Go.Proofs.Ytfkdkcdknpjoeaa.Wi
set_option linter.unusedVariables false
set_option linter.unusedSimpArgs false
open Go.RowKit

theorem run_min_z (a b : Int) (ts : Array TypeId) (t : TypeId) (W : World) : (Builtin.min_ ts t #[.int .i64 a, .int .i64 b]).run Try.prog W = .ok (.int .i64 (min a b)) W := by
  rw [run_min_int2]
  congr 2
  split <;> omega
theorem run_max_z (a b : Int) (ts : Array TypeId) (t : TypeId) (W : World) : (Builtin.max_ ts t #[.int .i64 a, .int .i64 b]).run Try.prog W = .ok (.int .i64 (max a b)) W := by
  rw [run_max_int2]
  congr 2
  split <;> omega
attribute [local go_sem ↓] run_min_z run_max_z
theorem grown_next {s : Sp} {L : List Sp} {k : Nat} (hk : k < L.length) {x : Sp} (hx : L[k] = x) : grown s (L.take (k + 1)) = if share x (grown s (L.take k)) = true then hull x (grown s (L.take k)) else grown s (L.take k) := by
  rw [List.take_succ_eq_append_getElem hk, hx, grown_snoc]
theorem take_drop_while {P : Sp → Bool} : ∀ {L : List Sp} {k : Nat}, k ≤ L.length → (∀ i (hi : i < L.length), i < k → P L[i] = true) → (∀ hk : k < L.length, P L[k] = false) → L.takeWhile P = L.take k ∧ L.dropWhile P = L.drop k
  | [], k, hk, _, _ => by
    have : k = 0 := by simpa using hk
    subst this
    exact ⟨rfl, rfl⟩
  | a :: r, 0, _, _, h2 => by
    have := h2 (by simp)
    simp only [List.getElem_cons_zero] at this
    rw [List.takeWhile_cons, List.dropWhile_cons, this]
    exact ⟨rfl, rfl⟩
  | a :: r, k + 1, hk, h1, h2 => by
    have ha := h1 0 (by simp) (by omega)
    simp only [List.getElem_cons_zero] at ha
    obtain ⟨e1, e2⟩ := take_drop_while (P := P) (L := r) (k := k) (by simpa using hk) (fun i hi hik => by
      have := h1 (i + 1) (by simpa using hi) (by omega)
      simpa using this) (fun hk' => by
      have := h2 (by simpa using hk')
      simpa using this)
    rw [List.takeWhile_cons, List.dropWhile_cons, ha]
    simp only [if_true, List.take_succ_cons, List.drop_succ_cons, e1, e2]
    exact ⟨trivial, trivial⟩
/-- The span's own box. -/
structure SB (w : World) (B : Nat) (s : Sp) : Prop where
  blk : w.heap[B]? = some (.cells #[.int .i64 s.1, .int .i64 s.2] 34 (0, 0))
theorem SB.cells {w : World} {B : Nat} {s : Sp} (h : SB w B s) : w.cell? ⟨B, 0, none⟩ = some (.int .i64 s.1) ∧ w.cell? ⟨B, 1, none⟩ = some (.int .i64 s.2) ∧ w.frozen? ⟨B, 0, none⟩ = false ∧ w.frozen? ⟨B, 1, none⟩ = false := by
  refine ⟨?_, ?_, free_of_heap h.blk 0, free_of_heap h.blk 1⟩
  · rw [cell_of_heap h.blk]; rfl
  · rw [cell_of_heap h.blk]; rfl
theorem SB.grow {w w' : World} {B : Nat} {s : Sp} (h : SB w B s) (hb : Below w.heap.size w w') : SB w' B s := ⟨by rw [hb.block B (lt_of_heap h.blk)]; exact h.blk⟩
theorem SB.set0 {w : World} {B : Nat} {s : Sp} (h : SB w B s) (z : Int) : SB (w.setCell ⟨B, 0, none⟩ (.int .i64 z)) B (z, s.2) := ⟨by rw [heap_setCell_same w B 0 _ _ _ h.blk]; rfl⟩
theorem SB.set1 {w : World} {B : Nat} {s : Sp} (h : SB w B s) (z : Int) : SB (w.setCell ⟨B, 1, none⟩ (.int .i64 z)) B (s.1, z) := ⟨by rw [heap_setCell_same w B 1 _ _ _ h.blk]; rfl⟩
theorem below_grown {W w w' : World} {r : Option Nat} (hB : Below W.heap.size W w) (hb : ∀ k, r = some k → W.heap.size ≤ k) (hg : w.grownBy w' r) : Below W.heap.size W w' := hB.grown hg hB.size hb
theorem SB.append {w w' : World} {B : Nat} {s : Sp} {r : Option Nat} (h : SB w B s) (hr : r ≠ some B) (hg : w.grownBy w' r) : SB w' B s := ⟨by rw [hg.block B (lt_of_heap h.blk) (fun e => hr e.symm)]; exact h.blk⟩
theorem not_box {w : World} {B : Nat} {e : TypeId} {size : Nat} {v : Value} {n : Nat} {xs : List Value} (h : w.ownsRow (B + 1) e size v n xs) : v.ownBlock ≠ some B := fun e => absurd (h.lt B e).1 (by omega)
theorem ownsRow_mono {w : World} {B B' : Nat} {e : TypeId} {size : Nat} {v : Value} {n : Nat} {xs : List Value} (h : w.ownsRow B' e size v n xs) (hb : B ≤ B') : w.ownsRow B e size v n xs := by
  refine ⟨h.1, ?_⟩
  rcases h.2 with h1 | ⟨g, cap, cur, h1, h2, h3⟩
  · exact .inl h1
  · exact .inr ⟨g, cap, cur, h1, by omega, h3⟩
theorem filt_next {P : Sp → Bool} {L : List Sp} {k i : Nat} (hki : k ≤ i) (hi : i < L.length) {x : Sp} (hx : L[i] = x) : ((L.drop k).take (i + 1 - k)).filter P = ((L.drop k).take (i - k)).filter P ++ (if P x = true then [x] else []) := by
  have h1 : i - k < (L.drop k).length := by rw [List.length_drop]; omega
  rw [show i + 1 - k = i - k + 1 by omega, List.take_succ_eq_append_getElem h1, List.filter_append]
  have h2 : (L.drop k)[i - k] = x := by rw [List.getElem_drop, ← hx]; congr 1; omega
  rw [h2]
  cases hp : P x <;> simp [hp]
theorem stay4 {W X : World} {b1 o1 b2 : Nat} {u0 u1 u2 u3 : Value} (hl1 : b1 < W.heap.size) (hl2 : b2 < W.heap.size) (h0 : W.cell? ⟨b1, o1, none⟩ = some u0) (h1 : W.cell? ⟨b1, o1 + 1, none⟩ = some u1) (h2 : W.cell? ⟨b2, 0, none⟩ = some u2) (h3 : W.cell? ⟨b2, 1, none⟩ = some u3) (hb : Below W.heap.size W X) :
    X.cell? ⟨b1, o1, none⟩ = some u0 ∧ X.cell? ⟨b1, o1 + 1, none⟩ = some u1 ∧ X.cell? ⟨b2, 0, none⟩ = some u2 ∧ X.cell? ⟨b2, 1, none⟩ = some u3 ∧ Hid (Below W.heap.size W X) :=
  ⟨(hb.cell (p := ⟨b1, o1, none⟩) hl1).trans h0, (hb.cell (p := ⟨b1, o1 + 1, none⟩) hl1).trans h1, (hb.cell (p := ⟨b2, 0, none⟩) hl2).trans h2, (hb.cell (p := ⟨b2, 1, none⟩) hl2).trans h3, Lib.hid hb⟩
set_option maxRecDepth 20000 in
set_option maxHeartbeats 4000000 in
theorem rput_at {w : World} {v : Value} {L : List Sp} (h : SpansAt w v L) (hlen : L.length ≤ 4096) (s : Sp) {M : List Sp} (hM : put L s = M) : Calls Try.prog 30 #[v, spV s] w fun e w' => ∃ v', e = .returned v' ∧ w'.ownsRow w.heap.size 34 2 v' M.length (scs M) ∧ Below w.heap.size w w' := by
  obtain ⟨a, c, rfl⟩ := h.val
  obtain ⟨-, k1, k2, k3⟩ := h.len
  unfold maxLen at k2 k3
  obtain ⟨n, hn⟩ : ∃ n, L.length = n := ⟨_, rfl⟩
  rw [hn] at h k1 k2 hlen ⊢
  obtain ⟨W0, hW0⟩ : ∃ W0, w.alloc (.cells #[.int .i64 s.1, .int .i64 s.2] 34) = W0 := ⟨_, rfl⟩
  obtain ⟨B, hB⟩ : ∃ B, w.heap.size = B := ⟨_, rfl⟩
  have hsb : SB W0 B s := ⟨by rw [← hW0, ← hB]; exact heap_alloc_new w _⟩
  have hb0 : Below w.heap.size w W0 := by rw [← hW0]; exact (Below.refl _ _).alloc (Nat.le_refl _) _
  have HI := Lib.hid h
  have HN := Lib.hid hn
  have HM := Lib.hid hM
  have HS0 : Hid (SB W0 B (grown s (L.take 0))) := Lib.hid hsb
  have HB0 := Lib.hid hb0
  have HBB := Lib.hid hB
  clear h hn hM hsb hb0 k2
  go_enter Try.func30, Try.ntmps30
  go_wp2
  try rw [hW0]
  try rw [hB]
  clear hW0 hB
  go_loopw [6] (fun z wr => ∃ k : Nat, k ≤ n ∧ z = .int .i64 k ∧ Hid (SB wr B (grown s (L.take k))) ∧ Hid (Below w.heap.size w wr)) (fun z _ => n - (intOf z).toNat)
  case atStart => exact ⟨0, Nat.zero_le _, rfl, HS0, HB0⟩
  case round =>
    clear HS0 HB0
    obtain ⟨k, hk, rfl, HS, hb⟩ := hrel
    by_cases hlt : k < n
    · have hkl : k < L.length := by rw [HN.out]; exact hlt
      obtain ⟨b, o, ha, hbl, y0', y1'⟩ := SpansAt.cells HI.out hkl
      subst ha
      obtain ⟨x, hx⟩ : ∃ x, L[k] = x := ⟨_, rfl⟩
      rw [hx] at y0' y1'
      have y0 := (hb.out.cell (p := ⟨b, _, none⟩) hbl).trans y0'
      have y1 := (hb.out.cell (p := ⟨b, _, none⟩) hbl).trans y1'
      obtain ⟨g, hg⟩ : ∃ g, grown s (L.take k) = g := ⟨_, rfl⟩
      have hnx := grown_next (s := s) hkl hx
      rw [hg] at hnx
      have hs1 := HS.out
      rw [hg] at hs1
      obtain ⟨c0, c1, f0, f1⟩ := hs1.cells
      have HS1 := Lib.hid hs1
      have hbr : b < wr.heap.size := Nat.lt_of_lt_of_le hbl hb.out.size
      have hBr : B < wr.heap.size := lt_of_heap hs1.blk
      have g0 : (0 : Int) ≤ (k : Int) := by omega
      have g1 : (k : Int) < (n : Int) := by omega
      clear y0' y1' hx hg hs1 HS hkl
      rename World => wq
      cases hsh : share x g with
      | false =>
        rw [hsh, if_neg (by simp)] at hnx
        have HX := Lib.hid hnx
        have HSH := Lib.hid hsh
        clear hnx hsh
        go_wp2
        go_region_held3 (fun X => X.cell? ⟨b, o + k * 2, none⟩ = some (.int .i64 x.1) ∧ X.cell? ⟨b, o + k * 2 + 1, none⟩ = some (.int .i64 x.2) ∧ X.cell? ⟨B, 0, none⟩ = some (.int .i64 g.1) ∧ X.cell? ⟨B, 1, none⟩ = some (.int .i64 g.2) ∧ Hid (Below wq.heap.size wq X))
          (first | exact ⟨y0, y1, c0, c1, Lib.hid (Below.refl _ _).drew⟩ | exact hS3)
          (first
            | (go_at_call 36; have hh := (‹_ ∧ _ ∧ _ ∧ _ ∧ Hid (Below wq.heap.size wq _)›).2.2.2.2; refine (rshare_at HSH.out _).mono ?_; rintro e w3 ⟨rfl, hb3⟩; have hh2 := hh.out.trans (hb3.mono hh.out.size); have hS3 := stay4 hbr hBr y0 y1 c0 c1 hh2; clear hb3 hh hh2))
        rename World => w3
        obtain ⟨-, -, -, -, hh⟩ := ‹_ ∧ _ ∧ _ ∧ _ ∧ Hid (Below wq.heap.size wq _)›
        have HB3 := Lib.hid (hb.out.trans (hh.out.mono hb.out.size))
        have HS3 : Hid (SB w3 B (grown s (L.take (k + 1)))) := Lib.hid (by rw [HX.out]; exact HS1.out.grow hh.out)
        clear hh y0 y1 c0 c1 f0 f1
        go_wp2
        go_roundw
        case rel => exact ⟨k + 1, by omega, by go_num, HS3, HB3⟩
        case measure => simp [intOf]; omega
      | true =>
        rw [hsh, if_pos rfl] at hnx
        have HX := Lib.hid hnx
        have HSH := Lib.hid hsh
        clear hnx hsh
        go_wp2
        go_region_held3 (fun X => X.cell? ⟨b, o + k * 2, none⟩ = some (.int .i64 x.1) ∧ X.cell? ⟨b, o + k * 2 + 1, none⟩ = some (.int .i64 x.2) ∧ X.cell? ⟨B, 0, none⟩ = some (.int .i64 g.1) ∧ X.cell? ⟨B, 1, none⟩ = some (.int .i64 g.2) ∧ Hid (Below wq.heap.size wq X))
          (first | exact ⟨y0, y1, c0, c1, Lib.hid (Below.refl _ _).drew⟩ | exact hS3)
          (first
            | (go_at_call 36; have hh := (‹_ ∧ _ ∧ _ ∧ _ ∧ Hid (Below wq.heap.size wq _)›).2.2.2.2; refine (rshare_at HSH.out _).mono ?_; rintro e w3 ⟨rfl, hb3⟩; have hh2 := hh.out.trans (hb3.mono hh.out.size); have hS3 := stay4 hbr hBr y0 y1 c0 c1 hh2; clear hb3 hh hh2))
        rename World => w3
        obtain ⟨u0, u1, d0, d1, hh⟩ := ‹_ ∧ _ ∧ _ ∧ _ ∧ Hid (Below wq.heap.size wq _)›
        have HB3 := Lib.hid (hb.out.trans (hh.out.mono hb.out.size))
        have hs3 := HS1.out.grow hh.out
        have e0 := hs3.cells.2.2.1
        have e1 := hs3.cells.2.2.2
        have HS3 := Lib.hid hs3
        clear hh y0 y1 c0 c1 f0 f1 hs3
        have hne : ¬ b = B := by
          have := HBB.out
          omega
        have hne2 : ¬ B = b := fun e => hne e.symm
        go_wp2
        go_region
        all_goals go_wp2
        all_goals go_region
        all_goals go_wp2
        all_goals go_roundw
        case rel =>
          refine ⟨k + 1, by omega, by go_num, Lib.hid ?_, Lib.hid ?_⟩
          · rw [HX.out]
            have q1 := HS3.out.set0 (min g.1 x.1)
            have q2 : SB (w3.setCell ⟨B, 0, none⟩ (.int .i64 (min g.1 x.1))).drew B (min g.1 x.1, g.2) := ⟨q1.blk⟩
            have q3 := q2.set1 (max g.2 x.2)
            exact ⟨q3.blk⟩
          · have hwB : w.heap.size ≤ B := Nat.le_of_eq HBB.out
            exact (((HB3.out.setCell (p := ⟨B, 0, none⟩) hwB _).drew).setCell (p := ⟨B, 1, none⟩) hwB _).drew
        case measure => simp [intOf]; omega
    · have HS1 : Hid (SB wr B (grown s L)) := Lib.hid (by
        have := HS.out
        rwa [List.take_of_length_le (by rw [HN.out]; omega)] at this)
      obtain ⟨g, hg⟩ : ∃ g, grown s L = g := ⟨_, rfl⟩
      have hs2 := HS1.out
      rw [hg] at hs2
      have HG := Lib.hid hg
      have HS2 := Lib.hid hs2
      clear HS HS1 hg hs2
      go_wp2
      clear hlt
      go_loopw [7] (fun z wr => ∃ k : Nat, k ≤ n ∧ z = .int .i64 k ∧ Hid (∀ i (hi : i < L.length), i < k → L[i].1 < g.1) ∧ Hid (SB wr B g) ∧ Hid (Below w.heap.size w wr)) (fun z _ => n - (intOf z).toNat)
      case atStart => exact ⟨0, Nat.zero_le _, rfl, Lib.hid (fun i _ hi => by omega), HS2, hb⟩
      case round =>
        clear HS2 hb
        obtain ⟨k, hk, rfl, HK, HS, hb⟩ := hrel
        rename World => wq
        obtain ⟨c0, c1, f0, f1⟩ := HS.out.cells
        by_cases hlt : k < n
        · have hkl : k < L.length := by rw [HN.out]; exact hlt
          obtain ⟨b, o, ha, hbl, y0', y1'⟩ := SpansAt.cells HI.out hkl
          subst ha
          obtain ⟨x, hx⟩ : ∃ x, L[k] = x := ⟨_, rfl⟩
          rw [hx] at y0' y1'
          have y0 := (hb.out.cell (p := ⟨b, _, none⟩) hbl).trans y0'
          have g0 : (0 : Int) ≤ (k : Int) := by omega
          have g1 : (k : Int) < (n : Int) := by omega
          have g2 : decide ((k : Int) < (n : Int)) = true := decide_eq_true g1
          by_cases hq : x.1 < g.1
          · have HK2 : Hid (∀ i (hi : i < L.length), i < k + 1 → L[i].1 < g.1) := Lib.hid (fun i hi hik => by
              by_cases e : i = k
              · subst e; rw [hx]; exact hq
              · exact HK.out i hi (by omega))
            clear y0' y1' hx HK hkl
            go_wp2
            go_quiet (fail)
            go_wp2
            go_roundw
            case rel => exact ⟨k + 1, by omega, by go_num, HK2, Lib.hid (HS.out.grow (drewN_below wq nq)), Lib.hid (hb.out.trans ((drewN_below wq nq).mono hb.out.size))⟩
            case measure => simp [intOf]; omega
          · have HW := Lib.hid (take_drop_while (P := fun x => decide (x.1 < g.1)) (L := L) (k := k) (by rw [HN.out]; exact hk) (fun i hi hik => decide_eq_true (HK.out i hi hik)) (fun hk' => by rw [hx]; exact decide_eq_false hq))
            clear y0' y1' hx HK hkl
            go_wp2
            go_quiet (fail)
            have hs2 := HS.out.grow (drewN_below wq nq)
            have HS2 := Lib.hid hs2
            have hb2 := hb.out.trans ((drewN_below wq nq).mono hb.out.size)
            have HB2 := Lib.hid hb2
            have HT : Hid (SpansAt (wq.drewN nq) (.slice (some ⟨b, o, none⟩) k c) (L.take k)) := Lib.hid (Lst.take (HI.out.grow hb2) (by rw [HN.out]; exact hk))
            have hBw : B + 1 ≤ (wq.drewN nq).heap.size := lt_of_heap hs2.blk
            have htl : (L.take k).length = k := by rw [List.length_take, HN.out]; omega
            clear HS hb hs2 hb2
            go_wp2_with (first
              | (refine wpList_append_spans (by rfl) (.tmp 55) (.tmp 58) (by rfl) (B + 1) (.slice none 0 0) [] (by rfl) (World.ownsRow_nil _ _ _ _) (some ⟨b, o, none⟩) k c (L.take k) (by rfl) HT.out (by simp; omega) hBw ?_; intro v5 w5 hown5 hgrow5; have HO5 : Hid (w5.ownsRow (B + 1) 34 2 v5 (L.take k).length (scs (L.take k))) := Lib.hid hown5; have HS5 := Lib.hid (HS2.out.append (by simp [Value.ownBlock]) hgrow5); have HB5 := Lib.hid (below_grown HB2.out (fun k e => by simp [Value.ownBlock] at e) hgrow5); obtain ⟨c0, c1, f0, f1⟩ := HS5.out.cells; have hBw5 : B + 1 ≤ w5.heap.size := lt_of_heap HS5.out.blk; clear hown5 hgrow5)
              | (refine wpList_append_span (by rfl) (.tmp 60) (.tmp 62) (by rfl) (B + 1) v5 (L.take k) (by rfl) w5 g (by rfl) HO5.out (by rfl) (by rw [htl]; omega) hBw5 ?_; intro v6 w6 hown6 hgrow6; have HO6 := Lib.hid hown6; have HS6 := Lib.hid ((HS5.out.grow ((Below.refl _ _).alloc (Nat.le_refl _) _)).append (not_box HO5.out) hgrow6); have HB6 := Lib.hid (below_grown (HB5.out.trans (((Below.refl _ _).alloc (Nat.le_refl _) _).mono HB5.out.size)) (fun k e => by have := (HO5.out.lt k e).1; have := HBB.out; omega) hgrow6); clear hown6 hgrow6))
            clear HT HS2 HB2 HO5 HS5 HB5 c0 c1 f0 f1
            go_loopw [5, 8] (fun y z wr => ∃ (i : Nat) (acc : List Sp), k ≤ i ∧ i ≤ n ∧ acc.length ≤ i + 1 ∧ z = .int .i64 i ∧ Hid (acc = L.take k ++ [g] ++ ((L.drop k).take (i - k)).filter (fun x => !share x g)) ∧ Hid (wr.ownsRow (B + 1) 34 2 y acc.length (scs acc)) ∧ Hid (SB wr B g) ∧ Hid (Below w.heap.size w wr)) (fun _ z _ => n - (intOf z).toNat)
            case atStart => exact ⟨k, L.take k ++ [g], Nat.le_refl _, hk, by rw [List.length_append, htl]; simp, rfl, Lib.hid (by simp), HO6, HS6, HB6⟩
            case round =>
              clear HO6 HS6 HB6
              obtain ⟨i, acc, hki, hi, hal, rfl, HA, HO, HS, hb⟩ := hrel
              rename World => wz
              by_cases hin : i < n
              · have hil : i < L.length := by rw [HN.out]; exact hin
                obtain ⟨b3, o3, ha3, hbl3, y0', y1'⟩ := SpansAt.cells HI.out hil
                injection ha3 with ha3
                injection ha3 with q1 q2
                obtain rfl := q1.symm
                obtain rfl := q2.symm
                obtain ⟨x3, hx3⟩ : ∃ x3, L[i] = x3 := ⟨_, rfl⟩
                rw [hx3] at y0' y1'
                have y0 := (hb.out.cell (p := ⟨b3, _, none⟩) hbl3).trans y0'
                have y1 := (hb.out.cell (p := ⟨b3, _, none⟩) hbl3).trans y1'
                obtain ⟨c0, c1, f0, f1⟩ := HS.out.cells
                have hbr : b3 < wz.heap.size := Nat.lt_of_lt_of_le hbl3 hb.out.size
                have hBr : B < wz.heap.size := lt_of_heap HS.out.blk
                have g3 : (0 : Int) ≤ (i : Int) := by omega
                have g4 : (i : Int) < (n : Int) := by omega
                have hnx := filt_next (P := fun x => !share x g) hki hil hx3
                clear y0' y1' hx3 hil
                cases hsh : share x3 g with
                | true =>
                  rw [hsh] at hnx
                  have HN2 : Hid (acc = L.take k ++ [g] ++ ((L.drop k).take (i + 1 - k)).filter (fun x => !share x g)) := Lib.hid (by rw [hnx, HA.out]; simp)
                  have HSH := Lib.hid hsh
                  clear hnx hsh HA
                  go_wp2
                  go_region_held3 (fun X => X.cell? ⟨b3, o3 + i * 2, none⟩ = some (.int .i64 x3.1) ∧ X.cell? ⟨b3, o3 + i * 2 + 1, none⟩ = some (.int .i64 x3.2) ∧ X.cell? ⟨B, 0, none⟩ = some (.int .i64 g.1) ∧ X.cell? ⟨B, 1, none⟩ = some (.int .i64 g.2) ∧ Hid (Below wz.heap.size wz X))
                    (first | exact ⟨y0, y1, c0, c1, Lib.hid (Below.refl _ _).drew⟩ | exact hS3)
                    (first
                      | (go_at_call 36; have hh := (‹_ ∧ _ ∧ _ ∧ _ ∧ Hid (Below wz.heap.size wz _)›).2.2.2.2; refine (rshare_at HSH.out _).mono ?_; rintro e w3 ⟨rfl, hb3⟩; have hh2 := hh.out.trans (hb3.mono hh.out.size); have hS3 := stay4 hbr hBr y0 y1 c0 c1 hh2; clear hb3 hh hh2))
                  obtain ⟨-, -, -, -, hh⟩ := ‹_ ∧ _ ∧ _ ∧ _ ∧ Hid (Below wz.heap.size wz _)›
                  have HO2 := Lib.hid (ownsRow_below HO.out hh.out)
                  have HS2 := Lib.hid (HS.out.grow hh.out)
                  have HB2 := Lib.hid (hb.out.trans (hh.out.mono hb.out.size))
                  clear hh y0 y1 c0 c1 f0 f1 HO HS hb
                  go_wp2
                  go_roundw
                  case rel => exact ⟨i + 1, acc, by omega, by omega, by omega, by go_num, HN2, HO2, HS2, HB2⟩
                  case measure => simp [intOf]; omega
                | false =>
                  rw [hsh] at hnx
                  have HN2 : Hid (acc ++ [x3] = L.take k ++ [g] ++ ((L.drop k).take (i + 1 - k)).filter (fun x => !share x g)) := Lib.hid (by rw [hnx, HA.out]; simp)
                  have HSH := Lib.hid hsh
                  clear hnx hsh HA
                  go_wp2
                  go_region_held3 (fun X => X.cell? ⟨b3, o3 + i * 2, none⟩ = some (.int .i64 x3.1) ∧ X.cell? ⟨b3, o3 + i * 2 + 1, none⟩ = some (.int .i64 x3.2) ∧ X.cell? ⟨B, 0, none⟩ = some (.int .i64 g.1) ∧ X.cell? ⟨B, 1, none⟩ = some (.int .i64 g.2) ∧ Hid (Below wz.heap.size wz X))
                    (first | exact ⟨y0, y1, c0, c1, Lib.hid (Below.refl _ _).drew⟩ | exact hS3)
                    (first
                      | (go_at_call 36; have hh := (‹_ ∧ _ ∧ _ ∧ _ ∧ Hid (Below wz.heap.size wz _)›).2.2.2.2; refine (rshare_at HSH.out _).mono ?_; rintro e w3 ⟨rfl, hb3⟩; have hh2 := hh.out.trans (hb3.mono hh.out.size); have hS3 := stay4 hbr hBr y0 y1 c0 c1 hh2; clear hb3 hh hh2))
                  rename World => w8
                  obtain ⟨y2, y3, -, -, hh⟩ := ‹_ ∧ _ ∧ _ ∧ _ ∧ Hid (Below wz.heap.size wz _)›
                  have HO2 := Lib.hid (ownsRow_below HO.out hh.out)
                  have HS2 := Lib.hid (HS.out.grow hh.out)
                  have HB2 := Lib.hid (hb.out.trans (hh.out.mono hb.out.size))
                  have hBw8 : B + 1 ≤ w8.heap.size := lt_of_heap HS2.out.blk
                  clear hh y0 y1 c0 c1 f0 f1 HO HS hb
                  go_wp2_with (refine wpList_append_span (by rfl) (.tmp 78) (.tmp 83) (by rfl) (B + 1) _ acc (by rfl) w8 x3 (by rfl) HO2.out (by rfl) (by omega) hBw8 ?_; intro v9 w9 hown9 hgrow9; have HO9 := Lib.hid hown9; have HS9 := Lib.hid ((HS2.out.grow ((Below.refl _ _).alloc (Nat.le_refl _) _)).append (not_box HO2.out) hgrow9); have HB9 := Lib.hid (below_grown (HB2.out.trans (((Below.refl _ _).alloc (Nat.le_refl _) _).mono HB2.out.size)) (fun k e => by have := (HO2.out.lt k e).1; have := HBB.out; omega) hgrow9); clear hown9 hgrow9)
                  go_roundw
                  case rel => exact ⟨i + 1, acc ++ [x3], by omega, by omega, by simp; omega, by go_num, HN2, HO9, HS9, HB9⟩
                  case measure => simp [intOf]; omega
              · have HF : Hid (acc = M) := Lib.hid (by
                  rw [HA.out, List.take_of_length_le (l := L.drop k) (i := i - k) (by rw [List.length_drop, HN.out]; omega), ← HW.out.1, ← HW.out.2, ← HM.out]
                  unfold put
                  rw [HG.out])
                clear HA
                go_wp2
                go_ret
                exact ⟨_, rfl, by rw [← HF.out]; exact ownsRow_mono HO.out (by have := HBB.out; omega), hb.out⟩
        · have HW := Lib.hid (take_drop_while (P := fun x => decide (x.1 < g.1)) (L := L) (k := k) (by rw [HN.out]; exact hk) (fun i hi hik => decide_eq_true (HK.out i hi hik)) (fun hk' => absurd hk' (by rw [HN.out]; exact hlt)))
          have g2 : decide ((k : Int) < (n : Int)) = false := decide_eq_false (by omega)
          cases a with
          | none =>
            go_wp2
            go_quiet (fail)
            have hs2 := HS.out.grow (drewN_below wq nq)
            have HS2 := Lib.hid hs2
            have hb2 := hb.out.trans ((drewN_below wq nq).mono hb.out.size)
            have HB2 := Lib.hid hb2
            have HT : Hid (SpansAt (wq.drewN nq) (.slice none k c) (L.take k)) := Lib.hid (Lst.take (HI.out.grow hb2) (by rw [HN.out]; exact hk))
            have hBw : B + 1 ≤ (wq.drewN nq).heap.size := lt_of_heap hs2.blk
            have htl : (L.take k).length = k := by rw [List.length_take, HN.out]; omega
            clear HS hb hs2 hb2
            go_wp2_with (first
              | (refine wpList_append_spans (by rfl) (.tmp 55) (.tmp 58) (by rfl) (B + 1) (.slice none 0 0) [] (by rfl) (World.ownsRow_nil _ _ _ _) none k c (L.take k) (by rfl) HT.out (by simp; omega) hBw ?_; intro v5 w5 hown5 hgrow5; have HO5 : Hid (w5.ownsRow (B + 1) 34 2 v5 (L.take k).length (scs (L.take k))) := Lib.hid hown5; have HS5 := Lib.hid (HS2.out.append (by simp [Value.ownBlock]) hgrow5); have HB5 := Lib.hid (below_grown HB2.out (fun k e => by simp [Value.ownBlock] at e) hgrow5); obtain ⟨c0, c1, f0, f1⟩ := HS5.out.cells; have hBw5 : B + 1 ≤ w5.heap.size := lt_of_heap HS5.out.blk; clear hown5 hgrow5)
              | (refine wpList_append_span (by rfl) (.tmp 60) (.tmp 62) (by rfl) (B + 1) v5 (L.take k) (by rfl) w5 g (by rfl) HO5.out (by rfl) (by rw [htl]; omega) hBw5 ?_; intro v6 w6 hown6 hgrow6; have HO6 := Lib.hid hown6; have HS6 := Lib.hid ((HS5.out.grow ((Below.refl _ _).alloc (Nat.le_refl _) _)).append (not_box HO5.out) hgrow6); have HB6 := Lib.hid (below_grown (HB5.out.trans (((Below.refl _ _).alloc (Nat.le_refl _) _).mono HB5.out.size)) (fun k e => by have := (HO5.out.lt k e).1; have := HBB.out; omega) hgrow6); clear hown6 hgrow6))
            clear HT HS2 HB2 HO5 HS5 HB5 c0 c1 f0 f1
            go_loopw [5, 8] (fun y z wr => ∃ (i : Nat) (acc : List Sp), k ≤ i ∧ i ≤ n ∧ acc.length ≤ i + 1 ∧ z = .int .i64 i ∧ Hid (acc = L.take k ++ [g] ++ ((L.drop k).take (i - k)).filter (fun x => !share x g)) ∧ Hid (wr.ownsRow (B + 1) 34 2 y acc.length (scs acc)) ∧ Hid (SB wr B g) ∧ Hid (Below w.heap.size w wr)) (fun _ z _ => n - (intOf z).toNat)
            case atStart => exact ⟨k, L.take k ++ [g], Nat.le_refl _, hk, by rw [List.length_append, htl]; simp, rfl, Lib.hid (by simp), HO6, HS6, HB6⟩
            case round =>
              clear HO6 HS6 HB6
              obtain ⟨i, acc, hki, hi, hal, rfl, HA, HO, HS, hb⟩ := hrel
              rename World => wz
              by_cases hin : i < n
              · exact absurd hin (by omega)
              · have HF : Hid (acc = M) := Lib.hid (by
                  rw [HA.out, List.take_of_length_le (l := L.drop k) (i := i - k) (by rw [List.length_drop, HN.out]; omega), ← HW.out.1, ← HW.out.2, ← HM.out]
                  unfold put
                  rw [HG.out])
                clear HA
                go_wp2
                go_ret
                exact ⟨_, rfl, by rw [← HF.out]; exact ownsRow_mono HO.out (by have := HBB.out; omega), hb.out⟩
          | some p =>
            go_wp2
            go_quiet (fail)
            have hs2 := HS.out.grow (drewN_below wq nq)
            have HS2 := Lib.hid hs2
            have hb2 := hb.out.trans ((drewN_below wq nq).mono hb.out.size)
            have HB2 := Lib.hid hb2
            have HT : Hid (SpansAt (wq.drewN nq) (.slice (some p) k c) (L.take k)) := Lib.hid (Lst.take (HI.out.grow hb2) (by rw [HN.out]; exact hk))
            have hBw : B + 1 ≤ (wq.drewN nq).heap.size := lt_of_heap hs2.blk
            have htl : (L.take k).length = k := by rw [List.length_take, HN.out]; omega
            clear HS hb hs2 hb2
            go_wp2_with (first
              | (refine wpList_append_spans (by rfl) (.tmp 55) (.tmp 58) (by rfl) (B + 1) (.slice none 0 0) [] (by rfl) (World.ownsRow_nil _ _ _ _) (some p) k c (L.take k) (by rfl) HT.out (by simp; omega) hBw ?_; intro v5 w5 hown5 hgrow5; have HO5 : Hid (w5.ownsRow (B + 1) 34 2 v5 (L.take k).length (scs (L.take k))) := Lib.hid hown5; have HS5 := Lib.hid (HS2.out.append (by simp [Value.ownBlock]) hgrow5); have HB5 := Lib.hid (below_grown HB2.out (fun k e => by simp [Value.ownBlock] at e) hgrow5); obtain ⟨c0, c1, f0, f1⟩ := HS5.out.cells; have hBw5 : B + 1 ≤ w5.heap.size := lt_of_heap HS5.out.blk; clear hown5 hgrow5)
              | (refine wpList_append_span (by rfl) (.tmp 60) (.tmp 62) (by rfl) (B + 1) v5 (L.take k) (by rfl) w5 g (by rfl) HO5.out (by rfl) (by rw [htl]; omega) hBw5 ?_; intro v6 w6 hown6 hgrow6; have HO6 := Lib.hid hown6; have HS6 := Lib.hid ((HS5.out.grow ((Below.refl _ _).alloc (Nat.le_refl _) _)).append (not_box HO5.out) hgrow6); have HB6 := Lib.hid (below_grown (HB5.out.trans (((Below.refl _ _).alloc (Nat.le_refl _) _).mono HB5.out.size)) (fun k e => by have := (HO5.out.lt k e).1; have := HBB.out; omega) hgrow6); clear hown6 hgrow6))
            clear HT HS2 HB2 HO5 HS5 HB5 c0 c1 f0 f1
            go_loopw [5, 8] (fun y z wr => ∃ (i : Nat) (acc : List Sp), k ≤ i ∧ i ≤ n ∧ acc.length ≤ i + 1 ∧ z = .int .i64 i ∧ Hid (acc = L.take k ++ [g] ++ ((L.drop k).take (i - k)).filter (fun x => !share x g)) ∧ Hid (wr.ownsRow (B + 1) 34 2 y acc.length (scs acc)) ∧ Hid (SB wr B g) ∧ Hid (Below w.heap.size w wr)) (fun _ z _ => n - (intOf z).toNat)
            case atStart => exact ⟨k, L.take k ++ [g], Nat.le_refl _, hk, by rw [List.length_append, htl]; simp, rfl, Lib.hid (by simp), HO6, HS6, HB6⟩
            case round =>
              clear HO6 HS6 HB6
              obtain ⟨i, acc, hki, hi, hal, rfl, HA, HO, HS, hb⟩ := hrel
              rename World => wz
              by_cases hin : i < n
              · exact absurd hin (by omega)
              · have HF : Hid (acc = M) := Lib.hid (by
                  rw [HA.out, List.take_of_length_le (l := L.drop k) (i := i - k) (by rw [List.length_drop, HN.out]; omega), ← HW.out.1, ← HW.out.2, ← HM.out]
                  unfold put
                  rw [HG.out])
                clear HA
                go_wp2
                go_ret
                exact ⟨_, rfl, by rw [← HF.out]; exact ownsRow_mono HO.out (by have := HBB.out; omega), hb.out⟩
end Go.Proofs.Ytfkdkcdknpjoeaa.Wi
