/-
  The program's merging of spans that are in order. Conditions: they lie in memory, at most 4096 of them, none empty, each beginning no earlier than the ones ahead of it.
-/
import Derived.Test.YtfkdkcdknpjoeaaWSort
import Derived.OneCell
import Derived.Laws.OwnMore
namespace Go.Proofs.Ytfkdkcdknpjoeaa.Wi
set_option linter.unusedVariables false
set_option linter.unusedSimpArgs false
open Go.RowKit

/-- The spans A, merged, are m; each of m begins where one of A does. -/
structure Mgd (A m : List Sp) : Prop where
  srt : Srt m
  alike : Alike A m
  from_ : ∀ x ∈ m, ∃ y ∈ A, x.1 = y.1
theorem mgd_nil : Mgd [] [] := ⟨srt_nil, Alike.refl _, fun x h => by cases h⟩
theorem Mgd.far {A m : List Sp} (h : Mgd A m) {s : Sp} (hs : s.1 < s.2) (hm : ∀ x ∈ m, x.2 ≤ s.1) : Mgd (A ++ [s]) (m ++ [s]) := by
  refine ⟨⟨fun x hx => ?_, ?_⟩, Alike.append h.alike (Alike.refl _), fun x hx => ?_⟩
  · rcases List.mem_append.1 hx with h1 | h1
    · exact h.srt.1 x h1
    · rw [List.mem_singleton.1 h1]; exact hs
  · rw [List.pairwise_append]
    refine ⟨h.srt.2, List.pairwise_singleton _ _, fun a ha b hb => ?_⟩
    rw [List.mem_singleton.1 hb]
    exact hm a ha
  · rcases List.mem_append.1 hx with h1 | h1
    · obtain ⟨y, h2, h3⟩ := h.from_ x h1
      exact ⟨y, List.mem_append_left _ h2, h3⟩
    · exact ⟨s, by simp, by rw [List.mem_singleton.1 h1]⟩
theorem Mgd.last {A m0 : List Sp} {a : Sp} (h : Mgd A (m0 ++ [a])) : a.1 < a.2 ∧ ∀ x ∈ m0, x.2 ≤ a.1 :=
  ⟨h.srt.1 a (by simp), fun x hx => (List.pairwise_append.1 h.srt.2).2.2 x hx a (by simp)⟩
theorem Mgd.near {A m0 : List Sp} {a s : Sp} (h : Mgd A (m0 ++ [a])) (hs : s.1 < s.2) (h1 : a.1 ≤ s.1) (h2 : s.1 < a.2) : Mgd (A ++ [s]) (m0 ++ [(a.1, max s.2 a.2)]) := by
  obtain ⟨k1, k2⟩ := h.last
  refine ⟨⟨fun x hx => ?_, ?_⟩, ?_, fun x hx => ?_⟩
  · rcases List.mem_append.1 hx with h3 | h3
    · exact h.srt.1 x (List.mem_append_left _ h3)
    · rw [List.mem_singleton.1 h3]; show a.1 < max s.2 a.2; omega
  · rw [List.pairwise_append]
    refine ⟨(List.pairwise_append.1 h.srt.2).1, List.pairwise_singleton _ _, fun x hx b hb => ?_⟩
    rw [List.mem_singleton.1 hb]
    exact k2 x hx
  · refine (Alike.append h.alike (Alike.refl [s])).trans ?_
    rw [List.append_assoc]
    refine Alike.append (Alike.refl _) ?_
    have := hull_alike k1 hs (share_iff.2 ⟨by omega, h2⟩)
    have e : hull a s = (a.1, max s.2 a.2) := by
      unfold hull
      rw [show min s.1 a.1 = a.1 by omega]
    rw [e] at this
    exact this
  · rcases List.mem_append.1 hx with h3 | h3
    · obtain ⟨y, h4, h5⟩ := h.from_ x (List.mem_append_left _ h3)
      exact ⟨y, List.mem_append_left _ h4, h5⟩
    · obtain ⟨y, h4, h5⟩ := h.from_ a (by simp)
      exact ⟨y, List.mem_append_left _ h4, by rw [List.mem_singleton.1 h3]; exact h5⟩
/-- The row ahead begins no later. -/
theorem Mgd.ahead {S m : List Sp} {k : Nat} (hS : Ord S) (hk : k < S.length) (h : Mgd (S.take k) m) {s : Sp} (hs : S[k] = s) : ∀ x ∈ m, x.1 ≤ s.1 := fun x hx => by
  obtain ⟨y, h1, h2⟩ := h.from_ x hx
  have h3 : S = S.take k ++ S.drop k := (List.take_append_drop k S).symm
  unfold Ord at hS
  rw [h3] at hS
  have h4 : s ∈ S.drop k := by
    have e : S.drop k = s :: S.drop (k + 1) := by rw [List.drop_eq_getElem_cons hk, hs]
    rw [e]; exact List.mem_cons_self
  have := (List.pairwise_append.1 hS).2.2 y h1 s h4
  omega
theorem take_next {S : List Sp} {k : Nat} (hk : k < S.length) {s : Sp} (hs : S[k] = s) : S.take (k + 1) = S.take k ++ [s] := by
  rw [List.take_succ_eq_append_getElem hk, hs]
/-- One row of one's own: its last one. -/
theorem own_last {w : World} {B g n cap : Nat} {m0 : List Sp} {a : Sp} (h : w.ownsRow B 34 2 (.slice (some ⟨g, 0, none⟩) n cap) (m0 ++ [a]).length (scs (m0 ++ [a]))) :
    n = m0.length + 1 ∧ n ≤ cap ∧ w.cell? ⟨g, m0.length * 2, none⟩ = some (.int .i64 a.1) ∧ w.cell? ⟨g, m0.length * 2 + 1, none⟩ = some (.int .i64 a.2) ∧ w.frozen? ⟨g, m0.length * 2 + 1, none⟩ = false ∧ B ≤ g ∧ g < w.heap.size := by
  have hn : n = m0.length + 1 := by
    obtain ⟨a, c, e, -⟩ := row_slice h
    injection e with _ e _
    simpa using e
  rw [show (m0 ++ [a]).length = n by simp [hn]] at h
  refine ⟨hn, ?_, ?_, ?_, h.frozenAt _, (h.lt g rfl).1, (h.lt g rfl).2⟩
  · rcases h.2 with ⟨e, -⟩ | ⟨g', cap', cur, e, -, -, hnc, -⟩
    · simp at e
    · injection e with _ _ e
      subst e
      exact hnc
  · rw [h.cellAt _ (by rw [hn]; omega), scs_append, List.getElem?_append_right (by rw [scs_len]; omega), scs_len, Nat.sub_self]
    rfl
  · rw [h.cellAt _ (by rw [hn]; omega), scs_append, List.getElem?_append_right (by rw [scs_len]; omega), scs_len]
    rw [show m0.length * 2 + 1 - m0.length * 2 = 1 by omega]
    rfl
theorem scs_end {m0 : List Sp} {a : Sp} (u : Int) : (scs (m0 ++ [a])).set (m0.length * 2 + 1) (.int .i64 u) = scs (m0 ++ [(a.1, u)]) := by
  rw [scs_append, scs_append, List.set_append_right _ _ (by rw [scs_len]; omega), scs_len]
  rw [show m0.length * 2 + 1 - m0.length * 2 = 1 by omega]
  rfl
theorem own_end {w : World} {B g n cap : Nat} {m0 : List Sp} {a : Sp} (h : w.ownsRow B 34 2 (.slice (some ⟨g, 0, none⟩) n cap) (m0 ++ [a]).length (scs (m0 ++ [a]))) (u : Int) :
    (w.setCell ⟨g, m0.length * 2 + 1, none⟩ (.int .i64 u)).ownsRow B 34 2 (.slice (some ⟨g, 0, none⟩) n cap) (m0 ++ [(a.1, u)]).length (scs (m0 ++ [(a.1, u)])) := by
  have hlen : (m0 ++ [a]).length = (m0 ++ [(a.1, u)]).length := by simp
  have hn := (own_last h).1
  have hn2 : (m0 ++ [a]).length = n := by rw [hn]; simp
  rw [hn2] at h
  have hs := World.ownsRow.stored h (m0.length * 2 + 1) (.int .i64 u)
  rw [scs_end] at hs
  rw [← hlen, hn2]
  exact hs.1
theorem own_some {w : World} {B : Nat} {v : Value} {m : List Sp} (h : w.ownsRow B 34 2 v m.length (scs m)) (hm : m ≠ []) : ∃ g cap, v = .slice (some ⟨g, 0, none⟩) m.length cap := by
  rcases h.2 with ⟨-, e⟩ | ⟨g, cap, cur, e, -⟩
  · exact absurd (List.length_eq_zero_iff.1 e) hm
  · exact ⟨g, cap, e⟩
theorem cm_far {q x : Sp} (h : q.2 ≤ x.1) (hq : q.1 ≤ x.1) : cm q x = (0, 0) := by
  unfold cm
  rw [if_pos (by omega)]
theorem cm_part {q x : Sp} (h : ¬ q.2 ≤ x.1) (hq : q.1 ≤ x.1) (hx : q.2 < x.2) : cm q x = (x.1, q.2) := by
  unfold cm
  rw [if_neg (by omega), show max q.1 x.1 = x.1 by omega, show min q.2 x.2 = q.2 by omega]
theorem cm_in {q x : Sp} (h : ¬ q.2 ≤ x.1) (hq : q.1 ≤ x.1) (hx : ¬ q.2 < x.2) (hxx : x.1 < x.2) : cm q x = (x.1, x.2) := by
  unfold cm
  rw [if_neg (by omega), show max q.1 x.1 = x.1 by omega, show min q.2 x.2 = x.2 by omega]
attribute [local go_sem] run_sp
set_option maxRecDepth 20000 in
set_option maxHeartbeats 4000000 in
theorem merged_at {w : World} {v : Value} {S : List Sp} (h : SpansAt w v S) (hlen : S.length ≤ 4096) (hf : ∀ s ∈ S, s.1 < s.2) (hS : Ord S) {M : List Sp} (hM : mg S = M) : Calls Try.prog 29 #[v] w fun e w' => ∃ v', e = .returned v' ∧ SpansAt w' v' M ∧ Below w.heap.size w w' := by
  obtain ⟨a, c, rfl⟩ := h.val
  obtain ⟨-, k1, k2, k3⟩ := h.len
  unfold maxLen at k2 k3
  obtain ⟨n, hn⟩ : ∃ n, S.length = n := ⟨_, rfl⟩
  rw [hn] at h k1 k2 hlen ⊢
  have HI := Lib.hid h
  have HN := Lib.hid hn
  have HM : Hid (∀ m, Mgd S m → m = M) := Lib.hid fun m hm => by rw [← hM]; exact (mg_is hf hm.srt hm.alike).symm
  have HF := Lib.hid hf
  have HS := Lib.hid hS
  clear h hn hM k2 hf hS
  go_enter Try.func29, Try.ntmps29
  go_wp2
  go_loopw [3, 10] (fun y z wr => ∃ (k : Nat) (m : List Sp), k ≤ n ∧ z = .int .i64 k ∧ m.length ≤ k ∧ Hid (Mgd (S.take k) m) ∧ Hid (wr.ownsRow w.heap.size 34 2 y m.length (scs m)) ∧ Hid (Below w.heap.size w wr)) (fun _ z _ => n - (intOf z).toNat)
  case atStart => exact ⟨0, [], Nat.zero_le _, rfl, Nat.zero_le _, Lib.hid mgd_nil, Lib.hid (World.ownsRow_nil _ _ _ _), Lib.hid (Below.refl _ _)⟩
  case round =>
    obtain ⟨k, m, hk, rfl, hmk, HG, HO, hb⟩ := hrel
    rename World => wr
    by_cases hlt : k < n
    · have hkl : k < S.length := by rw [HN.out]; exact hlt
      obtain ⟨b, o, ha, hbl, y0', y1'⟩ := SpansAt.cells HI.out hkl
      subst ha
      obtain ⟨x, hx⟩ : ∃ x, S[k] = x := ⟨_, rfl⟩
      rw [hx] at y0' y1'
      have hxx : x.1 < x.2 := HF.out x (by rw [← hx]; exact List.getElem_mem _)
      have HA := Lib.hid (Mgd.ahead HS.out hkl HG.out hx)
      have HT := Lib.hid (take_next hkl hx)
      have y0 := (hb.out.cell (p := ⟨b, _, none⟩) hbl).trans y0'
      have y1 := (hb.out.cell (p := ⟨b, _, none⟩) hbl).trans y1'
      have g0 : (0 : Int) ≤ (k : Int) := by omega
      have g1 : (k : Int) < (n : Int) := by omega
      clear y0' y1' hx hkl
      have HX1 : Hid (SB ((wr.alloc (.cells #[.int .i64 x.1, .int .i64 x.2] 34)).alloc (.cells #[.int .i64 0, .int .i64 0] 34)) wr.heap.size x) := Lib.hid (SB.grow ⟨heap_alloc_new wr _⟩ ((Below.refl _ _).alloc (Nat.le_refl _) _))
      have HX2 : Hid (SB ((wr.alloc (.cells #[.int .i64 x.1, .int .i64 x.2] 34)).alloc (.cells #[.int .i64 0, .int .i64 0] 34)) (wr.heap.size + 1) (0, 0)) := Lib.hid ⟨by rw [show wr.heap.size + 1 = (wr.alloc (.cells #[.int .i64 x.1, .int .i64 x.2] 34)).heap.size by simp]; exact heap_alloc_new _ _⟩
      have hbb : Below wr.heap.size wr ((wr.alloc (.cells #[.int .i64 x.1, .int .i64 x.2] 34)).alloc (.cells #[.int .i64 0, .int .i64 0] 34)) := ((Below.refl _ _).alloc (Nat.le_refl _) _).alloc (by simp) _
      have HO1 := Lib.hid (ownsRow_below HO.out hbb)
      have HB1 := Lib.hid (hb.out.trans (hbb.mono hb.out.size))
      have hB : w.heap.size ≤ wr.heap.size := hb.out.size
      clear hbb hb
      rcases List.eq_nil_or_concat m with hm0 | ⟨m0, q, hm0⟩
      · subst hm0
        obtain ⟨ar, cr, hu, -⟩ := row_slice HO1.out
        have hu' : ∃ cr, u3 = .slice ar 0 cr := ⟨cr, hu⟩
        clear hu
        obtain ⟨cr, rfl⟩ := hu'
        have HG2 : Hid (Mgd (S.take (k + 1)) ([] ++ [x])) := Lib.hid (by rw [HT.out]; exact Mgd.far HG.out hxx (fun y hy => by cases hy))
        clear HG HA HT HO
        go_upto_region 7 with (fail)
        generalize (wr.alloc (.cells #[.int .i64 x.1, .int .i64 x.2] 34)).alloc (.cells #[.int .i64 0, .int .i64 0] 34) = W2 at HX1 HX2 HO1 HB1 ⊢
        obtain ⟨c0, c1, f0, f1⟩ := HX1.out.cells
        obtain ⟨d0, d1, f2, f3⟩ := HX2.out.cells
        have hW2 : wr.heap.size + 1 < W2.heap.size := lt_of_heap HX2.out.blk
        go_wp2_with (refine wpList_append_span (by rfl) (.tmp 28) (.tmp 30) (by rfl) w.heap.size _ [] (by rfl) W2 x (by rfl) HO1.out (by rfl) (by simp) HB1.out.size ?_; intro v9 w9 hown9 hgrow9; have HO9 := Lib.hid hown9; have HB9 := Lib.hid (below_grown (HB1.out.trans ((Below.refl _ _).alloc (Nat.le_refl _) _ |>.mono HB1.out.size)) (fun k e => by have := (HO1.out.lt k e).1; omega) hgrow9); clear hown9 hgrow9)
        go_roundw
        case rel => exact ⟨k + 1, [] ++ [x], by omega, by go_num, by simp, HG2, HO9, HB9⟩
        case measure => simp [intOf]; omega
      · rw [List.concat_eq_append] at hm0
        subst hm0
        obtain ⟨g, cp, hu⟩ := own_some HO1.out (by simp)
        subst hu
        have hgr : g < wr.heap.size := (HO.out.lt g rfl).2
        have hgw : w.heap.size ≤ g := (HO.out.lt g rfl).1
        clear HO
        obtain ⟨p, hp⟩ : ∃ p, m0.length = p := ⟨_, rfl⟩
        have hlen : (m0 ++ [q]).length = p + 1 := by rw [List.length_append, hp]; rfl
        have hmk2 : p + 1 ≤ k := by rw [← hlen]; exact hmk
        have hqx : q.1 ≤ x.1 := HA.out q (by simp)
        obtain ⟨hqq, hm0q⟩ := HG.out.last
        obtain ⟨-, p1, p2, p3, p4, p5, p6⟩ := own_last HO1.out
        rw [hp] at p2 p3 p4
        have HO2 := HO1
        rw [hlen] at p1 HO1 ⊢
        have HP := Lib.hid hp
        have HL := Lib.hid hlen
        have HMQ := Lib.hid hm0q
        have e1 : ((p + 1 : Nat) : Int) - 1 = (p : Int) := by omega
        have e2 : (0 : Int) ≤ (p : Int) := by omega
        have e3 : (p : Int) < ((p + 1 : Nat) : Int) := by omega
        clear hp hlen HA hmk hm0q p2 p3 p4
        go_upto_region 7 with (fail)
        generalize (wr.alloc (.cells #[.int .i64 x.1, .int .i64 x.2] 34)).alloc (.cells #[.int .i64 0, .int .i64 0] 34) = W2 at HX1 HX2 HO1 HO2 HB1 ⊢
        obtain ⟨c0, c1, f0, f1⟩ := HX1.out.cells
        obtain ⟨d0, d1, f2, f3⟩ := HX2.out.cells
        have hW2 : wr.heap.size + 1 < W2.heap.size := lt_of_heap HX2.out.blk
        obtain ⟨-, p1, p2, p3, p4, p5, p6⟩ := own_last (m0 := m0) (a := q) (by have := HO2.out; rwa [HL.out] at this ⊢)
        rw [HP.out] at p2 p3 p4
        obtain ⟨r, hr⟩ : ∃ r, cm q x = r := ⟨_, rfl⟩
        have HC := Lib.hid hr
        clear hr p1 p5 p6
        go_upto_region 8 with (fail)
        go_region_with (go_at_call 35; refine (common_at HC.out _).mono ?_; rintro e w3 ⟨rfl, hb3⟩; have hb4 : Below W2.heap.size W2 w3 := (Below.refl W2.heap.size W2).drew.trans hb3; have HB4 := Lib.hid hb4; have HX4 := Lib.hid (HX2.out.grow hb4); obtain ⟨d4, d5, f4, f5⟩ := HX4.out.cells; clear hb3 hb4)
        all_goals (
          have hO4 := ownsRow_below HO2.out HB4.out
          have hX3 := HX1.out.grow HB4.out
          have hsz : W2.heap.size ≤ w3.heap.size := HB4.out.size
          have hO5 := ownsRow_setCell_other hO4 (a := ⟨wr.heap.size + 1, 0, none⟩) (fun e => by simp only [Value.ownBlock, Option.some.injEq] at e; omega) (.int .i64 r.1)
          have hO6 := ownsRow_setCell_other hO5 (a := ⟨wr.heap.size + 1, 1, none⟩) (fun e => by simp only [Value.ownBlock, Option.some.injEq] at e; omega) (.int .i64 r.2)
          have hX6 : SB ((w3.setCell ⟨wr.heap.size + 1, 0, none⟩ (.int .i64 r.1)).setCell ⟨wr.heap.size + 1, 1, none⟩ (.int .i64 r.2)) wr.heap.size x := ⟨heap_setCell (heap_setCell hX3.blk (by simp) _) (by simp) _⟩
          have hX7 : SB ((w3.setCell ⟨wr.heap.size + 1, 0, none⟩ (.int .i64 r.1)).setCell ⟨wr.heap.size + 1, 1, none⟩ (.int .i64 r.2)) (wr.heap.size + 1) r := (HX4.out.set0 r.1).set1 r.2
          have hB6 : Below w.heap.size w ((w3.setCell ⟨wr.heap.size + 1, 0, none⟩ (.int .i64 r.1)).setCell ⟨wr.heap.size + 1, 1, none⟩ (.int .i64 r.2)) := ((HB1.out.trans (HB4.out.mono HB1.out.size)).setCell (p := ⟨wr.heap.size + 1, 0, none⟩) (by simp only; omega) _).setCell (p := ⟨wr.heap.size + 1, 1, none⟩) (by simp only; omega) _
          generalize (w3.setCell ⟨wr.heap.size + 1, 0, none⟩ (.int .i64 r.1)).setCell ⟨wr.heap.size + 1, 1, none⟩ (.int .i64 r.2) = W6 at hO6 hX6 hX7 hB6 ⊢
          have HO6 := Lib.hid hO6
          rw [show Value.slice (some ⟨g, 0, none⟩) (m0 ++ [q]).length cp = .slice (some ⟨g, 0, none⟩) (p + 1) cp by rw [HL.out]] at hO6
          have HO7 := Lib.hid hO6
          have HX6 := Lib.hid hX6
          have HX7 := Lib.hid hX7
          have HB6 := Lib.hid hB6
          clear hO4 hX3 hO5 hO6 hX6 hX7 hB6 HX4 HB4 HX1 HX2 HO1 HO2 HB1 c0 c1 f0 f1 d0 d1 f2 f3 p2 p3 p4 d4 d5 f4 f5 hsz
          obtain ⟨c0, c1, f0, f1⟩ := HX6.out.cells
          obtain ⟨d0, d1, f2, f3⟩ := HX7.out.cells
          have hW6 : wr.heap.size + 1 < W6.heap.size := lt_of_heap HX7.out.blk
          by_cases hA : q.2 ≤ x.1
          · have HR : Hid (r = (0, 0)) := Lib.hid (by rw [← HC.out]; exact cm_far hA hqx)
            rw [HR.out] at d0 d1
            have HG2 : Hid (Mgd (S.take (k + 1)) (m0 ++ [q] ++ [x])) := Lib.hid (by
              rw [HT.out]
              refine Mgd.far HG.out hxx (fun y hy => ?_)
              rcases List.mem_append.1 hy with h1 | h1
              · have := HMQ.out y h1
                omega
              · rw [List.mem_singleton.1 h1]; exact hA)
            have hl9 : (m0 ++ [q]).length ≤ 90000 := by rw [HL.out]; omega
            clear HG HT HC HR hA HX7
            go_wp2_with (refine wpList_append_span (by rfl) (.tmp 28) (.tmp 30) (by rfl) w.heap.size _ (m0 ++ [q]) (by rfl) W6 x (by rfl) HO7.out (by rfl) hl9 HB6.out.size ?_; intro v9 w9 hown9 hgrow9; have HO9 := Lib.hid hown9; have HB9 := Lib.hid (below_grown (HB6.out.trans ((Below.refl _ _).alloc (Nat.le_refl _) _ |>.mono HB6.out.size)) (fun k e => by have := (HO7.out.lt k e).1; omega) hgrow9); clear hown9 hgrow9)
            go_roundw
            case rel => exact ⟨k + 1, m0 ++ [q] ++ [x], by omega, by go_num, by rw [List.length_append, HL.out]; simp; omega, HG2, HO9, HB9⟩
            case measure => simp [intOf]; omega
          · by_cases hC : q.2 < x.2
            · have HR : Hid (r = (x.1, q.2)) := Lib.hid (by rw [← HC.out]; exact cm_part hA hqx hC)
              rw [HR.out] at d0 d1
              have HG2 : Hid (Mgd (S.take (k + 1)) (m0 ++ [(q.1, x.2)])) := Lib.hid (by
                rw [HT.out]
                have := Mgd.near HG.out hxx hqx (by omega)
                rwa [show max x.2 q.2 = x.2 by omega] at this)
              have e4 : (q.2 == x.2) = false := ibne (by omega)
              have e5 : (q.2 != x.2) = true := inebt (by omega)
              have hO8 := own_end (m0 := m0) (a := q) (by have := HO6.out; rwa [HL.out] at this ⊢) x.2
              obtain ⟨-, p1, p2, p3, p4, p5, p6⟩ := own_last (m0 := m0) (a := q) (by have := HO6.out; rwa [HL.out] at this ⊢)
              rw [HP.out] at hO8 p2 p3 p4
              have HO8 := Lib.hid hO8
              have HB8 : Hid (Below w.heap.size w (W6.setCell ⟨g, p * 2 + 1, none⟩ (.int .i64 x.2))) := Lib.hid (HB6.out.setCell (p := ⟨g, p * 2 + 1, none⟩) hgw _)
              clear HG HT HC HR HX7 HX6 hO8 HO6 HB6 p1 p5 p6
              by_cases hz : q.2 = 0
              · have hz1 : (x.1 == 0) = false := ibne (by omega)
                go_wp2
                go_roundw
                case rel => exact ⟨k + 1, m0 ++ [(q.1, x.2)], by omega, by go_num, by rw [List.length_append, HP.out]; simp; omega, HG2, HO8, HB8⟩
                case measure => simp [intOf]; omega
              · have hz1 : (q.2 == 0) = false := ibne hz
                go_wp2
                go_roundw
                case rel => exact ⟨k + 1, m0 ++ [(q.1, x.2)], by omega, by go_num, by rw [List.length_append, HP.out]; simp; omega, HG2, HO8, HB8⟩
                case measure => simp [intOf]; omega
            · have HR : Hid (r = (x.1, x.2)) := Lib.hid (by rw [← HC.out]; exact cm_in hA hqx hC hxx)
              rw [HR.out] at d0 d1
              have HG2 : Hid (Mgd (S.take (k + 1)) (m0 ++ [q])) := Lib.hid (by
                rw [HT.out]
                have := Mgd.near HG.out hxx hqx (by omega)
                rwa [show max x.2 q.2 = q.2 by omega] at this)
              clear HG HT HC HR HX7 HX6
              by_cases hz : x.2 = 0
              · have hz1 : (x.1 == 0) = false := ibne (by omega)
                go_wp2
                go_roundw
                case rel => exact ⟨k + 1, m0 ++ [q], by omega, by go_num, by rw [HL.out]; omega, HG2, HO7, HB6⟩
                case measure => simp [intOf]; omega
              · have hz1 : (x.2 == 0) = false := ibne hz
                go_wp2
                go_roundw
                case rel => exact ⟨k + 1, m0 ++ [q], by omega, by go_num, by rw [HL.out]; omega, HG2, HO7, HB6⟩
                case measure => simp [intOf]; omega)
    · have HFi : Hid (m = M) := Lib.hid (HM.out m (by have := HG.out; rwa [List.take_of_length_le (by rw [HN.out]; omega)] at this))
      clear HG
      go_wp2
      go_ret
      exact ⟨_, rfl, by rw [← HFi.out]; exact spans_row HO.out, hb.out⟩
end Go.Proofs.Ytfkdkcdknpjoeaa.Wi
