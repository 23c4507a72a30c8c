/-
  WindowMerges: the walk of the law. Conditions: the spans lie in memory.
-/
import Derived.Test.YtfkdkcdknpjoeaaWAwake
namespace Go.Proofs.Ytfkdkcdknpjoeaa.Wi
set_option linter.unusedVariables false
set_option linter.unusedSimpArgs false
open Go.RowKit

theorem empty_row {w w' : World} {B : Nat} (hw : w' = w.alloc (.cells #[] 34)) (hB : B ≤ w.heap.size) : w'.ownsRow B 34 2 (.slice (some ⟨w.heap.size, 0, none⟩) 0 0) ([] : List Sp).length (scs []) :=
  ⟨rfl, .inr ⟨w.heap.size, 0, #[], rfl, hB, by rw [hw]; exact heap_alloc_new w _, Nat.le_refl _, Nat.zero_le _, rfl, rfl⟩⟩
theorem own_ne {w : World} {B g : Nat} {e : TypeId} {size : Nat} {v : Value} {n : Nat} {xs : List Value} (h : w.ownsRow B e size v n xs) : ∀ k, v.ownBlock = some k → B ≤ k := fun k e => (h.lt k e).1
set_option maxRecDepth 20000 in
set_option maxHeartbeats 4000000 in
theorem wm_many {w : World} {a : Option Addr} {n c : Nat} {L : List Sp} (h : SpansAt w (.slice a n c) L) (h1 : 4096 < n) (h2 : n ≤ 5000) : Calls Try.prog 5 #[.slice a n c] w fun e w' => e = .returned (.bool true) ∧ Below w.heap.size w w' := by
  obtain ⟨hnl, k1, k2, k3⟩ := h.len
  unfold maxLen at k2 k3
  have HI := Lib.hid h
  have HN := Lib.hid hnl
  have HL : Hid (4096 < L.length) := Lib.hid (by omega)
  clear h hnl k2
  go_enter Try.func5, Try.ntmps5
  go_wp2_with (first
    | (at_builtin; refine wpList_append_spans (by rfl) (.tmp 10) (.tmp 11) (by rfl) w.heap.size (.slice (some ⟨w.heap.size, 0, none⟩) 0 0) [] (by rfl) (empty_row rfl (Nat.le_refl _)) a n c L (by rfl) (HI.out.grow ((Below.refl _ _).alloc (Nat.le_refl _) _)) (by simp; omega) (by simp) ?_; intro v1 w1 hown1 hgrow1; have hb1 := ((Below.refl w.heap.size w).alloc (Nat.le_refl _) (.cells #[] 34)).grown hgrow1 (by simp) (fun k e => by simp [Value.ownBlock] at e; omega); have HO1 : Hid (SpansAt w1 v1 L) := Lib.hid (spans_row hown1); have HB1 := Lib.hid hb1; clear hown1 hgrow1 hb1)
    | (go_at_call 18; refine (merge_many HO1.out HL.out).mono ?_; rintro e w2 ⟨v2, rfl, hi2, hb2⟩; obtain ⟨a2, c2, rfl⟩ := hi2.val; have HO2 := Lib.hid (HO1.out.grow hb2); have HB2 := Lib.hid (grow_below HB1.out hb2); clear hi2 hb2 HO1 HB1)
    | (go_at_call 14; refine (same_at HO2.out (HI.out.grow HB2.out) (decide_eq_true rfl)).mono ?_; rintro e w3 ⟨rfl, hb3⟩; have HB3 := Lib.hid (grow_below HB2.out hb3); clear hb3 HO2 HB2)
    | (go_at_call 16; refine (awake_any _).mono ?_; rintro e w4 ⟨rfl, hb4⟩; have HB4 := Lib.hid (grow_below HB3.out hb4); clear hb4 HB3))
  go_ret
  exact ⟨rfl, HB4.out⟩
set_option maxRecDepth 20000 in
set_option maxHeartbeats 4000000 in
theorem wm_ok {w : World} {a : Option Addr} {n c : Nat} {L : List Sp} (h : SpansAt w (.slice a n c) L) (h1 : n ≤ 4096) (hf : ∀ s ∈ L, s.1 < s.2) : Calls Try.prog 5 #[.slice a n c] w fun e w' => e = .returned (.bool true) ∧ Below w.heap.size w w' := by
  obtain ⟨hnl, k1, k2, k3⟩ := h.len
  unfold maxLen at k2 k3
  have HI := Lib.hid h
  have HN := Lib.hid hnl
  obtain ⟨M, hM⟩ : ∃ M, mg L = M := ⟨_, rfl⟩
  have HM := Lib.hid hM
  have HF := Lib.hid hf
  have HL : Hid (L.length ≤ 4096) := Lib.hid (by omega)
  clear hM hf
  clear h hnl k2
  go_enter Try.func5, Try.ntmps5
  go_wp2_with (first
    | (at_builtin; refine wpList_append_spans (by rfl) (.tmp 10) (.tmp 11) (by rfl) w.heap.size (.slice (some ⟨w.heap.size, 0, none⟩) 0 0) [] (by rfl) (empty_row rfl (Nat.le_refl _)) a n c L (by rfl) (HI.out.grow ((Below.refl _ _).alloc (Nat.le_refl _) _)) (by simp; omega) (by simp) ?_; intro v1 w1 hown1 hgrow1; have hb1 := ((Below.refl w.heap.size w).alloc (Nat.le_refl _) (.cells #[] 34)).grown hgrow1 (by simp) (fun k e => by simp [Value.ownBlock] at e; omega); have HO1 : Hid (SpansAt w1 v1 L) := Lib.hid (spans_row hown1); have HB1 := Lib.hid hb1; clear hown1 hgrow1 hb1)
    | (go_at_call 18; refine (merge_ok HO1.out HL.out HF.out HM.out).mono ?_; rintro e w2 ⟨v2, rfl, hi2, hb2⟩; obtain ⟨a2, c2, rfl⟩ := hi2.val; have HO2 := Lib.hid (HO1.out.grow hb2); have HI2 := Lib.hid hi2; have HB2 := Lib.hid (grow_below HB1.out hb2); clear hi2 hb2 HO1 HB1)
    | (go_at_call 14; refine (same_at HO2.out (HI.out.grow HB2.out) (decide_eq_true rfl)).mono ?_; rintro e w3 ⟨rfl, hb3⟩; have HB3 := Lib.hid (grow_below HB2.out hb3); have HI3 := Lib.hid (HI2.out.grow hb3); clear hb3 HO2 HB2 HI2))
  go_loopw [6] (fun z wr => ∃ k : Nat, k ≤ n ∧ z = .int .i64 k ∧ Hid (SpansAt wr (.slice a2 M.length c2) M) ∧ Hid (Below w.heap.size w wr)) (fun z _ => n - (intOf z).toNat)
  case atStart => exact ⟨0, Nat.zero_le _, rfl, HI3, HB3⟩
  case round =>
    clear HI3 HB3
    obtain ⟨k, hk, rfl, HI3, hb⟩ := hrel
    rename World => wq
    by_cases hlt : k < n
    · have hkl : k < L.length := by rw [← HN.out]; exact hlt
      obtain ⟨b, o, ha, hbl, y0', y1'⟩ := SpansAt.cells HI.out hkl
      subst ha
      have hfx := HF.out L[k] (List.getElem_mem hkl)
      obtain ⟨x, hx⟩ : ∃ x, L[k] = x := ⟨_, rfl⟩
      rw [hx] at y0' y1' hfx
      have y0 := (hb.out.cell (p := ⟨b, _, none⟩) hbl).trans y0'
      have y1 := (hb.out.cell (p := ⟨b, _, none⟩) hbl).trans y1'
      have g0 : (0 : Int) ≤ (k : Int) := by omega
      have g1 : (k : Int) < (n : Int) := by omega
      have d0 : ¬ x.2 ≤ x.1 := by omega
      clear y0' y1' hx hkl hfx
      go_wp2
      go_quiet (fail)
      go_wp2
      go_roundw
      case rel => exact ⟨k + 1, by omega, by go_num, Lib.hid (HI3.out.grow (drewN_below wq nq)), Lib.hid (hb.out.trans ((drewN_below wq nq).mono hb.out.size))⟩
      case measure => simp [intOf]; omega
    · by_cases h3 : n ≤ 300
      · go_wp2_with (first
          | (go_at_call 16; refine (awake_any _).mono ?_; rintro e w4 ⟨rfl, hb4⟩; have HB4 := Lib.hid (grow_below hb.out hb4); have HI4 := Lib.hid (HI3.out.grow hb4); clear hb4)
          | (go_at_call 19; refine (rmerge_at (HI.out.grow HB4.out) HL.out HM.out).mono ?_; rintro e w5 ⟨v5, rfl, hi5, hb5⟩; have HJ5 := Lib.hid hi5; have HI5 := Lib.hid (HI4.out.grow hb5); have HB5 := Lib.hid (grow_below HB4.out hb5); clear hi5 hb5)
          | (go_at_call 14; refine (same_at HI5.out HJ5.out (decide_eq_true rfl)).mono ?_; rintro e w6 ⟨rfl, hb6⟩; have HB6 := Lib.hid (grow_below HB5.out hb6); clear hb6))
        go_ret
        exact ⟨rfl, HB6.out⟩
      · go_wp2
        go_ret
        exact ⟨rfl, hb.out⟩
set_option maxRecDepth 20000 in
set_option maxHeartbeats 4000000 in
theorem wm_bad {w : World} {a : Option Addr} {n c : Nat} {L : List Sp} (h : SpansAt w (.slice a n c) L) (h1 : n ≤ 4096) (hf : ¬ ∀ s ∈ L, s.1 < s.2) : Calls Try.prog 5 #[.slice a n c] w fun e w' => e = .returned (.bool true) ∧ Below w.heap.size w w' := by
  obtain ⟨hnl, k1, k2, k3⟩ := h.len
  unfold maxLen at k2 k3
  have HI := Lib.hid h
  have HN := Lib.hid hnl
  have HF := Lib.hid hf
  have HL : Hid (L.length ≤ 4096) := Lib.hid (by omega)
  clear hf
  clear h hnl k2
  go_enter Try.func5, Try.ntmps5
  go_wp2_with (first
    | (at_builtin; refine wpList_append_spans (by rfl) (.tmp 10) (.tmp 11) (by rfl) w.heap.size (.slice (some ⟨w.heap.size, 0, none⟩) 0 0) [] (by rfl) (empty_row rfl (Nat.le_refl _)) a n c L (by rfl) (HI.out.grow ((Below.refl _ _).alloc (Nat.le_refl _) _)) (by simp; omega) (by simp) ?_; intro v1 w1 hown1 hgrow1; have hb1 := ((Below.refl w.heap.size w).alloc (Nat.le_refl _) (.cells #[] 34)).grown hgrow1 (by simp) (fun k e => by simp [Value.ownBlock] at e; omega); have HO1 : Hid (SpansAt w1 v1 L) := Lib.hid (spans_row hown1); have HB1 := Lib.hid hb1; clear hown1 hgrow1 hb1)
    | (go_at_call 18; refine (merge_arg HO1.out HL.out HF.out).mono ?_; rintro e w2 ⟨v2, rfl, hi2, hb2⟩; obtain ⟨a2, c2, rfl⟩ := hi2.val; have HO2 := Lib.hid (HO1.out.grow hb2); have HB2 := Lib.hid (grow_below HB1.out hb2); clear hi2 hb2 HO1 HB1)
    | (go_at_call 14; refine (same_at HO2.out (HI.out.grow HB2.out) (decide_eq_true rfl)).mono ?_; rintro e w3 ⟨rfl, hb3⟩; have HB3 := Lib.hid (grow_below HB2.out hb3); clear hb3 HO2 HB2))
  go_loopw [6] (fun z wr => ∃ k : Nat, k ≤ n ∧ z = .int .i64 k ∧ Hid (∀ i (hi : i < L.length), i < k → L[i].1 < L[i].2) ∧ Hid (Below w.heap.size w wr)) (fun z _ => n - (intOf z).toNat)
  case atStart => exact ⟨0, Nat.zero_le _, rfl, Lib.hid (fun i _ hi => by omega), HB3⟩
  case round =>
    clear HB3
    obtain ⟨k, hk, rfl, HK, hb⟩ := hrel
    rename World => wq
    by_cases hlt : k < n
    · have hkl : k < L.length := by rw [← HN.out]; exact hlt
      obtain ⟨b, o, ha, hbl, y0', y1'⟩ := SpansAt.cells HI.out hkl
      subst ha
      obtain ⟨x, hx⟩ : ∃ x, L[k] = x := ⟨_, rfl⟩
      rw [hx] at y0' y1'
      have y0 := (hb.out.cell (p := ⟨b, _, none⟩) hbl).trans y0'
      have y1 := (hb.out.cell (p := ⟨b, _, none⟩) hbl).trans y1'
      have g0 : (0 : Int) ≤ (k : Int) := by omega
      have g1 : (k : Int) < (n : Int) := by omega
      by_cases hfx : x.2 ≤ x.1
      · clear y0' y1' hx hkl HK
        go_wp2
        go_quiet (fail)
        go_wp2_with (go_at_call 16; refine (awake_any _).mono ?_; rintro e w4 ⟨rfl, hb4⟩; have HB4 := Lib.hid (grow_below (hb.out.trans ((drewN_below wq nq).mono hb.out.size)) hb4); clear hb4)
        go_ret
        exact ⟨rfl, HB4.out⟩
      · have HK2 : Hid (∀ i (hi : i < L.length), i < k + 1 → L[i].1 < L[i].2) := Lib.hid (fun i hi hik => by
          by_cases e : i = k
          · subst e; rw [hx]; omega
          · exact HK.out i hi (by omega))
        clear y0' y1' hx hkl HK
        go_wp2
        go_quiet (fail)
        go_wp2
        go_roundw
        case rel => exact ⟨k + 1, by omega, by go_num, HK2, Lib.hid (hb.out.trans ((drewN_below wq nq).mono hb.out.size))⟩
        case measure => simp [intOf]; omega
    · refine absurd ?_ HF.out
      intro s hs
      obtain ⟨i, hi, rfl⟩ := List.getElem_of_mem hs
      exact HK.out i hi (by rw [← HN.out] at hi; omega)
set_option maxRecDepth 20000 in
theorem windowMerges_walk {w : World} {a : Option Addr} {n c : Nat} {L : List Sp} (h : SpansAt w (.slice a n c) L) : Calls Try.prog 5 #[.slice a n c] w fun e w' => e = .returned (.bool true) ∧ Below w.heap.size w w' := by
  by_cases h1 : n ≤ 5000
  · by_cases h2 : n ≤ 4096
    · by_cases hf : ∀ s ∈ L, s.1 < s.2
      · exact wm_ok h h2 hf
      · exact wm_bad h h2 hf
    · exact wm_many h (by omega) h1
  · clear h
    go_enter Try.func5, Try.ntmps5
    go_wp2
    go_ret
    exact ⟨rfl, Below.refl _ _⟩
end Go.Proofs.Ytfkdkcdknpjoeaa.Wi
