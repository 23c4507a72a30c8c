/-
  The program's Merge: any spans, merged, or refused. Conditions: as each theorem names them.
-/
import Derived.Test.YtfkdkcdknpjoeaaWP4
namespace Go.Proofs.Ytfkdkcdknpjoeaa.Wi
set_option linter.unusedVariables false
set_option linter.unusedSimpArgs false
open Go.RowKit

set_option maxRecDepth 20000 in
set_option maxHeartbeats 2000000 in
theorem index_at {w : World} {v : Value} {L : List Sp} (h : SpansAt w v L) (hl : L.length ≤ 4096) {b : Bool} (hb : decide (∀ s ∈ L, s.1 < s.2) = b) : Calls Try.prog 31 #[v, .func (.func 25) #[] #[]] w fun e w' => ∃ i : Int, e = .returned (.int .i64 i) ∧ decide (0 ≤ i) = !b ∧ Below w.heap.size w w' := by
  obtain ⟨a, c, rfl⟩ := h.val
  obtain ⟨-, k1, k2, k3⟩ := h.len
  unfold maxLen at k2 k3
  obtain ⟨n, hn⟩ : ∃ n, L.length = n := ⟨_, rfl⟩
  rw [hn] at h k1 k2 hl ⊢
  have HI := Lib.hid h
  have HN := Lib.hid hn
  have HR := Lib.hid hb
  clear h hn k2 hb
  go_enter Try.func31, Try.ntmps31
  go_wp2
  go_loopw [8] (fun z wr => ∃ k : Nat, k ≤ n ∧ z = .int .i64 k ∧ Hid (∀ i x, i < k → L[i]? = some x → x.1 < x.2) ∧ Hid (Below w.heap.size w wr)) (fun z _ => n - (intOf z).toNat)
  case atStart => exact ⟨0, Nat.zero_le _, rfl, Lib.hid (fun i x h => by omega), Lib.hid (Below.refl _ _)⟩
  case round =>
    obtain ⟨k, hk, rfl, HP, hB⟩ := hrel
    rename World => wr
    by_cases hlt : k < n
    · have hkl : k < L.length := by rw [HN.out]; exact hlt
      obtain ⟨bb, o, ha, hbl, y0', y1'⟩ := SpansAt.cells HI.out hkl
      subst ha
      obtain ⟨x, hx⟩ : ∃ x, L[k] = x := ⟨_, rfl⟩
      rw [hx] at y0' y1'
      have hxo : L[k]? = some x := by rw [List.getElem?_eq_getElem hkl, hx]
      have y0 := (hB.out.cell (p := ⟨bb, _, none⟩) hbl).trans y0'
      have y1 := (hB.out.cell (p := ⟨bb, _, none⟩) hbl).trans y1'
      have g0 : (0 : Int) ≤ (k : Int) := by omega
      have g1 : (k : Int) < (n : Int) := by omega
      clear y0' y1' hx hkl
      by_cases he : x.2 ≤ x.1
      · have HE : Hid (decide (x.2 ≤ x.1) = true) := Lib.hid (decide_eq_true he)
        have HF : Hid (decide ((0 : Int) ≤ (k : Int)) = !b) := Lib.hid (by
          rw [decide_eq_true g0, ← HR.out, decide_eq_false]
          · rfl
          · intro hall
            have := hall x (List.mem_of_getElem? hxo)
            omega)
        clear HP hxo he
        go_wp2_with (go_at_call 25; refine (empty_at HE.out _).mono ?_; rintro e w2 ⟨rfl, hb2⟩; have HB2 := Lib.hid (hB.out.trans (hb2.mono hB.out.size)); clear hb2)
        go_ret
        exact ⟨_, rfl, HF.out, HB2.out⟩
      · have HE : Hid (decide (x.2 ≤ x.1) = false) := Lib.hid (decide_eq_false he)
        have HP2 : Hid (∀ i y, i < k + 1 → L[i]? = some y → y.1 < y.2) := Lib.hid (fun i y hi hy => by
          by_cases hik : i = k
          · subst hik
            rw [hxo] at hy
            injection hy with hy
            subst hy
            omega
          · exact HP.out i y (by omega) hy)
        clear HP hxo he
        go_wp2_with (go_at_call 25; refine (empty_at HE.out _).mono ?_; rintro e w2 ⟨rfl, hb2⟩; have HB2 := Lib.hid (hB.out.trans (hb2.mono hB.out.size)); clear hb2)
        go_roundw
        case rel => exact ⟨k + 1, by omega, by go_num, HP2, HB2⟩
        case measure => simp [intOf]; omega
    · have HF : Hid (decide ((0 : Int) ≤ -1) = !b) := Lib.hid (by
        have hall : ∀ s ∈ L, s.1 < s.2 := fun s hs => by
          obtain ⟨i, hi, rfl⟩ := List.getElem_of_mem hs
          exact HP.out i _ (by rw [HN.out] at hi; omega) (List.getElem?_eq_getElem hi)
        have hd : decide (∀ s ∈ L, s.1 < s.2) = true := decide_eq_true hall
        rw [← HR.out, hd]
        rfl)
      clear HP
      go_wp2
      go_ret
      exact ⟨_, rfl, HF.out, hB.out⟩
set_option maxHeartbeats 1000000 in
theorem contains_at {w : World} {v : Value} {L : List Sp} (h : SpansAt w v L) (hl : L.length ≤ 4096) {b : Bool} (hb : decide (∀ s ∈ L, s.1 < s.2) = b) : Calls Try.prog 24 #[v, .func (.func 25) #[] #[]] w fun e w' => e = .returned (.bool (!b)) ∧ Below w.heap.size w w' := by
  have HI := Lib.hid (index_at h hl hb)
  clear h hb
  go_enter Try.func24, Try.ntmps24
  go_wp2_with (go_at_call 31; refine HI.out.mono ?_; rintro e w2 ⟨i, rfl, hi2, hb2⟩; have HB2 := Lib.hid hb2; have HJ := Lib.hid hi2; clear hb2 hi2)
  all_goals go_ret
  all_goals exact ⟨ret_bool HJ.out, HB2.out⟩
theorem perm_ok {S L : List Sp} (h : S.Perm L) (hf : ∀ s ∈ L, s.1 < s.2) : ∀ s ∈ S, s.1 < s.2 := fun s hs => hf s (h.mem_iff.1 hs)
theorem perm_mg {S L : List Sp} (h : S.Perm L) (hf : ∀ s ∈ L, s.1 < s.2) : mg S = mg L :=
  mg_is (perm_ok h hf) (mg_spec L hf).1 ((alike_mem fun s => h.mem_iff).trans (mg_spec L hf).2)
set_option maxHeartbeats 1000000 in
theorem merge_ok {w : World} {v : Value} {L : List Sp} (h : SpansAt w v L) (hlen : L.length ≤ 4096) (hf : ∀ s ∈ L, s.1 < s.2) {M : List Sp} (hM : mg L = M) : Calls Try.prog 18 #[v] w fun e w' => ∃ v', e = .returned (.tuple #[v', .int .i64 0]) ∧ SpansAt w' v' M ∧ Below w.heap.size w w' := by
  obtain ⟨a, c, rfl⟩ := h.val
  have hn : ¬ (4096 : Int) < (L.length : Int) := by omega
  have HC := Lib.hid (contains_at h hlen (b := true) (decide_eq_true hf))
  have HI := Lib.hid h
  have HM := Lib.hid hM
  have HF := Lib.hid hf
  obtain ⟨n, hnn⟩ : ∃ n, L.length = n := ⟨_, rfl⟩
  have HN := Lib.hid hnn
  rw [hnn] at HC HI hn hlen ⊢
  clear h hM hf hnn
  go_enter Try.func18, Try.ntmps18
  go_wp2_with (first
    | (go_at_call 24; refine HC.out.mono ?_; rintro e w1 ⟨rfl, hb1⟩; have HB1 := Lib.hid hb1; have HI1 := Lib.hid (HI.out.grow hb1); clear hb1)
    | (go_at_call 26; refine (clone_at HI1.out (by rw [HN.out]; omega)).mono ?_; rintro e w2 ⟨v2, rfl, ho2, hb2⟩; have HO2 := Lib.hid ho2; have HB2 := Lib.hid hb2; clear ho2 hb2)
    | (go_at_call 27; refine (sort_at HO2.out HB2.out (by rw [HN.out]; omega)).mono ?_; rintro e w3 ⟨rfl, S, hp3, hs3, ho3, hb3⟩; have HP3 := Lib.hid hp3; have HS3 := Lib.hid hs3; have HO3 := Lib.hid ho3; have HB3 := Lib.hid (HB1.out.trans (hb3.mono HB1.out.size)); clear hp3 hs3 ho3 hb3)
    | (go_at_call 29; refine (merged_at (spans_row HO3.out) (by rw [HP3.out.length_eq, HN.out]; omega) (perm_ok HP3.out HF.out) HS3.out ((perm_mg HP3.out HF.out).trans HM.out)).mono ?_; rintro e w4 ⟨v4, rfl, hi4, hb4⟩; have HI4 := Lib.hid hi4; have HB4 := Lib.hid (HB3.out.trans (hb4.mono HB3.out.size)); clear hi4 hb4))
  go_ret2
  exact ⟨_, rfl, HI4.out, HB4.out⟩
set_option maxHeartbeats 1000000 in
theorem merge_arg {w : World} {v : Value} {L : List Sp} (h : SpansAt w v L) (hlen : L.length ≤ 4096) (hf : ¬ ∀ s ∈ L, s.1 < s.2) : Calls Try.prog 18 #[v] w fun e w' => ∃ v', e = .returned (.tuple #[v', .int .i64 1]) ∧ SpansAt w' v' [] ∧ Below w.heap.size w w' := by
  obtain ⟨a, c, rfl⟩ := h.val
  have hn : ¬ (4096 : Int) < (L.length : Int) := by omega
  have HC := Lib.hid (contains_at h hlen (b := false) (decide_eq_false hf))
  obtain ⟨n, hnn⟩ : ∃ n, L.length = n := ⟨_, rfl⟩
  rw [hnn] at HC hn hlen ⊢
  clear h hf hnn
  go_enter Try.func18, Try.ntmps18
  go_wp2_with (go_at_call 24; refine HC.out.mono ?_; rintro e w1 ⟨rfl, hb1⟩; have HB1 := Lib.hid hb1; clear hb1)
  go_ret2
  exact ⟨_, rfl, nil_spans _, HB1.out⟩
set_option maxHeartbeats 1000000 in
theorem merge_many {w : World} {v : Value} {L : List Sp} (h : SpansAt w v L) (hlen : 4096 < L.length) : Calls Try.prog 18 #[v] w fun e w' => ∃ v', e = .returned (.tuple #[v', .int .i64 5]) ∧ SpansAt w' v' [] ∧ Below w.heap.size w w' := by
  obtain ⟨a, c, rfl⟩ := h.val
  have hn : (4096 : Int) < (L.length : Int) := by omega
  obtain ⟨n, hnn⟩ : ∃ n, L.length = n := ⟨_, rfl⟩
  rw [hnn] at hn ⊢
  clear h hnn
  go_enter Try.func18, Try.ntmps18
  go_wp2
  go_ret2
  exact ⟨_, rfl, nil_spans _, Below.refl _ _⟩
end Go.Proofs.Ytfkdkcdknpjoeaa.Wi
