/-
  WindowOnce: the walk of the law. Conditions: the spans lie in memory.
-/
import Derived.Test.YtfkdkcdknpjoeaaWAwake
namespace Go.Proofs.Ytfkdkcdknpjoeaa.Wi
set_option linter.unusedVariables false
set_option linter.unusedSimpArgs false
open Go.RowKit

theorem drop_rev {L : List Sp} {j : Nat} (hj : j < L.length) {x : Sp} (hx : L[j] = x) : (L.drop j).reverse = (L.drop (j + 1)).reverse ++ [x] := by
  rw [List.drop_eq_getElem_cons hj, hx, List.reverse_cons]
theorem countP_next {L : List Sp} {P : Sp → Bool} {j : Nat} (hj : j < L.length) {x : Sp} (hx : L[j] = x) : (L.take (j + 1)).countP P = (L.take j).countP P + (if P x = true then 1 else 0) := by
  rw [List.take_add_one, List.getElem?_eq_getElem hj, hx, Option.toList_some, List.countP_append, List.countP_cons, List.countP_nil]
  simp
theorem mg_none {L : List Sp} (hf : ∀ s ∈ L, s.1 < s.2) (h : mg L = []) : L = [] := by
  cases L with
  | nil => rfl
  | cons a r =>
    have := lies_in hf (List.mem_cons_self (a := a) (l := r))
    rw [h] at this
    simp at this
theorem mg_empty {L : List Sp} (hf : ∀ s ∈ L, s.1 < s.2) : (mg L).length = 0 ↔ L.length = 0 := by
  constructor
  · intro h; rw [mg_none hf (List.eq_nil_of_length_eq_zero h)]; rfl
  · intro h; rw [List.eq_nil_of_length_eq_zero h]; rfl
theorem below_grown' {W w w' : World} {r : Option Nat} (hB : Below W.heap.size W w) (hb : ∀ k, r = some k → W.heap.size ≤ k) (hg : w.grownBy w' r) : Below W.heap.size W w' := hB.grown hg hB.size hb
set_option maxRecDepth 20000 in
set_option maxHeartbeats 4000000 in
theorem wo_bad {w : World} {a : Option Addr} {n c : Nat} {L : List Sp} (h : SpansAt w (.slice a n c) L) (h1 : n ≤ 300) (hf : ¬ ∀ s ∈ L, s.1 < s.2) : Calls Try.prog 6 #[.slice a n c] w fun e w' => e = .returned (.bool true) ∧ Below w.heap.size w w' := by
  obtain ⟨hnl, k1, k2, k3⟩ := h.len
  unfold maxLen at k2 k3
  have HI := Lib.hid h
  have HF := Lib.hid hf
  have HL : Hid (L.length ≤ 4096) := Lib.hid (by omega)
  clear hf h hnl k2
  go_enter Try.func6, Try.ntmps6
  go_wp2_with (first
    | (go_at_call 18; refine (merge_arg HI.out HL.out HF.out).mono ?_; rintro e w2 ⟨v2, rfl, hi2, hb2⟩; obtain ⟨a2, c2, rfl⟩ := hi2.val; have HB2 := Lib.hid hb2; clear hi2 hb2)
    | (go_at_call 16; refine (awake_any _).mono ?_; rintro e w4 ⟨rfl, hb4⟩; have HB4 := Lib.hid (grow_below HB2.out hb4); clear hb4 HB2))
  go_ret
  exact ⟨rfl, HB4.out⟩
set_option maxRecDepth 20000 in
set_option maxHeartbeats 8000000 in
theorem wo_ok {w : World} {a : Option Addr} {n c : Nat} {L : List Sp} (h : SpansAt w (.slice a n c) L) (h1 : n ≤ 300) (hf : ∀ s ∈ L, s.1 < s.2) : Calls Try.prog 6 #[.slice a n c] w fun e w' => e = .returned (.bool true) ∧ Below w.heap.size w w' := by
  obtain ⟨hnl, k1, k2, k3⟩ := h.len
  unfold maxLen at k2 k3
  have HI := Lib.hid h
  have HN := Lib.hid hnl
  obtain ⟨M, hM⟩ : ∃ M, mg L = M := ⟨_, rfl⟩
  have HM := Lib.hid hM
  have HF := Lib.hid hf
  have HL : Hid (L.length ≤ 4096) := Lib.hid (by omega)
  have hml : M.length ≤ n := by have := mg_len L; rw [hM] at this; omega
  have HMR : Hid (mg L.reverse = M) := Lib.hid (by rw [mg_reverse hf, hM])
  have HMA : Hid (mg M = M) := Lib.hid (by rw [← hM, mg_again hf])
  have HMF : Hid (Srt M) := Lib.hid (by rw [← hM]; exact (mg_spec L hf).1)
  have HRF : Hid (∀ s ∈ L.reverse, s.1 < s.2) := Lib.hid (fun s hs => hf s (List.mem_reverse.1 hs))
  have HCN : Hid (∀ s ∈ L, M.countP (inB s) = 1) := Lib.hid (fun s hs => by rw [← hM]; exact lies_in hf hs)
  have HEM : Hid (M.length = 0 ↔ n = 0) := Lib.hid (by rw [← hM, hnl]; exact mg_empty hf)
  clear hM hf h hnl k2
  obtain ⟨m, hm⟩ : ∃ m, M.length = m := ⟨_, rfl⟩
  have HMN := Lib.hid hm
  go_enter Try.func6, Try.ntmps6
  go_wp2_with (go_at_call 18; refine (merge_ok HI.out HL.out HF.out HM.out).mono ?_; rintro e w2 ⟨v2, rfl, hi2, hb2⟩; obtain ⟨a2, c2, rfl⟩ := hi2.val; rw [hm] at hi2 ⊢; have HI2 := Lib.hid hi2; have HB2 := Lib.hid hb2; clear hi2 hb2)
  go_loopw [5, 6] (fun y z wr => ∃ j : Nat, j ≤ n ∧ z = .int .i64 ((j : Int) - 1) ∧ Hid (wr.ownsRow w2.heap.size 34 2 y (L.drop j).reverse.length (scs (L.drop j).reverse)) ∧ Hid (Below w2.heap.size w2 wr)) (fun _ z _ => (intOf z + 1).toNat)
  case atStart => exact ⟨n, Nat.le_refl _, rfl, Lib.hid (by rw [List.drop_eq_nil_of_le (by rw [← HN.out]; exact Nat.le_refl _)]; exact World.ownsRow_nil _ _ _ _), Lib.hid (Below.refl _ _)⟩
  case round =>
    obtain ⟨j, hj, rfl, HO, hb⟩ := hrel
    rename World => wq
    by_cases hj0 : j = 0
    · subst hj0
      have ht := spans_row HO.out
      rw [List.drop_zero] at ht
      have HT := Lib.hid ht
      have HI3 := Lib.hid (HI2.out.grow hb.out)
      have HB3 := Lib.hid (grow_below HB2.out hb.out)
      clear HO ht HI2 HB2 hb
      go_wp2_with (first
        | (go_at_call 18; refine (merge_ok HT.out (by rw [List.length_reverse]; exact HL.out) HRF.out HMR.out).mono ?_; rintro e w3 ⟨v3, rfl, hi3, hb3⟩; have HJ3 := Lib.hid hi3; have HI4 := Lib.hid (HI3.out.grow hb3); have HB4 := Lib.hid (grow_below HB3.out hb3); clear hi3 hb3 HI3 HB3 HT)
        | (go_at_call 18; refine (merge_ok HI4.out (by rw [HMN.out]; omega) HMF.out.1 HMA.out).mono ?_; rintro e w4 ⟨v4, rfl, hi4, hb4⟩; have HK4 := Lib.hid hi4; have HI5 := Lib.hid (HI4.out.grow hb4); have HJ5 := Lib.hid (HJ3.out.grow hb4); have HB5 := Lib.hid (grow_below HB4.out hb4); clear hi4 hb4 HI4 HJ3 HB4)
        | (go_at_call 14; refine (same_at HI5.out HJ5.out (decide_eq_true rfl)).mono ?_; rintro e w5 ⟨rfl, hb5⟩; have HI6 := Lib.hid (HI5.out.grow hb5); have HK6 := Lib.hid (HK4.out.grow hb5); have HB6 := Lib.hid (grow_below HB5.out hb5); clear hb5 HI5 HJ5 HK4 HB5)
        | (go_at_call 14; refine (same_at HI6.out HK6.out (decide_eq_true rfl)).mono ?_; rintro e w6 ⟨rfl, hb6⟩; have HI7 := Lib.hid (HI6.out.grow hb6); have HB7 := Lib.hid (grow_below HB6.out hb6); clear hb6 HI6 HK6 HB6))
      go_loopw [11] (fun z wr => ∃ i : Nat, (i ≤ m ∨ i = 0) ∧ z = .int .i64 ((i : Int) + 1) ∧ Hid (SpansAt wr (.slice a2 m c2) M) ∧ Hid (Below w.heap.size w wr)) (fun z _ => m + 1 - (intOf z).toNat)
      case atStart => exact ⟨0, .inr rfl, rfl, HI7, HB7⟩
      case round =>
        clear HI7 HB7
        obtain ⟨i, hi, rfl, HI7, hb⟩ := hrel
        rename World => wr
        by_cases hlt : (i : Int) + 1 < (m : Int)
        · have hk1 : i + 1 < M.length := by rw [HMN.out]; omega
          have hk0 : i < M.length := by omega
          obtain ⟨b, o, ha, hbl, y0, y1⟩ := SpansAt.cells HI7.out hk1
          obtain ⟨b', o', ha', hbl', z0, z1⟩ := SpansAt.cells HI7.out hk0
          subst ha
          injection ha' with ha'
          injection ha' with q1 q2
          subst q1 q2
          have hsr := List.pairwise_iff_getElem.1 HMF.out.2 i (i + 1) hk0 hk1 (by omega)
          obtain ⟨x, hx⟩ : ∃ x, M[i + 1] = x := ⟨_, rfl⟩
          obtain ⟨y, hy⟩ : ∃ y, M[i] = y := ⟨_, rfl⟩
          rw [hx] at y0 y1 hsr
          rw [hy] at z0 z1 hsr
          have g0 : (0 : Int) ≤ (i : Int) + 1 := by omega
          have e1 : (i : Int) + 1 - 1 = (i : Int) := by omega
          have g2 : (0 : Int) ≤ (i : Int) := by omega
          have g3 : (i : Int) < (m : Int) := by omega
          have e2 : ((i : Int) + 1).toNat = i + 1 := by omega
          have d0 : ¬ x.1 < y.2 := by omega
          clear hx hy hk1 hk0 hsr
          go_wp2
          go_quiet (fail)
          go_wp2
          go_roundw
          case rel => exact ⟨i + 1, by omega, by go_num, Lib.hid (HI7.out.grow (drewN_below wr nq)), Lib.hid (hb.out.trans ((drewN_below wr nq).mono hb.out.size))⟩
          case measure => simp [intOf]; omega
        · go_wp2
          clear hlt hi
          go_loopw [12] (fun z wx => ∃ k : Nat, k ≤ n ∧ z = .int .i64 k ∧ Hid (SpansAt wx (.slice a2 m c2) M) ∧ Hid (Below w.heap.size w wx)) (fun z _ => n - (intOf z).toNat)
          case atStart => exact ⟨0, Nat.zero_le _, rfl, HI7, hb⟩
          case round =>
            clear HI7 hb
            obtain ⟨k, hk, rfl, HI7, hb⟩ := hrel
            rename World => wx
            by_cases hlt : k < n
            · have hkl : k < L.length := by rw [← HN.out]; exact hlt
              obtain ⟨x, hx⟩ : ∃ x, L[k] = x := ⟨_, rfl⟩
              have HC1 : Hid (M.countP (inB x) = 1) := Lib.hid (by rw [← hx]; exact HCN.out _ (List.getElem_mem hkl))
              go_wp2
              go_loopw [13, 14] (fun y z wy => ∃ j q : Nat, j ≤ m ∧ q ≤ j ∧ z = .int .i64 j ∧ y = .int .i64 q ∧ Hid ((M.take j).countP (inB x) = q) ∧ Hid (SpansAt wy (.slice a2 m c2) M) ∧ Hid (Below w.heap.size w wy)) (fun _ z _ => m - (intOf z).toNat)
              case atStart => exact ⟨0, 0, Nat.zero_le _, Nat.le_refl _, rfl, rfl, Lib.hid (by simp), HI7, hb⟩
              case round =>
                clear HI7 hb
                obtain ⟨j, q, hj, hq, rfl, rfl, HQ, HI7, hb⟩ := hrel
                rename World => wy
                by_cases hjm : j < m
                · have hjl : j < M.length := by rw [HMN.out]; exact hjm
                  obtain ⟨b, o, ha, hbl, y0, y1⟩ := SpansAt.cells HI7.out hjl
                  obtain ⟨b', o', ha', hbl', z0', z1'⟩ := SpansAt.cells HI.out hkl
                  subst ha ha'
                  obtain ⟨y, hy⟩ : ∃ y, M[j] = y := ⟨_, rfl⟩
                  rw [hy] at y0 y1
                  rw [hx] at z0' z1'
                  have z0 := (hb.out.cell (p := ⟨b', _, none⟩) hbl').trans z0'
                  have z1 := (hb.out.cell (p := ⟨b', _, none⟩) hbl').trans z1'
                  have HCP := Lib.hid (countP_next (P := inB x) hjl hy)
                  have g0 : (0 : Int) ≤ (j : Int) := by omega
                  have g1 : (j : Int) < (m : Int) := by omega
                  have g2 : (0 : Int) ≤ (k : Int) := by omega
                  have g3 : (k : Int) < (n : Int) := by omega
                  by_cases d1 : y.1 ≤ x.1
                  · by_cases d2 : x.2 ≤ y.2
                    · have HC2 : Hid ((M.take (j + 1)).countP (inB x) = q + 1) := Lib.hid (by rw [HCP.out, HQ.out]; simp [inB, d1, d2])
                      clear z0' z1' hy hjl HCP
                      go_wp2
                      go_quiet (fail)
                      go_wp2
                      go_roundw
                      case rel => exact ⟨j + 1, q + 1, by omega, by omega, by go_num, by go_num, HC2, Lib.hid (HI7.out.grow (drewN_below wy nq)), Lib.hid (hb.out.trans ((drewN_below wy nq).mono hb.out.size))⟩
                      case measure => simp [intOf]; omega
                    · have HC2 : Hid ((M.take (j + 1)).countP (inB x) = q) := Lib.hid (by rw [HCP.out, HQ.out]; simp [inB, d1, d2])
                      clear z0' z1' hy hjl HCP
                      go_wp2
                      go_quiet (fail)
                      go_wp2
                      go_roundw
                      case rel => exact ⟨j + 1, q, by omega, by omega, by go_num, rfl, HC2, Lib.hid (HI7.out.grow (drewN_below wy nq)), Lib.hid (hb.out.trans ((drewN_below wy nq).mono hb.out.size))⟩
                      case measure => simp [intOf]; omega
                  · have HC2 : Hid ((M.take (j + 1)).countP (inB x) = q) := Lib.hid (by rw [HCP.out, HQ.out]; simp [inB, d1])
                    clear z0' z1' hy hjl HCP
                    have d3 : decide (y.1 ≤ x.1) = false := decide_eq_false d1
                    clear d1
                    go_wp2
                    go_quiet (fail)
                    go_wp2
                    go_roundw
                    case rel => exact ⟨j + 1, q, by omega, by omega, by go_num, rfl, HC2, Lib.hid (HI7.out.grow (drewN_below wy nq)), Lib.hid (hb.out.trans ((drewN_below wy nq).mono hb.out.size))⟩
                    case measure => simp [intOf]; omega
                · have hc : q = 1 := by rw [← HQ.out, List.take_of_length_le (by rw [HMN.out]; omega)]; exact HC1.out
                  subst hc
                  go_wp2
                  clear hjm
                  go_roundw
                  case rel => exact ⟨k + 1, by omega, by go_num, HI7, hb⟩
                  case measure => simp [intOf]; omega
            · by_cases hn0 : n = 0
              · have hm0 : m = 0 := by rw [← HMN.out]; exact HEM.out.2 hn0
                have e1 : ((n : Int) == 0) = true := ibeq (by omega)
                have e2 : ((m : Int) == 0) = true := ibeq (by omega)
                clear hn0 hm0
                go_wp2_with (go_at_call 16; refine (awake_any _).mono ?_; rintro e w9 ⟨rfl, hb9⟩; have HB9 := Lib.hid (grow_below hb.out hb9); clear hb9)
                go_ret
                exact ⟨rfl, HB9.out⟩
              · have hm0 : ¬ m = 0 := by rw [← HMN.out]; exact fun h => hn0 (HEM.out.1 h)
                have e1 : ((n : Int) == 0) = false := ibne (by omega)
                have e2 : ((m : Int) == 0) = false := ibne (by omega)
                clear hn0 hm0
                go_wp2_with (go_at_call 16; refine (awake_any _).mono ?_; rintro e w9 ⟨rfl, hb9⟩; have HB9 := Lib.hid (grow_below hb.out hb9); clear hb9)
                go_ret
                exact ⟨rfl, HB9.out⟩
    · obtain ⟨i, rfl⟩ : ∃ i, j = i + 1 := ⟨j - 1, by omega⟩
      have hkl : i < L.length := by rw [← HN.out]; omega
      have ez : ((i + 1 : Nat) : Int) - 1 = (i : Int) := by omega
      rw [ez]
      obtain ⟨b, o, ha, hbl, y0', y1'⟩ := SpansAt.cells HI.out hkl
      subst ha
      obtain ⟨x, hx⟩ : ∃ x, L[i] = x := ⟨_, rfl⟩
      rw [hx] at y0' y1'
      have y0 := ((grow_below HB2.out hb.out).cell (p := ⟨b, _, none⟩) hbl).trans y0'
      have y1 := ((grow_below HB2.out hb.out).cell (p := ⟨b, _, none⟩) hbl).trans y1'
      have HX := Lib.hid (drop_rev hkl hx)
      have HLL : Hid ((L.drop (i + 1)).reverse.length ≤ 90000) := Lib.hid (by rw [List.length_reverse, List.length_drop]; have := HN.out; omega)
      have g0 : (0 : Int) ≤ (i : Int) := by omega
      have g1 : (i : Int) < (n : Int) := by omega
      have g2 : ¬ (i : Int) < 0 := by omega
      clear y0' y1' hx hkl ez hj0
      go_wp2_with (refine wpList_append_span (by rfl) (.tmp 38) (.tmp 43) (by rfl) w2.heap.size _ (L.drop (i + 1)).reverse (by rfl) wq x (by rfl) HO.out (by rfl) HLL.out hb.out.size ?_; intro v9 w9 hown9 hgrow9; have HO9 := Lib.hid hown9; have HB9 := Lib.hid (below_grown' (hb.out.trans ((Below.refl _ _).alloc (Nat.le_refl _) _ |>.mono hb.out.size)) (fun k e => (HO.out.lt k e).1) hgrow9); clear hown9 hgrow9)
      go_roundw
      case rel => exact ⟨i, by omega, by go_num, by rw [HX.out]; exact HO9, HB9⟩
      case measure => simp [intOf]
set_option maxRecDepth 20000 in
theorem windowOnce_walk {w : World} {a : Option Addr} {n c : Nat} {L : List Sp} (h : SpansAt w (.slice a n c) L) : Calls Try.prog 6 #[.slice a n c] w fun e w' => e = .returned (.bool true) ∧ Below w.heap.size w w' := by
  by_cases h1 : n ≤ 300
  · by_cases hf : ∀ s ∈ L, s.1 < s.2
    · exact wo_ok h h1 hf
    · exact wo_bad h h1 hf
  · clear h
    go_enter Try.func6, Try.ntmps6
    go_wp2
    go_ret
    exact ⟨rfl, Below.refl _ _⟩
end Go.Proofs.Ytfkdkcdknpjoeaa.Wi
