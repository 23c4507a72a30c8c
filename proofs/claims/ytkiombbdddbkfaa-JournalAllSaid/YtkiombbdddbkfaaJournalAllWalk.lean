/-
  The walk of JournalAll: after any cut of the power all records that were added are there, in their order, and behind them at most the one whose Add met the cut, whole. Conditions: none (the law looks at nothing longer).
-/
import Derived.Test.YtkiombbdddbkfaaJAll
namespace Go.Proofs.Ytkiombbdddbkfaa.Jn
open Go.RowKit Go.Proofs.Ytkiombbdddbkfaa.Pk Go.Proofs.Ytkiombbdddbkfaa.Dk
set_option linter.unusedVariables false

theorem Recs.later {w W : World} {A : Option Addr} {n : Nat} {L : List Bs} (h : Recs w (· < w.heap.size) A n L) (hb : Below w.heap.size w W) : Recs W (· < w.heap.size) A n L := h.kept fun b hlt => hb.block b hlt
theorem behind_lies (w : World) (fr : Nat × Nat) : Lies (w.alloc (.cells #[.int .u8 98, .int .u8 101, .int .u8 104, .int .u8 105, .int .u8 110, .int .u8 100] 5 fr)) (w.alloc (.cells #[.int .u8 98, .int .u8 101, .int .u8 104, .int .u8 105, .int .u8 110, .int .u8 100] 5 fr)).heap.size (some ⟨w.heap.size, 0, none⟩) behind := lies_marked w behind fr
theorem behind_conv {A : Option Addr} {c : Nat} {w : World} (h : Lies w w.heap.size A behind) (k : Nat) : (convert 23 9 (.slice A 6 c)).run Try.prog (w.drewN k) = .ok (.string ⟨#[98, 101, 104, 105, 110, 100]⟩) (w.drewN k) := conv_str (l := behind) rfl (h.drewN k)

theorem allR {w : World} {X : Nat → Prop} {A : Option Addr} {n : Nat} {L : List Bs} (h : Recs w X A n L) : Recs w (· < w.heap.size) A n L := ⟨h.1, fun i r hr => by
  obtain ⟨g, o, Ai, ci, e, hg, hc, hl⟩ := h.2 i r hr
  exact ⟨g, o, Ai, ci, e, cell_block_lt (p := ⟨g, o + i, none⟩) hc, hc, LiesX.of hl.lies⟩⟩
set_option maxRecDepth 100000 in
set_option maxHeartbeats 8000000 in
theorem journalAll_walk (a0 : Option Addr) (len0 cap0 : Nat) (n keep again : Int) (w : World) (h0 : RecsC w a0 len0 cap0) (lo1 : -9223372036854775808 ≤ n) (hi1 : n ≤ 9223372036854775807) (lo2 : -9223372036854775808 ≤ keep) (hi2 : keep ≤ 9223372036854775807) (lo3 : -9223372036854775808 ≤ again) (hi3 : again ≤ 9223372036854775807) :
    Calls Try.prog 4 #[.slice a0 len0 cap0, .int .i64 n, .int .i64 keep, .int .i64 again] w fun e w' => e = .returned (.bool true) ∧ Below w.heap.size w w' := by
  obtain ⟨hlc, hcm, R, hR, hms⟩ := h0
  have hid := fun (w : World) (C : Array Value) (n c : Nat) => Lib.run_convert_bytes_const (P := Try.prog) w 23 5 C n c Try.underlying23 Try.underlying5
  have hid2 : ∀ (w : World) (k : Nat) (C : Array Value) (n c : Nat), (convert 23 23 (.slice (some ⟨w.heap.size, 0, none⟩) n c)).run Try.prog ((w.drewN k).alloc (.cells C 5)) = .ok (.slice (some ⟨w.heap.size, 0, none⟩) n c) ((w.drewN k).alloc (.cells C 5 (C.size, C.size + 1))) := fun w k C n c => hid (w.drewN k) C n c
  have HSm := Lib.hid (small_any (cap := cap0) hR (Nat.le_trans hlc hcm) hms)
  unfold maxLen at hcm
  by_cases hsm : len0 ≤ 150 ∧ ∀ r ∈ R, r.length ≤ 1024
  case neg =>
    rw [decide_eq_false hsm] at HSm
    go_enter Try.func4, Try.ntmps4
    go_wp2_with (go_at_call 25; with_reducible refine HSm.out.mono ?_; rintro e w' ⟨rfl, rfl⟩)
    go_ret
    exact ⟨rfl, Below.refl _ _⟩
  rw [decide_eq_true hsm] at HSm
  obtain ⟨hl150, hr1024⟩ := hsm
  have HR := Lib.hid hR
  have Hr := Lib.hid hr1024
  have hRl : Hid (R.length = len0) := hR.1
  have E0 := Lib.hid open_new
  have R0 : Hid (recs (dataOf newD J) = []) := recs_none (first_short (by decide))
  clear hR hms hr1024
  go_enter Try.func4, Try.ntmps4
  go_wp2_with (first
    | (go_at_call 25; with_reducible refine HSm.out.mono ?_; rintro e w' ⟨rfl, rfl⟩)
    | (go_at_call 8; refine (Fresh.new (X := fun _ => False) (fun _ h => h.elim) (Below.refl w.heap.size w)).mono ?_; rintro e w1 ⟨d, rfl, hF, -⟩; have hw1 := hF.size; have H1 := Lib.hid hF; clear hF)
    | (go_at_call 9; refine (openJ H1.out (by decide) E0.out R0.out).mono ?_; rintro e w2 ⟨jb, A2, c2, X, rfl, -, hX, hjb, hj, -, -, hF, -⟩; have HX := Lib.hid hX; have HJ := Lib.hid hj; have H2 := Lib.hid hF; have hj0 : w.heap.size ≤ jb := (by omega); clear hX hj hF H1)
    | (go_at_call 15; refine (H2.out.arm lo1 hi1 lo2 hi2 rfl).mono ?_; rintro e w3 ⟨rfl, hF, hK⟩; have H3 := Lib.hid hF; have HJ3 := Lib.hid (HJ.out.kept hK HX.out); clear hF hK H2 HJ))
  go_loopw [13] (fun i wr => ∃ (k : Nat) (s : Ds), k ≤ len0 ∧ i = .int .i64 k ∧ Hid (Fresh X w wr d s) ∧ Hid (JAt wr jb d ⟨#[106]⟩ k false) ∧ Hid (Grow R k s)) (fun i _ => len0 - (intOf i).toNat)
  case atStart => exact ⟨0, _, Nat.zero_le _, rfl, H3.out, HJ3.out, grow_start _ _⟩
  case round =>
    obtain ⟨k, s, hk, rfl, HF, HJk, HG⟩ := hrel
    clear H3 HJ3
    have hsd : s.deeds ≤ 2 * k := HG.out.2.1
    by_cases hlt : k < len0
    · have hki : (k : Int) < (len0 : Int) := by omega
      obtain ⟨r, hr⟩ : ∃ r, R[k]? = some r := ⟨_, List.getElem?_eq_getElem (by rw [hRl.out]; exact hlt)⟩
      obtain ⟨g, o, Ai, ci, rfl, hg, hc, hli⟩ := (HR.out.later HF.out.bel).2 k r hr
      have hrl : r.length ≤ 1024 := Hr.out r (List.mem_of_getElem? hr)
      obtain ⟨q0, hq0⟩ : ∃ q, r.length = q := ⟨_, rfl⟩
      rw [hq0] at hc hrl
      have HQ0 := Lib.hid hq0
      have HLi := Lib.hid hli.lies
      rcases grow_add HG.out Hr.out (by rw [hRl.out]; exact hl150) hr with ⟨t, ea, hG'⟩ | ⟨t, ea, hFe⟩
      · have EA := Lib.hid ea
        have HG' := Lib.hid hG'
        clear ea hG' hr hq0 hli
        go_wp2_with (go_at_call 12; refine (addJ_ok HF.out HX.out hj0 HJk.out HQ0.out (by unfold maxLen; omega) HLi.out (by omega) (by omega) EA.out).mono ?_; rintro e w4 ⟨rfl, hF4, hJ4, -⟩; have H4 := Lib.hid hF4; have HJ4 := Lib.hid hJ4; clear hF4 hJ4)
        go_roundw
        case rel => exact ⟨k + 1, t, by omega, by go_num, H4, HJ4, HG'⟩
        case measure => simp [intOf]; omega
      · have EA := Lib.hid ea
        have HRd := Lib.hid (ready_fell hFe (by omega))
        have htd : t.deeds ≤ 2 * k + 2 := hFe.2.1
        clear ea hFe hr hq0 hli
        obtain ⟨M, hM, hrM, hopen⟩ := ready_open (ready_arm HRd.out again 0)
        have hMs := found_small hM Hr.out
        have hMl := found_len hM Hr.out (by rw [hRl.out]; exact hl150)
        obtain ⟨q, hq⟩ : ∃ q, M.length = q := ⟨_, rfl⟩
        have hq1 : (k : Int) ≤ (q : Int) := by have := hM.1; omega
        have hq2 : (q : Int) ≤ (k : Int) + 1 := by have := hM.2.1; omega
        have hq3 : (q : Int) ≤ (len0 : Int) := by have := hM.2.2.1; have := hRl.out; omega
        have hq4 : (q : Int) ≤ (cap0 : Int) := by omega
        have hq5 : q ≤ 150 := by omega
        have HMR : Hid (R.take q = M) := by show _ = _; rw [← hq]; exact hM.2.2.2.symm
        have HQ := Lib.hid hq
        have HRM := Lib.hid hrM
        have HQb : Hid ((M ++ [behind]).length = q + 1) := by show _ = _; rw [List.length_append, hq]; rfl
        clear hM hrM hq
        rcases hopen with ⟨t2, eo, hD⟩ | ⟨t2, u1, eo, ht2, eo2, hr2, hD⟩
        · have EO := Lib.hid eo
          obtain ⟨u2, v2, eb, eo3, ro3, hd3⟩ := done_add hD hMs hMl
          have EB := Lib.hid eb
          have EO3 := Lib.hid eo3
          have RO3 := Lib.hid ro3
          have htd2 : (armD t2 0 0).deeds ≤ 1200 := hD.2.1
          clear eo hD eb eo3 ro3
          go_wp2_with (go_at_call 12; refine (addJ_down HF.out HX.out hj0 HJk.out HQ0.out (by unfold maxLen; omega) HLi.out (by omega) (by omega) EA.out).mono ?_; rintro e w4 ⟨rfl, hF4, hJ4, -⟩; have H4 := Lib.hid hF4; have HJ4 := Lib.hid hJ4; clear hF4 hJ4 HF HJk)
          go_wp2_with (go_at_call 12; refine (add_down H4.out HJ4.out).mono ?_; rintro e w5 ⟨rfl, hF5, -, -⟩; have H5 := Lib.hid hF5; clear hF5 H4 HJ4)
          go_wp2_with (first
            | (go_at_call 19; refine (H5.out.on rfl).mono ?_; rintro e w6 ⟨rfl, hF6, -⟩; have H6 := Lib.hid hF6; clear hF6 H5)
            | (go_at_call 15; refine (H6.out.arm lo3 hi3 (by decide) (by decide) rfl).mono ?_; rintro e w7 ⟨rfl, hF7, -⟩; have H7 := Lib.hid hF7; have hd7 : (armD (onD t) again 0).deeds ≤ 1000 := HRd.out.2.1; clear hF7 H6))
          go_wp2_with (go_at_call 9; refine (openJ H7.out (by omega) EO.out HRM.out).mono ?_; unfold Opened; rw [HQ.out]; rintro e w8 ⟨jb8, A8, c8, X8, rfl, -, hX8, hjb8, hJ8, -, hr8, hF8, -⟩; have hz8 := H7.out.size; have hj8 : w.heap.size ≤ jb8 := (by omega); have H8 := Lib.hid hF8; have HR8 := Lib.hid hr8; have HJ8 := Lib.hid hJ8; have HX8 := Lib.hid hX8; clear hF8 hr8 hJ8 hX8 H7)
          go_wp2_with (go_at_call 15; refine (H8.out.arm (by decide) (by decide) (by decide) (by decide) rfl).mono ?_; rintro e w9 ⟨rfl, hF9, hK9⟩; have H9 := Lib.hid hF9; have HJ9 := Lib.hid (HJ8.out.kept hK9 HX8.out); have HR9 := Lib.hid (HR8.out.kept fun b hb => hK9 b hb.1); have HP9 := Lib.hid ((HR.out.later hF9.bel).take (m := q) (by omega)); rw [HMR.out] at HP9; clear hF9 hK9 H8 HJ8 HR8)
          go_wp2_with (go_at_call 11; refine (same_yes HR9.out HP9.out (by unfold maxLen; omega)).mono ?_; rintro e wX ⟨rfl, k9, rfl⟩)
          go_wp2_with (go_at_call 14; refine (len_any (show JAt (w9.drewN k9) jb8 d _ q false from HJ9.out)).mono ?_; rintro e wX ⟨rfl, rfl⟩)
          go_wp2_with (go_at_call 12; refine (addJ_ok ((H9.out.drewN k9).alloc _) HX8.out hj8 ((show JAt (w9.drewN k9) jb8 d _ q false from HJ9.out).below ((Below.refl _ _).alloc (Nat.le_refl _) _) HJ9.out.lt) (l := behind) rfl (by decide) (behind_lies (w9.drewN k9) _) (by omega) (by omega) EB.out).mono ?_; rintro e w10 ⟨rfl, hF10, -, hK10⟩; have H10 := Lib.hid hF10; have HR10 := Lib.hid (Recs.kept (w := (w9.drewN k9).alloc (.cells #[.int .u8 98, .int .u8 101, .int .u8 104, .int .u8 105, .int .u8 110, .int .u8 100] 5 (6, 7))) (Recs.kept (w := w9.drewN k9) HR9.out (Kept.below (fun b hb => H9.out.1 b hb.1) ((Below.refl _ _).alloc (Nat.le_refl _) _))) fun b hb => hK10 b hb.1 hb.2); clear hF10 hK10 H9 HR9 HJ9)
          go_wp2_with (go_at_call 9; refine (openJ H10.out (by omega) EO3.out RO3.out).mono ?_; unfold Opened; rw [HQb.out]; rintro e w11 ⟨jb11, A11, c11, X11, rfl, -, -, -, -, hcc, hr11, hF11, hK11⟩; have H11 := Lib.hid hF11; have HN11 := Lib.hid hr11; have HL11 := Lib.hid (HR10.out.kept fun b hb => hK11 b hb.1); clear hF11 hr11 hK11 H10 HR10)
          obtain ⟨g11, o11, Ai11, ci11, rfl, -, hcell11, hlie11⟩ := HN11.out.2 q behind (by rw [← HQ.out]; simp)
          have hcell11' : w11.cell? ⟨g11, o11 + q, none⟩ = some (.slice Ai11 6 ci11) := hcell11
          have hcc1 : (q : Int) ≤ (c11 : Int) := by have := hcc.1; omega
          have hcc2 : c11 ≤ 9223372036854775807 := by have := hcc.2; unfold maxLen at this; omega
          have HC11 := Lib.hid hcell11'
          have HV11 := Lib.hid hlie11.lies
          have HN12 := Lib.hid (HN11.out.take (m := q) (by omega))
          rw [List.take_left' HQ.out] at HN12
          clear hcell11 hcell11' hlie11 hcc HN11
          go_wp2_with (first
            | (go_at_call 24; refine (awake_any _).mono ?_; rintro e w12 ⟨rfl, hb12⟩; have HB12 := Lib.hid (H11.out.bel.trans (hb12.mono H11.out.size)); have hc12 : w12.cell? ⟨g11, o11 + q, none⟩ = some (.slice Ai11 6 ci11) := (hb12.cell (p := ⟨g11, o11 + q, none⟩) (cell_block_lt HC11.out)).trans HC11.out; have HA12 := Lib.hid (HN12.out.kept fun b hb => hb12.block b (H11.out.1 b hb.1)); have HB12' := Lib.hid (Recs.kept (w' := w12) (allR HL11.out) fun b hb => hb12.block b hb); have HV12 := Lib.hid ((HV11.out.below hb12).mono hb12.size); clear hb12)
            | (go_at_call 11; refine (same_yes HA12.out HB12'.out (by unfold maxLen; omega)).mono ?_; rintro e wX ⟨rfl, k12, rfl⟩; have hv12 := behind_conv (c := ci11) HV12.out k12))
          go_ret
          exact ⟨rfl, below_drewN HB12.out _⟩
        · have EO := Lib.hid eo
          have EO2 := Lib.hid eo2
          have HR2 := Lib.hid hr2
          obtain ⟨u2, v2, eb, eo3, ro3, hd3⟩ := done_add hD hMs hMl
          have EB := Lib.hid eb
          have EO3 := Lib.hid eo3
          have RO3 := Lib.hid ro3
          have htd2 : (armD u1 0 0).deeds ≤ 1200 := hD.2.1
          have htd3 : (onD t2).deeds ≤ 1001 := ht2
          clear eo eo2 hr2 hD eb eo3 ro3
          go_wp2_with (go_at_call 12; refine (addJ_down HF.out HX.out hj0 HJk.out HQ0.out (by unfold maxLen; omega) HLi.out (by omega) (by omega) EA.out).mono ?_; rintro e w4 ⟨rfl, hF4, hJ4, -⟩; have H4 := Lib.hid hF4; have HJ4 := Lib.hid hJ4; clear hF4 hJ4 HF HJk)
          go_wp2_with (go_at_call 12; refine (add_down H4.out HJ4.out).mono ?_; rintro e w5 ⟨rfl, hF5, -, -⟩; have H5 := Lib.hid hF5; clear hF5 H4 HJ4)
          go_wp2_with (first
            | (go_at_call 19; refine (H5.out.on rfl).mono ?_; rintro e w6 ⟨rfl, hF6, -⟩; have H6 := Lib.hid hF6; clear hF6 H5)
            | (go_at_call 15; refine (H6.out.arm lo3 hi3 (by decide) (by decide) rfl).mono ?_; rintro e w7 ⟨rfl, hF7, -⟩; have H7 := Lib.hid hF7; have hd7 : (armD (onD t) again 0).deeds ≤ 1000 := HRd.out.2.1; clear hF7 H6))
          go_wp2_with (go_at_call 9; refine (openJ_no H7.out (by omega) EO.out (by decide)).mono ?_; rintro e w70 ⟨rfl, hF70, -⟩; have H70 := Lib.hid hF70; clear hF70 H7)
          go_wp2_with (go_at_call 19; refine (H70.out.on rfl).mono ?_; rintro e w71 ⟨rfl, hF71, -⟩; have H71 := Lib.hid hF71; clear hF71 H70)
          go_wp2_with (go_at_call 9; refine (openJ H71.out (by omega) EO2.out HR2.out).mono ?_; unfold Opened; rw [HQ.out]; rintro e w8 ⟨jb8, A8, c8, X8, rfl, -, hX8, hjb8, hJ8, -, hr8, hF8, -⟩; have hz8 := H71.out.size; have hj8 : w.heap.size ≤ jb8 := (by omega); have H8 := Lib.hid hF8; have HR8 := Lib.hid hr8; have HJ8 := Lib.hid hJ8; have HX8 := Lib.hid hX8; clear hF8 hr8 hJ8 hX8 H71)
          go_wp2_with (go_at_call 15; refine (H8.out.arm (by decide) (by decide) (by decide) (by decide) rfl).mono ?_; rintro e w9 ⟨rfl, hF9, hK9⟩; have H9 := Lib.hid hF9; have HJ9 := Lib.hid (HJ8.out.kept hK9 HX8.out); have HR9 := Lib.hid (HR8.out.kept fun b hb => hK9 b hb.1); have HP9 := Lib.hid ((HR.out.later hF9.bel).take (m := q) (by omega)); rw [HMR.out] at HP9; clear hF9 hK9 H8 HJ8 HR8)
          go_wp2_with (go_at_call 11; refine (same_yes HR9.out HP9.out (by unfold maxLen; omega)).mono ?_; rintro e wX ⟨rfl, k9, rfl⟩)
          go_wp2_with (go_at_call 14; refine (len_any (show JAt (w9.drewN k9) jb8 d _ q false from HJ9.out)).mono ?_; rintro e wX ⟨rfl, rfl⟩)
          go_wp2_with (go_at_call 12; refine (addJ_ok ((H9.out.drewN k9).alloc _) HX8.out hj8 ((show JAt (w9.drewN k9) jb8 d _ q false from HJ9.out).below ((Below.refl _ _).alloc (Nat.le_refl _) _) HJ9.out.lt) (l := behind) rfl (by decide) (behind_lies (w9.drewN k9) _) (by omega) (by omega) EB.out).mono ?_; rintro e w10 ⟨rfl, hF10, -, hK10⟩; have H10 := Lib.hid hF10; have HR10 := Lib.hid (Recs.kept (w := (w9.drewN k9).alloc (.cells #[.int .u8 98, .int .u8 101, .int .u8 104, .int .u8 105, .int .u8 110, .int .u8 100] 5 (6, 7))) (Recs.kept (w := w9.drewN k9) HR9.out (Kept.below (fun b hb => H9.out.1 b hb.1) ((Below.refl _ _).alloc (Nat.le_refl _) _))) fun b hb => hK10 b hb.1 hb.2); clear hF10 hK10 H9 HR9 HJ9)
          go_wp2_with (go_at_call 9; refine (openJ H10.out (by omega) EO3.out RO3.out).mono ?_; unfold Opened; rw [HQb.out]; rintro e w11 ⟨jb11, A11, c11, X11, rfl, -, -, -, -, hcc, hr11, hF11, hK11⟩; have H11 := Lib.hid hF11; have HN11 := Lib.hid hr11; have HL11 := Lib.hid (HR10.out.kept fun b hb => hK11 b hb.1); clear hF11 hr11 hK11 H10 HR10)
          obtain ⟨g11, o11, Ai11, ci11, rfl, -, hcell11, hlie11⟩ := HN11.out.2 q behind (by rw [← HQ.out]; simp)
          have hcell11' : w11.cell? ⟨g11, o11 + q, none⟩ = some (.slice Ai11 6 ci11) := hcell11
          have hcc1 : (q : Int) ≤ (c11 : Int) := by have := hcc.1; omega
          have hcc2 : c11 ≤ 9223372036854775807 := by have := hcc.2; unfold maxLen at this; omega
          have HC11 := Lib.hid hcell11'
          have HV11 := Lib.hid hlie11.lies
          have HN12 := Lib.hid (HN11.out.take (m := q) (by omega))
          rw [List.take_left' HQ.out] at HN12
          clear hcell11 hcell11' hlie11 hcc HN11
          go_wp2_with (first
            | (go_at_call 24; refine (awake_any _).mono ?_; rintro e w12 ⟨rfl, hb12⟩; have HB12 := Lib.hid (H11.out.bel.trans (hb12.mono H11.out.size)); have hc12 : w12.cell? ⟨g11, o11 + q, none⟩ = some (.slice Ai11 6 ci11) := (hb12.cell (p := ⟨g11, o11 + q, none⟩) (cell_block_lt HC11.out)).trans HC11.out; have HA12 := Lib.hid (HN12.out.kept fun b hb => hb12.block b (H11.out.1 b hb.1)); have HB12' := Lib.hid (Recs.kept (w' := w12) (allR HL11.out) fun b hb => hb12.block b hb); have HV12 := Lib.hid ((HV11.out.below hb12).mono hb12.size); clear hb12)
            | (go_at_call 11; refine (same_yes HA12.out HB12'.out (by unfold maxLen; omega)).mono ?_; rintro e wX ⟨rfl, k12, rfl⟩; have hv12 := behind_conv (c := ci11) HV12.out k12))
          go_ret
          exact ⟨rfl, below_drewN HB12.out _⟩
    · have hki : ¬ (k : Int) < (len0 : Int) := by omega
      have hkl : (len0 : Int) ≤ (k : Int) := by omega
      have HRd := Lib.hid (ready_grow HG.out Hr.out (by rw [hRl.out]; exact hl150) (by rw [hRl.out]; omega))
      obtain ⟨M, hM, hrM, hopen⟩ := ready_open (ready_arm HRd.out again 0)
      have hMs := found_small hM Hr.out
      have hMl := found_len hM Hr.out (by rw [hRl.out]; exact hl150)
      obtain ⟨q, hq⟩ : ∃ q, M.length = q := ⟨_, rfl⟩
      have hq1 : (k : Int) ≤ (q : Int) := by have := hM.1; omega
      have hq2 : (q : Int) ≤ (k : Int) + 1 := by have := hM.2.1; omega
      have hq3 : (q : Int) ≤ (len0 : Int) := by have := hM.2.2.1; have := hRl.out; omega
      have hq4 : (q : Int) ≤ (cap0 : Int) := by omega
      have hq5 : q ≤ 150 := by omega
      have HMR : Hid (R.take q = M) := by show _ = _; rw [← hq]; exact hM.2.2.2.symm
      have HQ := Lib.hid hq
      have HRM := Lib.hid hrM
      have HQb : Hid ((M ++ [behind]).length = q + 1) := by show _ = _; rw [List.length_append, hq]; rfl
      clear hM hrM hq
      rcases hopen with ⟨t2, eo, hD⟩ | ⟨t2, u1, eo, ht2, eo2, hr2, hD⟩
      · have EO := Lib.hid eo
        obtain ⟨u2, v2, eb, eo3, ro3, hd3⟩ := done_add hD hMs hMl
        have EB := Lib.hid eb
        have EO3 := Lib.hid eo3
        have RO3 := Lib.hid ro3
        have htd2 : (armD t2 0 0).deeds ≤ 1200 := hD.2.1
        clear eo hD eb eo3 ro3
        rename World => w5
        have H5 := HF
        clear HF
        go_wp2_with (first
          | (go_at_call 19; refine (H5.out.on rfl).mono ?_; rintro e w6 ⟨rfl, hF6, -⟩; have H6 := Lib.hid hF6; clear hF6 H5)
          | (go_at_call 15; refine (H6.out.arm lo3 hi3 (by decide) (by decide) rfl).mono ?_; rintro e w7 ⟨rfl, hF7, -⟩; have H7 := Lib.hid hF7; have hd7 : (armD (onD s) again 0).deeds ≤ 1000 := HRd.out.2.1; clear hF7 H6))
        go_wp2_with (go_at_call 9; refine (openJ H7.out (by omega) EO.out HRM.out).mono ?_; unfold Opened; rw [HQ.out]; rintro e w8 ⟨jb8, A8, c8, X8, rfl, -, hX8, hjb8, hJ8, -, hr8, hF8, -⟩; have hz8 := H7.out.size; have hj8 : w.heap.size ≤ jb8 := (by omega); have H8 := Lib.hid hF8; have HR8 := Lib.hid hr8; have HJ8 := Lib.hid hJ8; have HX8 := Lib.hid hX8; clear hF8 hr8 hJ8 hX8 H7)
        go_wp2_with (go_at_call 15; refine (H8.out.arm (by decide) (by decide) (by decide) (by decide) rfl).mono ?_; rintro e w9 ⟨rfl, hF9, hK9⟩; have H9 := Lib.hid hF9; have HJ9 := Lib.hid (HJ8.out.kept hK9 HX8.out); have HR9 := Lib.hid (HR8.out.kept fun b hb => hK9 b hb.1); have HP9 := Lib.hid ((HR.out.later hF9.bel).take (m := q) (by omega)); rw [HMR.out] at HP9; clear hF9 hK9 H8 HJ8 HR8)
        go_wp2_with (go_at_call 11; refine (same_yes HR9.out HP9.out (by unfold maxLen; omega)).mono ?_; rintro e wX ⟨rfl, k9, rfl⟩)
        go_wp2_with (go_at_call 14; refine (len_any (show JAt (w9.drewN k9) jb8 d _ q false from HJ9.out)).mono ?_; rintro e wX ⟨rfl, rfl⟩)
        go_wp2_with (go_at_call 12; refine (addJ_ok ((H9.out.drewN k9).alloc _) HX8.out hj8 ((show JAt (w9.drewN k9) jb8 d _ q false from HJ9.out).below ((Below.refl _ _).alloc (Nat.le_refl _) _) HJ9.out.lt) (l := behind) rfl (by decide) (behind_lies (w9.drewN k9) _) (by omega) (by omega) EB.out).mono ?_; rintro e w10 ⟨rfl, hF10, -, hK10⟩; have H10 := Lib.hid hF10; have HR10 := Lib.hid (Recs.kept (w := (w9.drewN k9).alloc (.cells #[.int .u8 98, .int .u8 101, .int .u8 104, .int .u8 105, .int .u8 110, .int .u8 100] 5 (6, 7))) (Recs.kept (w := w9.drewN k9) HR9.out (Kept.below (fun b hb => H9.out.1 b hb.1) ((Below.refl _ _).alloc (Nat.le_refl _) _))) fun b hb => hK10 b hb.1 hb.2); clear hF10 hK10 H9 HR9 HJ9)
        go_wp2_with (go_at_call 9; refine (openJ H10.out (by omega) EO3.out RO3.out).mono ?_; unfold Opened; rw [HQb.out]; rintro e w11 ⟨jb11, A11, c11, X11, rfl, -, -, -, -, hcc, hr11, hF11, hK11⟩; have H11 := Lib.hid hF11; have HN11 := Lib.hid hr11; have HL11 := Lib.hid (HR10.out.kept fun b hb => hK11 b hb.1); clear hF11 hr11 hK11 H10 HR10)
        obtain ⟨g11, o11, Ai11, ci11, rfl, -, hcell11, hlie11⟩ := HN11.out.2 q behind (by rw [← HQ.out]; simp)
        have hcell11' : w11.cell? ⟨g11, o11 + q, none⟩ = some (.slice Ai11 6 ci11) := hcell11
        have hcc1 : (q : Int) ≤ (c11 : Int) := by have := hcc.1; omega
        have hcc2 : c11 ≤ 9223372036854775807 := by have := hcc.2; unfold maxLen at this; omega
        have HC11 := Lib.hid hcell11'
        have HV11 := Lib.hid hlie11.lies
        have HN12 := Lib.hid (HN11.out.take (m := q) (by omega))
        rw [List.take_left' HQ.out] at HN12
        clear hcell11 hcell11' hlie11 hcc HN11
        go_wp2_with (first
          | (go_at_call 24; refine (awake_any _).mono ?_; rintro e w12 ⟨rfl, hb12⟩; have HB12 := Lib.hid (H11.out.bel.trans (hb12.mono H11.out.size)); have hc12 : w12.cell? ⟨g11, o11 + q, none⟩ = some (.slice Ai11 6 ci11) := (hb12.cell (p := ⟨g11, o11 + q, none⟩) (cell_block_lt HC11.out)).trans HC11.out; have HA12 := Lib.hid (HN12.out.kept fun b hb => hb12.block b (H11.out.1 b hb.1)); have HB12' := Lib.hid (Recs.kept (w' := w12) (allR HL11.out) fun b hb => hb12.block b hb); have HV12 := Lib.hid ((HV11.out.below hb12).mono hb12.size); clear hb12)
          | (go_at_call 11; refine (same_yes HA12.out HB12'.out (by unfold maxLen; omega)).mono ?_; rintro e wX ⟨rfl, k12, rfl⟩; have hv12 := behind_conv (c := ci11) HV12.out k12))
        go_ret
        exact ⟨rfl, below_drewN HB12.out _⟩
      · have EO := Lib.hid eo
        have EO2 := Lib.hid eo2
        have HR2 := Lib.hid hr2
        obtain ⟨u2, v2, eb, eo3, ro3, hd3⟩ := done_add hD hMs hMl
        have EB := Lib.hid eb
        have EO3 := Lib.hid eo3
        have RO3 := Lib.hid ro3
        have htd2 : (armD u1 0 0).deeds ≤ 1200 := hD.2.1
        have htd3 : (onD t2).deeds ≤ 1001 := ht2
        clear eo eo2 hr2 hD eb eo3 ro3
        rename World => w5
        have H5 := HF
        clear HF
        go_wp2_with (first
          | (go_at_call 19; refine (H5.out.on rfl).mono ?_; rintro e w6 ⟨rfl, hF6, -⟩; have H6 := Lib.hid hF6; clear hF6 H5)
          | (go_at_call 15; refine (H6.out.arm lo3 hi3 (by decide) (by decide) rfl).mono ?_; rintro e w7 ⟨rfl, hF7, -⟩; have H7 := Lib.hid hF7; have hd7 : (armD (onD s) again 0).deeds ≤ 1000 := HRd.out.2.1; clear hF7 H6))
        go_wp2_with (go_at_call 9; refine (openJ_no H7.out (by omega) EO.out (by decide)).mono ?_; rintro e w70 ⟨rfl, hF70, -⟩; have H70 := Lib.hid hF70; clear hF70 H7)
        go_wp2_with (go_at_call 19; refine (H70.out.on rfl).mono ?_; rintro e w71 ⟨rfl, hF71, -⟩; have H71 := Lib.hid hF71; clear hF71 H70)
        go_wp2_with (go_at_call 9; refine (openJ H71.out (by omega) EO2.out HR2.out).mono ?_; unfold Opened; rw [HQ.out]; rintro e w8 ⟨jb8, A8, c8, X8, rfl, -, hX8, hjb8, hJ8, -, hr8, hF8, -⟩; have hz8 := H71.out.size; have hj8 : w.heap.size ≤ jb8 := (by omega); have H8 := Lib.hid hF8; have HR8 := Lib.hid hr8; have HJ8 := Lib.hid hJ8; have HX8 := Lib.hid hX8; clear hF8 hr8 hJ8 hX8 H71)
        go_wp2_with (go_at_call 15; refine (H8.out.arm (by decide) (by decide) (by decide) (by decide) rfl).mono ?_; rintro e w9 ⟨rfl, hF9, hK9⟩; have H9 := Lib.hid hF9; have HJ9 := Lib.hid (HJ8.out.kept hK9 HX8.out); have HR9 := Lib.hid (HR8.out.kept fun b hb => hK9 b hb.1); have HP9 := Lib.hid ((HR.out.later hF9.bel).take (m := q) (by omega)); rw [HMR.out] at HP9; clear hF9 hK9 H8 HJ8 HR8)
        go_wp2_with (go_at_call 11; refine (same_yes HR9.out HP9.out (by unfold maxLen; omega)).mono ?_; rintro e wX ⟨rfl, k9, rfl⟩)
        go_wp2_with (go_at_call 14; refine (len_any (show JAt (w9.drewN k9) jb8 d _ q false from HJ9.out)).mono ?_; rintro e wX ⟨rfl, rfl⟩)
        go_wp2_with (go_at_call 12; refine (addJ_ok ((H9.out.drewN k9).alloc _) HX8.out hj8 ((show JAt (w9.drewN k9) jb8 d _ q false from HJ9.out).below ((Below.refl _ _).alloc (Nat.le_refl _) _) HJ9.out.lt) (l := behind) rfl (by decide) (behind_lies (w9.drewN k9) _) (by omega) (by omega) EB.out).mono ?_; rintro e w10 ⟨rfl, hF10, -, hK10⟩; have H10 := Lib.hid hF10; have HR10 := Lib.hid (Recs.kept (w := (w9.drewN k9).alloc (.cells #[.int .u8 98, .int .u8 101, .int .u8 104, .int .u8 105, .int .u8 110, .int .u8 100] 5 (6, 7))) (Recs.kept (w := w9.drewN k9) HR9.out (Kept.below (fun b hb => H9.out.1 b hb.1) ((Below.refl _ _).alloc (Nat.le_refl _) _))) fun b hb => hK10 b hb.1 hb.2); clear hF10 hK10 H9 HR9 HJ9)
        go_wp2_with (go_at_call 9; refine (openJ H10.out (by omega) EO3.out RO3.out).mono ?_; unfold Opened; rw [HQb.out]; rintro e w11 ⟨jb11, A11, c11, X11, rfl, -, -, -, -, hcc, hr11, hF11, hK11⟩; have H11 := Lib.hid hF11; have HN11 := Lib.hid hr11; have HL11 := Lib.hid (HR10.out.kept fun b hb => hK11 b hb.1); clear hF11 hr11 hK11 H10 HR10)
        obtain ⟨g11, o11, Ai11, ci11, rfl, -, hcell11, hlie11⟩ := HN11.out.2 q behind (by rw [← HQ.out]; simp)
        have hcell11' : w11.cell? ⟨g11, o11 + q, none⟩ = some (.slice Ai11 6 ci11) := hcell11
        have hcc1 : (q : Int) ≤ (c11 : Int) := by have := hcc.1; omega
        have hcc2 : c11 ≤ 9223372036854775807 := by have := hcc.2; unfold maxLen at this; omega
        have HC11 := Lib.hid hcell11'
        have HV11 := Lib.hid hlie11.lies
        have HN12 := Lib.hid (HN11.out.take (m := q) (by omega))
        rw [List.take_left' HQ.out] at HN12
        clear hcell11 hcell11' hlie11 hcc HN11
        go_wp2_with (first
          | (go_at_call 24; refine (awake_any _).mono ?_; rintro e w12 ⟨rfl, hb12⟩; have HB12 := Lib.hid (H11.out.bel.trans (hb12.mono H11.out.size)); have hc12 : w12.cell? ⟨g11, o11 + q, none⟩ = some (.slice Ai11 6 ci11) := (hb12.cell (p := ⟨g11, o11 + q, none⟩) (cell_block_lt HC11.out)).trans HC11.out; have HA12 := Lib.hid (HN12.out.kept fun b hb => hb12.block b (H11.out.1 b hb.1)); have HB12' := Lib.hid (Recs.kept (w' := w12) (allR HL11.out) fun b hb => hb12.block b hb); have HV12 := Lib.hid ((HV11.out.below hb12).mono hb12.size); clear hb12)
          | (go_at_call 11; refine (same_yes HA12.out HB12'.out (by unfold maxLen; omega)).mono ?_; rintro e wX ⟨rfl, k12, rfl⟩; have hv12 := behind_conv (c := ci11) HV12.out k12))
        go_ret
        exact ⟨rfl, below_drewN HB12.out _⟩
end Go.Proofs.Ytkiombbdddbkfaa.Jn
