/-
  The walk of JournalAny: whatever bytes the file has, what is found is found again, and what is added stands behind it. Conditions: none (the law looks at nothing longer).
-/
import Derived.Test.YtkiombbdddbkfaaJAwake
import Derived.IntWalk
import Derived.Deep.RegionHeld3
namespace Go.Proofs.Ytkiombbdddbkfaa.Jn
open Go.RowKit Go.Proofs.Ytkiombbdddbkfaa.Pk Go.Proofs.Ytkiombbdddbkfaa.Dk
set_option linter.unusedVariables false

theorem Recs.all {w : World} {X : Nat → Prop} {A : Option Addr} {n : Nat} {L : List Bs} (h : Recs w X A n L) : Recs w (· < w.heap.size) A n L := ⟨h.1, fun i r hr => by
  obtain ⟨g, o, Ai, ci, e, hg, hc, hl⟩ := h.2 i r hr
  exact ⟨g, o, Ai, ci, e, cell_block_lt (p := ⟨g, o + i, none⟩) hc, hc, LiesX.of hl.lies⟩⟩
/-- What the last statement of JournalAny reads. -/
structure AnyS (w : World) (g o q : Nat) (Ai : Option Addr) (len1 ci : Nat) (a1 : Option Addr) (r : Bs) (A3 : Option Addr) (L : List Bs) (W : World) : Prop where
  cell : W.cell? ⟨g, o + q, none⟩ = some (.slice Ai len1 ci)
  len : r.length = len1
  lies : Lies W W.heap.size Ai r
  arg : Lies W W.heap.size a1 r
  new : Recs W (· < W.heap.size) (some ⟨g, o, none⟩) q L
  old : Recs W (· < W.heap.size) A3 q L
  bel : Below w.heap.size w W
section
variable {w W W' : World} {g o q : Nat} {Ai : Option Addr} {len1 ci : Nat} {a1 : Option Addr} {r : Bs} {A3 : Option Addr} {L : List Bs}
theorem AnyS.drewN (h : AnyS w g o q Ai len1 ci a1 r A3 L W) (k : Nat) : AnyS w g o q Ai len1 ci a1 r A3 L (W.drewN k) := ⟨h.cell, h.len, h.lies, h.arg, h.new, h.old, below_drewN h.bel k⟩
theorem AnyS.drew (h : AnyS w g o q Ai len1 ci a1 r A3 L W) : AnyS w g o q Ai len1 ci a1 r A3 L W.drew := h.drewN 1
theorem AnyS.after (h : AnyS w g o q Ai len1 ci a1 r A3 L W) (hb : Below W.heap.size W W') : AnyS w g o q Ai len1 ci a1 r A3 L W' := by
  have hk : Kept (· < W.heap.size) W W' := fun b hlt => hb.block b hlt
  have hz : ∀ b, b < W.heap.size → b < W'.heap.size := fun b h => Nat.lt_of_lt_of_le h hb.size
  exact ⟨(hb.cell (p := ⟨g, o + q, none⟩) (cell_block_lt h.cell)).trans h.cell, h.len, (h.lies.below hb).mono hb.size, (h.arg.below hb).mono hb.size, (h.new.kept hk).mono hz, (h.old.kept hk).mono hz, h.bel.trans (hb.mono h.bel.size)⟩
theorem AnyS.conv1 (h : AnyS w g o q Ai len1 ci a1 r A3 L W) : (convert 23 9 (.slice Ai len1 ci)).run Try.prog W = .ok (.string ⟨r.toArray⟩) W := conv_str h.len h.lies
theorem AnyS.conv2 (h : AnyS w g o q Ai len1 ci a1 r A3 L W) (cap1 : Nat) : (convert 23 9 (.slice a1 len1 cap1)).run Try.prog W = .ok (.string ⟨r.toArray⟩) W := conv_str h.len h.arg
end
/-- The states of JournalAny. -/
theorem any_states {l r : Bs} (hl : l.length ≤ 4096) (hr : r.length ≤ 1024) : ∃ s0 s1 s2 s3 s4, appendD newD J l = (0, s0) ∧ openD s0 J = (0, s1) ∧ recs (dataOf s0 J) = recs l ∧ openD s1 J = (0, s2) ∧ recs (dataOf s1 J) = recs l ∧ addD s2 J false r = (0, s3) ∧ openD s3 J = (0, s4) ∧ recs (dataOf s3 J) = recs l ++ [r] ∧ s0.deeds ≤ 100 ∧ s1.deeds ≤ 100 ∧ s2.deeds ≤ 100 ∧ s3.deeds ≤ 100 := by
  obtain ⟨s0, e0, a1, a2, a3, -, a4⟩ := app_ok (s := newD) (k := J) (b := l) rfl (by decide) j_name (by show 0 + l.length ≤ _; omega)
  obtain ⟨p1, p2⟩ := fileOr_put a4
  have hd0 : dataOf s0 J = l := by rw [dataOf_get p2]; rfl
  have a2' : s0.deeds = 1 := a2
  have a3' : s0.fuse = 0 := a3
  have hu := Nat.le_trans (used_le l) hl
  unfold used at hu
  obtain ⟨s1, e1, b1, b2, b3, -, b4⟩ := open_fine (s := s0) (k := J) a1 (.inl (by omega)) j_name
  rw [hd0] at b4
  have hsm := (recs_split l).1
  have hr1 : recs (dataOf s1 J) = recs l := by rw [b4]; exact recs_bytesOf hsm
  obtain ⟨s2, e2, c1, c2, c3, -, c4⟩ := open_fine (s := s1) (k := J) b1 (.inl (by omega)) j_name
  rw [hr1] at c4
  obtain ⟨s3, e3, d1, d2, d3, d4⟩ := add_fine (s := s2) (k := J) (r := r) c1 (by omega) j_name (by omega) (by rw [c4]; omega)
  obtain ⟨s4, e4, f1, f2, -, -, -⟩ := open_fine (s := s3) (k := J) d1 (.inl (by omega)) j_name
  refine ⟨s0, s1, s2, s3, s4, e0, e1, by rw [hd0], e2, hr1, e3, e4, ?_, by omega, by omega, by omega, by omega⟩
  rw [d4, c4, ← bytesOf_snoc]
  exact recs_bytesOf fun q hq => by
    rcases List.mem_append.1 hq with h | h
    · exact hsm q h
    · simp at h; subst h; omega

set_option maxRecDepth 20000 in
set_option maxHeartbeats 4000000 in
theorem journalAny_walk (a0 : Option Addr) (len0 cap0 : Nat) (a1 : Option Addr) (len1 cap1 : Nat) (w : World) (h0 : Bytes w a0 len0) (h1 : Bytes w a1 len1) :
    Calls Try.prog 5 #[.slice a0 len0 cap0, .slice a1 len1 cap1] w fun e w' => e = .returned (.bool true) ∧ Below w.heap.size w w' := by
  obtain ⟨hm0, l, hl0, hL0⟩ := h0
  obtain ⟨hm1, r, hl1, hL1⟩ := h1
  unfold maxLen at hm0 hm1
  by_cases hb0 : 4096 < len0
  · have hbi : (4096 : Int) < (len0 : Int) := by omega
    go_enter Try.func5, Try.ntmps5
    go_wp2
    go_ret
    exact ⟨rfl, Below.refl _ _⟩
  have hbi0 : (len0 : Int) ≤ 4096 := by omega
  by_cases hb1 : 1024 < len1
  · have hbi : (1024 : Int) < (len1 : Int) := by omega
    go_enter Try.func5, Try.ntmps5
    go_wp2
    go_ret
    exact ⟨rfl, Below.refl _ _⟩
  have hbi1 : (len1 : Int) ≤ 1024 := by omega
  obtain ⟨s0, s1, s2, s3, s4, e0, e1, r0, e2, r1, e3, e4, r3, d0, d1, d2, d3⟩ := any_states (l := l) (r := r) (by omega) (by omega)
  have E0 := Lib.hid e0
  have E1 := Lib.hid e1
  have E2 := Lib.hid e2
  have E3 := Lib.hid e3
  have E4 := Lib.hid e4
  have R0 := Lib.hid r0
  have R1 := Lib.hid r1
  have R3 := Lib.hid r3
  obtain ⟨q, hq⟩ : ∃ q, (recs l).length = q := ⟨_, rfl⟩
  have hq2 : q ≤ 4096 := by have := recs_length l; omega
  have HQ := Lib.hid hq
  have HL0 := Lib.hid hL0
  have HL1 := Lib.hid hL1
  have Hl0 := Lib.hid hl0
  have Hl1 := Lib.hid hl1
  have HQ3 : Hid ((recs l ++ [r]).length = q + 1) := by show _ = _; rw [List.length_append, hq]; rfl
  clear e0 e1 e2 e3 e4 r0 r1 r3 hL0 hL1 hl0 hl1 hq
  go_enter Try.func5, Try.ntmps5
  go_wp2_with (first
    | (go_at_call 8; refine (Fresh.new (X := fun _ => False) (fun _ h => h.elim) (Below.refl w.heap.size w)).mono ?_; rintro e w1 ⟨d, rfl, hF, -⟩; have hw1 := hF.size; have H1 := Lib.hid hF; clear hF)
    | (go_at_call 20; refine (appendJ H1.out Hl0.out ((HL0.out.below H1.out.bel).mono H1.out.size) (by decide) E0.out).mono ?_; rintro e w2 ⟨rfl, hF2, -⟩; have hw2 := hF2.size; have H2 := Lib.hid hF2; clear hF2 H1))
  go_wp2_with (go_at_call 9; refine (openJ H2.out (by omega) E1.out R0.out).mono ?_; unfold Opened; rw [HQ.out]; rintro e w3 ⟨jb3, A3, c3, X3, rfl, -, -, -, -, -, hr3, hF3, -⟩; have hw3 := hF3.size; have H3 := Lib.hid hF3; have HR3 := Lib.hid hr3; clear hF3 hr3 H2)
  go_wp2_with (go_at_call 9; refine (openJ H3.out (by omega) E2.out R1.out).mono ?_; unfold Opened; rw [HQ.out]; rintro e w4 ⟨jb4, A4, c4, X4, rfl, hX34, hX4, hjb4, hj4, -, hr4, hF4, hK4⟩; have H4 := Lib.hid hF4; have HR4 := Lib.hid hr4; have HR34 := Lib.hid (HR3.out.kept fun b hb => hK4 b hb.1); have HX34 := Lib.hid hX34; have HX4 := Lib.hid hX4; have HJ4 := Lib.hid hj4; have hj0 : w.heap.size ≤ jb4 := (by omega); have HNJ := Lib.hid (fun b (hb : X3 b) => (show b ≠ jb4 by have := H3.out.1 b hb; omega)); clear hF4 hr4 hX34 hX4 hj4 hK4)
  go_wp2_with (go_at_call 11; refine (same_yes HR34.out HR4.out (by unfold maxLen; omega)).mono ?_; rintro e w' ⟨rfl, k4, rfl⟩)
  go_wp2_with (go_at_call 12; refine (addJ_ok (H4.out.drewN k4) HX4.out hj0 (show JAt (w4.drewN k4) jb4 d _ q false from HJ4.out) Hl1.out (by unfold maxLen; omega) ((HL1.out.below (H4.out.drewN k4).bel).mono (H4.out.drewN k4).bel.size) (by omega) (by omega) E3.out).mono ?_; rintro e w5 ⟨rfl, hF5, -, hK5⟩; have H5 := Lib.hid hF5; have HR5 := Lib.hid (Recs.kept (w := w4.drewN k4) (w' := w5) HR34.out fun b hb => hK5 b (HX34.out b hb.1) (HNJ.out b hb.1)); clear hF5 hK5 H4 HR34 HR4 HJ4)
  go_wp2_with (go_at_call 9; refine (openJ H5.out (by omega) E4.out R3.out).mono ?_; unfold Opened; rw [HQ3.out]; rintro e w6 ⟨jb6, A6, c6, X6, rfl, -, -, -, -, hcc6, hr6, hF6, hK6⟩; have H6 := Lib.hid hF6; have HR6 := Lib.hid hr6; have HL6 := Lib.hid (HR5.out.kept fun b hb => hK6 b (HX34.out b hb.1)); clear hF6 hr6 hK6 H5 HR5)
  obtain ⟨g, o, Ai, ci, rfl, -, hcell, hlie⟩ := HR6.out.2 q r (by rw [← HQ.out]; simp)
  rw [Hl1.out] at hcell
  have hS6 : AnyS w g o q Ai len1 ci a1 r A3 (recs l) w6 := by
    refine ⟨hcell, Hl1.out, hlie.lies, (HL1.out.below H6.out.bel).mono H6.out.size, ?_, HL6.out.all, H6.out.bel⟩
    have h2 := HR6.out.all.take (m := q) (by omega)
    rw [List.take_left' HQ.out] at h2
    exact h2
  have hcc1 := hcc6.1
  have hcc2 : c6 ≤ 9223372036854775807 := by have := hcc6.2; unfold maxLen at this; omega
  have hqc : (q : Int) ≤ (c6 : Int) := by omega
  have hc6 : w6.drew.cell? ⟨g, o + q, none⟩ = some (.slice Ai len1 ci) := hcell
  clear hcell hlie HR6 HL6 H6 hcc6
  have hq1c : (q : Int) < (q : Int) + 1 := by omega
  have hwr : IntKind.i64.wrap ((q : Int) + 1) = (q : Int) + 1 := IntWalk.i64_in _ (by omega)
  go_wp2_with fail
  go_region_held3 (fun W => W.cell? ⟨g, o + q, none⟩ = some (.slice Ai len1 ci) ∧ (convert 23 9 (.slice Ai len1 ci)).run Try.prog W = .ok (.string ⟨r.toArray⟩) W ∧ (convert 23 9 (.slice a1 len1 cap1)).run Try.prog W = .ok (.string ⟨r.toArray⟩) W ∧ AnyS w g o q Ai len1 ci a1 r A3 (recs l) W) (first | exact ⟨hS6.drew.cell, hS6.drew.conv1, hS6.drew.conv2 cap1, hS6.drew⟩ | exact ⟨hS7.cell, hS7.conv1, hS7.conv2 cap1, hS7⟩ | exact ⟨hS8.cell, hS8.conv1, hS8.conv2 cap1, hS8⟩)
    (first
      | (go_at_call 24; refine (awake_any _).mono ?_; rintro e w7 ⟨rfl, hb7⟩; have hS7 := hS6.drew.after hb7; have hc7 := hS7.cell; clear hb7)
      | (go_at_call 11; refine (same_yes hS7.new hS7.old (by unfold maxLen; omega)).mono ?_; rintro e w8 ⟨rfl, k8, rfl⟩; have hS8 := hS7.drewN k8; have hc8 := hS8.cell; have hv1 := hS8.conv1; have hv2 := hS8.conv2 cap1))
  all_goals
    go_wp2
    go_ret
    exact ⟨rfl, hS8.bel⟩
end Go.Proofs.Ytkiombbdddbkfaa.Jn
