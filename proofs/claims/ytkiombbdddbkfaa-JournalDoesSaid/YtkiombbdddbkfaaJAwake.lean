/-
  The document's examples of journal, which every law of this set asks: the helper answers true, and leaves all memory that was there. Conditions: none.
-/
import Derived.Test.YtkiombbdddbkfaaJSteps
namespace Go.Proofs.Ytkiombbdddbkfaa.Jn
open Go.RowKit Go.Proofs.Ytkiombbdddbkfaa.Pk Go.Proofs.Ytkiombbdddbkfaa.Dk
set_option linter.unusedVariables false

theorem built_recs (w : World) (fr : Nat × Nat) : Recs ((w.alloc (.cells #[.int .u8 97, .int .u8 98] 5 fr)).alloc (.cells #[.slice (some ⟨w.heap.size, 0, none⟩) 2 2, .slice none 0 0] 23)) (fun _ => True) (some ⟨(w.alloc (.cells #[.int .u8 97, .int .u8 98] 5 fr)).heap.size, 0, none⟩) 2 [[97, 98], []] := by
  refine ⟨rfl, fun i r hr => ?_⟩
  have hn := heap_alloc_new (w.alloc (.cells #[.int .u8 97, .int .u8 98] 5 fr)) (.cells #[.slice (some ⟨w.heap.size, 0, none⟩) 2 2, .slice none 0 0] 23)
  have hc : ∀ i, ((w.alloc (.cells #[.int .u8 97, .int .u8 98] 5 fr)).alloc (.cells #[.slice (some ⟨w.heap.size, 0, none⟩) 2 2, .slice none 0 0] 23)).cell? ⟨(w.alloc (.cells #[.int .u8 97, .int .u8 98] 5 fr)).heap.size, i, none⟩ = #[Value.slice (some ⟨w.heap.size, 0, none⟩) 2 2, .slice none 0 0][i]? := fun i => cell_of_row _ _ _ _ _ _ hn
  match i, hr with
  | 0, hr =>
    obtain rfl : r = [97, 98] := by simpa using hr.symm
    refine ⟨_, 0, some ⟨w.heap.size, 0, none⟩, 2, rfl, trivial, hc 0, fun k x hx => ⟨w.heap.size, 0, rfl, trivial, ?_⟩⟩
    rw [World.cell?_alloc_lt _ _ _ (by simp), cell_of_row _ _ _ _ _ _ (heap_alloc_new w _)]
    match k, hx with
    | 0, hx => simp at hx; subst hx; rfl
    | 1, hx => simp at hx; subst hx; rfl
  | 1, hr =>
    obtain rfl : r = [] := by simpa using hr.symm
    exact ⟨_, 0, none, 0, rfl, trivial, hc 1, fun k x hx => by simp at hx⟩
theorem built_recs' (w : World) (fr : Nat × Nat) : Recs ((w.alloc (.cells #[.int .u8 97, .int .u8 98] 5 fr)).alloc (.cells #[.slice (some ⟨w.heap.size, 0, none⟩) 2 2, .slice none 0 0] 23)) (fun _ => True) (some ⟨w.heap.size + 1, 0, none⟩) 2 [[97, 98], []] := by
  have := built_recs w fr
  rwa [show (w.alloc (.cells #[.int .u8 97, .int .u8 98] 5 fr)).heap.size = w.heap.size + 1 by simp] at this
theorem below_two (w : World) (o p : Obj) : Below w.heap.size w ((w.alloc o).alloc p) := ((Below.refl _ _).alloc (Nat.le_refl _) _).alloc (by simp) _
theorem below_drewN {w w' : World} {B : Nat} (h : Below B w w') (k : Nat) : Below B w (w'.drewN k) := ⟨h.os, h.tape, h.output, h.size, h.block⟩
theorem small_two : Small [[97, 98], ([] : Bs)] := fun r hr => by
  simp at hr
  rcases hr with rfl | rfl <;> simp
theorem Opened.jlt {X : Nat → Prop} {w0 w' : World} {d : Nat} {s : Ds} {jb : Nat} (h : Fresh X w0 w' d s) (hX : X jb) : jb < w'.heap.size := h.1 jb hX

/-- The states of the examples. -/
theorem awake_states : ∃ s0 s1 s2 s3 s4, openD newD J = (0, s0) ∧ recs (dataOf newD J) = [] ∧ addD s0 J false [97, 98] = (0, s1) ∧ addD s1 J false [] = (0, s2) ∧ appendD s2 J [5] = (0, s3) ∧ openD s3 J = (0, s4) ∧ recs (dataOf s3 J) = [[97, 98], []] ∧ s0.deeds ≤ 100 ∧ s1.deeds ≤ 100 ∧ s2.deeds ≤ 100 ∧ s3.deeds ≤ 100 ∧ s4.deeds ≤ 100 := by
  have hr0 : recs (dataOf newD J) = [] := recs_none (first_short (by decide))
  obtain ⟨s0, e0, a1, a2, a3, -, a4⟩ := open_fine (s := newD) (k := J) rfl (.inl (by decide)) j_name
  rw [hr0] at a4
  have a3' : s0.fuse = 0 := Nat.le_zero.1 a3
  obtain ⟨s1, e1, b1, b2, b3, b4⟩ := add_fine (s := s0) (k := J) (r := [97, 98]) a1 a3' j_name (by decide) (by rw [a4]; decide)
  obtain ⟨s2, e2, c1, c2, c3, c4⟩ := add_fine (s := s1) (k := J) (r := []) b1 b3 j_name (by decide) (by rw [b4, a4, List.length_append, frame_length]; decide)
  have hd2 : dataOf s2 J = bytesOf [[97, 98], []] := by rw [c4, b4, a4]; simp [bytesOf]
  obtain ⟨s3, e3, d1, d2, d3, -, d4⟩ := app_ok (s := s2) (k := J) (b := [5]) c1 (by omega) j_name (by show (dataOf s2 J).length + _ ≤ _; rw [hd2]; simp [bytesOf, frame_length])
  obtain ⟨p1, p2⟩ := fileOr_put d4
  have hd3 : dataOf s3 J = bytesOf [[97, 98], []] ++ [5] := by rw [dataOf_get p2]; show dataOf s2 J ++ [5] = _; rw [hd2]
  obtain ⟨s4, e4, f1, f2, -, -, -⟩ := open_fine (s := s3) (k := J) d1 (.inl (by omega)) j_name
  have a2' : s0.deeds ≤ 1 := a2
  refine ⟨s0, s1, s2, s3, s4, e0, hr0, e1, e2, e3, e4, ?_, by omega, by omega, by omega, by omega, by omega⟩
  exact (congrArg recs hd3).trans (recs_of small_two (first_short (by decide)))

set_option maxRecDepth 20000 in
set_option maxHeartbeats 4000000 in
theorem awake_any (w : World) : Calls Try.prog 24 #[] w fun e w' => e = .returned (.bool true) ∧ Below w.heap.size w w' := by
  have hid := fun (w : World) (C : Array Value) (n c : Nat) => Lib.run_convert_bytes_const (P := Try.prog) w 23 5 C n c Try.underlying23 Try.underlying5
  obtain ⟨s0, s1, s2, s3, s4, e0, r0, e1, e2, e3, e4, r3, d0, d1, d2, d3, d4⟩ := awake_states
  have E0 := Lib.hid e0
  have E1 := Lib.hid e1
  have E2 := Lib.hid e2
  have E3 := Lib.hid e3
  have E4 := Lib.hid e4
  have R0 := Lib.hid r0
  have R3 := Lib.hid r3
  clear e0 e1 e2 e3 e4 r0 r3
  go_enter Try.func24, Try.ntmps24
  go_wp2_with (first
    | (go_at_call 8; refine (Fresh.new (X := fun _ => False) (fun _ h => h.elim) (Below.refl w.heap.size w)).mono ?_; rintro e w1 ⟨d, rfl, h0, -⟩; have hw1 := h0.size; have H0 := Lib.hid h0; clear h0)
    | (go_at_call 9; refine (openJ H0.out (by decide) E0.out R0.out).mono ?_; rintro e w2 ⟨jb, A, c, X, rfl, -, hX, hjb, hj, -, -, hF, -⟩; have HX := Lib.hid hX; have HJ := Lib.hid hj; have HF := Lib.hid hF; have hj0 : w.heap.size ≤ jb := (by omega); clear hX hj hF H0)
    | (go_at_call 12; refine (addJ_ok (l := [97, 98]) (HF.out.alloc _) HX.out hj0 (HJ.out.below ((Below.refl _ _).alloc (Nat.le_refl _) _) HJ.out.lt) rfl (by decide) (lies_marked w2 [97, 98] _) (by omega) (by decide) E1.out).mono ?_; rintro e w3 ⟨rfl, hF3, hJ3, -⟩; have HF3 := Lib.hid hF3; have HJ3 := Lib.hid hJ3; clear hF3 hJ3 HJ HF))
  go_wp2_with (first
    | (go_at_call 12; refine (addJ_ok (l := []) HF3.out HX.out hj0 HJ3.out rfl (by decide) Lies.none_ (by omega) (by decide) E2.out).mono ?_; rintro e w4 ⟨rfl, hF4, hJ4, -⟩; have HF4 := Lib.hid hF4; have HJ4 := Lib.hid hJ4; clear hF4 hJ4 HJ3 HF3)
    | (go_at_call 14; refine (len_any HJ4.out).mono ?_; rintro e w' ⟨rfl, rfl⟩)
    | (go_at_call 20; refine (appendJ (l := [5]) (HF4.out.alloc _) rfl (lies_marked w4 [5] _) (by omega) E3.out).mono ?_; rintro e w5 ⟨rfl, hF5, -⟩; have HF5 := Lib.hid hF5; clear hF5 HF4)
    | (go_at_call 9; refine (openJ HF5.out (by omega) E4.out R3.out).mono ?_; rintro e w6 ⟨jb6, A6, c6, X6, rfl, -, -, -, -, -, hrec, hF6, -⟩; have HR6 := Lib.hid hrec; have HF6 := Lib.hid hF6; clear hrec hF6 HF5))
  have HB6 := Lib.hid (HF6.out.bel)
  have HR7 := Lib.hid (HR6.out.kept (Kept.below (fun b hb => HF6.out.1 b hb.1) (below_two w6 (.cells #[.int .u8 97, .int .u8 98] 5 (2, 3)) (.cells #[.slice (some ⟨w6.heap.size, 0, none⟩) 2 2, .slice none 0 0] 23))))
  clear HR6 HF6
  go_wp2_with (go_at_call 11; refine (same_yes HR7.out (built_recs' w6 (2, 3)) (by decide)).mono ?_; rintro e w7 ⟨rfl, k7, rfl⟩)
  go_ret
  exact ⟨rfl, below_drewN (HB6.out.trans ((below_two w6 _ _).mono HB6.out.size)) k7⟩
end Go.Proofs.Ytkiombbdddbkfaa.Jn
