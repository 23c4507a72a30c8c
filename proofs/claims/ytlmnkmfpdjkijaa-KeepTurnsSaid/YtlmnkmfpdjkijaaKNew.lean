/-
  The program's small functions of layer 11: which aggregates, marks, groups may be; a new keep; its mark; what a nil keep answers. Conditions: as each theorem names them.
-/
import Derived.Test.YtlmnkmfpdjkijaaKMem
import Derived.Test.YtlmnkmfpdjkijaaWP3
import Derived.Carry
namespace Go.Proofs.Ytlmnkmfpdjkijaa.Ke
open Go.Proofs.Ytlmnkmfpdjkijaa.Wi (okW)
/-- Windows, and what is told of them. -/
structure Cfg where
  k : Int
  s : Int
  l : Int
  agg : Int
def okA (C : Cfg) : Bool := okW C.k C.s C.l && (if C.k = 0 then decide (C.agg = 0) else decide (1 ≤ C.agg) && decide (C.agg ≤ 4))
def okM (n : Int) : Bool := decide (0 ≤ n) && decide (n ≤ 1000000001)
end Go.Proofs.Ytlmnkmfpdjkijaa.Ke
namespace Go.Proofs.Ytlmnkmfpdjkijaa.Kp
set_option linter.unusedVariables false
set_option linter.unusedSimpArgs false
open Go.Proofs.Ytlmnkmfpdjkijaa Go.Proofs.Ytlmnkmfpdjkijaa.Ke
open Go.RowKit
open Go.Proofs.Ytlmnkmfpdjkijaa.Wi (Sp ofS okW okT okT_is okW_cases cov_of Cov)

def okG (k agg : Int) : Bool := if k = 0 then decide (agg = 0) else decide (1 ≤ agg) && decide (agg ≤ 4)
theorem okA_is (C : Cfg) : okA C = (okW C.k C.s C.l && okG C.k C.agg) := rfl
set_option maxHeartbeats 400000 in
theorem late_at {m t : Int} {r : Bool} (h : decide (t < m) = r) (w : World) : Calls Try.prog 29 #[.int .i64 m, .int .i64 t] w fun e w' => e = .returned (.bool r) ∧ w' = w := by
  subst h
  go_enter Try.func29, Try.ntmps29
  go_wp2
  all_goals go_ret
  all_goals exact ⟨ret_bool (by first | rfl | (rw [Bool.eq_iff_iff] <;> simp <;> omega) | simp), rfl⟩
set_option maxHeartbeats 400000 in
theorem isMark_at {n : Int} {r : Bool} (h : okM n = r) (w : World) : Calls Try.prog 35 #[.int .i64 n] w fun e w' => e = .returned (.bool r) ∧ w' = w := by
  subst h
  unfold okM
  go_enter Try.func35, Try.ntmps35
  go_wp2
  all_goals go_ret
  all_goals exact ⟨ret_bool (by rw [Bool.eq_iff_iff]; simp; try omega), rfl⟩
def okP (n : Int) : Bool := decide (0 ≤ n) && decide (n < 16)
set_option maxHeartbeats 400000 in
theorem isGroup_at {n : Int} {r : Bool} (h : okP n = r) (w : World) : Calls Try.prog 41 #[.int .i64 n] w fun e w' => e = .returned (.bool r) ∧ w' = w := by
  subst h
  unfold okP
  go_enter Try.func41, Try.ntmps41
  go_wp2
  all_goals go_ret
  all_goals exact ⟨ret_bool (by rw [Bool.eq_iff_iff]; simp; try omega), rfl⟩
set_option maxHeartbeats 400000 in
theorem isKind_at {k s l agg : Int} {r : Bool} (h : okG k agg = r) (w : World) : Calls Try.prog 27 #[.int .i64 agg, winV k s l] w fun e w' => e = .returned (.bool r) ∧ Below w.heap.size w w' := by
  subst h
  unfold okG
  by_cases hk : k = 0
  · subst hk
    rw [if_pos rfl]
    go_enter Try.func27, Try.ntmps27
    go_wp2
    all_goals go_ret
    all_goals exact ⟨ret_bool (by first | rfl | (rw [Bool.eq_iff_iff] <;> simp <;> omega) | simp), (Below.refl _ _).alloc (Nat.le_refl _) _⟩
  · rw [if_neg hk]
    go_enter Try.func27, Try.ntmps27
    go_wp2
    all_goals go_ret
    all_goals exact ⟨ret_bool (by rw [Bool.eq_iff_iff]; simp; try omega), (Below.refl _ _).alloc (Nat.le_refl _) _⟩
theorem rows_new {w : World} {S : Nat → Prop} {bm : Nat} (hs : S bm) (hm : w.ownsMap Try.prog 9 asIs bm 0 (.map [])) : Rws w S bm (krow []) :=
  ⟨.map [], fun _ => undef, ⟨hm, hs, (fun k h => absurd rfl h), (fun k => rfl), (fun k h => absurd rfl h), (fun k h => absurd rfl h), (fun k k' g h => absurd rfl h), (fun k g h => absurd rfl h)⟩⟩
set_option maxRecDepth 20000 in
set_option maxHeartbeats 1000000 in
theorem new_mem {C : Cfg} (h : okA C = true) (w : World) : Calls Try.prog 11 #[winV C.k C.s C.l, .int .i64 C.agg] w fun e w' => ∃ b bm, e = .returned (.tuple #[.pointer (some ⟨b, 0, none⟩), .int .i64 0]) ∧ w.heap.size ≤ b ∧ w.heap.size ≤ bm ∧ bm < b ∧ KTop w' b C.k C.s C.l C.agg 0 true (fun _ => false) bm ∧ w'.ownsMap Try.prog 9 asIs bm 0 (.map []) ∧ Below w.heap.size w w' := by
  obtain ⟨k, s, l, agg⟩ := C
  rw [okA_is, Bool.and_eq_true] at h
  obtain ⟨h1, h2⟩ := h
  have HW := Lib.hid h1
  have HG := Lib.hid h2
  have hmm := @run_makeMap Try.prog
  have HB0 : Hid (Below w.heap.size w (w.alloc (.cells #[.int .i64 k, .int .i64 s, .int .i64 l] 23))) := Lib.hid ((Below.refl _ _).alloc (Nat.le_refl _) _)
  have HX0 := Lib.hid (Wi.wb_new w k s l)
  clear h1 h2
  dsimp only
  go_enter Try.func11, Try.ntmps11
  go_wp2_with (first
    | (go_at_call 26; refine (Wi.right_at HW.out _).mono ?_; rintro e w1 ⟨rfl, hb1⟩; have HB1 := Lib.hid (HB0.out.trans (hb1.mono HB0.out.size)); have HX1 := Lib.hid (HX0.out.grow hb1); obtain ⟨c0, c1, c2⟩ := HX1.out.cells; clear hb1)
    | (go_at_call 27; refine (isKind_at HG.out _).mono ?_; rintro e w2 ⟨rfl, hb2⟩; have HB2 := Lib.hid (HB1.out.trans (hb2.mono HB1.out.size)); have HX2 := Lib.hid (HX1.out.grow hb2); clear c0 c1 c2; obtain ⟨c0, c1, c2⟩ := HX2.out.cells; clear hb2))
  go_ret2
  exact ⟨w2.heap.size + 1, w2.heap.size, rfl, Nat.le_succ_of_le HB2.out.size, HB2.out.size, Nat.lt_succ_self _, by have q := heap_alloc_new (w2.alloc (.map #[] 0)) (.cells (topC k s l agg 0 true (fun _ => false) w2.heap.size) 74 (0, 0)); rw [World.size_alloc] at q; exact q, (World.ownsMap_made w2 _ _ _).alloc _, (HB2.out.trans (((Below.refl _ _).alloc (Nat.le_refl _) _).mono HB2.out.size)).trans (((Below.refl _ _).alloc (Nat.le_refl _) _).mono (by have := HB2.out.size; simp; omega))⟩
set_option maxRecDepth 20000 in
set_option maxHeartbeats 1000000 in
theorem new_no {C : Cfg} (h : okA C = false) (w : World) : Calls Try.prog 11 #[winV C.k C.s C.l, .int .i64 C.agg] w fun e w' => e = .returned (.tuple #[.pointer none, .int .i64 1]) ∧ Below w.heap.size w w' := by
  obtain ⟨k, s, l, agg⟩ := C
  rw [okA_is] at h
  have HB0 : Hid (Below w.heap.size w (w.alloc (.cells #[.int .i64 k, .int .i64 s, .int .i64 l] 23))) := Lib.hid ((Below.refl _ _).alloc (Nat.le_refl _) _)
  have HX0 := Lib.hid (Wi.wb_new w k s l)
  dsimp only at h ⊢
  cases hw : okW k s l with
  | false =>
    have HW := Lib.hid hw
    clear h hw
    go_enter Try.func11, Try.ntmps11
    go_wp2_with (go_at_call 26; refine (Wi.right_at HW.out _).mono ?_; rintro e w1 ⟨rfl, hb1⟩; have HB1 := Lib.hid (HB0.out.trans (hb1.mono HB0.out.size)); clear hb1)
    go_ret2
    exact ⟨rfl, HB1.out⟩
  | true =>
    have HW := Lib.hid hw
    rw [hw, Bool.true_and] at h
    have HG := Lib.hid h
    clear h hw
    go_enter Try.func11, Try.ntmps11
    go_wp2_with (first
      | (go_at_call 26; refine (Wi.right_at HW.out _).mono ?_; rintro e w1 ⟨rfl, hb1⟩; have HB1 := Lib.hid (HB0.out.trans (hb1.mono HB0.out.size)); have HX1 := Lib.hid (HX0.out.grow hb1); obtain ⟨c0, c1, c2⟩ := HX1.out.cells; clear hb1)
      | (go_at_call 27; refine (isKind_at HG.out _).mono ?_; rintro e w2 ⟨rfl, hb2⟩; have HB2 := Lib.hid (HB1.out.trans (hb2.mono HB1.out.size)); clear hb2))
    go_ret2
    exact ⟨rfl, HB2.out⟩
set_option maxHeartbeats 400000 in
theorem at_mem {w : World} {b bm : Nat} {k s l agg m : Int} {fr : Bool} {ld : Nat → Bool} (h : KTop w b k s l agg m fr ld bm) : Calls Try.prog 14 #[.pointer (some ⟨b, 0, none⟩)] w fun e' w' => e' = .returned (.int .i64 m) ∧ w' = w := by
  have c4 := h.c4
  clear h
  go_enter Try.func14, Try.ntmps14
  go_wp2
  go_ret
  exact ⟨rfl, rfl⟩
set_option maxHeartbeats 400000 in
theorem put_nil (r : Rc) (w : World) : Calls Try.prog 13 #[.pointer none, rcV r] w fun e w' => e = .returned (.tuple #[.slice none 0 0, .int .i64 3]) ∧ Below w.heap.size w w' := by
  go_enter Try.func13, Try.ntmps13
  go_wp2
  go_ret2
  exact ⟨rfl, (Below.refl _ _).alloc (Nat.le_refl _) _⟩
set_option maxHeartbeats 400000 in
theorem mark_nil (x : Int) (w : World) : Calls Try.prog 16 #[.pointer none, .int .i64 x] w fun e w' => e = .returned (.tuple #[.slice none 0 0, .int .i64 3]) ∧ Below w.heap.size w w' := by
  go_enter Try.func16, Try.ntmps16
  go_wp2
  go_ret2
  exact ⟨rfl, Below.refl _ _⟩
set_option maxHeartbeats 400000 in
theorem save_nil (x : Int) (w : World) : Calls Try.prog 21 #[.pointer none, .int .i64 x] w fun e w' => e = .returned (.tuple #[.slice none 0 0, .int .i64 3]) ∧ Below w.heap.size w w' := by
  go_enter Try.func21, Try.ntmps21
  go_wp2
  go_ret2
  exact ⟨rfl, Below.refl _ _⟩
set_option maxHeartbeats 400000 in
theorem load_nil (v : Value) (w : World) : Calls Try.prog 23 #[.pointer none, v] w fun e w' => e = .returned (.int .i64 3) ∧ Below w.heap.size w w' := by
  go_enter Try.func23, Try.ntmps23
  go_wp2
  go_ret
  exact ⟨rfl, Below.refl _ _⟩
set_option maxHeartbeats 400000 in
theorem at_nil (w : World) : Calls Try.prog 14 #[.pointer none] w fun e w' => e = .returned (.int .i64 0) ∧ Below w.heap.size w w' := by
  go_enter Try.func14, Try.ntmps14
  go_wp2
  go_ret
  exact ⟨rfl, Below.refl _ _⟩
set_option maxHeartbeats 400000 in
theorem open_nil (w : World) : Calls Try.prog 17 #[.pointer none] w fun e w' => e = .returned (.slice none 0 0) ∧ Below w.heap.size w w' := by
  go_enter Try.func17, Try.ntmps17
  go_wp2
  go_ret
  exact ⟨rfl, Below.refl _ _⟩
end Go.Proofs.Ytlmnkmfpdjkijaa.Kp
