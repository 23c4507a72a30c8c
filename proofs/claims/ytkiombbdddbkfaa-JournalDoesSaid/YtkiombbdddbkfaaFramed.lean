/-
  framed: the frame of a record, in new memory. Conditions: the record lies in memory and is not too long.
-/
import Derived.Test.YtkiombbdddbkfaaFirst
namespace Go.Proofs.Ytkiombbdddbkfaa.Jn
open Go.RowKit Go.Proofs.Ytkiombbdddbkfaa.Pk Go.Proofs.Ytkiombbdddbkfaa.Dk
set_option linter.unusedVariables false

theorem splice_mid {α : Type} (p q q' r : List α) (h : q'.length = q.length) : splice (p ++ (q ++ r)) p.length q' = p ++ (q' ++ r) := by
  unfold splice
  rw [List.take_left' rfl, h]
  congr 2
  rw [← List.drop_drop, List.drop_left' rfl, List.drop_left' rfl]
theorem splice_cells (p q q' r : Bs) {o : Nat} (ho : o = p.length) (h : q'.length = q.length) : splice (cells (p ++ (q ++ r))) o (cells q') = cells (p ++ (q' ++ r)) := by
  subst ho
  have := splice_mid (cells p) (cells q) (cells q') (cells r) (by rw [cells_length, cells_length, h])
  rw [cells_append, cells_append, ← cells_length p, this, cells_append, cells_append]
theorem made_zero (n : Nat) : madeCells #[Value.int IntKind.u8 0] n = (cells (List.replicate n 0)).toArray := by
  apply Array.ext
  · rw [size_madeCells]; simp [cells]
  · intro i h1 h2
    simp [madeCells, cells, bv, Nat.mod_one]
def zeros (n : Nat) : Bs := List.replicate n 0
theorem zeros_zero : zeros 0 = [] := rfl
theorem zeros_split (m : Nat) : zeros (8 + m) = [] ++ (zeros 4 ++ (zeros 4 ++ zeros m)) := by
  unfold zeros
  rw [List.nil_append, List.replicate_append_replicate, List.replicate_append_replicate]
  congr 1
  omega
theorem row1 (m x : Nat) : splice (cells (zeros (8 + m))) 0 (cells (le4 x)) = cells (le4 x ++ (zeros 4 ++ zeros m)) := by
  rw [zeros_split]; exact splice_cells [] (zeros 4) (le4 x) _ rfl rfl
theorem row2 (x : Nat) {m : Nat} {l : Bs} (hl : l.length = m) : splice (cells (le4 x ++ (zeros 4 ++ zeros m))) 8 (cells l) = cells (le4 x ++ (zeros 4 ++ l)) := by
  subst hl
  have := splice_cells (le4 x ++ zeros 4) (zeros l.length) l [] (o := 8) rfl (by simp [zeros])
  simpa using this
theorem row3 (x y : Nat) (l : Bs) : splice (cells (le4 x ++ (zeros 4 ++ l))) 4 (cells (le4 y)) = cells (le4 x ++ (le4 y ++ l)) := splice_cells (le4 x) (zeros 4) (le4 y) l rfl rfl
theorem Row.lies {w : World} {g : Nat} {l : Bs} (h : Row w g (cells l)) : Lies w w.heap.size (some ⟨g, 0, none⟩) l := fun k x hx => by
  refine ⟨g, 0, rfl, h.lt, ?_⟩
  obtain ⟨hk, rfl⟩ := List.getElem?_eq_some_iff.1 hx
  rw [Nat.zero_add, h.cell (k := k) (by rw [cells_length]; exact hk)]
  simp [cells]
theorem Row.own {w : World} {g B n : Nat} {l : Bs} (h : Row w g (cells l)) (hB : B ≤ g) (hl : l.length = n) (hn : n ≤ maxLen) : w.ownsRow B 5 1 (.slice (some ⟨g, 0, none⟩) n n) n (cells l) := by
  refine ⟨by rw [cells_length, hl, Nat.mul_one], .inr ⟨g, n, _, rfl, hB, h, Nat.le_refl _, hn, ?_, ?_⟩⟩
  · simp [cells_length, hl]
  · rw [Nat.mul_one]; exact List.take_of_length_le (by simp [cells_length, hl])
theorem Row.below {w w' : World} {g : Nat} {cs : List Value} (h : Row w g cs) (hb : Below w.heap.size w w') : Row w' g cs := (hb.block g h.lt).trans h
theorem Only.below {g B : Nat} {w w' : World} (h : Only g w w') (hB : B ≤ g) : Below B w w' := ⟨h.os, h.tape, h.output, by rw [h.size]; exact Nat.le_refl _, fun k hk => h.block k (by omega)⟩

set_option maxRecDepth 20000 in
set_option maxHeartbeats 2000000 in
theorem framed_any {A : Option Addr} {m c : Nat} {l : Bs} {w : World} (hl : l.length = m) (hm : m ≤ 1048576) (h : Lies w w.heap.size A l) :
    Calls Try.prog 36 #[.slice A m c] w fun e w' => e = .returned (.slice (some ⟨w.heap.size, 0, none⟩) (8 + m) (8 + m)) ∧ Row w' w.heap.size (cells (frame l)) ∧ Below w.heap.size w w' := by
  obtain ⟨i0, hi, hz0, hz1, hz2⟩ := info_parts info5
  have hmk : (Instr.makeSlice 23 (.int .i64 (8 + (m : Int))) (.int .i64 (8 + (m : Int)))).run Try.prog w = .ok (.slice (some ⟨w.heap.size, 0, none⟩) (8 + m) (8 + m)) (w.alloc (.cells (cells (zeros (8 + m))).toArray 5)) := by
    have hr := run_make (P := Try.prog) w 23 5 i0 (.int .u8 0) Try.underlying23 hi hz0 .i64 .i64 (8 + (m : Int)) (8 + (m : Int)) (by omega) (by omega) (by rw [hz2]; omega) (by omega)
    rw [hz1, Nat.mul_one, show (8 + (m : Int)).toNat = 8 + m by omega] at hr
    rw [show (Value.int IntKind.u8 0).cells = #[Value.int IntKind.u8 0] from rfl, made_zero] at hr
    exact hr
  clear hz0 hz1 hz2 hi
  have hmod : (m : Int) % 4294967296 = (m : Int) := by omega
  have HA := Lib.hid h
  have HL := Lib.hid hl
  have R0 : Row (w.alloc (.cells (cells (zeros (8 + m))).toArray 5)) w.heap.size (cells (zeros (8 + m))) := heap_alloc_new w _
  have Z0 : (cells (zeros (8 + m))).length = 8 + m := by rw [cells_length]; simp [zeros]
  have hP := Lib.hid (putWord_any (n := 8 + m) (c := 8 + m) (x := m) (o := 0) R0 (by omega) (by omega) (by unfold maxLen; omega))
  clear h hl R0 Z0
  by_cases h0 : m = 0
  · subst h0
    have hl0 : l = [] := List.eq_nil_of_length_eq_zero HL.out
    subst hl0
    have hmk0 : (Instr.makeSlice 23 (.int .i64 8) (.int .i64 8)).run Try.prog w = .ok (.slice (some ⟨w.heap.size, 0, none⟩) 8 8) (w.alloc (.cells (cells (zeros 8)).toArray 5)) := hmk
    have hP0 : Hid (Calls Try.prog 53 #[.slice (some ⟨w.heap.size, 0, none⟩) 8 8, .int .u32 0] (w.alloc (.cells (cells (zeros 8)).toArray 5)) fun e w' => e = .returned (.tuple #[]) ∧ Row w' w.heap.size (splice (cells (zeros (8 + 0))) 0 (cells (le4 0))) ∧ Only w.heap.size (w.alloc (.cells (cells (zeros 8)).toArray 5)) w') := hP
    clear hmk hP
    go_enter Try.func36, Try.ntmps36
    go_wp2_with (first
      | (go_at_call 53; (with_reducible refine hP0.out.mono ?_; rintro e w2 ⟨rfl, hr1, ho1⟩; rw [row1, zeros_zero] at hr1; have hg2 := Lib.hid hr1; have hb2 : Below w.heap.size w w2 := ((Below.refl _ _).alloc (Nat.le_refl _) _).trans (Only.below ho1 (Nat.le_refl _)); clear hr1 ho1))
      | (with_reducible refine wpList_copy_nothing rfl (.tmp 14) (.tmp 15) 23 23 rfl 5 Try.underlying23 (by kernel_rfl) _ _ _ _ _ _ rfl rfl rfl ?_))
    have hfin : ∀ (W w3 : World), Below W.heap.size W w3 → W.heap = w2.heap → Row w3 w.heap.size (cells (le4 0 ++ (zeros 4 ++ []))) := fun W w3 hb e => Row.below (w := W) (by unfold Row; rw [e]; exact hg2.out) hb
    have hck : ∀ W : World, W.heap = w2.heap → Calls Try.prog 54 #[.slice (some ⟨w.heap.size, 0, none⟩) 8 8] W fun e w' => e = .returned (.int .u32 (sumOf [])) ∧ Below W.heap.size W w' := fun W e => by
      have hr : Row W w.heap.size (cells (le4 0 ++ (zeros 4 ++ []))) := by unfold Row; rw [e]; exact hg2.out
      exact checksum_any (n := 8) (c := 8) rfl (by omega) (Nat.le_refl _) (by unfold maxLen; omega) (by omega) hr.lies
    have HF := Lib.hid hfin
    have HC := Lib.hid hck
    clear hfin hck
    go_region_with (first
      | (go_at_call 54; refine (HC.out w2.drew rfl).mono ?_; rintro e w3 ⟨rfl, hb3⟩; have HR3 := Lib.hid (HF.out w2.drew w3 hb3 rfl))
      | (go_at_call 53; refine (putWord_any HR3.out (by decide) (by omega) (by unfold maxLen; omega)).mono ?_; rw [row3]; rintro e w4 ⟨rfl, hr4, ho4⟩))
    all_goals
      go_wp2
      go_ret
      exact ⟨rfl, hr4, hb2.trans (((below_undrew hb3).mono hb2.size).trans (Only.below ho4 (Nat.le_refl _)))⟩
  · have h08 : ¬ 8 + m = 8 := by omega
    go_enter Try.func36, Try.ntmps36
    go_wp2_with (first
      | (go_at_call 53; with_reducible refine hP.out.mono ?_; rintro e w1 ⟨rfl, hr1, ho1⟩; rw [row1] at hr1; unfold Row at hr1; have HR1 := Lib.hid hr1; have HO1 := Lib.hid ho1; clear hr1 ho1)
      | (with_reducible refine wpList_copy_splice rfl (.tmp 14) (.tmp 15) 23 23 rfl 5 Try.underlying23 (by kernel_rfl) _ _ _ _ _ _ rfl rfl w.heap.size 8 (cells (le4 m ++ (zeros 4 ++ zeros m))) 5 HR1.out (cells l) ?e1 ?e2 ?e3 (cells_one l) w.heap.size w (((Below.refl _ _).alloc (Nat.le_refl _) _).trans (Only.below HO1.out (Nat.le_refl _))) (Nat.le_refl _) ?_))
    case e1 => rw [cells_length, HL.out]; simp
    case e2 =>
      intro h
      have hpos : 0 < l.length := by rwa [cells_length] at h
      obtain ⟨b, o, rfl, hb, -⟩ := HA.out.at_ hpos
      refine ⟨_, rfl, fun j u hu => ?_⟩
      have := lies_cells HA.out j u hu
      rw [Addr.add_lit] at this ⊢
      have hlt := cell_block_lt (p := ⟨b, o + j, none⟩) this
      exact (((((Below.refl _ _).alloc (Nat.le_refl _) _).trans (Only.below HO1.out (Nat.le_refl _)))).cell (p := ⟨b, o + j, none⟩) hlt).trans this
    case e3 => rw [cells_length, cells_length, HL.out]; simp [le4_length, zeros]; omega
    intro w2 hg2 hb2
    rw [row2 m HL.out] at hg2
    clear hmk hP HR1 HO1
    go_wp2_with fail
    have hfin : ∀ (W w3 : World), Below W.heap.size W w3 → W.heap = w2.heap → Row w3 w.heap.size (cells (le4 m ++ (zeros 4 ++ l))) := fun W w3 hb e => Row.below (w := W) (by unfold Row; rw [e]; exact hg2.out) hb
    have hck : ∀ W : World, W.heap = w2.heap → Calls Try.prog 54 #[.slice (some ⟨w.heap.size, 0, none⟩) (8 + m) (8 + m)] W fun e w' => e = .returned (.int .u32 (sumOf l)) ∧ Below W.heap.size W w' := fun W e => by
      have hr : Row W w.heap.size (cells (le4 m ++ (zeros 4 ++ l))) := by unfold Row; rw [e]; exact hg2.out
      have := checksum_any (n := 8 + m) (c := 8 + m) (by simp [le4_length, zeros, HL.out]; omega) (by omega) (Nat.le_refl _) (by unfold maxLen; omega) (by omega) hr.lies
      have e2 : (le4 m ++ (zeros 4 ++ l)).take 4 ++ (le4 m ++ (zeros 4 ++ l)).drop 8 = le4 l.length ++ l := by
        rw [HL.out, List.take_left' (le4_length m), show 8 = 4 + 4 from rfl, ← List.drop_drop, List.drop_left' (le4_length m), List.drop_left' (by simp [zeros])]
      rw [e2] at this
      exact this
    have HF := Lib.hid hfin
    have HC := Lib.hid hck
    clear hfin hck
    go_region_with (first
      | (go_at_call 54; refine (HC.out w2.drew rfl).mono ?_; rintro e w3 ⟨rfl, hb3⟩; have HR3 := Lib.hid (HF.out w2.drew w3 hb3 rfl))
      | (go_at_call 53; refine (putWord_any HR3.out (by rw [cells_length]; simp [le4_length, zeros]; omega) (by omega) (by unfold maxLen; omega)).mono ?_; rw [row3]; rintro e w4 ⟨rfl, hr4, ho4⟩))
    all_goals
      go_wp2
      go_ret
      exact ⟨rfl, by rw [frame, HL.out]; exact hr4, hb2.trans (((below_undrew hb3).mono hb2.size).trans (Only.below ho4 (Nat.le_refl _)))⟩
end Go.Proofs.Ytkiombbdddbkfaa.Jn
