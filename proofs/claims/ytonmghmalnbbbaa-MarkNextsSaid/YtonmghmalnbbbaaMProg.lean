/-
  The program's own functions of layer 8. Conditions: as each theorem names them.
-/
import Derived.Test.YtonmghmalnbbbaaMArr
import Derived.Deep.DeepCutAuto
namespace Go.Proofs.Ytonmghmalnbbbaa.Mk
set_option linter.unusedVariables false
set_option linter.unusedSimpArgs false
open Go.RowKit

/-- The cells of marks of n inputs. -/
def mcs (n : Nat) (R : Nat → Nat) : Array Value := #[.int .i64 (n : Int)] ++ sn 16 R
theorem mcs_zero (n : Nat) (R : Nat → Nat) : (mcs n R)[0]? = some (.int .i64 (n : Int)) := by
  unfold mcs
  rw [Array.getElem?_append_left (by simp)]
  rfl
theorem mcs_at (n : Nat) (R : Nat → Nat) {p : Nat} (h : p < 16) : (mcs n R)[1 + p]? = some (.int .i64 (R p : Int)) := by
  unfold mcs
  rw [Array.getElem?_append_right (by simp), ← sn_get R h]
  congr 1
  simp
theorem mcs_set (n : Nat) (R : Nat → Nat) {p : Nat} (h : p < 16) (R' : Nat → Nat) (h1 : ∀ q, q ≠ p → R' q = R q) : (mcs n R).setIfInBounds (1 + p) (.int .i64 (R' p : Int)) = mcs n R' := by
  unfold mcs
  rw [← sn_set R h R' h1, Array.setIfInBounds_append_right (by simp)]
  congr 2
  simp
/-- Marks of n inputs lie at block b: S says each. -/
structure Mks (w : World) (b n : Nat) (S : Nat → Nat) : Prop where
  blk : w.heap[b]? = some (.cells (mcs n (ful n S)) 46 (0, 0))
  pos : 1 ≤ n
  max : n ≤ 16
  le : ∀ k, S k ≤ 1000000001
variable {w : World} {b n : Nat} {S : Nat → Nat}
theorem Mks.grow {w' : World} (h : Mks w b n S) (hb : Below w.heap.size w w') : Mks w' b n S := ⟨by rw [hb.block b (lt_of_heap h.blk)]; exact h.blk, h.pos, h.max, h.le⟩
theorem Mks.lt (h : Mks w b n S) : b < w.heap.size := lt_of_heap h.blk
theorem Mks.other (h : Mks w b n S) {g i : Nat} (hg : g ≠ b) (v : Value) : Mks (w.setCell ⟨g, i, none⟩ v) b n S := ⟨heap_setCell h.blk hg v, h.pos, h.max, h.le⟩
theorem Mks.num (h : Mks w b n S) : w.cell? ⟨b, 0, none⟩ = some (.int .i64 (n : Int)) := by rw [cell_of_heap h.blk, mcs_zero]
theorem Mks.row (h : Mks w b n S) : RowAt w b 1 (ful n S) := fun p hp => by rw [cell_of_heap h.blk, mcs_at _ _ hp]
theorem late_any (m t : Int) (w : World) : Calls Try.prog 8 #[.int .i64 m, .int .i64 t] w fun e w' => e = .returned (.bool (decide (t < m))) ∧ w = w' := by
  go_enter Try.func8, Try.ntmps8
  go_wp2
  go_ret
  exact ⟨rfl, rfl⟩
set_option maxHeartbeats 400000 in
theorem isMark_any (n : Int) (w : World) : Calls Try.prog 18 #[.int .i64 n] w fun e w' => e = .returned (.bool (okM n)) ∧ w = w' := by
  unfold okM
  go_enter Try.func18, Try.ntmps18
  go_wp2
  all_goals go_ret
  all_goals exact ⟨ret_bool (by rw [Bool.eq_iff_iff]; simp; try omega), rfl⟩
theorem isMark_at {n : Int} {b : Bool} (h : okM n = b) (w : World) : Calls Try.prog 18 #[.int .i64 n] w fun e w' => e = .returned (.bool b) ∧ w = w' := by
  subst h; exact isMark_any n w
set_option maxHeartbeats 1000000 in
theorem next_ok {m b t : Int} (hm : okM m = true) (hb1 : -1 ≤ b) (hb2 : b ≤ 1000000) (ht : okT t = true) (w : World) : Calls Try.prog 7 #[.int .i64 m, .int .i64 b, .int .i64 t] w fun e w' => e = .returned (.tuple #[.int .i64 (nx m b t), .int .i64 0]) ∧ w = w' := by
  have HM := Lib.hid hm
  unfold okT at ht
  unfold okM at hm
  simp only [Bool.and_eq_true, decide_eq_true_eq] at hm ht
  obtain ⟨hm1, hm2⟩ := hm
  obtain ⟨ht1, ht2⟩ := ht
  have p1 : ¬ b < -1 := by omega
  have p2 : ¬ 1000000 < b := by omega
  have p3 : ¬ t < 0 := by omega
  have p4 : ¬ 1000000000 < t := by omega
  unfold nx
  by_cases h1 : b = -1
  · subst h1
    rw [if_pos (.inl (by omega))]
    go_enter Try.func7, Try.ntmps7
    go_wp2_with (go_at_call 18; refine (isMark_at HM.out _).mono ?_; rintro e w2 ⟨rfl, rfl⟩)
    go_ret2
    exact ⟨rfl, rfl⟩
  · have h3 : (b == -1) = false := ibne h1
    by_cases h2 : t - b < m
    · rw [if_pos (.inr h2)]
      go_enter Try.func7, Try.ntmps7
      go_wp2_with (go_at_call 18; refine (isMark_at HM.out _).mono ?_; rintro e w2 ⟨rfl, rfl⟩)
      all_goals go_ret2
      all_goals exact ⟨by simp; try omega, rfl⟩
    · rw [if_neg (by omega)]
      go_enter Try.func7, Try.ntmps7
      go_wp2_with (go_at_call 18; refine (isMark_at HM.out _).mono ?_; rintro e w2 ⟨rfl, rfl⟩)
      all_goals go_ret2
      all_goals exact ⟨by simp; try omega, rfl⟩
set_option maxHeartbeats 1000000 in
theorem next_no {m b t : Int} (h : okM m = false ∨ b < -1 ∨ 1000000 < b ∨ okT t = false) (w : World) : Calls Try.prog 7 #[.int .i64 m, .int .i64 b, .int .i64 t] w fun e w' => e = .returned (.tuple #[.int .i64 0, .int .i64 1]) ∧ w = w' := by
  cases hm : okM m with
  | false =>
    have HM := Lib.hid hm
    clear hm h
    go_enter Try.func7, Try.ntmps7
    go_wp2_with (go_at_call 18; refine (isMark_at HM.out _).mono ?_; rintro e w2 ⟨rfl, rfl⟩)
    go_ret2
    exact ⟨rfl, rfl⟩
  | true =>
    have HM := Lib.hid hm
    have h2 : b < -1 ∨ 1000000 < b ∨ t < 0 ∨ 1000000000 < t := by
      unfold okT at h
      rw [hm] at h
      simp at h
      omega
    clear hm h
    by_cases p1 : b < -1
    · go_enter Try.func7, Try.ntmps7
      go_wp2_with (go_at_call 18; refine (isMark_at HM.out _).mono ?_; rintro e w2 ⟨rfl, rfl⟩)
      go_ret2
      exact ⟨rfl, rfl⟩
    · by_cases p2 : 1000000 < b
      · clear h2
        go_enter Try.func7, Try.ntmps7
        go_wp2_with (go_at_call 18; refine (isMark_at HM.out _).mono ?_; rintro e w2 ⟨rfl, rfl⟩)
        go_ret2
        exact ⟨rfl, rfl⟩
      · by_cases p3 : t < 0
        · clear h2
          go_enter Try.func7, Try.ntmps7
          go_wp2_with (go_at_call 18; refine (isMark_at HM.out _).mono ?_; rintro e w2 ⟨rfl, rfl⟩)
          go_ret2
          exact ⟨rfl, rfl⟩
        · have p4 : 1000000000 < t := by omega
          clear h2
          go_enter Try.func7, Try.ntmps7
          go_wp2_with (go_at_call 18; refine (isMark_at HM.out _).mono ?_; rintro e w2 ⟨rfl, rfl⟩)
          go_ret2
          exact ⟨rfl, rfl⟩
theorem has_yes (h : Mks w b n S) {i : Nat} (hi : i < n) : Calls Try.prog 20 #[.pointer (some ⟨b, 0, none⟩), .int .i64 i] w fun e w' => e = .returned (.bool true) ∧ w = w' := by
  have c0 := h.num
  have g0 : (0 : Int) ≤ (i : Int) := by omega
  have g1 : (i : Int) < (n : Int) := by omega
  clear h
  go_enter Try.func20, Try.ntmps20
  go_wp2
  go_ret
  exact ⟨by simp; try omega, rfl⟩
theorem has_no (h : Mks w b n S) {i : Int} (hi : i < 0 ∨ (n : Int) ≤ i) : Calls Try.prog 20 #[.pointer (some ⟨b, 0, none⟩), .int .i64 i] w fun e w' => e = .returned (.bool false) ∧ w = w' := by
  have c0 := h.num
  clear h
  by_cases g0 : 0 ≤ i
  · have g1 : ¬ i < (n : Int) := by omega
    clear hi
    go_enter Try.func20, Try.ntmps20
    go_wp2
    go_ret
    exact ⟨by simp; try omega, rfl⟩
  · clear hi
    go_enter Try.func20, Try.ntmps20
    go_wp2
    go_ret
    exact ⟨by simp; try omega, rfl⟩
theorem new_no {n : Int} (h : n < 1 ∨ 16 < n) (w : World) : Calls Try.prog 13 #[.int .i64 n] w fun e w' => e = .returned (.tuple #[.pointer none, .int .i64 1]) ∧ w = w' := by
  rcases h with h | h
  · go_enter Try.func13, Try.ntmps13
    go_wp2
    go_ret2
    exact ⟨rfl, rfl⟩
  · have h2 : ¬ n < 1 := by omega
    go_enter Try.func13, Try.ntmps13
    go_wp2
    go_ret2
    exact ⟨rfl, rfl⟩
theorem raise_nil (i v : Int) (w : World) : Calls Try.prog 15 #[.pointer none, .int .i64 i, .int .i64 v] w fun e w' => e = .returned (.tuple #[.int .i64 0, .bool false, .int .i64 3]) ∧ w = w' := by
  go_enter Try.func15, Try.ntmps15
  go_wp2
  go_ret3
  exact ⟨rfl, rfl⟩
theorem at_nil (i : Int) (w : World) : Calls Try.prog 16 #[.pointer none, .int .i64 i] w fun e w' => e = .returned (.tuple #[.int .i64 0, .int .i64 3]) ∧ w = w' := by
  go_enter Try.func16, Try.ntmps16
  go_wp2
  go_ret2
  exact ⟨rfl, rfl⟩
theorem least_nil (w : World) : Calls Try.prog 14 #[.pointer none] w fun e w' => e = .returned (.int .i64 0) ∧ w = w' := by
  go_enter Try.func14, Try.ntmps14
  go_wp2
  go_ret
  exact ⟨rfl, rfl⟩
theorem least_same (h : Mks w b n S) {m : Nat} (hm : leastS S n = m) : Calls Try.prog 14 #[.pointer (some ⟨b, 0, none⟩)] w fun e w' => e = .returned (.int .i64 (m : Int)) ∧ w = w' := by
  have HR := Lib.hid h.row
  have HL := Lib.hid (ful_le (n := n) h.le)
  have HM := Lib.hid ((least_ful S h.max).trans hm)
  clear hm h
  go_enter Try.func14, Try.ntmps14
  go_wp2_with (go_at_call 19; refine (rowleast_at HR.out HL.out HM.out).mono ?_; rintro e w2 ⟨rfl, rfl⟩)
  go_ret
  exact ⟨rfl, rfl⟩
theorem least_at (h : Mks w b n S) {m : Nat} (hm : leastS S n = m) : Calls Try.prog 14 #[.pointer (some ⟨b, 0, none⟩)] w fun e w' => e = .returned (.int .i64 (m : Int)) ∧ Below w.heap.size w w' :=
  (least_same h hm).mono fun _ _ ⟨h1, h2⟩ => ⟨h1, by subst h2; exact Below.refl _ _⟩
theorem at_ok (h : Mks w b n S) {i v : Nat} (hi : i < n) (hv : S i = v) : Calls Try.prog 16 #[.pointer (some ⟨b, 0, none⟩), .int .i64 i] w fun e w' =>
    e = .returned (.tuple #[.int .i64 (v : Int), .int .i64 0]) ∧ Below w.heap.size w w' := by
  have H := Lib.hid h
  have c0 := h.row i (by have := h.max; omega)
  rw [ful_in S hi, hv] at c0
  have g0 : (0 : Int) ≤ (i : Int) := by omega
  have g1 : (i : Int) < 16 := by have := h.max; omega
  clear h
  go_enter Try.func16, Try.ntmps16
  go_wp2_with (go_at_call 20; refine (has_yes H.out hi).mono ?_; rintro e w2 ⟨rfl, rfl⟩)
  go_ret2
  exact ⟨rfl, Below.refl _ _⟩
theorem at_no (h : Mks w b n S) {i : Int} (hi : i < 0 ∨ (n : Int) ≤ i) : Calls Try.prog 16 #[.pointer (some ⟨b, 0, none⟩), .int .i64 i] w fun e w' =>
    e = .returned (.tuple #[.int .i64 0, .int .i64 1]) ∧ Below w.heap.size w w' := by
  have H := Lib.hid h
  have HI := Lib.hid hi
  clear h hi
  go_enter Try.func16, Try.ntmps16
  go_wp2_with (go_at_call 20; refine (has_no H.out HI.out).mono ?_; rintro e w2 ⟨rfl, rfl⟩)
  go_ret2
  exact ⟨rfl, Below.refl _ _⟩
theorem raise_no (h : Mks w b n S) {i v : Int} (hiv : i < 0 ∨ (n : Int) ≤ i ∨ okM v = false) : Calls Try.prog 15 #[.pointer (some ⟨b, 0, none⟩), .int .i64 i, .int .i64 v] w fun e w' =>
    e = .returned (.tuple #[.int .i64 0, .bool false, .int .i64 1]) ∧ Below w.heap.size w w' := by
  have H := Lib.hid h
  clear h
  by_cases hi : i < 0 ∨ (n : Int) ≤ i
  · have HI := Lib.hid hi
    clear hi hiv
    go_enter Try.func15, Try.ntmps15
    go_wp2_with (go_at_call 20; refine (has_no H.out HI.out).mono ?_; rintro e w2 ⟨rfl, rfl⟩)
    go_ret3
    exact ⟨rfl, Below.refl _ _⟩
  · obtain ⟨k, rfl⟩ := Int.eq_ofNat_of_zero_le (show 0 ≤ i by omega)
    have hk : k < n := by omega
    have HV : Hid (okM v = false) := Lib.hid (by
      rcases hiv with h1 | h1 | h1
      · omega
      · omega
      · exact h1)
    clear hi hiv
    go_enter Try.func15, Try.ntmps15
    go_wp2_with (first
      | (go_at_call 20; refine (has_yes H.out hk).mono ?_; rintro e w2 ⟨rfl, rfl⟩)
      | (go_at_call 18; refine (isMark_at HV.out _).mono ?_; rintro e w2 ⟨rfl, rfl⟩))
    go_ret3
    exact ⟨rfl, Below.refl _ _⟩
theorem sn_congr {R S : Nat → Nat} {n : Nat} (h : ∀ p, p < n → R p = S p) : sn n R = sn n S := by
  unfold sn
  congr 1
  exact List.map_congr_left (fun p hp => by rw [h p (List.mem_range.1 hp)])
/-- Marks, as far as they are laid. -/
def lay (n k : Nat) : Nat → Nat := fun p => if n ≤ p ∧ p < k then 1000000001 else 0
set_option maxRecDepth 20000 in
set_option maxHeartbeats 1000000 in
theorem new_ok {n : Nat} (h1 : 1 ≤ n) (hn : n ≤ 16) (w : World) : Calls Try.prog 13 #[.int .i64 n] w fun e w' => ∃ b, e = .returned (.tuple #[.pointer (some ⟨b, 0, none⟩), .int .i64 0]) ∧ Mks w' b n (fun _ => 0) ∧ w.heap.size ≤ b ∧ Below w.heap.size w w' := by
  have g0 : ¬ (n : Int) < 1 := by omega
  have g1 : ¬ (16 : Int) < (n : Int) := by omega
  go_enter Try.func13, Try.ntmps13
  go_wp2
  obtain ⟨B, hB⟩ : ∃ B, w.heap.size = B := ⟨_, rfl⟩
  have h0 : #[Value.int .i64 (n : Int), .int .i64 0, .int .i64 0, .int .i64 0, .int .i64 0, .int .i64 0, .int .i64 0, .int .i64 0, .int .i64 0, .int .i64 0, .int .i64 0, .int .i64 0, .int .i64 0, .int .i64 0, .int .i64 0, .int .i64 0, .int .i64 0] = mcs n (lay n n) := by
    have e : sn 16 (lay n n) = sn 16 (fun _ => 0) := sn_congr (fun p _ => by unfold lay; rw [if_neg (by omega)])
    unfold mcs
    rw [e]
    rfl
  have HG := Lib.hid (show (w.alloc (.cells (mcs n (lay n n)) 46)).heap[B]? = some (.cells (mcs n (lay n n)) 46 (0, 0)) by rw [← hB]; exact heap_alloc_new w _)
  have HB := Lib.hid ((Below.refl w.heap.size w).alloc (Nat.le_refl _) (.cells (mcs n (lay n n)) 46))
  rw [h0]
  clear h0
  generalize w.alloc (.cells (mcs n (lay n n)) 46) = W at HG HB ⊢
  rw [hB]
  have HS : Hid (w.heap.size ≤ B) := Lib.hid (by omega)
  clear hB g0 g1
  go_loopw [5] (fun z wr => ∃ k : Nat, n ≤ k ∧ k ≤ 16 ∧ z = .int .i64 k ∧ Hid (wr.heap[B]? = some (.cells (mcs n (lay n k)) 46 (0, 0))) ∧ Hid (Below w.heap.size w wr)) (fun z _ => 16 - (intOf z).toNat)
  case atStart => exact ⟨n, Nat.le_refl _, hn, rfl, HG, HB⟩
  case round =>
    clear HG HB
    obtain ⟨k, hnk, hk, rfl, HG, HB⟩ := hrel
    by_cases hlt : k < 16
    · have c0 : wr.cell? ⟨B, 1 + k, none⟩ = some (.int .i64 (lay n k k : Nat)) := by rw [cell_of_heap HG.out, mcs_at _ _ hlt]
      have c1 : wr.frozen? ⟨B, 1 + k, none⟩ = false := free_of_heap HG.out _
      have g0 : (0 : Int) ≤ (k : Int) := by omega
      have g1 : (k : Int) < 16 := by omega
      have HG2 : Hid ((wr.setCell ⟨B, 1 + k, none⟩ (.int .i64 1000000001)).heap[B]? = some (.cells (mcs n (lay n (k + 1))) 46 (0, 0))) := Lib.hid (by
        rw [heap_setCell_same wr B (1 + k) _ _ _ HG.out]
        have e : (1000000001 : Int) = ((lay n (k + 1) k : Nat) : Int) := by unfold lay; rw [if_pos (by omega)]; rfl
        rw [e, mcs_set n _ hlt (lay n (k + 1)) (fun q hq => by
          unfold lay
          by_cases h2 : n ≤ q ∧ q < k
          · rw [if_pos h2, if_pos (by omega)]
          · rw [if_neg h2, if_neg (by omega)])])
      have HB2 : Hid (Below w.heap.size w (wr.setCell ⟨B, 1 + k, none⟩ (.int .i64 1000000001))) := Lib.hid (HB.out.setCell (p := ⟨B, 1 + k, none⟩) HS.out _)
      clear HG HB
      go_wp2
      go_roundw
      case rel => exact ⟨k + 1, by omega, by omega, by go_num, HG2, HB2⟩
      case measure => simp [intOf]; omega
    · have g1 : ¬ (k : Int) < 16 := by omega
      have HM : Hid (Mks wr B n (fun _ => 0)) := Lib.hid ⟨by
        rw [HG.out]
        unfold mcs
        rw [sn_congr (R := lay n k) (S := ful n fun _ => 0) (fun p hp => by
          unfold lay ful
          by_cases h2 : p < n
          · rw [if_pos h2, if_neg (by omega)]
          · rw [if_neg h2, if_pos (by omega)])], h1, hn, fun _ => Nat.zero_le _⟩
      clear HG hk hnk
      go_wp2
      go_ret2
      exact ⟨B, rfl, HM.out, HS.out, HB.out⟩
theorem zero_of_info {P : Program} {t : TypeId} {v : Value} {n : Nat} (h : (P.info? t).map (fun i => (i.zero, i.size)) = some (some v, n)) : (P.info? t).map (·.size) = some n := by
  cases hq : P.info? t with
  | none => simp [hq] at h
  | some i => simp [hq] at h; simp [h.2]
theorem grown_of {w W : World} (h : Below w.heap.size w W) (row : Option Nat) : w.grownBy W row := ⟨h.os, h.tape, h.output, h.size, fun i hi _ => h.block i hi⟩
theorem grown_set (W : World) (a : Addr) (u : Value) : W.grownBy (W.setCell a u).drew (some a.block) := ⟨rfl, rfl, rfl, by simp [World.setCell, World.drew], fun i hi hne => Below.heap_setCell W a u i (fun e => hne (by rw [e]))⟩
attribute [local go_sem ↓] run_max_nat
set_option maxRecDepth 20000 in
set_option maxHeartbeats 1000000 in
theorem raise_ok (h : Mks w b n S) {i v : Nat} (hi : i < n) (hv : v ≤ 1000000001) {m m' : Nat} (hm : leastS S n = m) (hm' : leastS (up S i v) n = m') : Calls Try.prog 15 #[.pointer (some ⟨b, 0, none⟩), .int .i64 i, .int .i64 v] w fun e w' =>
    e = .returned (.tuple #[.int .i64 (m' : Int), .bool (decide (m < m')), .int .i64 0]) ∧ Mks w' b n (up S i v) ∧ w.grownBy w' (some b) := by
  have H := Lib.hid h
  have HV : Hid (okM (v : Int) = true) := Lib.hid (by unfold okM; simp; omega)
  have hn := h.max
  have HM := Lib.hid hm
  have HM' := Lib.hid hm'
  obtain ⟨R, hR⟩ : ∃ R, ful n S = R := ⟨_, rfl⟩
  have HR := Lib.hid hR
  clear hm hm' h hR
  go_enter Try.func15, Try.ntmps15
  go_upto_region 5 with (first
    | (go_at_call 20; refine (has_yes H.out hi).mono ?_; rintro e w2 ⟨rfl, rfl⟩)
    | (go_at_call 18; refine (isMark_at HV.out _).mono ?_; rintro e w2 ⟨rfl, rfl⟩))
  have hrow := H.out.row
  rw [HR.out] at hrow
  have c0 := hrow 0 (by omega)
  have c1 := hrow 1 (by omega)
  have c2 := hrow 2 (by omega)
  have c3 := hrow 3 (by omega)
  have c4 := hrow 4 (by omega)
  have c5 := hrow 5 (by omega)
  have c6 := hrow 6 (by omega)
  have c7 := hrow 7 (by omega)
  have c8 := hrow 8 (by omega)
  have c9 := hrow 9 (by omega)
  have c10 := hrow 10 (by omega)
  have c11 := hrow 11 (by omega)
  have c12 := hrow 12 (by omega)
  have c13 := hrow 13 (by omega)
  have c14 := hrow 14 (by omega)
  have c15 := hrow 15 (by omega)
  clear hrow
  go_upto_region 6 with (fail)
  clear c0 c1 c2 c3 c4 c5 c6 c7 c8 c9 c10 c11 c12 c13 c14 c15
  have hlit : #[Value.int .i64 (R 0 : Int), .int .i64 (R 1 : Int), .int .i64 (R 2 : Int), .int .i64 (R 3 : Int), .int .i64 (R 4 : Int), .int .i64 (R 5 : Int), .int .i64 (R 6 : Int), .int .i64 (R 7 : Int), .int .i64 (R 8 : Int), .int .i64 (R 9 : Int), .int .i64 (R 10 : Int), .int .i64 (R 11 : Int), .int .i64 (R 12 : Int), .int .i64 (R 13 : Int), .int .i64 (R 14 : Int), .int .i64 (R 15 : Int)] = sn 16 R := rfl
  rw [hlit]
  clear hlit
  obtain ⟨g, hg⟩ : ∃ g, w.heap.size = g := ⟨_, rfl⟩
  have hbg : b < g := by rw [← hg]; exact H.out.lt
  have hb0 : Below w.heap.size w (w.alloc (.cells (sn 16 R) 44)) := (Below.refl _ _).alloc (Nat.le_refl _) _
  have HG : Hid ((w.alloc (.cells (sn 16 R) 44)).heap[g]? = some (.cells (sn 16 R) 44 (0, 0))) := Lib.hid (by rw [← hg]; exact heap_alloc_new w _)
  have HK := Lib.hid (H.out.grow hb0)
  have HB := Lib.hid hb0
  rw [hg]
  have HS : Hid (w.heap.size = g) := Lib.hid hg
  clear hg hb0
  generalize w.alloc (.cells (sn 16 R) 44) = W at HG HK HB ⊢
  have hrw : RowAt W b 1 R := by rw [← HR.out]; exact HK.out.row
  obtain ⟨x, hx⟩ : ∃ x, R i = x := ⟨_, rfl⟩
  have c0 : W.cell? ⟨b, 1 + i, none⟩ = some (.int .i64 (x : Int)) := by rw [← hx]; exact hrw i (by omega)
  have c1 : W.frozen? ⟨b, 1 + i, none⟩ = false := free_of_heap HK.out.blk _
  have c2 : W.cell? ⟨g, i, none⟩ = some (.int .i64 (x : Int)) := by rw [← hx, cell_of_heap HG.out]; exact sn_get R (by omega)
  have g0 : (0 : Int) ≤ (i : Int) := by omega
  have g1 : (i : Int) < 16 := by omega
  have g2 : (v : Int) < 9223372036854775808 := by omega
  have g3 : ¬ g = b := by omega
  have HX := Lib.hid hx
  clear hrw hx
  go_region
  have hup : ∀ p, ful n (up S i v) p = if p = i then max x v else R p := fun p => by
    rw [ful_up S hi, HR.out]
    have hSx : S i = x := by rw [← HX.out, ← HR.out, ful_in S hi]
    rw [hSx]
  have hgs : W.grownBy (W.setCell ⟨b, 1 + i, none⟩ (.int .i64 ((max x v : Nat) : Int))).drew (some b) := grown_set W ⟨b, 1 + i, none⟩ _
  have hG2 : (W.setCell ⟨b, 1 + i, none⟩ (.int .i64 ((max x v : Nat) : Int))).drew.heap[g]? = some (.cells (sn 16 R) 44 (0, 0)) := (Below.heap_setCell W _ _ g (fun e => g3 e)).trans HG.out
  have hK2 : Mks (W.setCell ⟨b, 1 + i, none⟩ (.int .i64 ((max x v : Nat) : Int))).drew b n (up S i v) := ⟨by
    show (W.setCell ⟨b, 1 + i, none⟩ _).heap[b]? = _
    rw [heap_setCell_same W b (1 + i) _ _ _ HK.out.blk, HR.out]
    have e : ((max x v : Nat) : Int) = ((ful n (up S i v) i : Nat) : Int) := by rw [hup i, if_pos rfl]
    rw [e, mcs_set n R (by omega) (ful n (up S i v)) (fun q hq => by rw [hup q, if_neg hq])], HK.out.pos, hn, up_le HK.out.le hv⟩
  have HG2 := Lib.hid hG2
  have HK2 := Lib.hid hK2
  have HW := Lib.hid (((grown_of HB.out (some b))).trans hgs)
  clear hgs hG2 hK2 c0 c1 c2 g0 g1 HG HK HB
  generalize (W.setCell ⟨b, 1 + i, none⟩ (.int .i64 ((max x v : Nat) : Int))).drew = W2 at HG2 HK2 HW ⊢
  obtain ⟨T, hT⟩ : ∃ T, ful n (up S i v) = T := ⟨_, rfl⟩
  have HR1 : Hid (RowAt W2 b 1 T) := Lib.hid (by rw [← hT]; exact HK2.out.row)
  have HR2 : Hid (RowAt W2 g 0 R) := Lib.hid (rowAt_block HG2.out)
  have HT : Hid (leastS T 16 = m') := Lib.hid (by rw [← hT, least_ful _ hn]; exact HM'.out)
  have HU : Hid (leastS R 16 = m) := Lib.hid (by rw [← HR.out, least_ful _ hn]; exact HM.out)
  have HTL : Hid (∀ k, T k ≤ 1000000001) := Lib.hid (by rw [← hT]; exact ful_le HK2.out.le)
  have HRL : Hid (∀ k, R k ≤ 1000000001) := Lib.hid (by rw [← HR.out]; exact ful_le H.out.le)
  clear hT hup
  obtain ⟨q, hq⟩ : ∃ q, ((List.range 16).all fun i => decide (T i = R i)) = q := ⟨_, rfl⟩
  have hQ : q = true → m = m' := fun e => by
    rw [e, List.all_eq_true] at hq
    rw [← HT.out, ← HU.out]
    exact least_congr 16 (fun k hk => ((of_decide_eq_true (hq k (List.mem_range.2 hk))).symm))
  obtain ⟨l1, hl1⟩ : ∃ l, (sn 16 T).toList = l := ⟨_, rfl⟩
  obtain ⟨l2, hl2⟩ : ∃ l, (sn 16 R).toList = l := ⟨_, rfl⟩
  have heq : ∀ W3 : World, (Op.equalIn 10000 44 (.agg l1.toArray) (.agg l2.toArray)).run Try.prog W3 = .ok q W3 := fun W3 => by
    rw [← hl1, ← hl2, ← hq]
    exact run_rows W3 T R
  have r1 : W2.rangeAt b 1 l1 := by rw [← hl1]; exact rangeAt_row HR1.out
  have r2 : W2.rangeAt g 0 l2 := by rw [← hl2]; exact rangeAt_row HR2.out
  have hsz := zero_of_info info44
  have hz1 : (Try.prog.info? 44).map (·.size) = some l1.length := by rw [hsz, ← hl1]; simp [sn]
  have hz2 : (Try.prog.info? 44).map (·.size) = some l2.length := by rw [hsz, ← hl2]; simp [sn]
  have hu := Try.underlying44
  have HQ := Lib.hid hQ
  clear hl1 hl2 hq hsz hQ
  go_upto_region 8 with (go_at_call 19; refine (rowleast_at HR1.out HTL.out HT.out).mono ?_; rintro e w2 ⟨rfl, rfl⟩)
  refine wp_region_held_drew (S := fun X => X.rangeAt b 1 l1 ∧ X.rangeAt g 0 l2) (by kernel_rfl) ⟨(World.rangeAt_drew _ _ _ _).2 r1, (World.rangeAt_drew _ _ _ _).2 r2⟩ (fun hHeld => ?_)
  refine wpAnyH_take (i := 0) (oi := ({ dst := some 40, op := Op.move (Operand.tmp 0), type := 33, pos := "mark.go:61", after := #[], guard := none } : Oper)) (v := ?_) rfl (by kernel_rfl) (by kernel_rfl) (by kernel_rfl) (fun _ _ _ h => h) (Or.inl ⟨by rfl, ?hy8_0⟩) hHeld ?_
  case hy8_0 => (intro W hSw; (try dsimp only at hSw); go_simp; (try with_reducible rfl))
  try simp only [Act.put, List.setIfInBounds_toArray, List.set_cons_zero, List.set_cons_succ]
  refine wpAnyH_take (i := 1) (oi := ({ dst := some 41, op := Op.nilCheck (Operand.tmp 40), type := 0, pos := "mark.go:61", after := #[{ on := 0, ground := Ground.data }], guard := none } : Oper)) (v := ?_) rfl (by kernel_rfl) (by kernel_rfl) (by kernel_rfl) (fun _ _ _ h => h) (Or.inl ⟨by rfl, ?hy8_1⟩) hHeld ?_
  case hy8_1 => (intro W hSw; (try dsimp only at hSw); go_simp; (try with_reducible rfl))
  try simp only [Act.put, List.setIfInBounds_toArray, List.set_cons_zero, List.set_cons_succ]
  refine wpAnyH_take (i := 2) (oi := ({ dst := some 42, op := Op.fieldAddr 46 (Operand.tmp 41) 1, type := 0, pos := "mark.go:61", after := #[{ on := 1, ground := Ground.data }], guard := none } : Oper)) (v := ?_) rfl (by kernel_rfl) (by kernel_rfl) (by kernel_rfl) (fun _ _ _ h => h) (Or.inl ⟨by rfl, ?hy8_2⟩) hHeld ?_
  case hy8_2 => (intro W hSw; (try dsimp only at hSw); go_simp; (try with_reducible rfl))
  try simp only [Act.put, List.setIfInBounds_toArray, List.set_cons_zero, List.set_cons_succ]
  refine wpAnyH_take (i := 3) (oi := ({ dst := some 43, op := Op.load 44 (Operand.tmp 42), type := 44, pos := "mark.go:61", after := #[{ on := 2, ground := Ground.data }], guard := none } : Oper)) (v := _) rfl (by kernel_rfl) (by kernel_rfl) (by kernel_rfl) (fun _ _ _ h => h) (yieldsIf_load_mid (by rfl) _ _ rfl b 1 rfl l1 _ (fun _ hx => hx.1) hu rfl hz1) hHeld ?_
  try simp only [Act.put, List.setIfInBounds_toArray, List.set_cons_zero, List.set_cons_succ]
  refine wpAnyH_take (i := 4) (oi := ({ dst := some 44, op := Op.load 44 (Operand.tmp 9), type := 44, pos := "mark.go:61", after := #[], guard := none } : Oper)) (v := _) rfl (by kernel_rfl) (by kernel_rfl) (by kernel_rfl) (fun _ _ _ h => h) (yieldsIf_load_mid (by rfl) _ _ rfl g 0 rfl l2 _ (fun _ hx => hx.2) hu rfl hz2) hHeld ?_
  try simp only [Act.put, List.setIfInBounds_toArray, List.set_cons_zero, List.set_cons_succ]
  refine wpAnyH_take (i := 5) (oi := ({ dst := some 45, op := Op.binOp BinOp.eql 44 (Operand.tmp 43) (Operand.tmp 44) 44, type := 4, pos := "mark.go:61", after := #[{ on := 3, ground := Ground.data }, { on := 4, ground := Ground.data }], guard := none } : Oper)) (v := ?_) rfl (by kernel_rfl) (by kernel_rfl) (by kernel_rfl) (fun _ _ _ h => h) (Or.inl ⟨by rfl, ?hy8_5⟩) hHeld ?_
  case hy8_5 => (intro W hSw; (try dsimp only at hSw); go_simp; (try with_reducible rfl))
  try simp only [Act.put, List.setIfInBounds_toArray, List.set_cons_zero, List.set_cons_succ]
  refine wpAnyH_done (by kernel_rfl) ?_ _
  have HW3 : Hid (w.grownBy W2.drew (some b)) := Lib.hid (HW.out.trans ⟨rfl, rfl, rfl, Nat.le_refl _, fun _ _ _ => rfl⟩)
  have HK3 : Hid (Mks W2.drew b n (up S i v)) := Lib.hid ⟨HK2.out.blk, HK2.out.pos, HK2.out.max, HK2.out.le⟩
  have HR3 : Hid (RowAt W2.drew g 0 R) := Lib.hid (fun p hp => HR2.out p hp)
  clear hHeld heq r1 r2 hz1 hz2 hu HR1 HR2 HW HK2 HG2
  generalize W2.drew = W3 at HW3 HK3 HR3 ⊢
  cases q with
  | true =>
    have HD : Hid (decide (m < m') = false) := Lib.hid (decide_eq_false (by have := HQ.out rfl; omega))
    go_wp2
    go_ret3
    exact ⟨by rw [HD.out]; rfl, HK3.out, HW3.out⟩
  | false =>
    go_wp2_with (go_at_call 19; refine (rowleast_at HR3.out HRL.out HU.out).mono ?_; rintro e w2 ⟨rfl, rfl⟩)
    go_ret3
    exact ⟨by simp, HK3.out, HW3.out⟩
end Go.Proofs.Ytonmghmalnbbbaa.Mk
