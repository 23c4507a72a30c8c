/-
  Sixteen marks in a row of memory: the least of them as the library finds it, and two such rows compared as a whole. Conditions: as each theorem names them.
-/
import Derived.Test.YtonmghmalnbbbaaMRef
import Derived.ChangeKeysEq
import Derived.Deep.MidRow
namespace Go.Proofs.Ytonmghmalnbbbaa.Mk
set_option linter.unusedVariables false
set_option linter.unusedSimpArgs false
open Go.RowKit

/-- The marks of all inputs, and Forever where there is none. -/
def ful (n : Nat) (S : Nat → Nat) : Nat → Nat := fun k => if k < n then S k else 1000000001
theorem ful_in {n : Nat} (S : Nat → Nat) {k : Nat} (h : k < n) : ful n S k = S k := by unfold ful; rw [if_pos h]
theorem ful_le {n : Nat} {S : Nat → Nat} (h : ∀ k, S k ≤ 1000000001) (k : Nat) : ful n S k ≤ 1000000001 := by
  unfold ful
  split
  · exact h k
  · exact Nat.le_refl _
theorem least_congr {R S : Nat → Nat} : ∀ n, (∀ k, k < n → R k = S k) → leastS R n = leastS S n
  | 0, _ => rfl
  | n + 1, h => by rw [leastS, leastS, h n (by omega), least_congr n (fun k hk => h k (by omega))]
theorem least_more {R : Nat → Nat} {n : Nat} (h : ∀ k, n ≤ k → R k = 1000000001) : ∀ d, leastS R (n + d) = leastS R n
  | 0 => rfl
  | d + 1 => by
    have h1 := least_more h d
    have h2 := leastS_le R (n + d)
    rw [← Nat.add_assoc, leastS, h (n + d) (by omega), if_neg (by omega), h1]
theorem least_ful {n : Nat} (S : Nat → Nat) (hn : n ≤ 16) : leastS (ful n S) 16 = leastS S n := by
  have h := least_more (R := ful n S) (n := n) (fun k hk => by unfold ful; rw [if_neg (by omega)]) (16 - n)
  rw [show n + (16 - n) = 16 by omega] at h
  rw [h]
  exact least_congr n (fun k hk => ful_in S hk)
theorem ful_up {n i v : Nat} (S : Nat → Nat) (hi : i < n) (k : Nat) : ful n (up S i v) k = if k = i then max (S i) v else ful n S k := by
  unfold ful up
  split
  · rfl
  · rw [if_neg (by omega)]
theorem run_min_nat (a b : Nat) (ts : Array TypeId) (t : TypeId) (W : World) : (Builtin.min_ ts t #[.int .i64 (a : Int), .int .i64 (b : Int)]).run Try.prog W = .ok (.int .i64 ((min a b : Nat) : Int)) W := by
  rw [run_min_int2]
  congr 2
  split <;> omega
theorem run_max_nat (a b : Nat) (ts : Array TypeId) (t : TypeId) (W : World) : (Builtin.max_ ts t #[.int .i64 (a : Int), .int .i64 (b : Int)]).run Try.prog W = .ok (.int .i64 ((max a b : Nat) : Int)) W := by
  rw [run_max_int2]
  congr 2
  split <;> omega
/-- Sixteen marks lie from offset o of block g on. -/
def RowAt (w : World) (g o : Nat) (R : Nat → Nat) : Prop := ∀ p, p < 16 → w.cell? ⟨g, o + p, none⟩ = some (.int .i64 (R p : Int))
theorem RowAt.cell0 {w : World} {g o : Nat} {R : Nat → Nat} (h : RowAt w g o R) : w.cell? ⟨g, o, none⟩ = some (.int .i64 (R 0 : Int)) := h 0 (by omega)
attribute [local go_sem ↓] run_min_nat
set_option maxRecDepth 20000 in
set_option maxHeartbeats 1000000 in
theorem min_at {w : World} {g o : Nat} {R : Nat → Nat} (h : RowAt w g o R) (hle : ∀ k, R k ≤ 1000000001) {m : Nat} (hm : leastS R 16 = m) : Calls Try.prog 21 #[.slice (some ⟨g, o, none⟩) 16 16] w fun e w' => e = .returned (.int .i64 (m : Int)) ∧ w = w' := by
  have HC := Lib.hid h
  have HM := Lib.hid hm
  have HL := Lib.hid hle
  have c0 := h.cell0
  obtain ⟨r0, hr0⟩ : ∃ r, R 0 = r := ⟨_, rfl⟩
  rw [hr0] at c0
  have HR0 : Hid (leastS R 1 = r0) := Lib.hid (by
    have := hle 0
    rw [leastS, leastS, hr0]
    split <;> omega)
  clear h hm hle hr0
  go_enter Try.func21, Try.ntmps21
  go_wp2
  go_loop [3, 4] (fun x z => ∃ k a : Nat, 1 ≤ k ∧ k ≤ 16 ∧ x = .int .i64 a ∧ z = .int .i64 k ∧ Hid (leastS R k = a)) (fun _ z => 16 - (intOf z).toNat)
  case atStart => exact ⟨1, r0, by omega, by omega, rfl, rfl, HR0⟩
  case round =>
    obtain ⟨k, a, hk1, hk, rfl, rfl, HA⟩ := hrel
    by_cases hlt : k < 16
    · have c1 := HC.out k hlt
      obtain ⟨v, hv⟩ : ∃ v, R k = v := ⟨_, rfl⟩
      rw [hv] at c1
      have g0 : (0 : Int) ≤ (k : Int) := by omega
      have g1 : (k : Int) < 16 := by omega
      have HN : Hid (leastS R (k + 1) = min a v) := Lib.hid (by
        rw [leastS, HA.out, hv]
        split <;> omega)
      clear hv HA c0
      go_wp2
      go_round
      case rel => exact ⟨k + 1, min a v, by omega, by omega, rfl, by go_num, HN⟩
      case measure => simp [intOf]; omega
    · have HN : Hid (a = m) := Lib.hid (by rw [← HA.out, ← HM.out, show k = 16 by omega])
      have g2 : ¬ (k : Int) < 16 := by omega
      clear HA c0 hk1 hk
      go_wp2
      go_ret
      exact ⟨ret_int (by rw [HN.out]), rfl⟩
set_option maxRecDepth 20000 in
set_option maxHeartbeats 1000000 in
theorem rowleast_at {w : World} {g o : Nat} {R : Nat → Nat} (h : RowAt w g o R) (hle : ∀ k, R k ≤ 1000000001) {m : Nat} (hm : leastS R 16 = m) : Calls Try.prog 19 #[.pointer (some ⟨g, o, none⟩)] w fun e w' => e = .returned (.int .i64 (m : Int)) ∧ w = w' := by
  have HC := Lib.hid h
  have HM := Lib.hid hm
  have HL := Lib.hid hle
  clear h hm hle
  go_enter Try.func19, Try.ntmps19
  go_wp2_with (go_at_call 21; refine (min_at HC.out HL.out HM.out).mono ?_; rintro e w2 ⟨rfl, rfl⟩)
  go_ret
  exact ⟨rfl, rfl⟩
theorem info44 : (Try.prog.info? 44).map (fun i => (i.zero, i.size)) = some (some (.agg (sn 16 fun _ => 0)), 16) := by kernel_rfl
/-- Two such rows, compared as a whole. -/
theorem run_items (w : World) {d : Nat} (xs ys : List Int) : ∀ (is : List Nat), (∀ i ∈ is, i < xs.length ∧ i < ys.length) →
    (Op.eqItems (d + 1) 3 1 (xs.map (Value.int .i64)).toArray (ys.map (Value.int .i64)).toArray is).run Try.prog w = .ok (is.all fun i => xs[i]? == ys[i]?) w
  | [], _ => rfl
  | i :: is, h => by
    obtain ⟨h1, h2⟩ := h i (by simp)
    have hp : Try.prog.plainKey 3 = true := by kernel_rfl
    have p1 : (part 3 (xs.map (Value.int .i64)).toArray (i * 1)).run Try.prog w = .ok (.int .i64 xs[i]) w := run_part_plain w hp (by simp [h1])
    have p2 : (part 3 (ys.map (Value.int .i64)).toArray (i * 1)).run Try.prog w = .ok (.int .i64 ys[i]) w := run_part_plain w hp (by simp [h2])
    have he : (Op.equalIn (d + 1) 3 (.int .i64 xs[i]) (.int .i64 ys[i])).run Try.prog w = .ok (xs[i] == ys[i]) w := run_equalIn_int w d 3 .i64 .i64 _ _ Try.underlying3
    have hr := run_items w (d := d) xs ys is (fun j hj => h j (by simp [hj]))
    simp only [Op.eqItems, Sem.run_bind, p1, p2, he, Result.andThen_ok, List.all_cons, List.getElem?_eq_getElem h1, List.getElem?_eq_getElem h2]
    cases hq : (xs[i] == ys[i]) with
    | true => simp only [Bool.not_true, Bool.false_eq_true, ↓reduceIte, hr, Option.some_beq_some, hq, Bool.true_and]
    | false => simp [hq]
theorem sn_map (n : Nat) (S : Nat → Nat) : sn n S = (((List.range n).map fun p => (S p : Int)).map (Value.int .i64)).toArray := by
  unfold sn
  rw [List.map_map]
  rfl
theorem run_rows (w : World) (R S : Nat → Nat) : (Op.equalIn 10000 44 (.agg (sn 16 R)) (.agg (sn 16 S))).run Try.prog w = .ok ((List.range 16).all fun i => decide (R i = S i)) w := by
  obtain ⟨i0, hi0, -, -, -⟩ := info_parts info3
  rw [run_equalIn_array w 9999 _ _ Try.underlying44 hi0]
  have hc : Try.prog.cellsOf 3 = 1 := by kernel_rfl
  rw [hc, sn_map, sn_map, run_items w (d := 9998) _ _ _ (fun i hi => by simpa using hi)]
  congr 1
  have key : ∀ i, i < 16 → ((((List.range 16).map fun p => (R p : Int))[i]? == ((List.range 16).map fun p => (S p : Int))[i]?) = true ↔ decide (R i = S i) = true) := fun i hi => by
    simp only [List.getElem?_map, List.getElem?_range hi, Option.map_some, Option.some_beq_some, beq_iff_eq, decide_eq_true_eq]
    omega
  rw [Bool.eq_iff_iff, List.all_eq_true, List.all_eq_true]
  exact ⟨fun h i hi => (key i (List.mem_range.1 hi)).1 (h i hi), fun h i hi => (key i (List.mem_range.1 hi)).2 (h i hi)⟩
theorem rowAt_block {w : World} {g : Nat} {R : Nat → Nat} {t : TypeId} (h : w.heap[g]? = some (.cells (sn 16 R) t (0, 0))) : RowAt w g 0 R := fun p hp => by
  rw [Nat.zero_add, cell_of_heap h]; exact sn_get R hp
theorem rangeAt_row {w : World} {g o : Nat} {R : Nat → Nat} (h : RowAt w g o R) : w.rangeAt g o (sn 16 R).toList := fun j v hv => by
  have hs : (sn 16 R).toList.length = 16 := by simp [sn]
  have hj : j < 16 := by
    have := (List.getElem?_eq_some_iff.1 hv).1
    omega
  have hg : (sn 16 R).toList[j]? = some (.int .i64 (R j : Int)) := by rw [Array.getElem?_toList]; exact sn_get R hj
  rw [hg] at hv
  rw [h j hj, ← hv]
end Go.Proofs.Ytonmghmalnbbbaa.Mk
