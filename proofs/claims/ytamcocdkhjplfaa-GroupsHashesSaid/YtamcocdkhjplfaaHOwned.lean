/-
  The function that produces a keeper's groups, for whatever loop walks over it. Conditions: as each theorem names them.
-/
import Derived.RangeFuncNested
import Derived.RangeFuncBound
import Derived.RangeFuncCalls
import Derived.RangeFuncLeaves
import Derived.RangeFuncFrom
import Derived.Shelf.Abstract
import Derived.Shelf.RegionOpen
import Derived.WalkKit
import Derived.OwnWalkIn
import Derived.TacticsInMore
import Derived.LoopNIn
import Derived.LoopIn
import Derived.Test.YtamcocdkhjplfaaHSmall
import Derived.Test.YtamcocdkhjplfaaHRound
namespace Go.Proofs.Ytamcocdkhjplfaa.Gp
set_option linter.unusedVariables false
set_option linter.unusedSimpArgs false
open Go.RowKit Go.Shelf
attribute [local go_sem] Oper.semAt_some

theorem wide_fn (f : FuncId) : Fence.wide.fn f = True := rfl
attribute [local go_sem] wide_fn
abbrev G16 := { x : Nat // x < 16 }
/-- A keeper's groups among the first m. -/
def gq (k n : Nat) : Nat → List G16
  | 0 => []
  | m + 1 => gq k n m ++ (if h : m < 16 ∧ ow m n = k then [⟨m, h.1⟩] else [])
theorem gq_len (k n m : Nat) : (gq k n m).length ≤ m := by
  induction m with
  | zero => exact Nat.le_refl _
  | succ m ih =>
    rw [gq, List.length_append]
    split
    · simp only [List.length_cons, List.length_nil]; omega
    · simp only [List.length_nil]; omega
theorem gq_val (k n : Nat) : ∀ m, m ≤ 16 → (gq k n m).map Subtype.val = goods k n m
  | 0, _ => rfl
  | m + 1, hm => by
    rw [gq, goods_succ, List.map_append, gq_val k n m (by omega)]
    by_cases h : ow m n = k
    · rw [dif_pos ⟨by omega, h⟩, if_pos h]; rfl
    · rw [dif_neg (fun e => h e.2), if_neg h]; rfl
theorem gq_yes {k n m : Nat} (hm : m < 16) (h : ow m n = k) : gq k n (m + 1) = gq k n m ++ [⟨m, hm⟩] := by
  rw [gq, dif_pos ⟨hm, h⟩]
theorem gq_no {k n m : Nat} (h : ¬ ow m n = k) : gq k n (m + 1) = gq k n m := by
  rw [gq, dif_neg (fun e => h e.2), List.append_nil]
/-- Two neighbouring blocks lie as they lay. -/
def Two (b : Nat) (W W' : World) : Prop := W'.heap[b]? = W.heap[b]? ∧ W'.heap[b + 1]? = W.heap[b + 1]?
theorem two_t {b : Nat} {A B C : World} (h : Two b A B) (k : Two b B C) : Two b A C := ⟨k.1.trans h.1, k.2.trans h.2⟩
theorem two_b {b : Nat} {w : World} (hb : b + 1 < w.heap.size) (W : World) (l : Nat) (o o' : Obj) (hl : w.heap.size ≤ l) (_ : W.heap[l]? = some o) (_ : o.isCells = false) (_ : o.isWalk = false) : Two b W (W.putObj l o') := by
  exact ⟨World.putObj_heap_other (by omega), World.putObj_heap_other (by omega)⟩
theorem two_set {b c : Nat} {W : World} {i : Nat} (h1 : c ≠ b) (h2 : c ≠ b + 1) (v : Value) : Two b W (W.setCell ⟨c, i, none⟩ v) := by
  constructor <;> simp only [World.setCell, Array.getElem?_modify]
  · rw [if_neg h1]
  · rw [if_neg h2]
/-- All have come, or a part, a round having said 'no more'. -/
def Came (k n : Nat) (J Jx : List G16 → World → Prop) (W : World) : Prop := (∃ ys, ys = gq k n 16 ∧ J ys W) ∨ (∃ pre, True ∧ Jx pre W)
theorem Came.all {k n : Nat} {J Jx : List G16 → World → Prop} {W : World} (h : J (gq k n 16) W) : Came k n J Jx W := .inl ⟨_, rfl, h⟩
theorem Came.part {k n : Nat} {J Jx : List G16 → World → Prop} {W : World} {pre : List G16} (h : Jx pre W) : Came k n J Jx W := .inr ⟨_, trivial, h⟩
/-- What is said of a round, whichever way it ends. -/
def Told (P Q : Prop) (g : Bool) : Prop := (g = true → P) ∧ (g = false → Q)
theorem Told.yes {P Q : Prop} (h : Told P Q true) : P := h.1 rfl
theorem Told.no {P Q : Prop} (h : Told P Q false) : Q := h.2 rfl
abbrev encG (x : G16) : Array Value := #[.int .i64 (x.1 : Int)]

set_option maxRecDepth 100000 in
set_option maxHeartbeats 1000000 in
theorem owned1_in {k n : Nat} (hn8 : n ≤ 8) (b l : Nat) (J Jx : List G16 → World → Prop) (W : World) (hJ : AbidesFrom W.heap.size J)
    (hY : ∀ pre (x : G16) W1, J pre W1 → pre.length < 16 → YieldAt Fence.wide 1 Try.prog l (encG x) W1 fun e W' =>
      (e = .returned (.bool true) ∧ J (pre ++ [x]) W' ∧ Two b W1 W') ∨ (e = .returned (.bool false) ∧ Jx (pre ++ [x]) W'))
    (h1 : W.heap[b]? = some (.cells #[.int .i64 (k : Int)] 3 (0, 0))) (h2 : W.heap[b + 1]? = some (.cells #[.int .i64 (n : Int)] 3 (0, 0))) (h0 : J [] W) :
    CallsIn Fence.wide 2 Try.prog 25 #[.func (.yield l) #[] #[], .pointer (some ⟨b + 1, 0, none⟩), .pointer (some ⟨b, 0, none⟩)] W fun e W' => (∃ v, e = .returned v) ∧ Came k n J Jx W' := by
  refine callsIn_of_wp Try.func25 rfl trivial ?_ rfl
  simp only [Try.ntmps25, List.size_toArray, List.length_cons, List.length_nil, Nat.reduceAdd, Nat.reduceSub, Array.replicate_succ, Array.replicate_zero, List.push_toArray, List.append_toArray, List.nil_append, List.cons_append]
  gi_wp2
  gi_loopw [5] (fun p wr => ∃ m : Nat, m ≤ 16 ∧ p = .int .i64 m ∧ Hid (J (gq k n m) wr) ∧ Hid (wr.heap[b]? = some (.cells #[.int .i64 (k : Int)] 3 (0, 0))) ∧ Hid (wr.heap[b + 1]? = some (.cells #[.int .i64 (n : Int)] 3 (0, 0)))) (fun p _ => 16 - (RowKit.intOf p).toNat)
  case atStart => exact ⟨0, by omega, rfl, Lib.hid h0, Lib.hid h1, Lib.hid h2⟩
  case round =>
    obtain ⟨m, hm, rfl, HJ, H1, H2⟩ := hrel
    clear h0 h1 h2
    by_cases hlt : m < 16
    · have c1 := cell_of_heap H1.out 0
      have c2 := cell_of_heap H2.out 0
      replace c1 : wr.cell? ⟨b, 0, none⟩ = some (.int .i64 k) := c1
      replace c2 : wr.cell? ⟨b + 1, 0, none⟩ = some (.int .i64 n) := c2
      have hmx : Try.prog.follows .mixedOrders = true := by kernel_rfl
      have HJd : Hid (J (gq k n m) wr.drew) := Lib.hid (hJ _ _ _ none HJ.out ⟨rfl, rfl, rfl, Nat.le_refl _, fun _ _ _ => rfl⟩ (fun r e => by cases e))
      by_cases how : ow m n = k
      · have hy0 := (hY _ ⟨m, hlt⟩ _ HJd.out (Nat.lt_of_le_of_lt (gq_len k n m) hlt)).mono (R' := fun e W' => ∃ g, e = .returned (.bool g) ∧ Hid (Told (J (gq k n m ++ [⟨m, hlt⟩]) W' ∧ Two b wr.drew W') (Jx (gq k n m ++ [⟨m, hlt⟩]) W') g)) (by
          rintro e W' (⟨rfl, hj, ht⟩ | ⟨rfl, hx⟩)
          · exact ⟨true, rfl, Lib.hid ⟨fun _ => ⟨hj, ht⟩, fun e => (by cases e)⟩⟩
          · exact ⟨false, rfl, Lib.hid ⟨fun e => (by cases e), fun _ => hx⟩⟩)
        obtain ⟨fn, tmps, assign, body, hy, hR⟩ := hy0
        dsimp only [encG] at hy
        have HW := Lib.hid how
        have HY := Lib.hid hY
        have HJJ := Lib.hid hJ
        have how' : ((ow m n : Nat) : Int) = (k : Int) := by omega
        clear hY hJ how HJ HJd
        gi_wp2
        gi_region_with_o (first
          | (gi_at_call 22; refine (callsIn_wide.2 (ownerOf_at hlt hn8 _)).mono ?_; rintro e w2 ⟨rfl, rfl⟩)
          | (refine hR.mono ?_; rintro e W3 ⟨g, rfl, HG⟩))
        all_goals (cases g with
          | false =>
            gi_wp2
            refine bodyPost_ret (results_none rfl _ _ _) rfl ?_
            exact ⟨⟨_, rfl⟩, Came.part (HG.out.no)⟩
          | true =>
            gi_wp2
            go_roundw
            case rel => exact ⟨m + 1, by omega, by go_num, Lib.hid (by rw [gq_yes hlt HW.out]; exact HG.out.yes.1), Lib.hid (HG.out.yes.2.1.trans H1.out), Lib.hid (HG.out.yes.2.2.trans H2.out)⟩
            case measure => simp [RowKit.intOf]; omega)
      · have HN : ∀ q, Hid (J (gq k n (m + 1)) (wr.drewN q)) := fun q => Lib.hid (by rw [gq_no how]; exact hJ _ _ _ none HJ.out ⟨rfl, rfl, rfl, Nat.le_refl _, fun _ _ _ => rfl⟩ (fun r e => by cases e))
        have how' : (((ow m n : Nat) : Int) == (k : Int)) = false := ibne (by omega)
        have HY := Lib.hid hY
        have HJJ := Lib.hid hJ
        clear hY hJ how HJ HJd
        gi_wp2
        gi_big_quiet_th_o (first | (gi_at_call 22; refine CallsIn.quiet_of_same (callsIn_wide.2 ((ownerOf_at hlt hn8 _).mono fun e w' h => ⟨h.1, h.2.symm⟩))))
        all_goals gi_wp2
        all_goals go_roundw
        case rel => exact ⟨m + 1, by omega, by go_num, HN _, H1, H2⟩
        case measure => simp [RowKit.intOf]; omega
    · obtain rfl : m = 16 := by omega
      gi_wp2
      go_end0
      exact ⟨⟨_, rfl⟩, Came.all HJ.out⟩
theorem owned_stops {k n : Nat} (hn8 : n ≤ 8) (b : Nat) (w : World) (hb : b + 1 < w.heap.size)
    (h1 : w.heap[b]? = some (.cells #[.int .i64 (k : Int)] 3 (0, 0))) (h2 : w.heap[b + 1]? = some (.cells #[.int .i64 (n : Int)] 3 (0, 0))) :
    SeqStopsK Fence.wide 2 Try.prog 25 #[.pointer (some ⟨b + 1, 0, none⟩), .pointer (some ⟨b, 0, none⟩)] encG (Two b) (fun ys => ys = gq k n 16) (fun _ => True) 16 w := fun l J Jx W hW hJ _ hY h0 =>
  owned1_in hn8 b l J Jx W hJ hY ((hW.block b (by omega)).trans h1) ((hW.block (b + 1) hb).trans h2) h0
set_option maxHeartbeats 400000 in
theorem owned_any (k n : Int) (w : World) : Calls Try.prog 23 #[.int .i64 k, .int .i64 n] w fun e w' => e = .returned (.func (.func 25) #[] #[.pointer (some ⟨w.heap.size + 1, 0, none⟩), .pointer (some ⟨w.heap.size, 0, none⟩)]) ∧ w' = (w.alloc (.cells #[.int .i64 k] 3)).alloc (.cells #[.int .i64 n] 3) := by
  go_enter Try.func23, Try.ntmps23
  go_wp2
  go_ret
  exact ⟨by simp, rfl⟩
end Go.Proofs.Ytamcocdkhjplfaa.Gp
