/-
  An expression is made of a number's digits. Conditions: 1 to 18 digits; the library's table of powers holds what it was laid with.
-/
import Derived.Test.YtlkaaembeakicaaDoorEBin
import Derived.Lib.AtoiErrMem
import Derived.Lib.AppendIntMem
namespace Go.Proofs.YtlkaaembeakicaaDoor.Ex
open Go.RowKit
theorem decFrom_digits : ∀ (l : Bs) (acc : Nat), (∀ c ∈ l, isDig c = true) → Lib.decFrom acc l = some (l.foldl (fun a b => 10 * a + (b.toNat - 48)) acc)
  | [], acc, _ => rfl
  | c :: r, acc, h => by
    have hc := h c (by simp)
    simp only [isDig, Bool.and_eq_true, decide_eq_true_eq] at hc
    have := decFrom_digits r (10 * acc + (c.toNat - 48)) (fun d hd => h d (by simp [hd]))
    simp only [Lib.decFrom, Lib.digitVal, if_pos hc, List.foldl_cons]
    rw [← this, Nat.mul_comm]
theorem atoi_digits {l : Bs} (h0 : l ≠ []) (h : ∀ c ∈ l, isDig c = true) : Lib.atoi l = some ((numVal l : Nat) : Int) := by
  match l, h0 with
  | c :: r, _ =>
    have hc := h c (by simp)
    simp only [isDig, Bool.and_eq_true, decide_eq_true_eq] at hc
    have h1 : ¬ c = 45 := by rintro rfl; simp at hc
    have h2 : ¬ c = 43 := by rintro rfl; simp at hc
    simp only [Lib.atoi, beq_iff_eq, h1, h2, if_false, Lib.decNat, List.isEmpty_cons]
    rw [decFrom_digits _ _ h]
    rfl
theorem numVal_lt : ∀ (l : Bs) (acc : Nat), (∀ c ∈ l, isDig c = true) → l.foldl (fun a b => 10 * a + (b.toNat - 48)) acc < (acc + 1) * 10 ^ l.length
  | [], acc, _ => by simp
  | c :: r, acc, h => by
    have hc := h c (by simp)
    simp only [isDig, Bool.and_eq_true, decide_eq_true_eq] at hc
    have := numVal_lt r (10 * acc + (c.toNat - 48)) (fun d hd => h d (by simp [hd]))
    simp only [List.foldl_cons, List.length_cons, Nat.pow_succ]
    refine Nat.lt_of_lt_of_le this ?_
    rw [Nat.mul_comm (10 ^ r.length) 10, ← Nat.mul_assoc]
    exact Nat.mul_le_mul_right _ (by omega)
theorem numVal_small {l : Bs} (hl : l.length ≤ 18) (h : ∀ c ∈ l, isDig c = true) : numVal l < 1000000000000000000 := by
  have h1 := numVal_lt l 0 h
  have h2 : 10 ^ l.length ≤ 10 ^ 18 := Nat.pow_le_pow_right (by decide) hl
  unfold numVal
  omega
theorem atoi_any {s : ByteArray} {n : Int} (hl : s.size ≤ 18) (h : Lib.atoi s.data.toList = some n) (w : World) {B : Nat} (hB : w.heap.size = B) : Calls Tryd.prog 50 #[.string s] w fun e w' => e = .returned (.tuple #[.int .i64 n, .nilIface]) ∧ Below B w w' :=
  (Any.strconv_Atoi Tryd.lays172 s n hl h w).mono fun _ _ ⟨he, _, hw⟩ => ⟨he, by subst hB; rw [hw]; exact Lib.bytesWorld_below w _ _⟩
theorem itoa_any {n : Int} (h0 : -9223372036854775808 ≤ n) (h1 : n ≤ 9223372036854775807) (w : World) (ht : Tab w) {B : Nat} (hB : w.heap.size = B) : Calls Tryd.prog 52 #[.int .i64 n] w fun e w' => e = .returned (.string ⟨(Lib.itoa n).toArray⟩) ∧ Below B w w' :=
  (Any.strconv_Itoa Tryd.laysM171 n h0 h1 w ht.1).mono fun _ _ ⟨he, k, os, hw⟩ => ⟨he, by subst hB; rw [hw]; exact Lib.below_grow _ w (Nat.le_refl _) k os⟩
set_option maxHeartbeats 1000000 in
theorem number_any {s : ByteArray} {w : World} (h0 : s.data.toList ≠ []) (hl : s.size ≤ 18) (h : ∀ c ∈ s.data.toList, isDig c = true) (hT : Tab w) :
    Calls Tryd.prog 44 #[.string s] w fun e w' => ∃ v, e = .returned (exprV v (.num (numVal s.data.toList))) ∧ Clos w' (.num (numVal s.data.toList)) v ∧ Below w.heap.size w w' := by
  obtain ⟨k, hk⟩ : ∃ k, numVal s.data.toList = k := ⟨_, rfl⟩
  have hA := atoi_digits h0 h
  rw [hk] at hA
  rw [hk]
  have HA := Lib.hid hA
  have hlt : k < 1000000000000000000 := by rw [← hk]; exact numVal_small (by simpa using hl) h
  clear hk hA h h0
  go_enter Tryd.func44, Tryd.ntmps44
  go_wp2_with (first
    | (go_at_call 50; refine (atoi_any hl HA.out _ (World.size_alloc _ _)).mono ?_; rintro e w1 ⟨rfl, hb1⟩; refine Hid.out ?_))
  refine Lib.hid ?_
  have hr : w1.heap[w.heap.size]? = some (.cells #[.nilFunc, .string ⟨#[]⟩, .int .i64 0] 63 (0, 0)) := by
    rw [hb1.block _ (by omega)]; exact heap_alloc_new w _
  have hbw : Below w.heap.size w w1 := ((Below.refl _ _).alloc (Nat.le_refl _) _).trans (hb1.mono (by omega))
  have hT1 := (hT.below hbw).below ((Below.refl _ _).alloc (Nat.le_refl _) (.cells #[.int .i64 (k : Int)] 3))
  have HT1 := Lib.hid hT1
  clear hT1 hb1
  have HR := Lib.hid hr
  have HW := Lib.hid hbw
  clear hr hbw hT
  go_wp2_with (first
    | (go_at_call 52; refine (itoa_any (n := (k : Int)) (by omega) (by omega) _ HT1.out (World.size_alloc _ _)).mono ?_; rintro e w2 ⟨rfl, hb2⟩; refine Hid.out ?_))
  refine Lib.hid ?_
  have hr2 : w2.heap[w.heap.size]? = some (.cells #[.nilFunc, .string ⟨#[]⟩, .int .i64 0] 63 (0, 0)) := by
    rw [hb2.block _ (by have := lt_of_heap HR.out; omega)]; exact heap_alloc_old HR.out _
  have hx : Blk w2 w1.heap.size (.int .i64 (k : Int)) 3 := by
    unfold Blk
    rw [hb2.block _ (by omega)]; exact heap_alloc_new w1 _
  have hbw : Below w.heap.size w w2 := HW.out.trans ((((Below.refl _ _).alloc (Nat.le_refl _) _).trans (hb2.mono (by omega))).mono HW.out.size)
  have p4 := cell_of_heap hr2 0
  have p5 := cell_of_heap hr2 1
  have p6 := cell_of_heap hr2 2
  have q4 := free_of_heap hr2 0
  have q5 := free_of_heap hr2 1
  have q6 := free_of_heap hr2 2
  have hne := hx.ne hr2 (by decide)
  simp at p4 p5 p6
  have HX := Lib.hid hx
  have HB := Lib.hid hbw
  have HN := Lib.hid hne
  clear hx hbw hr2 hb2 hne
  go_wp2
  have hi : Lib.itoa (k : Int) = Lib.decDigits k := by unfold Lib.itoa; rw [if_neg (by omega)]; simp
  refine bodyPost_ret (v := .agg #[.func (.func 51) #[] #[ptr w1.heap.size], .string ⟨(Lib.itoa (k : Int)).toArray⟩, .int .i64 1]) (by simp [results, Tryd.results44, go_sem, p4, p5, p6]) rfl ⟨_, ?_, ⟨w1.heap.size, rfl, ?_⟩, ?_⟩
  · rw [hi]; rfl
  · exact ((HX.out.set HN.out _).set HN.out _).set HN.out _
  · exact ((HB.out.setCell (by simp) _).setCell (by simp) _).setCell (by simp) _
end Go.Proofs.YtlkaaembeakicaaDoor.Ex
