/-
  WindowSpans: the walk of the law. Conditions: none.
-/
import Derived.Test.YtfkdkcdknpjoeaaWAwake
import Derived.Test.YtfkdkcdknpjoeaaWOf
namespace Go.Proofs.Ytfkdkcdknpjoeaa.Wi
set_option linter.unusedVariables false
set_option linter.unusedSimpArgs false
open Go.RowKit

theorem stayW {W X : World} {k s l : Int} {B : Nat} {v u : Value} {L M : List Sp} {w0 : World} (hx : WB W B k s l) (h1 : SpansAt W v L) (h2 : SpansAt W u M) (h3 : Below w0.heap.size w0 W) (hb : Below W.heap.size W X) :
    X.cell? ⟨B, 0, none⟩ = some (.int .i64 k) ∧ X.cell? ⟨B, 1, none⟩ = some (.int .i64 s) ∧ X.cell? ⟨B, 2, none⟩ = some (.int .i64 l) ∧ Hid (WB X B k s l) ∧ Hid (SpansAt X v L) ∧ Hid (SpansAt X u M) ∧ Hid (Below w0.heap.size w0 X) := by
  have hx' := hx.grow hb
  obtain ⟨c0, c1, c2⟩ := hx'.cells
  exact ⟨c0, c1, c2, Lib.hid hx', Lib.hid (h1.grow hb), Lib.hid (h2.grow hb), Lib.hid (grow_below h3 hb)⟩
theorem stayD {W X w0 : World} {b o n c j : Nat} {x : Sp} {L : List Sp} (hx : L[j]? = some x) (h : SpansAt W (.slice (some ⟨b, o, none⟩) n c) L) (h3 : Below w0.heap.size w0 W) (hb : Below W.heap.size W X) :
    X.cell? ⟨b, o + j * 2, none⟩ = some (.int .i64 x.1) ∧ X.cell? ⟨b, o + j * 2 + 1, none⟩ = some (.int .i64 x.2) ∧ Hid (SpansAt X (.slice (some ⟨b, o, none⟩) n c) L) ∧ Hid (Below w0.heap.size w0 X) := by
  obtain ⟨hj, hx⟩ := List.getElem?_eq_some_iff.1 hx
  have hg := h.grow hb
  obtain ⟨b', o', e, -, y0, y1⟩ := SpansAt.cells hg hj
  injection e with e
  injection e with q1 q2
  subst q1 q2
  rw [hx] at y0 y1
  exact ⟨y0, y1, Lib.hid hg, Lib.hid (grow_below h3 hb)⟩
set_option maxRecDepth 20000 in
set_option maxHeartbeats 4000000 in
theorem ws_ok {k s l t mark : Int} (hw : okW k s l = true) (ht : okT t = true) (w : World) : Calls Try.prog 3 #[wnV k s l, .int .i64 t, .int .i64 mark] w fun e w' => e = .returned (.bool true) ∧ Below w.heap.size w w' := by
  have HW := Lib.hid hw
  have HT := Lib.hid ht
  obtain ⟨L, hL⟩ : ∃ L, ofS k s l t = L := ⟨_, rfl⟩
  have HL := Lib.hid hL
  obtain ⟨n, hn⟩ : ∃ n, L.length = n := ⟨_, rfl⟩
  have HN := Lib.hid hn
  have HB0 : Hid (Below w.heap.size w (w.alloc (.cells #[.int .i64 k, .int .i64 s, .int .i64 l] 23))) := Lib.hid ((Below.refl _ _).alloc (Nat.le_refl _) _)
  have HX0 := Lib.hid (wb_new w k s l)
  clear hw ht hL hn
  go_enter Try.func3, Try.ntmps3
  go_upto_region 3 with (first
    | (go_at_call 10; refine (of_ok HW.out HT.out HL.out _).mono ?_; rintro e w1 ⟨v1, rfl, hi1, hb1⟩; obtain ⟨a1, c1', rfl⟩ := hi1.val; rw [HN.out] at hi1 ⊢; have hlen := Lib.hid hi1.len; have HI1 := Lib.hid hi1; have HB1 := Lib.hid (grow_below HB0.out hb1); have HX1 := Lib.hid (HX0.out.grow hb1); obtain ⟨c0, c1, c2⟩ := HX1.out.cells; clear hb1 hi1)
    | (go_at_call 11; refine (rof_ok HW.out HT.out HL.out _).mono ?_; rintro e w2 ⟨v2, rfl, hi2, hb2⟩; have hS := stayW HX1.out HI1.out HI1.out HB1.out hb2; have HJ2 := Lib.hid hi2; clear hb2 hi2 c0 c1 c2))
  obtain ⟨c0, c1, c2, HX2, HI2, -, HB2⟩ := hS
  have hS := stayW HX2.out HI2.out HJ2.out HB2.out (Below.refl _ _)
  clear HX1 HI1 HB1
  refine wp_region_held_drew (S := (fun X => X.cell? ⟨w.heap.size, 0, none⟩ = some (.int .i64 k) ∧ X.cell? ⟨w.heap.size, 1, none⟩ = some (.int .i64 s) ∧ X.cell? ⟨w.heap.size, 2, none⟩ = some (.int .i64 l) ∧ Hid (WB X w.heap.size k s l) ∧ Hid (SpansAt X (.slice a1 n c1') L) ∧ Hid (SpansAt X v2 L) ∧ Hid (Below w.heap.size w X))) (by kernel_rfl) (stayW HX2.out HI2.out HJ2.out HB2.out (Below.refl _ _).drew) (fun hHeld => ?_)
  refine wpAnyH_take (i := 0) (oi := ({ dst := some 24, op := Op.load 23 (Operand.tmp 3), type := 23, pos := "law.go:36", after := #[], guard := none } : Oper)) (v := ?_) rfl (by kernel_rfl) (by kernel_rfl) (by kernel_rfl) (fun _ _ _ h => h) (Or.inl ⟨by rfl, ?hy3_0⟩) hHeld ?_
  case hy3_0 => (intro W hSw; (try dsimp only at hSw); go_simp; (try with_reducible rfl))
  try simp only [Act.put, List.setIfInBounds_toArray, List.set_cons_zero, List.set_cons_succ]
  refine wpAnyH_take (i := 2) (oi := ({ dst := some 26, op := Op.load 23 (Operand.tmp 3), type := 23, pos := "law.go:36", after := #[], guard := none } : Oper)) (v := ?_) rfl (by kernel_rfl) (by kernel_rfl) (by kernel_rfl) (fun _ _ _ h => h) (Or.inl ⟨by rfl, ?hy3_2⟩) hHeld ?_
  case hy3_2 => (intro W hSw; (try dsimp only at hSw); go_simp; (try with_reducible rfl))
  try simp only [Act.put, List.setIfInBounds_toArray, List.set_cons_zero, List.set_cons_succ]
  refine wpAnyH_ready (rs := [1]) (by kernel_rfl) (by simp) ?_
  refine AllReadyH.cons (o := ({ dst := some 25, op := Op.call { callee := Callee.value (Operand.func 12), args := #[Operand.tmp 24], argTypes := #[23] }, type := 4, pos := "law.go:36", after := #[{ on := 0, ground := Ground.data }], guard := none } : Oper)) rfl (fun K hK => ?_) AllReadyH.nil
  go_simp
  go_at_call 12
  have hh := (show _ ∧ _ ∧ _ ∧ Hid _ ∧ Hid _ ∧ Hid _ ∧ Hid _ from hHeld).2.2.2
  refine (right_at HW.out _).mono ?_
  rintro e w3 ⟨rfl, hb3⟩
  have hS3 := stayW hh.1.out hh.2.1.out hh.2.2.1.out hh.2.2.2.out hb3
  clear hb3 hh
  refine hK.out _ _ hS3 (fun hHeld' => ?_)
  clear hK K hHeld
  have hHeld := hHeld'
  clear hHeld'
  try simp only [Act.put, List.setIfInBounds_toArray, List.set_cons_zero, List.set_cons_succ]
  refine wpAnyH_ready (rs := [3]) (by kernel_rfl) (by simp) ?_
  refine AllReadyH.cons (o := ({ dst := some 27, op := Op.call { callee := Callee.value (Operand.func 13), args := #[Operand.tmp 26], argTypes := #[23] }, type := 4, pos := "law.go:36", after := #[{ on := 2, ground := Ground.data }, { on := 1, ground := Ground.chain }], guard := none } : Oper)) rfl (fun K hK => ?_) AllReadyH.nil
  go_simp
  go_at_call 13
  have hh := (show _ ∧ _ ∧ _ ∧ Hid _ ∧ Hid _ ∧ Hid _ ∧ Hid _ from hHeld).2.2.2
  refine (rright_at HW.out _).mono ?_
  rintro e w3 ⟨rfl, hb3⟩
  have hS3 := stayW hh.1.out hh.2.1.out hh.2.2.1.out hh.2.2.2.out hb3
  clear hb3 hh
  refine hK.out _ _ hS3 (fun hHeld' => ?_)
  clear hK K hHeld
  have hHeld := hHeld'
  clear hHeld'
  try simp only [Act.put, List.setIfInBounds_toArray, List.set_cons_zero, List.set_cons_succ]
  refine wpAnyH_take (i := 4) (oi := ({ dst := some 28, op := Op.binOp BinOp.neq 4 (Operand.tmp 25) (Operand.tmp 27) 4, type := 4, pos := "law.go:36", after := #[{ on := 1, ground := Ground.data }, { on := 3, ground := Ground.data }], guard := none } : Oper)) (v := ?_) rfl (by kernel_rfl) (by kernel_rfl) (by kernel_rfl) (fun _ _ _ h => h) (Or.inl ⟨by rfl, ?hy3_4⟩) hHeld ?_
  case hy3_4 => (intro W hSw; (try dsimp only at hSw); go_simp; (try with_reducible rfl))
  try simp only [Act.put, List.setIfInBounds_toArray, List.set_cons_zero, List.set_cons_succ]
  refine wpAnyH_take (i := 5) (oi := ({ dst := some 29, op := Op.move (Operand.tmp 28), type := 4, pos := "law.go:36", after := #[{ on := 4, ground := Ground.data }, { on := 3, ground := Ground.chain }], guard := none } : Oper)) (v := ?_) rfl (by kernel_rfl) (by kernel_rfl) (by kernel_rfl) (fun _ _ _ h => h) (Or.inl ⟨by rfl, ?hy3_5⟩) hHeld ?_
  case hy3_5 => (intro W hSw; (try dsimp only at hSw); go_simp; (try with_reducible rfl))
  try simp only [Act.put, List.setIfInBounds_toArray, List.set_cons_zero, List.set_cons_succ]
  refine wpAnyH_take (i := 6) (oi := ({ dst := some 30, op := Op.move (Operand.tmp 7), type := 24, pos := "law.go:36", after := #[{ on := 5, ground := Ground.guard }], guard := some (5, false) } : Oper)) (v := ?_) rfl (by kernel_rfl) (by kernel_rfl) (by kernel_rfl) (fun _ _ _ h => h) (Or.inl ⟨by rfl, ?hy3_6⟩) hHeld ?_
  case hy3_6 => (intro W hSw; (try dsimp only at hSw); go_simp; (try with_reducible rfl))
  try simp only [Act.put, List.setIfInBounds_toArray, List.set_cons_zero, List.set_cons_succ]
  refine wpAnyH_take (i := 7) (oi := ({ dst := some 31, op := Op.move (Operand.tmp 9), type := 24, pos := "law.go:36", after := #[{ on := 5, ground := Ground.guard }], guard := some (5, false) } : Oper)) (v := ?_) rfl (by kernel_rfl) (by kernel_rfl) (by kernel_rfl) (fun _ _ _ h => h) (Or.inl ⟨by rfl, ?hy3_7⟩) hHeld ?_
  case hy3_7 => (intro W hSw; (try dsimp only at hSw); go_simp; (try with_reducible rfl))
  try simp only [Act.put, List.setIfInBounds_toArray, List.set_cons_zero, List.set_cons_succ]
  refine wpAnyH_ready (rs := [8]) (by kernel_rfl) (by simp) ?_
  refine AllReadyH.cons (o := ({ dst := some 32, op := Op.call { callee := Callee.value (Operand.func 14), args := #[Operand.tmp 30, Operand.tmp 31], argTypes := #[24, 24] }, type := 4, pos := "law.go:36", after := #[{ on := 6, ground := Ground.data }, { on := 7, ground := Ground.data }, { on := 5, ground := Ground.chain }, { on := 5, ground := Ground.guard }], guard := some (5, false) } : Oper)) rfl (fun K hK => ?_) AllReadyH.nil
  go_simp
  go_at_call 14
  have hh := (show _ ∧ _ ∧ _ ∧ Hid _ ∧ Hid _ ∧ Hid _ ∧ Hid _ from hHeld).2.2.2
  refine (same_at hh.2.1.out hh.2.2.1.out (decide_eq_true rfl)).mono ?_
  rintro e w3 ⟨rfl, hb3⟩
  have hS3 := stayW hh.1.out hh.2.1.out hh.2.2.1.out hh.2.2.2.out hb3
  clear hb3 hh
  refine hK.out _ _ hS3 (fun hHeld' => ?_)
  clear hK K hHeld
  have hHeld := hHeld'
  clear hHeld'
  try simp only [Act.put, List.setIfInBounds_toArray, List.set_cons_zero, List.set_cons_succ]
  refine wpAnyH_take (i := 9) (oi := ({ dst := some 33, op := Op.unOp UnOp.not 4 (Operand.tmp 32), type := 4, pos := "law.go:36", after := #[{ on := 8, ground := Ground.data }, { on := 5, ground := Ground.guard }], guard := some (5, false) } : Oper)) (v := ?_) rfl (by kernel_rfl) (by kernel_rfl) (by kernel_rfl) (fun _ _ _ h => h) (Or.inl ⟨by rfl, ?hy3_9⟩) hHeld ?_
  case hy3_9 => (intro W hSw; (try dsimp only at hSw); go_simp; (try with_reducible rfl))
  try simp only [Act.put, List.setIfInBounds_toArray, List.set_cons_zero, List.set_cons_succ]
  refine wpAnyH_take (i := 10) (oi := ({ dst := some 34, op := Op.pick (Operand.tmp 29) (Operand.const (Value.bool true)) (Operand.tmp 33), type := 4, pos := "law.go:36", after := #[{ on := 5, ground := Ground.data }, { on := 9, ground := Ground.data }], guard := none } : Oper)) (v := ?_) rfl (by kernel_rfl) (by kernel_rfl) (by kernel_rfl) (fun _ _ _ h => h) (Or.inl ⟨by rfl, ?hy3_10⟩) hHeld ?_
  case hy3_10 => (intro W hSw; (try dsimp only at hSw); go_simp; (try with_reducible rfl))
  try simp only [Act.put, List.setIfInBounds_toArray, List.set_cons_zero, List.set_cons_succ]
  refine wpAnyH_take (i := 11) (oi := ({ dst := some 35, op := Op.move (Operand.tmp 34), type := 4, pos := "law.go:36", after := #[{ on := 10, ground := Ground.data }, { on := 8, ground := Ground.chain }], guard := none } : Oper)) (v := ?_) rfl (by kernel_rfl) (by kernel_rfl) (by kernel_rfl) (fun _ _ _ h => h) (Or.inl ⟨by rfl, ?hy3_11⟩) hHeld ?_
  case hy3_11 => (intro W hSw; (try dsimp only at hSw); go_simp; (try with_reducible rfl))
  try simp only [Act.put, List.setIfInBounds_toArray, List.set_cons_zero, List.set_cons_succ]
  refine wpAnyH_take (i := 12) (oi := ({ dst := some 36, op := Op.move (Operand.tmp 8), type := 25, pos := "law.go:36", after := #[{ on := 11, ground := Ground.guard }], guard := some (11, false) } : Oper)) (v := ?_) rfl (by kernel_rfl) (by kernel_rfl) (by kernel_rfl) (fun _ _ _ h => h) (Or.inl ⟨by rfl, ?hy3_12⟩) hHeld ?_
  case hy3_12 => (intro W hSw; (try dsimp only at hSw); go_simp; (try with_reducible rfl))
  try simp only [Act.put, List.setIfInBounds_toArray, List.set_cons_zero, List.set_cons_succ]
  refine wpAnyH_take (i := 13) (oi := ({ dst := some 37, op := Op.binOp BinOp.eql 25 (Operand.tmp 36) (Operand.const (Value.int IntKind.i64 0)) 25, type := 4, pos := "law.go:36", after := #[{ on := 12, ground := Ground.data }, { on := 11, ground := Ground.guard }], guard := some (11, false) } : Oper)) (v := ?_) rfl (by kernel_rfl) (by kernel_rfl) (by kernel_rfl) (fun _ _ _ h => h) (Or.inl ⟨by rfl, ?hy3_13⟩) hHeld ?_
  case hy3_13 => (intro W hSw; (try dsimp only at hSw); go_simp; (try with_reducible rfl))
  try simp only [Act.put, List.setIfInBounds_toArray, List.set_cons_zero, List.set_cons_succ]
  refine wpAnyH_take (i := 14) (oi := ({ dst := some 38, op := Op.move (Operand.tmp 10), type := 4, pos := "law.go:36", after := #[{ on := 11, ground := Ground.guard }], guard := some (11, false) } : Oper)) (v := ?_) rfl (by kernel_rfl) (by kernel_rfl) (by kernel_rfl) (fun _ _ _ h => h) (Or.inl ⟨by rfl, ?hy3_14⟩) hHeld ?_
  case hy3_14 => (intro W hSw; (try dsimp only at hSw); go_simp; (try with_reducible rfl))
  try simp only [Act.put, List.setIfInBounds_toArray, List.set_cons_zero, List.set_cons_succ]
  refine wpAnyH_take (i := 15) (oi := ({ dst := some 39, op := Op.binOp BinOp.neq 4 (Operand.tmp 37) (Operand.tmp 38) 4, type := 4, pos := "law.go:36", after := #[{ on := 13, ground := Ground.data }, { on := 14, ground := Ground.data }, { on := 11, ground := Ground.guard }], guard := some (11, false) } : Oper)) (v := ?_) rfl (by kernel_rfl) (by kernel_rfl) (by kernel_rfl) (fun _ _ _ h => h) (Or.inl ⟨by rfl, ?hy3_15⟩) hHeld ?_
  case hy3_15 => (intro W hSw; (try dsimp only at hSw); go_simp; (try with_reducible rfl))
  try simp only [Act.put, List.setIfInBounds_toArray, List.set_cons_zero, List.set_cons_succ]
  refine wpAnyH_take (i := 16) (oi := ({ dst := some 40, op := Op.pick (Operand.tmp 35) (Operand.const (Value.bool true)) (Operand.tmp 39), type := 4, pos := "law.go:36", after := #[{ on := 11, ground := Ground.data }, { on := 15, ground := Ground.data }], guard := none } : Oper)) (v := ?_) rfl (by kernel_rfl) (by kernel_rfl) (by kernel_rfl) (fun _ _ _ h => h) (Or.inl ⟨by rfl, ?hy3_16⟩) hHeld ?_
  case hy3_16 => (intro W hSw; (try dsimp only at hSw); go_simp; (try with_reducible rfl))
  try simp only [Act.put, List.setIfInBounds_toArray, List.set_cons_zero, List.set_cons_succ]
  refine wpAnyH_take (i := 17) (oi := ({ dst := some 41, op := Op.move (Operand.tmp 40), type := 4, pos := "law.go:36", after := #[{ on := 16, ground := Ground.data }, { on := 11, ground := Ground.chain }], guard := none } : Oper)) (v := ?_) rfl (by kernel_rfl) (by kernel_rfl) (by kernel_rfl) (fun _ _ _ h => h) (Or.inl ⟨by rfl, ?hy3_17⟩) hHeld ?_
  case hy3_17 => (intro W hSw; (try dsimp only at hSw); go_simp; (try with_reducible rfl))
  try simp only [Act.put, List.setIfInBounds_toArray, List.set_cons_zero, List.set_cons_succ]
  refine wpAnyH_take (i := 18) (oi := ({ dst := some 42, op := Op.move (Operand.tmp 10), type := 4, pos := "law.go:36", after := #[{ on := 17, ground := Ground.guard }], guard := some (17, false) } : Oper)) (v := ?_) rfl (by kernel_rfl) (by kernel_rfl) (by kernel_rfl) (fun _ _ _ h => h) (Or.inl ⟨by rfl, ?hy3_18⟩) hHeld ?_
  case hy3_18 => (intro W hSw; (try dsimp only at hSw); go_simp; (try with_reducible rfl))
  try simp only [Act.put, List.setIfInBounds_toArray, List.set_cons_zero, List.set_cons_succ]
  refine wpAnyH_take (i := 19) (oi := ({ dst := some 43, op := Op.unOp UnOp.not 4 (Operand.tmp 42), type := 4, pos := "law.go:36", after := #[{ on := 18, ground := Ground.data }, { on := 17, ground := Ground.guard }], guard := some (17, false) } : Oper)) (v := ?_) rfl (by kernel_rfl) (by kernel_rfl) (by kernel_rfl) (fun _ _ _ h => h) (Or.inl ⟨by rfl, ?hy3_19⟩) hHeld ?_
  case hy3_19 => (intro W hSw; (try dsimp only at hSw); go_simp; (try with_reducible rfl))
  try simp only [Act.put, List.setIfInBounds_toArray, List.set_cons_zero, List.set_cons_succ]
  refine wpAnyH_take (i := 20) (oi := ({ dst := some 44, op := Op.move (Operand.tmp 43), type := 4, pos := "law.go:36", after := #[{ on := 19, ground := Ground.data }, { on := 17, ground := Ground.chain }, { on := 17, ground := Ground.guard }], guard := some (17, false) } : Oper)) (v := ?_) rfl (by kernel_rfl) (by kernel_rfl) (by kernel_rfl) (fun _ _ _ h => h) (Or.inl ⟨by rfl, ?hy3_20⟩) hHeld ?_
  case hy3_20 => (intro W hSw; (try dsimp only at hSw); go_simp; (try with_reducible rfl))
  try simp only [Act.put, List.setIfInBounds_toArray, List.set_cons_zero, List.set_cons_succ]
  refine wpAnyH_take (i := 21) (oi := ({ dst := some 45, op := Op.move (Operand.tmp 8), type := 25, pos := "law.go:36", after := #[{ on := 20, ground := Ground.guard }], guard := some (20, true) } : Oper)) (v := undef) rfl (by kernel_rfl) (by kernel_rfl) (by kernel_rfl) (fun _ _ _ h => h) (Or.inr ⟨by rfl, rfl⟩) hHeld ?_
  try simp only [Act.put, List.setIfInBounds_toArray, List.set_cons_zero, List.set_cons_succ]
  refine wpAnyH_take (i := 22) (oi := ({ dst := some 46, op := Op.binOp BinOp.neq 25 (Operand.tmp 45) (Operand.const (Value.int IntKind.i64 1)) 25, type := 4, pos := "law.go:36", after := #[{ on := 21, ground := Ground.data }, { on := 20, ground := Ground.guard }], guard := some (20, true) } : Oper)) (v := undef) rfl (by kernel_rfl) (by kernel_rfl) (by kernel_rfl) (fun _ _ _ h => h) (Or.inr ⟨by rfl, rfl⟩) hHeld ?_
  try simp only [Act.put, List.setIfInBounds_toArray, List.set_cons_zero, List.set_cons_succ]
  refine wpAnyH_take (i := 23) (oi := ({ dst := some 47, op := Op.pick (Operand.tmp 44) (Operand.tmp 46) (Operand.const (Value.bool false)), type := 4, pos := "law.go:36", after := #[{ on := 20, ground := Ground.data }, { on := 22, ground := Ground.data }, { on := 17, ground := Ground.guard }], guard := some (17, false) } : Oper)) (v := ?_) rfl (by kernel_rfl) (by kernel_rfl) (by kernel_rfl) (fun _ _ _ h => h) (Or.inl ⟨by rfl, ?hy3_23⟩) hHeld ?_
  case hy3_23 => (intro W hSw; (try dsimp only at hSw); go_simp; (try with_reducible rfl))
  try simp only [Act.put, List.setIfInBounds_toArray, List.set_cons_zero, List.set_cons_succ]
  refine wpAnyH_take (i := 24) (oi := ({ dst := some 48, op := Op.pick (Operand.tmp 41) (Operand.const (Value.bool true)) (Operand.tmp 47), type := 4, pos := "law.go:36", after := #[{ on := 17, ground := Ground.data }, { on := 23, ground := Ground.data }], guard := none } : Oper)) (v := ?_) rfl (by kernel_rfl) (by kernel_rfl) (by kernel_rfl) (fun _ _ _ h => h) (Or.inl ⟨by rfl, ?hy3_24⟩) hHeld ?_
  case hy3_24 => (intro W hSw; (try dsimp only at hSw); go_simp; (try with_reducible rfl))
  try simp only [Act.put, List.setIfInBounds_toArray, List.set_cons_zero, List.set_cons_succ]
  refine wpAnyH_done (by kernel_rfl) ?_ _
  rename World => w4
  obtain ⟨-, -, -, HX4, HI4, -, HB4⟩ := (show _ ∧ _ ∧ _ ∧ Hid _ ∧ Hid _ ∧ Hid _ ∧ Hid _ from hHeld)
  obtain ⟨-, k1, k2, k3⟩ := hlen.out
  unfold maxLen at k2 k3
  clear c0 c1 c2 HX2 HI2 HB2 HJ2 hS HB0 HX0 HX4 k3 hlen
  go_wp2
  go_loopw [11] (fun z wr => ∃ k : Nat, k ≤ n ∧ z = .int .i64 k ∧ Hid (SpansAt wr (.slice a1 n c1') L) ∧ Hid (Below w.heap.size w wr)) (fun z _ => n - (intOf z).toNat)
  case atStart => exact ⟨0, Nat.zero_le _, rfl, HI4, HB4⟩
  case round =>
    clear HI4 HB4
    obtain ⟨j, hj, rfl, HI, hb⟩ := hrel
    rename World => wr
    by_cases hlt : j < n
    · have hjl : j < L.length := by rw [HN.out]; exact hlt
      obtain ⟨b, o, ha, hbl, y0, y1⟩ := SpansAt.cells HI.out hjl
      subst ha
      obtain ⟨x, hx⟩ : ∃ x, L[j] = x := ⟨_, rfl⟩
      rw [hx] at y0 y1
      have g0 : (0 : Int) ≤ (j : Int) := by omega
      have g1 : (j : Int) < (n : Int) := by omega
      have hx2 : L[j]? = some x := by rw [List.getElem?_eq_getElem hjl, hx]
      have HX := Lib.hid hx2
      have hS := stayD hx2 HI.out hb.out (Below.refl _ _).drew
      clear hx hx2 hjl
      by_cases d1 : x.2 ≤ mark
      · have HD : Hid ((decide (x.2 ≤ mark) || decide (mark = 1000000001)) = true) := Lib.hid (by rw [decide_eq_true d1]; rfl)
        go_wp2
        refine wp_region_held_drew (S := (fun X => X.cell? ⟨b, o + j * 2, none⟩ = some (.int .i64 x.1) ∧ X.cell? ⟨b, o + j * 2 + 1, none⟩ = some (.int .i64 x.2) ∧ Hid (SpansAt X (.slice (some ⟨b, o, none⟩) n c1') L) ∧ Hid (Below w.heap.size w X))) (by kernel_rfl) hS (fun hHeld => ?_)
        refine wpAnyH_take (i := 0) (oi := ({ dst := some 55, op := Op.move (Operand.tmp 7), type := 24, pos := "law.go:40", after := #[], guard := none } : Oper)) (v := ?_) rfl (by kernel_rfl) (by kernel_rfl) (by kernel_rfl) (fun _ _ _ h => h) (Or.inl ⟨by rfl, ?hy8_0⟩) hHeld ?_
        case hy8_0 => (intro W hSw; (try dsimp only at hSw); go_simp; (try with_reducible rfl))
        try simp only [Act.put, List.setIfInBounds_toArray, List.set_cons_zero, List.set_cons_succ]
        refine wpAnyH_take (i := 1) (oi := ({ dst := some 56, op := Op.move (Operand.tmp 11), type := 3, pos := "law.go:40", after := #[], guard := none } : Oper)) (v := ?_) rfl (by kernel_rfl) (by kernel_rfl) (by kernel_rfl) (fun _ _ _ h => h) (Or.inl ⟨by rfl, ?hy8_1⟩) hHeld ?_
        case hy8_1 => (intro W hSw; (try dsimp only at hSw); go_simp; (try with_reducible rfl))
        try simp only [Act.put, List.setIfInBounds_toArray, List.set_cons_zero, List.set_cons_succ]
        refine wpAnyH_take (i := 2) (oi := ({ dst := some 57, op := Op.indexAddr 24 (Operand.tmp 55) (Operand.tmp 56), type := 0, pos := "law.go:40", after := #[{ on := 0, ground := Ground.data }, { on := 1, ground := Ground.data }], guard := none } : Oper)) (v := ?_) rfl (by kernel_rfl) (by kernel_rfl) (by kernel_rfl) (fun _ _ _ h => h) (Or.inl ⟨by rfl, ?hy8_2⟩) hHeld ?_
        case hy8_2 => (intro W hSw; (try dsimp only at hSw); go_simp; (try with_reducible rfl))
        try simp only [Act.put, List.setIfInBounds_toArray, List.set_cons_zero, List.set_cons_succ]
        refine wpAnyH_take (i := 3) (oi := ({ dst := some 58, op := Op.load 34 (Operand.tmp 57), type := 34, pos := "law.go:40", after := #[{ on := 2, ground := Ground.data }], guard := none } : Oper)) (v := ?_) rfl (by kernel_rfl) (by kernel_rfl) (by kernel_rfl) (fun _ _ _ h => h) (Or.inl ⟨by rfl, ?hy8_3⟩) hHeld ?_
        case hy8_3 => (intro W hSw; (try dsimp only at hSw); go_simp; (try with_reducible rfl))
        try simp only [Act.put, List.setIfInBounds_toArray, List.set_cons_zero, List.set_cons_succ]
        refine wpAnyH_take (i := 4) (oi := ({ dst := some 59, op := Op.move (Operand.tmp 2), type := 3, pos := "law.go:40", after := #[], guard := none } : Oper)) (v := ?_) rfl (by kernel_rfl) (by kernel_rfl) (by kernel_rfl) (fun _ _ _ h => h) (Or.inl ⟨by rfl, ?hy8_4⟩) hHeld ?_
        case hy8_4 => (intro W hSw; (try dsimp only at hSw); go_simp; (try with_reducible rfl))
        try simp only [Act.put, List.setIfInBounds_toArray, List.set_cons_zero, List.set_cons_succ]
        refine wpAnyH_take (i := 6) (oi := ({ dst := some 61, op := Op.move (Operand.tmp 7), type := 24, pos := "law.go:40", after := #[], guard := none } : Oper)) (v := ?_) rfl (by kernel_rfl) (by kernel_rfl) (by kernel_rfl) (fun _ _ _ h => h) (Or.inl ⟨by rfl, ?hy8_6⟩) hHeld ?_
        case hy8_6 => (intro W hSw; (try dsimp only at hSw); go_simp; (try with_reducible rfl))
        try simp only [Act.put, List.setIfInBounds_toArray, List.set_cons_zero, List.set_cons_succ]
        refine wpAnyH_take (i := 7) (oi := ({ dst := some 62, op := Op.move (Operand.tmp 11), type := 3, pos := "law.go:40", after := #[], guard := none } : Oper)) (v := ?_) rfl (by kernel_rfl) (by kernel_rfl) (by kernel_rfl) (fun _ _ _ h => h) (Or.inl ⟨by rfl, ?hy8_7⟩) hHeld ?_
        case hy8_7 => (intro W hSw; (try dsimp only at hSw); go_simp; (try with_reducible rfl))
        try simp only [Act.put, List.setIfInBounds_toArray, List.set_cons_zero, List.set_cons_succ]
        refine wpAnyH_take (i := 8) (oi := ({ dst := some 63, op := Op.indexAddr 24 (Operand.tmp 61) (Operand.tmp 62), type := 0, pos := "law.go:40", after := #[{ on := 6, ground := Ground.data }, { on := 7, ground := Ground.data }], guard := none } : Oper)) (v := ?_) rfl (by kernel_rfl) (by kernel_rfl) (by kernel_rfl) (fun _ _ _ h => h) (Or.inl ⟨by rfl, ?hy8_8⟩) hHeld ?_
        case hy8_8 => (intro W hSw; (try dsimp only at hSw); go_simp; (try with_reducible rfl))
        try simp only [Act.put, List.setIfInBounds_toArray, List.set_cons_zero, List.set_cons_succ]
        refine wpAnyH_take (i := 9) (oi := ({ dst := some 64, op := Op.fieldAddr 34 (Operand.tmp 63) 1, type := 0, pos := "law.go:40", after := #[{ on := 8, ground := Ground.data }], guard := none } : Oper)) (v := ?_) rfl (by kernel_rfl) (by kernel_rfl) (by kernel_rfl) (fun _ _ _ h => h) (Or.inl ⟨by rfl, ?hy8_9⟩) hHeld ?_
        case hy8_9 => (intro W hSw; (try dsimp only at hSw); go_simp; (try with_reducible rfl))
        try simp only [Act.put, List.setIfInBounds_toArray, List.set_cons_zero, List.set_cons_succ]
        refine wpAnyH_take (i := 10) (oi := ({ dst := some 65, op := Op.load 3 (Operand.tmp 64), type := 3, pos := "law.go:40", after := #[{ on := 9, ground := Ground.data }], guard := none } : Oper)) (v := ?_) rfl (by kernel_rfl) (by kernel_rfl) (by kernel_rfl) (fun _ _ _ h => h) (Or.inl ⟨by rfl, ?hy8_10⟩) hHeld ?_
        case hy8_10 => (intro W hSw; (try dsimp only at hSw); go_simp; (try with_reducible rfl))
        try simp only [Act.put, List.setIfInBounds_toArray, List.set_cons_zero, List.set_cons_succ]
        refine wpAnyH_take (i := 11) (oi := ({ dst := some 66, op := Op.move (Operand.tmp 2), type := 3, pos := "law.go:40", after := #[], guard := none } : Oper)) (v := ?_) rfl (by kernel_rfl) (by kernel_rfl) (by kernel_rfl) (fun _ _ _ h => h) (Or.inl ⟨by rfl, ?hy8_11⟩) hHeld ?_
        case hy8_11 => (intro W hSw; (try dsimp only at hSw); go_simp; (try with_reducible rfl))
        try simp only [Act.put, List.setIfInBounds_toArray, List.set_cons_zero, List.set_cons_succ]
        refine wpAnyH_take (i := 12) (oi := ({ dst := some 67, op := Op.binOp BinOp.leq 3 (Operand.tmp 65) (Operand.tmp 66) 3, type := 4, pos := "law.go:40", after := #[{ on := 10, ground := Ground.data }, { on := 11, ground := Ground.data }], guard := none } : Oper)) (v := ?_) rfl (by kernel_rfl) (by kernel_rfl) (by kernel_rfl) (fun _ _ _ h => h) (Or.inl ⟨by rfl, ?hy8_12⟩) hHeld ?_
        case hy8_12 => (intro W hSw; (try dsimp only at hSw); go_simp; (try with_reducible rfl))
        try simp only [Act.put, List.setIfInBounds_toArray, List.set_cons_zero, List.set_cons_succ]
        refine wpAnyH_ready (rs := [5]) (by kernel_rfl) (by simp) ?_
        refine AllReadyH.cons (o := ({ dst := some 60, op := Op.call { callee := Callee.value (Operand.func 15), args := #[Operand.tmp 58, Operand.tmp 59], argTypes := #[34, 3] }, type := 4, pos := "law.go:40", after := #[{ on := 3, ground := Ground.data }, { on := 4, ground := Ground.data }], guard := none } : Oper)) rfl (fun K hK => ?_) AllReadyH.nil
        go_simp
        go_at_call 15
        have hh := (show _ ∧ _ ∧ Hid _ ∧ Hid _ from hHeld).2.2
        refine (due_at (s := x) HD.out _).mono ?_
        rintro e w3 ⟨rfl, hb3⟩
        have hS3 := stayD HX.out hh.1.out hh.2.out hb3
        clear hb3 hh
        refine hK.out _ _ hS3 (fun hHeld' => ?_)
        clear hK K hHeld
        have hHeld := hHeld'
        clear hHeld'
        try simp only [Act.put, List.setIfInBounds_toArray, List.set_cons_zero, List.set_cons_succ]
        refine wpAnyH_take (i := 13) (oi := ({ dst := some 68, op := Op.move (Operand.tmp 67), type := 4, pos := "law.go:40", after := #[{ on := 12, ground := Ground.data }, { on := 5, ground := Ground.chain }], guard := none } : Oper)) (v := ?_) rfl (by kernel_rfl) (by kernel_rfl) (by kernel_rfl) (fun _ _ _ h => h) (Or.inl ⟨by rfl, ?hy8_13⟩) hHeld ?_
        case hy8_13 => (intro W hSw; (try dsimp only at hSw); go_simp; (try with_reducible rfl))
        try simp only [Act.put, List.setIfInBounds_toArray, List.set_cons_zero, List.set_cons_succ]
        refine wpAnyH_take (i := 14) (oi := ({ dst := some 69, op := Op.move (Operand.tmp 2), type := 3, pos := "law.go:40", after := #[{ on := 13, ground := Ground.guard }], guard := some (13, false) } : Oper)) (v := undef) rfl (by kernel_rfl) (by kernel_rfl) (by kernel_rfl) (fun _ _ _ h => h) (Or.inr ⟨by rfl, rfl⟩) hHeld ?_
        try simp only [Act.put, List.setIfInBounds_toArray, List.set_cons_zero, List.set_cons_succ]
        refine wpAnyH_take (i := 15) (oi := ({ dst := some 70, op := Op.binOp BinOp.eql 3 (Operand.tmp 69) (Operand.const (Value.int IntKind.i64 1000000001)) 3, type := 4, pos := "law.go:40", after := #[{ on := 14, ground := Ground.data }, { on := 13, ground := Ground.guard }], guard := some (13, false) } : Oper)) (v := undef) rfl (by kernel_rfl) (by kernel_rfl) (by kernel_rfl) (fun _ _ _ h => h) (Or.inr ⟨by rfl, rfl⟩) hHeld ?_
        try simp only [Act.put, List.setIfInBounds_toArray, List.set_cons_zero, List.set_cons_succ]
        refine wpAnyH_take (i := 16) (oi := ({ dst := some 71, op := Op.pick (Operand.tmp 68) (Operand.const (Value.bool true)) (Operand.tmp 70), type := 4, pos := "law.go:40", after := #[{ on := 13, ground := Ground.data }, { on := 15, ground := Ground.data }], guard := none } : Oper)) (v := ?_) rfl (by kernel_rfl) (by kernel_rfl) (by kernel_rfl) (fun _ _ _ h => h) (Or.inl ⟨by rfl, ?hy8_16⟩) hHeld ?_
        case hy8_16 => (intro W hSw; (try dsimp only at hSw); go_simp; (try with_reducible rfl))
        try simp only [Act.put, List.setIfInBounds_toArray, List.set_cons_zero, List.set_cons_succ]
        refine wpAnyH_take (i := 17) (oi := ({ dst := some 72, op := Op.binOp BinOp.neq 4 (Operand.tmp 60) (Operand.tmp 71) 4, type := 4, pos := "law.go:40", after := #[{ on := 5, ground := Ground.data }, { on := 16, ground := Ground.data }], guard := none } : Oper)) (v := ?_) rfl (by kernel_rfl) (by kernel_rfl) (by kernel_rfl) (fun _ _ _ h => h) (Or.inl ⟨by rfl, ?hy8_17⟩) hHeld ?_
        case hy8_17 => (intro W hSw; (try dsimp only at hSw); go_simp; (try with_reducible rfl))
        try simp only [Act.put, List.setIfInBounds_toArray, List.set_cons_zero, List.set_cons_succ]
        refine wpAnyH_done (by kernel_rfl) ?_ _
        obtain ⟨-, -, HI5, HB5⟩ := (show _ ∧ _ ∧ Hid _ ∧ Hid _ from hHeld)
        clear hS y0 y1 hHeld
        go_wp2
        go_roundw
        case rel => exact ⟨j + 1, by omega, by go_num, HI5, HB5⟩
        case measure => simp [intOf]; omega
      · have d3 : decide (x.2 ≤ mark) = false := decide_eq_false d1
        by_cases d2 : mark = 1000000001
        · have HD : Hid ((decide (x.2 ≤ mark) || decide (mark = 1000000001)) = true) := Lib.hid (by rw [decide_eq_true d2, Bool.or_true])
          subst d2
          clear d1
          go_wp2
          first
          | (go_region_held3 (fun X => X.cell? ⟨b, o + j * 2, none⟩ = some (.int .i64 x.1) ∧ X.cell? ⟨b, o + j * 2 + 1, none⟩ = some (.int .i64 x.2) ∧ Hid (SpansAt X (.slice (some ⟨b, o, none⟩) n c1') L) ∧ Hid (Below w.heap.size w X))
            (first | exact hS | exact hS3 | assumption)
            (first
              | (go_at_call 15; have hh := (‹_ ∧ _ ∧ Hid (SpansAt _ _ _) ∧ _›).2.2; refine (due_at (s := x) HD.out _).mono ?_; rintro e w3 ⟨rfl, hb3⟩; have hS3 := stayD HX.out hh.1.out hh.2.out hb3; clear hb3 hh)))
          | fail "no"
          obtain ⟨-, -, HI5, HB5⟩ := ‹_ ∧ _ ∧ Hid (SpansAt _ _ _) ∧ _›
          clear hS y0 y1
          go_wp2
          go_roundw
          case rel => exact ⟨j + 1, by omega, by go_num, HI5, HB5⟩
          case measure => simp [intOf]; omega
        · have HD : Hid ((decide (x.2 ≤ mark) || decide (mark = 1000000001)) = false) := Lib.hid (by rw [d3, decide_eq_false d2]; rfl)
          have d4 := ibne d2
          clear d1 d2
          go_wp2
          first
          | (go_region_held3 (fun X => X.cell? ⟨b, o + j * 2, none⟩ = some (.int .i64 x.1) ∧ X.cell? ⟨b, o + j * 2 + 1, none⟩ = some (.int .i64 x.2) ∧ Hid (SpansAt X (.slice (some ⟨b, o, none⟩) n c1') L) ∧ Hid (Below w.heap.size w X))
            (first | exact hS | exact hS3 | assumption)
            (first
              | (go_at_call 15; have hh := (‹_ ∧ _ ∧ Hid (SpansAt _ _ _) ∧ _›).2.2; refine (due_at (s := x) HD.out _).mono ?_; rintro e w3 ⟨rfl, hb3⟩; have hS3 := stayD HX.out hh.1.out hh.2.out hb3; clear hb3 hh)))
          | fail "no"
          obtain ⟨-, -, HI5, HB5⟩ := ‹_ ∧ _ ∧ Hid (SpansAt _ _ _) ∧ _›
          clear hS y0 y1
          go_wp2
          go_roundw
          case rel => exact ⟨j + 1, by omega, by go_num, HI5, HB5⟩
          case measure => simp [intOf]; omega
    · go_wp2_with (go_at_call 16; refine (awake_any _).mono ?_; rintro e w9 ⟨rfl, hb9⟩; have HB9 := Lib.hid (grow_below hb.out hb9); clear hb9)
      go_ret
      exact ⟨rfl, HB9.out⟩
set_option maxRecDepth 20000 in
set_option maxHeartbeats 4000000 in
theorem ws_no {k s l t mark : Int} (h : (okW k s l && okT t) = false) (w : World) : Calls Try.prog 3 #[wnV k s l, .int .i64 t, .int .i64 mark] w fun e w' => e = .returned (.bool true) ∧ Below w.heap.size w w' := by
  have HWT := Lib.hid h
  have HB0 : Hid (Below w.heap.size w (w.alloc (.cells #[.int .i64 k, .int .i64 s, .int .i64 l] 23))) := Lib.hid ((Below.refl _ _).alloc (Nat.le_refl _) _)
  have HX0 := Lib.hid (wb_new w k s l)
  clear h
  cases hw : okW k s l
  all_goals
    have HW := Lib.hid hw
    clear hw
    go_enter Try.func3, Try.ntmps3
    go_upto_region 3 with (first
      | (go_at_call 10; refine (of_no HWT.out _).mono ?_; rintro e w1 ⟨v1, rfl, hi1, hb1⟩; obtain ⟨a1, c1', rfl⟩ := hi1.val; have hlen := Lib.hid hi1.len; have HI1 := Lib.hid hi1; have HB1 := Lib.hid (grow_below HB0.out hb1); have HX1 := Lib.hid (HX0.out.grow hb1); obtain ⟨c0, c1, c2⟩ := HX1.out.cells; clear hb1 hi1)
      | (go_at_call 11; refine (rof_no HWT.out _).mono ?_; rintro e w2 ⟨v2, rfl, hi2, hb2⟩; have hS := stayW HX1.out HI1.out HI1.out HB1.out hb2; have HJ2 := Lib.hid hi2; clear hb2 hi2 c0 c1 c2))
    obtain ⟨c0, c1, c2, HX2, HI2, -, HB2⟩ := hS
    have hS := stayW HX2.out HI2.out HJ2.out HB2.out (Below.refl _ _)
    clear HX1 HI1 HB1
    first
    | (go_region_held3 (fun X => X.cell? ⟨w.heap.size, 0, none⟩ = some (.int .i64 k) ∧ X.cell? ⟨w.heap.size, 1, none⟩ = some (.int .i64 s) ∧ X.cell? ⟨w.heap.size, 2, none⟩ = some (.int .i64 l) ∧ Hid (WB X w.heap.size k s l) ∧ Hid (SpansAt X (.slice a1 ([] : List Sp).length c1') []) ∧ Hid (SpansAt X v2 []) ∧ Hid (Below w.heap.size w X))
      (first | exact (stayW HX2.out HI2.out HJ2.out HB2.out (Below.refl _ _).drew) | exact hS3 | assumption)
      (first
        | (go_at_call 12; have hh := (‹_ ∧ _ ∧ _ ∧ Hid (WB _ _ _ _ _) ∧ _ ∧ _ ∧ _›).2.2.2; refine (right_at HW.out _).mono ?_; rintro e w3 ⟨rfl, hb3⟩; have hS3 := stayW hh.1.out hh.2.1.out hh.2.2.1.out hh.2.2.2.out hb3; clear hb3 hh)
        | (go_at_call 13; have hh := (‹_ ∧ _ ∧ _ ∧ Hid (WB _ _ _ _ _) ∧ _ ∧ _ ∧ _›).2.2.2; refine (rright_at HW.out _).mono ?_; rintro e w3 ⟨rfl, hb3⟩; have hS3 := stayW hh.1.out hh.2.1.out hh.2.2.1.out hh.2.2.2.out hb3; clear hb3 hh)
        | (go_at_call 14; have hh := (‹_ ∧ _ ∧ _ ∧ Hid (WB _ _ _ _ _) ∧ _ ∧ _ ∧ _›).2.2.2; refine (same_at hh.2.1.out hh.2.2.1.out (decide_eq_true rfl)).mono ?_; rintro e w3 ⟨rfl, hb3⟩; have hS3 := stayW hh.1.out hh.2.1.out hh.2.2.1.out hh.2.2.2.out hb3; clear hb3 hh)))
    | fail "no"
    rename World => w4
    obtain ⟨-, -, -, HX4, HI4, -, HB4⟩ := ‹_ ∧ _ ∧ _ ∧ Hid (WB _ _ _ _ _) ∧ _ ∧ _ ∧ _›
    clear c0 c1 c2 HX2 HI2 HB2 HJ2 hS HB0 HX0 HX4 hlen
    go_wp2
    go_loopw [11] (fun z wr => z = .int .i64 0 ∧ Hid (Below w.heap.size w wr)) (fun z _ => 0)
    case atStart => exact ⟨rfl, HB4⟩
    case round =>
      clear HB4
      obtain ⟨rfl, hb⟩ := hrel
      go_wp2_with (go_at_call 16; refine (awake_any _).mono ?_; rintro e w9 ⟨rfl, hb9⟩; have HB9 := Lib.hid (grow_below hb.out hb9); clear hb9)
      go_ret
      exact ⟨rfl, HB9.out⟩
theorem windowSpans_walk (k s l t mark : Int) (w : World) : Calls Try.prog 3 #[wnV k s l, .int .i64 t, .int .i64 mark] w fun e w' => e = .returned (.bool true) ∧ Below w.heap.size w w' := by
  cases hw : okW k s l with
  | false => exact ws_no (by rw [hw]; rfl) w
  | true =>
    cases ht : okT t with
    | false => exact ws_no (by rw [hw, ht]; rfl) w
    | true => exact ws_ok hw ht w
end Go.Proofs.Ytfkdkcdknpjoeaa.Wi
