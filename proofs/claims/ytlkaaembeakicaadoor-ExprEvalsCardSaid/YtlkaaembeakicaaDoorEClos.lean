/-
  Closures: the function value of an expression computes its tree's value. Conditions: the blocks that it captured hold what they held.
-/
import Derived.Test.YtlkaaembeakicaaDoorEOp
import Derived.Deep.QuietTactic
import Derived.BigQuiet
namespace Go.Proofs.YtlkaaembeakicaaDoor.Ex
open Go.RowKit
abbrev ptr (b : Nat) : Value := .pointer (some ⟨b, 0, none⟩)
abbrev fv (f : Nat) : Value := .func (.func f) #[] #[]
def Blk (w : World) (b : Nat) (v : Value) (t : TypeId) : Prop := w.heap[b]? = some (.cells #[v] t (0, 0))
def preFn (s : Bs) : Nat := if s = [33] then 58 else 57
def nameFn (c : UInt8) : Nat := if c = 110 then 53 else if c = 116 then 54 else 55
/-- The function value v is the tree's, in memory. -/
def Clos (w : World) : Tree → Value → Prop
  | .num k, v => ∃ b, v = .func (.func 51) #[] #[ptr b] ∧ Blk w b (.int .i64 k) 3
  | .name c, v => v = fv (nameFn c)
  | .pre s x, v => ∃ b1 b2 vx, v = .func (.func 59) #[] #[ptr b1, ptr b2] ∧ Blk w b1 (fv (preFn s)) 87 ∧ Blk w b2 vx 61 ∧ Clos w x vx
  | .bin s a b, v => ∃ b1 b2 b3 va vb, s ∈ ops ∧ v = .func (.func 61) #[] #[ptr b1, ptr b2, ptr b3] ∧ Blk w b1 (fv (opFn s)) 88 ∧ Blk w b2 va 61 ∧ Blk w b3 vb 61 ∧ Clos w a va ∧ Clos w b vb
/-- What is neither a parser nor a row of its stacks stays. -/
def Keep (w w' : World) : Prop := ∀ (k : Nat) (cs : Array Value) (t : TypeId) (fz : Nat × Nat), w.heap[k]? = some (Obj.cells cs t fz) → t ≠ 44 → t ≠ 63 → t ≠ 78 → w'.heap[k]? = some (Obj.cells cs t fz)
theorem Keep.refl (w : World) : Keep w w := fun _ _ _ _ h _ _ _ => h
theorem Keep.trans {a b c : World} (h : Keep a b) (g : Keep b c) : Keep a c := fun k cs t fz e h1 h2 h3 => g k cs t fz (h k cs t fz e h1 h2 h3) h1 h2 h3
theorem lt_of_heap {w : World} {k : Nat} {o : Obj} (h : w.heap[k]? = some o) : k < w.heap.size := by
  rcases Nat.lt_or_ge k w.heap.size with h1 | h1
  · exact h1
  · rw [Array.getElem?_eq_none h1] at h; cases h
theorem Keep.of_below {w w' : World} (h : Below w.heap.size w w') : Keep w w' := fun k cs t fz e _ _ _ => by
  rw [h.block k (lt_of_heap e)]; exact e
theorem Blk.keep {w w' : World} {b : Nat} {v : Value} {t : TypeId} (h : Keep w w') (hb : Blk w b v t) (h1 : t ≠ 44) (h2 : t ≠ 63) (h3 : t ≠ 78) : Blk w' b v t := h _ _ _ _ hb h1 h2 h3
theorem Clos.keep {w w' : World} (h : Keep w w') : ∀ {T : Tree} {v : Value}, Clos w T v → Clos w' T v
  | .num _, _, ⟨b, e, hb⟩ => ⟨b, e, hb.keep h (by decide) (by decide) (by decide)⟩
  | .name _, _, e => e
  | .pre _ _, _, ⟨b1, b2, vx, e, h1, h2, hx⟩ => ⟨b1, b2, vx, e, h1.keep h (by decide) (by decide) (by decide), h2.keep h (by decide) (by decide) (by decide), hx.keep h⟩
  | .bin _ _ _, _, ⟨b1, b2, b3, va, vb, hs, e, h1, h2, h3, ha, hb⟩ => ⟨b1, b2, b3, va, vb, hs, e, h1.keep h (by decide) (by decide) (by decide), h2.keep h (by decide) (by decide) (by decide), h3.keep h (by decide) (by decide) (by decide), ha.keep h, hb.keep h⟩
theorem Blk.cell {w : World} {b : Nat} {v : Value} {t : TypeId} (h : Blk w b v t) : w.cell? ⟨b, 0, none⟩ = some v := by
  unfold Blk at h; simp [World.cell?, h]
theorem Clos.drewN {w : World} {T : Tree} {v : Value} (h : Clos w T v) (n : Nat) : Clos (w.drewN n) T v := Clos.keep (w := w) (w' := w.drewN n) (fun _ _ _ _ e _ _ _ => e) h

/-- A function value computes, and only reads. -/
def Comp (w : World) (v : Value) (n t x z : Int) : Prop := ∃ f caps, v = .func (.func f) #[] caps ∧ (∀ args w, (callFunc f args).run Tryd.prog w = .ok (.enter f args) w) ∧
  ∀ k, Calls Tryd.prog f (#[.int .i64 n, .int .i64 t, .int .i64 x] ++ caps) (w.drewN k) fun e w' => e = .returned (.int .i64 z) ∧ ∃ m, w' = (w.drewN k).drewN m

set_option maxHeartbeats 400000 in
theorem num_fn (w : World) {b : Nat} {z n t x : Int} (h : w.cell? ⟨b, 0, none⟩ = some (.int .i64 z)) :
    Calls Tryd.prog 51 #[.int .i64 n, .int .i64 t, .int .i64 x, ptr b] w fun e w' => e = .returned (.int .i64 z) ∧ w = w' := by
  go_enter Tryd.func51, Tryd.ntmps51
  go_wp2
  go_ret
  exact ⟨rfl, rfl⟩
set_option maxHeartbeats 400000 in
theorem n_fn (w : World) (n t x : Int) : Calls Tryd.prog 53 #[.int .i64 n, .int .i64 t, .int .i64 x] w fun e w' => e = .returned (.int .i64 n) ∧ w = w' := by
  go_enter Tryd.func53, Tryd.ntmps53
  go_wp2
  go_ret
  exact ⟨rfl, rfl⟩
set_option maxHeartbeats 400000 in
theorem t_fn (w : World) (n t x : Int) : Calls Tryd.prog 54 #[.int .i64 n, .int .i64 t, .int .i64 x] w fun e w' => e = .returned (.int .i64 t) ∧ w = w' := by
  go_enter Tryd.func54, Tryd.ntmps54
  go_wp2
  go_ret
  exact ⟨rfl, rfl⟩
set_option maxHeartbeats 400000 in
theorem v_fn (w : World) (n t x : Int) : Calls Tryd.prog 55 #[.int .i64 n, .int .i64 t, .int .i64 x] w fun e w' => e = .returned (.int .i64 x) ∧ w = w' := by
  go_enter Tryd.func55, Tryd.ntmps55
  go_wp2
  go_ret
  exact ⟨rfl, rfl⟩

set_option maxHeartbeats 1000000 in
theorem pre_fn (w : World) {b1 b2 f g : Nat} {caps : Array Value} {n t x y z : Int} (h1 : w.cell? ⟨b1, 0, none⟩ = some (fv g)) (h2 : w.cell? ⟨b2, 0, none⟩ = some (.func (.func f) #[] caps))
    (ef : ∀ args w, (callFunc f args).run Tryd.prog w = .ok (.enter f args) w) (eg : ∀ args w, (callFunc g args).run Tryd.prog w = .ok (.enter g args) w)
    (hf : ∀ k, Calls Tryd.prog f (#[.int .i64 n, .int .i64 t, .int .i64 x] ++ caps) (w.drewN k) fun e w' => e = .returned (.int .i64 y) ∧ ∃ m, w' = w.drewN m)
    (hg : ∀ k, Calls Tryd.prog g #[.int .i64 y] (w.drewN k) fun e w' => e = .returned (.int .i64 z) ∧ ∃ m, w' = w.drewN m) :
    Calls Tryd.prog 59 #[.int .i64 n, .int .i64 t, .int .i64 x, ptr b1, ptr b2] w fun e w' => e = .returned (.int .i64 z) ∧ ∃ m, w' = w.drewN m := by
  have HF := Lib.hid hf
  have HG := Lib.hid hg
  clear hf hg
  go_enter Tryd.func59, Tryd.ntmps59
  go_wp2
  go_quiet (first | exact HF.out _ | exact HG.out _)
  go_wp2
  go_ret
  exact ⟨rfl, nq, rfl⟩
set_option maxHeartbeats 1000000 in
theorem bin_fn (w : World) {b1 b2 b3 fa fb g : Nat} {ca cb : Array Value} {n t x ya yb z : Int} (h1 : w.cell? ⟨b1, 0, none⟩ = some (fv g)) (h2 : w.cell? ⟨b2, 0, none⟩ = some (.func (.func fa) #[] ca)) (h3 : w.cell? ⟨b3, 0, none⟩ = some (.func (.func fb) #[] cb))
    (ea : ∀ args w, (callFunc fa args).run Tryd.prog w = .ok (.enter fa args) w) (eb : ∀ args w, (callFunc fb args).run Tryd.prog w = .ok (.enter fb args) w) (eg : ∀ args w, (callFunc g args).run Tryd.prog w = .ok (.enter g args) w)
    (ha : ∀ k, Calls Tryd.prog fa (#[.int .i64 n, .int .i64 t, .int .i64 x] ++ ca) (w.drewN k) fun e w' => e = .returned (.int .i64 ya) ∧ ∃ m, w' = w.drewN m)
    (hb : ∀ k, Calls Tryd.prog fb (#[.int .i64 n, .int .i64 t, .int .i64 x] ++ cb) (w.drewN k) fun e w' => e = .returned (.int .i64 yb) ∧ ∃ m, w' = w.drewN m)
    (hg : ∀ k, Calls Tryd.prog g #[.int .i64 ya, .int .i64 yb] (w.drewN k) fun e w' => e = .returned (.int .i64 z) ∧ ∃ m, w' = w.drewN m) :
    Calls Tryd.prog 61 #[.int .i64 n, .int .i64 t, .int .i64 x, ptr b1, ptr b2, ptr b3] w fun e w' => e = .returned (.int .i64 z) ∧ ∃ m, w' = w.drewN m := by
  have HA := Lib.hid ha
  have HB := Lib.hid hb
  have HG := Lib.hid hg
  clear ha hb hg
  go_enter Tryd.func61, Tryd.ntmps61
  go_wp2
  go_quiet (first | (with_reducible exact HA.out _) | (with_reducible exact HB.out _) | (with_reducible exact HG.out _))
  go_wp2
  go_ret
  exact ⟨rfl, nq, rfl⟩
/-- The callee's contract at every draw, in the form that a region asks. -/
theorem quiet_same {f : Nat} {args : Array Value} {w : World} {v : Value} (h : ∀ w, Calls Tryd.prog f args w fun e w' => e = .returned v ∧ w = w') (k : Nat) : Calls Tryd.prog f args (w.drewN k) fun e w' => e = .returned v ∧ ∃ m, w' = w.drewN m :=
  (h _).mono fun _ _ ⟨he, hw⟩ => ⟨he, k, hw.symm⟩
theorem Comp.at {w : World} {v : Value} {n t x z : Int} (h : Comp w v n t x z) (k : Nat) : ∃ f caps, v = .func (.func f) #[] caps ∧ (∀ args w, (callFunc f args).run Tryd.prog w = .ok (.enter f args) w) ∧
    ∀ j, Calls Tryd.prog f (#[.int .i64 n, .int .i64 t, .int .i64 x] ++ caps) ((w.drewN k).drewN j) fun e w' => e = .returned (.int .i64 z) ∧ ∃ m, w' = (w.drewN k).drewN m := by
  obtain ⟨f, caps, e, h1, h2⟩ := h
  refine ⟨f, caps, e, h1, fun j => ?_⟩
  rw [World.drewN_drewN]
  refine (h2 (k + j)).mono ?_
  rintro e' w' ⟨he, m, hw⟩
  exact ⟨he, j + m, by rw [hw, World.drewN_drewN, World.drewN_drewN, Nat.add_assoc]⟩
theorem preFn_any (s : Bs) (y : Int) (w : World) : Calls Tryd.prog (preFn s) #[.int .i64 y] w fun e w' => e = .returned (.int .i64 (if s = [33] then bit (y == 0) else wrap64 (-y))) ∧ w = w' := by
  unfold preFn
  by_cases h : s = [33]
  · rw [if_pos h, if_pos h]; exact not_any y w
  · rw [if_neg h, if_neg h]; exact negative_any y w
theorem preFn_enters (s : Bs) : ∀ args w, (callFunc (preFn s) args).run Tryd.prog w = .ok (.enter (preFn s) args) w := by
  unfold preFn
  split
  · exact enters_of Tryd.func58 (by kernel_rfl) rfl
  · exact enters_of Tryd.func57 (by kernel_rfl) rfl
theorem comp_same {w : World} {f : Nat} {caps : Array Value} {n t x z : Int} (h1 : ∀ args w, (callFunc f args).run Tryd.prog w = .ok (.enter f args) w)
    (h : ∀ k, Calls Tryd.prog f (#[.int .i64 n, .int .i64 t, .int .i64 x] ++ caps) (w.drewN k) fun e w' => e = .returned (.int .i64 z) ∧ w.drewN k = w') : Comp w (.func (.func f) #[] caps) n t x z :=
  ⟨f, caps, rfl, h1, fun k => (h k).mono fun _ _ ⟨he, hw⟩ => ⟨he, 0, hw.symm⟩⟩
theorem clos_comp {w : World} (n t x : Int) : ∀ {T : Tree} {v : Value}, Clos w T v → Comp w v n t x (T.eval n t x)
  | .num k, _, ⟨b, rfl, hb⟩ => comp_same (enters_of Tryd.func51 (by kernel_rfl) rfl) fun k => num_fn (w.drewN k) hb.cell
  | .name c, _, h => by
    subst h
    unfold nameFn Tree.eval
    by_cases h1 : c = 110
    · rw [if_pos h1, if_pos h1]; exact comp_same (enters_of Tryd.func53 (by kernel_rfl) rfl) fun k => n_fn (w.drewN k) n t x
    · rw [if_neg h1, if_neg h1]
      by_cases h2 : c = 116
      · rw [if_pos h2, if_pos h2]; exact comp_same (enters_of Tryd.func54 (by kernel_rfl) rfl) fun k => t_fn (w.drewN k) n t x
      · rw [if_neg h2, if_neg h2]; exact comp_same (enters_of Tryd.func55 (by kernel_rfl) rfl) fun k => v_fn (w.drewN k) n t x
  | .pre s T, _, ⟨b1, b2, vx, rfl, h1, h2, hx⟩ => by
    refine ⟨59, _, rfl, enters_of Tryd.func59 (by kernel_rfl) rfl, fun k => ?_⟩
    obtain ⟨f, caps, rfl, e1, e2⟩ := (clos_comp n t x hx).at k
    exact pre_fn (w.drewN k) (f := f) (g := preFn s) (caps := caps) (y := T.eval n t x) h1.cell h2.cell e1 (preFn_enters s) e2 (fun j => quiet_same (preFn_any s _) j)
  | .bin s A B, _, ⟨b1, b2, b3, va, vb, hs, rfl, h1, h2, h3, ha, hb⟩ => by
    refine ⟨61, _, rfl, enters_of Tryd.func61 (by kernel_rfl) rfl, fun k => ?_⟩
    obtain ⟨f, caps, rfl, e1, e2⟩ := (clos_comp n t x ha).at k
    obtain ⟨f', caps', rfl, e1', e2'⟩ := (clos_comp n t x hb).at k
    exact bin_fn (w.drewN k) (g := opFn s) h1.cell h2.cell h3.cell e1 e1' (opFn_enters hs) e2 e2' (fun j => quiet_same (opFn_any hs _ _) j)
end Go.Proofs.YtlkaaembeakicaaDoor.Ex
