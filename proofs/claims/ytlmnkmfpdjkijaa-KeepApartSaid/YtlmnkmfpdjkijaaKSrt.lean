/-
  The two orders of panes that the program sorts by, and rows sorted by them through the library's sort. Conditions: at most 4000000 panes.
-/
import Derived.Test.YtlmnkmfpdjkijaaKMem
import Derived.Test.YtlmnkmfpdjkijaaWP1
import Derived.Test.YtlmnkmfpdjkijaaKShelf
import Derived.Shelf.SlSortCmp.NoneTotal
import Derived.Sort.Walk0
import Derived.Shelf.SlSortCmp.QuietGrown
namespace Go.Proofs.Ytlmnkmfpdjkijaa.Kp
set_option linter.unusedVariables false
set_option linter.unusedSimpArgs false
open Go.Proofs.Ytlmnkmfpdjkijaa Go.Proofs.Ytlmnkmfpdjkijaa.Ke
open Go.RowKit Go.Sort
open Go.Proofs.Ytlmnkmfpdjkijaa.Wi (cmpI cmp_at)

theorem binOp_gtr_str (t : TypeId) (a b : ByteArray) : binOp .gtr t (.string a) (.string b) = pure (.bool !(Op.bytesLess a.toList b.toList || a.toList == b.toList)) := by simp [binOp, Op.stringOp]
attribute [local go_sem] binOp_gtr_str
/-- Which key is first, as a number. -/
def cmpK (x y : Ky) : Int := if x < y then -1 else if y < x then 1 else 0
theorem nanS_at (x : ByteArray) (w : World) : Calls Try.prog 88 #[.string x] w fun e w' => e = .returned (.bool false) ∧ w' = w := by
  go_enter Try.func88, Try.ntmps88
  go_wp2
  go_ret
  exact ⟨by simp, rfl⟩
set_option maxHeartbeats 1000000 in
theorem cmpB_at (x y : ByteArray) (w : World) : Calls Try.prog 58 #[.string x, .string y] w fun e w' => e = .returned (.int .i64 (cmpK x.toList y.toList)) ∧ w' = w := by
  have hx : Op.bytesLess x.toList y.toList = decide (x.toList < y.toList) := bytesLess_eq _ _
  unfold cmpK
  obtain ⟨X, hX⟩ : ∃ X, x.toList = X := ⟨_, rfl⟩
  obtain ⟨Y, hY⟩ : ∃ Y, y.toList = Y := ⟨_, rfl⟩
  rw [hX, hY] at hx ⊢
  have HX := Lib.hid hX
  have HY := Lib.hid hY
  have e1 : Op.bytesLess x.toList y.toList = decide (X < Y) := by rw [hX, hY]; exact hx
  have e2 : (x.toList == y.toList) = decide (X = Y) := by rw [hX, hY, Bool.eq_iff_iff]; simp
  clear hX hY hx
  rcases ky_tri X Y with h | h | h
  · rw [if_pos h]
    have d1 := e1.trans (decide_eq_true h)
    clear e1 e2
    go_enter Try.func58, Try.ntmps58
    go_wp2_with (go_at_call 88; refine (nanS_at _ _).mono ?_; rintro e w' ⟨rfl, hw⟩; rw [hw])
    all_goals go_ret
    all_goals first | exact ⟨rfl, rfl⟩ | simp_all
  · subst h
    rw [if_neg (ky_irr _), if_neg (ky_irr _)]
    have d1 := e1.trans (decide_eq_false (ky_irr X))
    have d2 := e2.trans (decide_eq_true rfl)
    clear e1 e2
    go_enter Try.func58, Try.ntmps58
    go_wp2_with (go_at_call 88; refine (nanS_at _ _).mono ?_; rintro e w' ⟨rfl, hw⟩; rw [hw])
    all_goals go_ret
    all_goals first | exact ⟨rfl, rfl⟩ | simp_all
  · have hn : ¬ X < Y := fun q => ky_irr _ (ky_tr q h)
    rw [if_neg hn, if_pos h]
    have d1 := e1.trans (decide_eq_false hn)
    have d2 := e2.trans (decide_eq_false (fun e => by rw [e] at h; exact ky_irr _ h))
    clear e1 e2
    go_enter Try.func58, Try.ntmps58
    go_wp2_with (go_at_call 88; refine (nanS_at _ _).mono ?_; rintro e w' ⟨rfl, hw⟩; rw [hw])
    all_goals go_ret
    all_goals first | exact ⟨rfl, rfl⟩ | simp_all
theorem ky_list (x : Ky) : (⟨x.toArray⟩ : ByteArray).toList = x := by rw [Lib.toList_data]
theorem cmpS_at {x y : Ky} {r : Int} (h : cmpK x y = r) (w : World) : Calls Try.prog 58 #[kyV x, kyV y] w fun e w' => e = .returned (.int .i64 r) ∧ w' = w := by
  have := cmpB_at ⟨x.toArray⟩ ⟨y.toArray⟩ w
  rw [ky_list, ky_list, h] at this
  exact this
theorem cmpZ_at {x y r : Int} (h : cmpI x y = r) (w : World) : Calls Try.prog 59 #[.int .i64 x, .int .i64 y] w fun e w' => e = .returned (.int .i64 r) ∧ w' = w := by
  subst h; exact cmp_at x y w
def orZ (x y : Int) : Int := if x = 0 then y else x
set_option maxHeartbeats 1000000 in
theorem or_at {g : Nat} {x y r : Int} {w : World} (h0 : w.cell? ⟨g, 0, none⟩ = some (.int .i64 x)) (h1 : w.cell? ⟨g, 1, none⟩ = some (.int .i64 y)) (h : orZ x y = r) : Calls Try.prog 57 #[.slice (some ⟨g, 0, none⟩) 2 2] w fun e w' => e = .returned (.int .i64 r) ∧ w' = w := by
  subst h
  unfold orZ
  by_cases hx : x = 0
  · subst hx
    rw [if_pos rfl]
    by_cases hy : y = 0
    · subst hy
      go_enter Try.func57, Try.ntmps57
      go_wp2
      refine wp_loop_rounds 3 ?_
      rw [rounds_succ]
      go_wp2
      rw [rounds_succ]
      go_wp2
      rw [rounds_succ]
      go_wp2
      go_ret
      exact ⟨rfl, rfl⟩
    · have hy2 := inebt hy
      go_enter Try.func57, Try.ntmps57
      go_wp2
      refine wp_loop_rounds 3 ?_
      rw [rounds_succ]
      go_wp2
      rw [rounds_succ]
      go_wp2
      go_ret
      exact ⟨rfl, rfl⟩
  · rw [if_neg hx]
    have hx2 := inebt hx
    go_enter Try.func57, Try.ntmps57
    go_wp2
    refine wp_loop_rounds 3 ?_
    rw [rounds_succ]
    go_wp2
    go_ret
    exact ⟨rfl, rfl⟩
theorem new2 {W : World} {k : Nat} {u v : Value} {t : TypeId} (hk : W.heap.size = k) : (W.alloc (.cells #[u, v] t)).cell? ⟨k, 0, none⟩ = some u ∧ (W.alloc (.cells #[u, v] t)).cell? ⟨k, 1, none⟩ = some v := by
  subst hk
  exact ⟨by rw [World.cell?_alloc_at _ _ _ _ (by simp)]; rfl, by rw [World.cell?_alloc_at _ _ _ _ (by simp)]; rfl⟩
theorem new2d {W : World} {k : Nat} {u v : Value} {t : TypeId} (hk : W.heap.size = k) : (W.alloc (.cells #[u, v] t)).drew.cell? ⟨k, 0, none⟩ = some u ∧ (W.alloc (.cells #[u, v] t)).drew.cell? ⟨k, 1, none⟩ = some v := @new2 W k u v t hk
/-- The panes' order, as a number. -/
def cmpP (x y : Pn) : Int := orZ (cmpK x.k y.k) (cmpI x.f y.f)
abbrev pnV (x : Pn) : Value := .agg #[kyV x.k, .int .i64 x.f, .int .i64 x.t, .int .i64 x.a.c, .int .i64 x.a.s, .int .i64 x.a.mn, .int .i64 x.a.mx]
abbrev pnO (x : Pn) : Obj := .cells #[kyV x.k, .int .i64 x.f, .int .i64 x.t, .int .i64 x.a.c, .int .i64 x.a.s, .int .i64 x.a.mn, .int .i64 x.a.mx] 51
/-- Two panes boxed: their cells. -/
theorem box2 (w : World) (x y : Pn) : (∀ j u, (pnC x)[j]? = some u → ((w.alloc (pnO x)).alloc (pnO y)).cell? ⟨w.heap.size, j, none⟩ = some u) ∧ (∀ j u, (pnC y)[j]? = some u → ((w.alloc (pnO x)).alloc (pnO y)).cell? ⟨w.heap.size + 1, j, none⟩ = some u) ∧ ((w.alloc (pnO x)).alloc (pnO y)).heap.size = w.heap.size + 1 + 1 ∧ ∃ q os, (w.alloc (pnO x)).alloc (pnO y) = Go.Sort.grow (w.drewN q) os := by
  have e1 : (w.alloc (pnO x)).heap.size = w.heap.size + 1 := World.size_alloc w _
  refine ⟨fun j u h => ?_, fun j u h => ?_, by rw [World.size_alloc, e1], 0, _, by rw [Go.Sort.alloc_eq_grow, Go.Sort.alloc_eq_grow, Go.Sort.grow_grow]; rfl⟩
  · have q : ((w.alloc (pnO x)).alloc (pnO y)).heap[w.heap.size]? = some (pnO x) := (Below.heap_alloc (w.alloc (pnO x)) (pnO y) w.heap.size (by rw [e1]; exact Nat.lt_succ_self _)).trans (heap_alloc_new w (pnO x))
    rw [cell_of_heap q, ← h]
    simp
  · have q := heap_alloc_new (w.alloc (pnO x)) (pnO y)
    rw [e1] at q
    rw [cell_of_heap q, ← h]
    simp
theorem grown_on {w W W' : World} (h : ∃ q os, W = Go.Sort.grow (w.drewN q) os) (h' : ∃ q os, W' = Go.Sort.grow (W.drewN q) os) : ∃ q os, W' = Go.Sort.grow (w.drewN q) os := by
  obtain ⟨q, os, rfl⟩ := h
  obtain ⟨q', os', rfl⟩ := h'
  exact ⟨q + q', os ++ os', by show grow (grow ((w.drewN q).drewN q') os) os' = _; rw [grow_grow, World.drewN_drewN]⟩
set_option maxRecDepth 20000 in
set_option maxHeartbeats 2000000 in
theorem byKey_at (x y : Pn) (w : World) : Calls Try.prog 40 #[pnV x, pnV y] w fun e w' => e = .returned (.int .i64 (cmpP x y)) ∧ ∃ q os, w' = Go.Sort.grow (w.drewN q) os := by
  obtain ⟨a, ha⟩ : ∃ a, cmpK x.k y.k = a := ⟨_, rfl⟩
  obtain ⟨b, hb⟩ : ∃ b, cmpI x.f y.f = b := ⟨_, rfl⟩
  obtain ⟨r, hr⟩ : ∃ r, orZ a b = r := ⟨_, rfl⟩
  unfold cmpP
  rw [ha, hb, hr]
  have HA := Lib.hid ha
  have HB := Lib.hid hb
  have HR := Lib.hid hr
  obtain ⟨b1, b2, b3, b4⟩ := box2 w x y
  have k0 := b1 0 _ rfl
  have k1 := b1 1 _ rfl
  have k2 := b2 0 _ rfl
  have k3 := b2 1 _ rfl
  have HW := Lib.hid b4
  clear ha hb hr b1 b2 b4
  go_enter Try.func40, Try.ntmps40
  go_upto_region 1 with (fail)
  generalize (w.alloc (pnO x)).alloc (pnO y) = W at k0 k1 k2 k3 b3 HW ⊢
  obtain ⟨bx, hbx⟩ : ∃ bx, w.heap.size = bx := ⟨_, rfl⟩
  obtain ⟨by_, hby⟩ : ∃ b, bx + 1 = b := ⟨_, rfl⟩
  rw [hbx, hby] at b3 k2 k3 ⊢
  rw [hbx] at k0 k1
  generalize pnV x = vx
  generalize pnV y = vy
  have z1 : bx < W.heap.size := by rw [b3]; omega
  have z2 : by_ < W.heap.size := by rw [b3]; omega
  go_region_held3 (fun X => X.cell? ⟨bx, 0, none⟩ = some (kyV x.k) ∧ X.cell? ⟨bx, 1, none⟩ = some (.int .i64 x.f) ∧ X.cell? ⟨by_, 0, none⟩ = some (kyV y.k) ∧ X.cell? ⟨by_, 1, none⟩ = some (.int .i64 y.f))
    (first | exact ⟨k0, k1, k2, k3⟩ | exact ⟨(World.cell?_alloc_lt _ _ _ z1).trans k0, (World.cell?_alloc_lt _ _ _ z1).trans k1, (World.cell?_alloc_lt _ _ _ z2).trans k2, (World.cell?_alloc_lt _ _ _ z2).trans k3⟩)
    (first
    | (go_at_call 58; refine (cmpS_at HA.out _).mono ?_; rintro e w' ⟨rfl, hw⟩; rw [hw])
    | (go_at_call 59; refine (cmpZ_at HB.out _).mono ?_; rintro e w' ⟨rfl, hw⟩; rw [hw])
    | (go_at_call 57; refine (or_at (new2d b3).1 (new2d b3).2 HR.out).mono ?_; rintro e w' ⟨rfl, hw⟩; rw [hw]))
  all_goals go_wp2
  all_goals go_ret
  all_goals exact ⟨rfl, grown_on HW.out ⟨1, _, by rw [Go.Sort.alloc_eq_grow]; rfl⟩⟩
/-- In the order in which they are told, as a number. -/
def cmpT (x y : Pn) : Int := orZ (cmpI x.t y.t) (cmpP x y)
abbrev Box (W : World) (b : Nat) (x : Pn) : Prop := ∀ j u, (pnC x)[j]? = some u → W.cell? ⟨b, j, none⟩ = some u
theorem Box.grown {W : World} {b : Nat} {x : Pn} (h : Box W b x) (hb : b < W.heap.size) (q : Nat) (os : Array Obj) : Box (Go.Sort.grow (W.drewN q) os) b x := fun j u hj => cell_grown (a := ⟨b, j, none⟩) hb (h j u hj) q os
theorem Box.alloc {W : World} {b : Nat} {x : Pn} (h : Box W b x) (hb : b < W.heap.size) (o : Obj) : Box (W.alloc o) b x := fun j u hj => (World.cell?_alloc_lt W o ⟨b, j, none⟩ hb).trans (h j u hj)
theorem grow_size (W : World) (q : Nat) (os : Array Obj) : W.heap.size ≤ (Go.Sort.grow (W.drewN q) os).heap.size := by
  show W.heap.size ≤ (W.heap ++ os).size
  simp
theorem all14 {X : World} {bx by_ : Nat} {x y : Pn} (h : Hid (Box X bx x)) (k : Hid (Box X by_ y)) : Hid (Box X bx x) ∧ Hid (Box X by_ y) ∧ X.cell? ⟨bx, 0, none⟩ = some (kyV x.k) ∧ X.cell? ⟨bx, 1, none⟩ = some (.int .i64 x.f) ∧ X.cell? ⟨bx, 2, none⟩ = some (.int .i64 x.t) ∧ X.cell? ⟨bx, 3, none⟩ = some (.int .i64 x.a.c) ∧ X.cell? ⟨bx, 4, none⟩ = some (.int .i64 x.a.s) ∧ X.cell? ⟨bx, 5, none⟩ = some (.int .i64 x.a.mn) ∧ X.cell? ⟨bx, 6, none⟩ = some (.int .i64 x.a.mx) ∧
      X.cell? ⟨by_, 0, none⟩ = some (kyV y.k) ∧ X.cell? ⟨by_, 1, none⟩ = some (.int .i64 y.f) ∧ X.cell? ⟨by_, 2, none⟩ = some (.int .i64 y.t) ∧ X.cell? ⟨by_, 3, none⟩ = some (.int .i64 y.a.c) ∧ X.cell? ⟨by_, 4, none⟩ = some (.int .i64 y.a.s) ∧ X.cell? ⟨by_, 5, none⟩ = some (.int .i64 y.a.mn) ∧ X.cell? ⟨by_, 6, none⟩ = some (.int .i64 y.a.mx) :=
  ⟨h, k, h.out 0 _ rfl, h.out 1 _ rfl, h.out 2 _ rfl, h.out 3 _ rfl, h.out 4 _ rfl, h.out 5 _ rfl, h.out 6 _ rfl, k.out 0 _ rfl, k.out 1 _ rfl, k.out 2 _ rfl, k.out 3 _ rfl, k.out 4 _ rfl, k.out 5 _ rfl, k.out 6 _ rfl⟩
set_option maxRecDepth 20000 in
set_option maxHeartbeats 2000000 in
theorem byTo_at (x y : Pn) (w : World) : Calls Try.prog 53 #[pnV x, pnV y] w fun e w' => e = .returned (.int .i64 (cmpT x y)) ∧ ∃ q os, w' = Go.Sort.grow (w.drewN q) os := by
  obtain ⟨a, ha⟩ : ∃ a, cmpI x.t y.t = a := ⟨_, rfl⟩
  obtain ⟨b, hb⟩ : ∃ b, cmpP x y = b := ⟨_, rfl⟩
  obtain ⟨r, hr⟩ : ∃ r, orZ a b = r := ⟨_, rfl⟩
  have HC : Hid (∀ w, Calls Try.prog 40 #[pnV x, pnV y] w fun e w' => e = .returned (.int .i64 b) ∧ ∃ q os, w' = Go.Sort.grow (w.drewN q) os) := Lib.hid (by rw [← hb]; exact byKey_at x y)
  unfold cmpT
  rw [ha, hb, hr]
  have HA := Lib.hid ha
  have HR := Lib.hid hr
  obtain ⟨b1, b2, b3, b4⟩ := box2 w x y
  have HW := Lib.hid b4
  clear ha hb hr b4
  go_enter Try.func53, Try.ntmps53
  go_upto_region 1 with (fail)
  generalize (w.alloc (pnO x)).alloc (pnO y) = W at b1 b2 b3 HW ⊢
  obtain ⟨bx, hbx⟩ : ∃ bx, w.heap.size = bx := ⟨_, rfl⟩
  obtain ⟨by_, hby⟩ : ∃ b, bx + 1 = b := ⟨_, rfl⟩
  rw [hbx, hby] at b3 b2 ⊢
  rw [hbx] at b1
  have z1 : bx < W.heap.size := by rw [b3]; omega
  have z2 : by_ < W.heap.size := by rw [b3]; omega
  have S0 : W.cell? ⟨bx, 0, none⟩ = some (kyV x.k) ∧ W.cell? ⟨bx, 1, none⟩ = some (.int .i64 x.f) := ⟨b1 0 _ rfl, b1 1 _ rfl⟩
  have HX : Hid (Box W bx x) := Lib.hid b1
  have HY : Hid (Box W by_ y) := Lib.hid b2
  clear b1 b2 S0
  go_region_held3 (fun X => Hid (Box X bx x) ∧ Hid (Box X by_ y) ∧ X.cell? ⟨bx, 0, none⟩ = some (kyV x.k) ∧ X.cell? ⟨bx, 1, none⟩ = some (.int .i64 x.f) ∧ X.cell? ⟨bx, 2, none⟩ = some (.int .i64 x.t) ∧ X.cell? ⟨bx, 3, none⟩ = some (.int .i64 x.a.c) ∧ X.cell? ⟨bx, 4, none⟩ = some (.int .i64 x.a.s) ∧ X.cell? ⟨bx, 5, none⟩ = some (.int .i64 x.a.mn) ∧ X.cell? ⟨bx, 6, none⟩ = some (.int .i64 x.a.mx) ∧
      X.cell? ⟨by_, 0, none⟩ = some (kyV y.k) ∧ X.cell? ⟨by_, 1, none⟩ = some (.int .i64 y.f) ∧ X.cell? ⟨by_, 2, none⟩ = some (.int .i64 y.t) ∧ X.cell? ⟨by_, 3, none⟩ = some (.int .i64 y.a.c) ∧ X.cell? ⟨by_, 4, none⟩ = some (.int .i64 y.a.s) ∧ X.cell? ⟨by_, 5, none⟩ = some (.int .i64 y.a.mn) ∧ X.cell? ⟨by_, 6, none⟩ = some (.int .i64 y.a.mx))
    (first | exact all14 HX HY | exact all14 HX2 HY2 | exact all14 (Lib.hid (Box.alloc HX.out z1 _)) (Lib.hid (Box.alloc HY.out z2 _)) | exact all14 (Lib.hid (Box.alloc HX2.out z3 _)) (Lib.hid (Box.alloc HY2.out z4 _)))
    (first
    | (go_at_call 59; refine (cmpZ_at HA.out _).mono ?_; rintro e w' ⟨rfl, hw⟩; rw [hw])
    | (go_at_call 40; refine (HC.out _).mono ?_; rintro e w' ⟨rfl, q, os, hw⟩; have HX2 : Hid (Box w' bx x) := (Lib.hid (by rw [hw]; exact Box.grown (W := W.drew) HX.out z1 q os)); have HY2 : Hid (Box w' by_ y) := (Lib.hid (by rw [hw]; exact Box.grown (W := W.drew) HY.out z2 q os)); have z3 : bx < w'.heap.size := (by rw [hw]; exact Nat.lt_of_lt_of_le z1 (grow_size W.drew q os)); have z4 : by_ < w'.heap.size := (by rw [hw]; exact Nat.lt_of_lt_of_le z2 (grow_size W.drew q os)); have HG : Hid (∃ q os, w' = Go.Sort.grow (W.drewN q) os) := (Lib.hid (by exact grown_on (W := W.drew) ⟨1, #[], by rw [grow_empty]; rfl⟩ ⟨q, os, hw⟩)); clear hw)
    | (go_at_call 57; refine (or_at (new2 rfl).1 (new2 rfl).2 HR.out).mono ?_; rintro e w' ⟨rfl, hw⟩; rw [hw]))
  all_goals go_wp2
  all_goals go_ret
  all_goals exact ⟨rfl, grown_on HW.out (grown_on HG.out ⟨0, _, by rw [Go.Sort.alloc_eq_grow]; rfl⟩)⟩
end Go.Proofs.Ytlmnkmfpdjkijaa.Kp
