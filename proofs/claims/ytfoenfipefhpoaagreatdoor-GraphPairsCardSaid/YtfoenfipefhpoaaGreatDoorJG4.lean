/-
  Texts joined into one file. Each part says in its own head what is proved there, and under which conditions.
-/
import Derived.Test.YtfoenfipefhpoaaGreatDoorJG3
import Derived.Maps.OwnSet
import Derived.Lib.SlKeysI
import Derived.Test.YtfoenfipefhpoaaGreatDoorJP1
import Derived.Shelf.SlSortCmp.QuietGrown
import Derived.Shelf.LaysM
import Derived.Shelf.Strconv.Clone
import Derived.Shelf.SlIterI.Nil
import Derived.Shelf.SortM.Plain
import Derived.Shelf.SortM.SortNone
import Derived.Shelf.SlGeneric
import Derived.Ground.NamesProg
import Derived.Ground.GgzProg
import Derived.Ground.SlgmProg
import Derived.Test.YtfoenfipefhpoaaGreatDoorProg
import Derived.BigQuiet
set_option linter.unusedVariables false
set_option linter.unusedSimpArgs false
/-
  A checked plan writes each topic once; who is reached by steps from flow to flow, and what a search that marks whom it has met has found. Conditions: the plan has no error.
-/
namespace Go.Proofs.YtfoenfipefhpoaaGreatDoor.Gr
open Go.RowKit Go.Proofs.YtfoenfipefhpoaaGreatDoor.Ex Go.Proofs.YtfoenfipefhpoaaGreatDoor.Pl
open Go.Maps (setOf setOf_snoc)

/-! ### A checked plan -/
theorem topsErr_ne (L : List Top) : ∀ (e : List Top) (r : Nat × Int), topsErr e L = some r → r.2 ≠ 0 := by
  induction L with
  | nil => intro e r h; cases h
  | cons t L ih =>
    intro e r h
    unfold topsErr at h
    split at h
    · exact ih _ r h
    · rename_i hne
      injection h with h
      rw [← h]; exact hne
theorem flwsErr_ne (ts : List Top) (all L : List Flw) : ∀ (e : List Flw) (r : Nat × Int), flwsErr ts all e L = some r → r.2 ≠ 0 := by
  induction L with
  | nil => intro e r h; cases h
  | cons t L ih =>
    intro e r h
    unfold flwsErr at h
    split at h
    · exact ih _ r h
    · rename_i hne
      injection h with h
      rw [← h]; exact hne
theorem flwErr_writes {ts : List Top} {all e : List Flw} {f : Flw} (h : flwErr ts all e f = 0) : writes e f.dest = false := by
  cases hw : writes e f.dest with
  | false => rfl
  | true =>
    exfalso
    unfold flwErr at h
    split at h
    · exact absurd h (by decide)
    · split at h
      · exact absurd h (by decide)
      · rw [if_pos (Or.inr hw)] at h
        exact absurd h (by decide)
theorem flwsErr_none (ts : List Top) (all : List Flw) : ∀ (L e : List Flw), flwsErr ts all e L = none → ∀ a f b, L = a ++ f :: b → writes (e ++ a) f.dest = false
  | [], e, h, a, f, b, hl => by cases a <;> cases hl
  | g :: r, e, h, a, f, b, hl => by
    unfold flwsErr at h
    split at h
    · rename_i h0
      cases a with
      | nil =>
        injection hl with h1 h2
        subst h1
        rw [List.append_nil]; exact flwErr_writes h0
      | cons x a =>
        injection hl with h1 h2
        subst h1
        have := flwsErr_none ts all r (e ++ [g]) h a f b h2
        simpa using this
    · cases h
/-- Each topic is written once. -/
def Dst (fs : List Flw) : Prop := ∀ (j k : Nat) (f g : Flw), fs[j]? = some f → fs[k]? = some g → f.dest = g.dest → j = k
theorem writes_lt {fs : List Flw} (h : ∀ a f b, fs = a ++ f :: b → writes a f.dest = false) {j k : Nat} {f g : Flw} (hj : fs[j]? = some f) (hk : fs[k]? = some g) (e : f.dest = g.dest) (hlt : j < k) : False := by
  obtain ⟨hk1, hk2⟩ := List.getElem?_eq_some_iff.1 hk
  have h1 := h (fs.take k) g (fs.drop (k + 1)) (by rw [← hk2, ← List.drop_eq_getElem_cons hk1, List.take_append_drop])
  unfold writes at h1
  rw [List.any_eq_false] at h1
  have hm : f ∈ fs.take k := by
    have h2 : (fs.take k)[j]? = some f := by rw [List.getElem?_take, if_pos hlt]; exact hj
    exact List.mem_of_getElem? h2
  exact h1 f hm (by simpa using e)
theorem check_ok {p : Pln} (h : (check p).2 = 0) : p.tops.length ≤ 16 ∧ p.flws.length ≤ 8 ∧ Dst p.flws := by
  unfold check at h
  split at h
  · exact absurd h (by decide)
  · rename_i hb
    split at h
    · rename_i r hr; exact absurd h (topsErr_ne _ _ _ hr)
    · split at h
      · rename_i r hr; exact absurd h (flwsErr_ne _ _ _ _ _ hr)
      · rename_i hn
        refine ⟨by omega, by omega, fun j k f g hj hk e => ?_⟩
        have hw : ∀ a f b, p.flws = a ++ f :: b → writes a f.dest = false := fun a f b hl => by simpa using flwsErr_none _ _ _ _ hn a f b hl
        rcases Nat.lt_trichotomy j k with hl | hl | hl
        · exact (writes_lt hw hj hk e hl).elim
        · exact hl
        · exact (writes_lt hw hk hj e.symm hl).elim

/-! ### Who writes -/
theorem wrGo_some (x : Bs) : ∀ (L : List Flw) (k j : Nat), wrGo x L k = some j → ∃ i f, j = k + i ∧ L[i]? = some f ∧ f.dest = x
  | [], k, j, h => by cases h
  | g :: r, k, j, h => by
    unfold wrGo at h
    split at h
    · rename_i hd
      injection h with h
      exact ⟨0, g, by omega, rfl, hd⟩
    · obtain ⟨i, f, h1, h2, h3⟩ := wrGo_some x r (k + 1) j h
      exact ⟨i + 1, f, by omega, by simpa using h2, h3⟩
theorem wrGo_of (x : Bs) : ∀ (L : List Flw) (k i : Nat) (f : Flw), L[i]? = some f → f.dest = x → ∃ j, wrGo x L k = some j
  | [], k, i, f, h, _ => by simp at h
  | g :: r, k, i, f, h, hd => by
    unfold wrGo
    split
    · exact ⟨k, rfl⟩
    · rename_i hn
      cases i with
      | zero =>
        simp only [List.getElem?_cons_zero, Option.some.injEq] at h
        subst h; exact absurd hd hn
      | succ i => exact wrGo_of x r (k + 1) i f (by simpa using h) hd
theorem src_some {fs : List Flw} {i k : Nat} (h : srcOf fs i = some k) : ∃ f g, fs[i]? = some f ∧ fs[k]? = some g ∧ g.dest = f.frm := by
  unfold srcOf at h
  cases hi : fs[i]? with
  | none => rw [hi] at h; cases h
  | some f =>
    rw [hi] at h
    obtain ⟨j, g, h1, h2, h3⟩ := wrGo_some _ _ _ _ h
    rw [Nat.zero_add] at h1
    subst h1
    exact ⟨f, g, rfl, h2, h3⟩
theorem src_of {fs : List Flw} (hd : Dst fs) {i k : Nat} {f g : Flw} (hi : fs[i]? = some f) (hk : fs[k]? = some g) (e : g.dest = f.frm) : srcOf fs i = some k := by
  obtain ⟨j, hj⟩ := wrGo_of f.frm fs 0 k g hk e
  have hs : srcOf fs i = some j := by unfold srcOf; rw [hi]; exact hj
  obtain ⟨f', g', h1, h2, h3⟩ := src_some hs
  rw [hi] at h1
  injection h1 with h1
  subst h1
  rw [hs, hd k j g g' hk h2 (e.trans h3.symm)]

/-! ### Steps from flow to flow -/
def ldOf (lf : Flw → Flw → Bool) (fs : List Flw) (i k : Nat) : Bool := match fs[i]?, fs[k]? with
  | some f, some g => lf f g
  | _, _ => false
theorem ldOf_at (lf : Flw → Flw → Bool) {fs : List Flw} {i k : Nat} (hi : i < fs.length) (hk : k < fs.length) : ldOf lf fs i k = lf fs[i] fs[k] := by
  unfold ldOf
  rw [List.getElem?_eq_getElem hi, List.getElem?_eq_getElem hk]
theorem ldOf_true {lf : Flw → Flw → Bool} {fs : List Flw} {i k : Nat} (h : ldOf lf fs i k = true) : ∃ f g, fs[i]? = some f ∧ fs[k]? = some g ∧ lf f g = true := by
  unfold ldOf at h
  cases hi : fs[i]? with
  | none => rw [hi] at h; cases h
  | some f =>
    cases hk : fs[k]? with
    | none => rw [hi, hk] at h; cases h
    | some g => rw [hi, hk] at h; exact ⟨f, g, rfl, rfl, h⟩
theorem ldOf_lt {lf : Flw → Flw → Bool} {fs : List Flw} {i k : Nat} (h : ldOf lf fs i k = true) : k < fs.length := by
  obtain ⟨f, g, -, h2, -⟩ := ldOf_true h
  exact (List.getElem?_eq_some_iff.1 h2).1
/-- The one writes what the other one reads. -/
def lfB (f g : Flw) : Bool := f.dest == g.frm
def lfA (f g : Flw) : Bool := g.dest == f.frm
theorem ldA_iff {fs : List Flw} (hd : Dst fs) (i k : Nat) : ldOf lfA fs i k = true ↔ srcOf fs i = some k := by
  constructor
  · intro h
    obtain ⟨f, g, h1, h2, h3⟩ := ldOf_true h
    exact src_of hd h1 h2 (eq_of_beq h3)
  · intro h
    obtain ⟨f, g, h1, h2, h3⟩ := src_some h
    unfold ldOf
    rw [h1, h2]
    exact beq_iff_eq.2 h3
theorem ldB_iff {fs : List Flw} (hd : Dst fs) (i k : Nat) : ldOf lfB fs i k = true ↔ srcOf fs k = some i := by
  constructor
  · intro h
    obtain ⟨f, g, h1, h2, h3⟩ := ldOf_true h
    exact src_of hd h2 h1 (eq_of_beq h3)
  · intro h
    obtain ⟨f, g, h1, h2, h3⟩ := src_some h
    unfold ldOf
    rw [h1, h2]
    exact beq_iff_eq.2 h3
/-- To be reached, by one step or more. -/
inductive Rch (ld : Nat → Nat → Bool) : Nat → Nat → Prop where
  | one {i k : Nat} (h : ld i k = true) : Rch ld i k
  | more {i k l : Nat} (h : ld i k = true) (r : Rch ld k l) : Rch ld i l
theorem rchA {fs : List Flw} (hd : Dst fs) (i k : Nat) : Rch (ldOf lfA fs) i k ↔ Hang (srcOf fs) i k := by
  constructor
  · intro h
    induction h with
    | one h => exact ⟨0, by rw [hop_one]; exact (ldA_iff hd _ _).1 h⟩
    | more h r ih =>
      obtain ⟨m, hm⟩ := ih
      refine ⟨m + 1, ?_⟩
      show (srcOf fs _).bind (hop (srcOf fs) (m + 1)) = _
      rw [(ldA_iff hd _ _).1 h]; exact hm
  · rintro ⟨m, hm⟩
    induction m generalizing i with
    | zero => rw [hop_one] at hm; exact .one ((ldA_iff hd _ _).2 hm)
    | succ m ih =>
      change (srcOf fs i).bind (hop (srcOf fs) (m + 1)) = some k at hm
      cases hs : srcOf fs i with
      | none => rw [hs] at hm; cases hm
      | some b => rw [hs] at hm; exact .more ((ldA_iff hd _ _).2 hs) (ih b hm)
theorem rchB {fs : List Flw} (hd : Dst fs) (i k : Nat) : Rch (ldOf lfB fs) i k ↔ Hang (srcOf fs) k i := by
  constructor
  · intro h
    induction h with
    | one h => exact ⟨0, by rw [hop_one]; exact (ldB_iff hd _ _).1 h⟩
    | more h r ih => exact hang_trans ih ⟨0, by rw [hop_one]; exact (ldB_iff hd _ _).1 h⟩
  · rintro ⟨m, hm⟩
    induction m generalizing i with
    | zero => rw [hop_one] at hm; exact .one ((ldB_iff hd _ _).2 hm)
    | succ m ih =>
      obtain ⟨x, h1, h2⟩ := hop_part (a := m + 1) (b := 1) hm
      rw [hop_one] at h2
      exact .more ((ldB_iff hd _ _).2 h2) (ih x h1)

/-! ### A search -/
/-- Whom the search has met: each once. -/
def Good (n : Nat) (acc : List Nat) : Prop := acc.Nodup ∧ ∀ x ∈ acc, x < n
theorem Good.len {n : Nat} {acc : List Nat} (h : Good n acc) : acc.length ≤ n := by
  rcases Nat.lt_or_ge n acc.length with hl | hl
  · exfalso
    obtain ⟨a, b, hab, hb, e⟩ := pigeon n (fun j => acc.getD j 0) (fun j hj => by
      have hj2 : j < acc.length := by omega
      show acc.getD j 0 < n
      rw [List.getD_eq_getElem?_getD, List.getElem?_eq_getElem hj2]
      exact h.2 _ (List.getElem_mem hj2))
    have ha2 : a < acc.length := by omega
    have hb2 : b < acc.length := by omega
    simp only [List.getD_eq_getElem?_getD, List.getElem?_eq_getElem ha2, List.getElem?_eq_getElem hb2, Option.getD_some] at e
    exact List.pairwise_iff_getElem.1 h.1 a b ha2 hb2 hab e
  · exact hl
theorem Good.snoc {n k : Nat} {acc : List Nat} (h : Good n acc) (hk : k < n) (hn : k ∉ acc) : Good n (acc ++ [k]) := by
  refine ⟨?_, fun x hx => ?_⟩
  · rw [List.nodup_append]
    exact ⟨h.1, by simp, fun a ha b hb => by rw [List.mem_singleton.1 hb]; exact fun e => hn (e ▸ ha)⟩
  · rcases List.mem_append.1 hx with hx | hx
    · exact h.2 x hx
    · rw [List.mem_singleton.1 hx]; exact hk
/-- What a search from i has done that has looked at all below k. -/
structure Vis (ld : Nat → Nat → Bool) (n i k : Nat) (acc acc' : List Nat) : Prop where
  sub : ∀ x ∈ acc, x ∈ acc'
  rch : ∀ x ∈ acc', x ∉ acc → Rch ld i x
  shut : ∀ x ∈ acc', x ∉ acc → ∀ y, y < n → ld x y = true → y ∈ acc'
  own : ∀ y, y < k → ld i y = true → y ∈ acc'
  good : Good n acc'
  len : acc.length ≤ acc'.length
theorem Vis.start {ld : Nat → Nat → Bool} {n i : Nat} {acc : List Nat} (h : Good n acc) : Vis ld n i 0 acc acc :=
  ⟨fun _ h => h, fun x h1 h2 => absurd h1 h2, fun x h1 h2 => absurd h1 h2, fun y hy => by omega, h, Nat.le_refl _⟩
theorem Vis.skip {ld : Nat → Nat → Bool} {n i k : Nat} {acc acc' : List Nat} (h : Vis ld n i k acc acc') (hk : ld i k = true → k ∈ acc') : Vis ld n i (k + 1) acc acc' :=
  ⟨h.sub, h.rch, h.shut, fun y hy e => by
    rcases Nat.lt_or_ge y k with h1 | h1
    · exact h.own y h1 e
    · obtain rfl : y = k := by omega
      exact hk e, h.good, h.len⟩
theorem Vis.step {ld : Nat → Nat → Bool} {n i k : Nat} {acc acc' acc'' : List Nat} (h : Vis ld n i k acc acc') (hl : ld i k = true) (h2 : Vis ld n k n (acc' ++ [k]) acc'') : Vis ld n i (k + 1) acc acc'' := by
  have up : ∀ x ∈ acc', x ∈ acc'' := fun x hx => h2.sub x (List.mem_append_left _ hx)
  have hk : k ∈ acc'' := h2.sub k (List.mem_append_right _ (List.mem_singleton.2 rfl))
  refine ⟨fun x hx => up x (h.sub x hx), fun x hx hn => ?_, fun x hx hn y hy e => ?_, fun y hy e => ?_, h2.good, by have h3 := h.len; have h4 := h2.len; rw [List.length_append] at h4; omega⟩
  · by_cases h3 : x ∈ acc' ++ [k]
    · rcases List.mem_append.1 h3 with h4 | h4
      · exact h.rch x h4 hn
      · rw [List.mem_singleton.1 h4]; exact .one hl
    · exact .more hl (h2.rch x hx h3)
  · by_cases h3 : x ∈ acc' ++ [k]
    · rcases List.mem_append.1 h3 with h4 | h4
      · exact up y (h.shut x h4 hn y hy e)
      · rw [List.mem_singleton.1 h4] at e
        exact h2.own y hy e
    · exact h2.shut x hx h3 y hy e
  · rcases Nat.lt_or_ge y k with h1 | h1
    · exact up y (h.own y h1 e)
    · obtain rfl : y = k := by omega
      exact hk
/-- A whole search has met just those who are reached. -/
theorem Vis.all {ld : Nat → Nat → Bool} {n i : Nat} {acc : List Nat} (hl : ∀ a b, ld a b = true → b < n) (h : Vis ld n i n [] acc) (x : Nat) : x ∈ acc ↔ Rch ld i x := by
  constructor
  · intro hx; exact h.rch x hx (by simp)
  · have hs : ∀ a b, Rch ld a b → a ∈ acc → b ∈ acc := by
      intro a b hab
      induction hab with
      | one e => intro ha; exact h.shut _ ha (by simp) _ (hl _ _ e) e
      | more e r ih => intro ha; exact ih (h.shut _ ha (by simp) _ (hl _ _ e) e)
    intro hr
    cases hr with
    | one e => exact h.own x (hl _ _ e) e
    | more e r => exact hs _ _ r (h.own _ (hl _ _ e) e)

/-! ### The set in memory -/
/-- The set of those numbers, as a map's datum. -/
def setI (acc : List Nat) : DataW Unit := setOf (.agg []) (acc.map fun (k : Nat) => Lit.int .i64 (k : Int))
theorem setI_snoc (acc : List Nat) (k : Nat) : setI (acc ++ [k]) = (setI acc).put (.int .i64 (k : Int)) (.agg []) := by
  unfold setI
  rw [List.map_append, List.map_singleton, setOf_snoc]
theorem any_at (x : Int) : ∀ l : List Nat, (l.any fun (k : Nat) => (Lit.int .i64 (k : Int)).sameKey (.int .i64 x)) = l.any fun (k : Nat) => decide ((k : Int) = x)
  | [] => rfl
  | a :: r => by
    rw [List.any_cons, List.any_cons, any_at x r]
    congr 1
    show decide (IntKind.i64 = IntKind.i64 ∧ (a : Int) = x) = decide ((a : Int) = x)
    simp
theorem has_setI (acc : List Nat) (x : Int) : Maps.has (setI acc) (.int .i64 x) = acc.any fun (k : Nat) => decide ((k : Int) = x) := by
  unfold setI
  rw [Maps.has_setOf _ _ _ (fun y hy => by obtain ⟨_, _, rfl⟩ := List.mem_map.1 hy; trivial), List.any_map]
  exact any_at x acc
theorem has_nat (acc : List Nat) (k : Nat) : Maps.has (setI acc) (.int .i64 (k : Int)) = acc.contains k := by
  rw [has_setI]
  rw [Bool.eq_iff_iff]
  simp only [List.any_eq_true, decide_eq_true_eq, List.contains_iff_mem]
  constructor
  · rintro ⟨a, ha, e⟩
    obtain rfl : a = k := by omega
    exact ha
  · intro h; exact ⟨k, h, rfl⟩
theorem has_none (acc : List Nat) : Maps.has (setI acc) (.int .i64 (-1)) = false := by
  rw [has_setI, List.any_eq_false]
  intro a _
  simp only [decide_eq_true_eq]
  omega
end Go.Proofs.YtfoenfipefhpoaaGreatDoor.Gr
/-
  The program's two tests on flows; who writes what a flow reads, as the program finds it; the first flow that may be next. Conditions: the flows lie in memory.
-/
namespace Go.Proofs.YtfoenfipefhpoaaGreatDoor.Gr
open Go.RowKit Go.Maps Go.Proofs.YtfoenfipefhpoaaGreatDoor.Ex Go.Proofs.YtfoenfipefhpoaaGreatDoor.Pl
open Go.Sort (grow)

theorem mixed_at : Tryz.prog.follows .mixedOrders = true := by kernel_rfl
/-- A test on two flows: it answers, and lays blocks of its own. -/
def Tests (g : Nat) (lf : Flw → Flw → Bool) : Prop := ∀ (W : World) (x y : FE), Calls Tryz.prog g #[flwV x, flwV y] W fun e w' => e = .returned (.bool (lf x.f y.f)) ∧ ∃ q os, w' = grow (W.drewN q) os
theorem grow_two (W : World) (a b : Obj) (q : Nat) (os : Array Obj) : grow (((W.alloc a).alloc b).drewN q) os = grow (W.drewN q) (#[a, b] ++ os) := by
  rw [Sort.alloc_eq_grow, Sort.alloc_eq_grow, Sort.grow_grow]
  show grow (grow (W.drewN q) (#[a] ++ #[b])) os = _
  rw [Sort.grow_grow]
  rfl
theorem two_grow (W : World) (a b : Obj) : (W.alloc a).alloc b = grow (W.drewN 0) #[a, b] := by
  have h := grow_two W a b 0 #[]
  rw [Sort.grow_empty] at h
  exact h
theorem grow_below (w : World) (n : Nat) (os : Array Obj) : Below w.heap.size w (grow (w.drewN n) os) :=
  ⟨rfl, rfl, rfl, by rw [Sort.size_grow]; exact Nat.le_add_right _ _, fun k hk => Sort.heap_grow_old (w.drewN n) os hk⟩
set_option maxHeartbeats 1000000 in
theorem feeds_tests : Tests 31 lfB := by
  intro W x y
  obtain ⟨b, hb⟩ : ∃ b, (x.f.dest == y.f.frm) = b := ⟨_, rfl⟩
  have HB : Hid (b = lfB x.f y.f) := Lib.hid hb.symm
  cases b
  all_goals go_enter Tryz.func31, Tryz.ntmps31
  all_goals go_wp2
  all_goals go_ret
  all_goals exact ⟨ret_bool HB.out, 0, _, two_grow _ _ _⟩
set_option maxHeartbeats 1000000 in
theorem ahead_tests : Tests 30 lfA := by
  intro W x y
  have H := Lib.hid (fun W' => feeds_tests W' y x)
  go_enter Tryz.func30, Tryz.ntmps30
  go_wp2_with (go_at_call 31; refine (H.out _).mono ?_; rintro e w' ⟨rfl, q, os, rfl⟩)
  go_ret
  exact ⟨rfl, q, _, grow_two _ _ _ _ _⟩
/-- A flow's cells, in each world that came of W by draws and new blocks. -/
theorem flw_grown {W : World} {b o : Nat} {q : FE} (hb : b < W.heap.size) (c : ∀ j u, (flwC q)[j]? = some u → W.cell? ⟨b, o + j, none⟩ = some u) (j : Nat) (u : Value) (hj : (flwC q)[j]? = some u) : ∀ n os, (grow (W.drewN n) os).cell? ⟨b, o + j, none⟩ = some u :=
  fun n os => cell_grown hb (c j u hj) n os
theorem box_grown {W : World} {b : Nat} {q : FE} (h : Box W b q) (j : Nat) (u : Value) (hj : (flwC q)[j]? = some u) : ∀ n os, (grow (W.drewN n) os).cell? ⟨b, j, none⟩ = some u :=
  fun n os => cell_grown (a := ⟨b, j, none⟩) (by show b < W.heap.size; exact lt_of_heap h) (by rw [cell_of_heap h, List.getElem?_toArray]; exact hj) n os
set_option maxRecDepth 20000 in
set_option maxHeartbeats 4000000 in
theorem psrc_at {w : World} {a : Option Addr} {m c : Nat} {es : List FE} {fs : List Flw} (hf : FlwsAt w (.slice a m c) es) (he : es.map FE.f = fs) {i : Nat} (hi : i < fs.length) {r : Int} (hr : oI (srcOf fs i) = r) :
    Calls Tryz.prog 28 #[.slice a m c, .int .i64 i] w fun e w' => e = .returned (.int .i64 r) ∧ Below w.heap.size w w' := by
  have hl : es.length = fs.length := by rw [← he, List.length_map]
  obtain ⟨hm, -, k2, -⟩ := hf.1.len
  unfold maxLen at k2
  have him : i < m := by omega
  have hie : i < es.length := by omega
  have hfi : fs[i] = es[i].f := by simp [← he]
  rw [srcOf_at hi, hfi] at hr
  obtain ⟨b, o, e0, hbl, ci⟩ := hf.1.at_ hie
  subst e0
  generalize es[i] = q at hr ci
  have hr0 : oI (wrGo q.f.frm (fs.drop 0) 0) = r := hr
  have g0 : (0 : Int) ≤ (i : Int) := by omega
  have g1 : (i : Int) < (m : Int) := by omega
  have HF := Lib.hid hf
  have HE := Lib.hid he
  have HL := Lib.hid hl
  have HM := Lib.hid hm
  have HR := Lib.hid hr0
  have HC := Lib.hid ci
  have hmix := mixed_at
  clear hf he hl hr hr0 hi hie hfi hm ci
  go_enter Tryz.func28, Tryz.ntmps28
  go_wp2
  go_loopw [9] (fun z wr => ∃ k : Nat, k ≤ m ∧ z = .int .i64 k ∧ Hid (oI (wrGo q.f.frm (fs.drop k) k) = r) ∧ Hid (Below w.heap.size w wr)) (fun z _ => m - (RowKit.intOf z).toNat)
  case atStart => exact ⟨0, Nat.zero_le _, rfl, HR, Lib.hid (Below.refl _ _)⟩
  case round =>
    clear HR
    obtain ⟨k, hk, rfl, hr, hb⟩ := hrel
    by_cases hlt : k < m
    · have hke : k < es.length := by rw [← HM.out]; exact hlt
      have hkf : k < fs.length := by rw [← HL.out]; exact hke
      have hd := wrGo_drop q.f.frm fs k hkf
      have hfk : fs[k] = es[k].f := by simp [← HE.out]
      rw [hfk] at hd
      obtain ⟨b', o', e', -, ck⟩ := (HF.out.grow hb.out).1.at_ hke
      injection e' with e'
      injection e' with e1 e2
      subst e1 e2
      have f0 : (0 : Int) ≤ (k : Int) := by omega
      have f1 : (k : Int) < (m : Int) := by omega
      have hm1 := (HF.out.grow hb.out).2 _ (List.getElem_mem hke)
      generalize es[k] = x at hd ck hm1
      obtain ⟨f, pre1, post1⟩ := x
      obtain ⟨u1, n5, e5⟩ := hm1.1.1.val
      obtain ⟨u2, n6, e6⟩ := hm1.2.1.val
      dsimp only at e5 e6 hd
      subst e5 e6
      have c0 := ck 0 _ rfl; have c1 := ck 1 _ rfl; have c2 := ck 2 _ rfl; have c3 := ck 3 _ rfl; have c4 := ck 4 _ rfl; have c5 := ck 5 _ rfl; have c6 := ck 6 _ rfl; have c7 := ck 7 _ rfl; have c8 := ck 8 _ rfl; have c9 := ck 9 _ rfl; have c10 := ck 10 _ rfl; have c11 := ck 11 _ rfl
      rw [Nat.add_zero] at c0
      have hbr : b < wr.heap.size := Nat.lt_of_lt_of_le hbl hb.out.size
      obtain ⟨W1, hW1⟩ : ∃ W1, wr.alloc (.cells #[sv f.name, sv f.frm, sv f.dest, .int .i64 f.bound, .int .i64 f.readers, .int .i64 f.keepers, .slice u1 f.pre.length n5, .int .i64 f.win.kind, .int .i64 f.win.size, .int .i64 f.win.slide, .int .i64 f.agg, .slice u2 f.post.length n6] 51) = W1 := ⟨_, rfl⟩
      have bx : Box W1 wr.heap.size ⟨f, .slice u1 f.pre.length n5, .slice u2 f.post.length n6⟩ := by rw [← hW1]; exact Box.new wr ⟨f, .slice u1 f.pre.length n5, .slice u2 f.post.length n6⟩
      have bw : Below wr.heap.size wr W1 := by rw [← hW1]; exact (Below.refl _ _).alloc (Nat.le_refl _) _
      have hb1 : b < W1.heap.size := Nat.lt_of_lt_of_le hbr bw.size
      have ci : ∀ j u, (flwC q)[j]? = some u → W1.cell? ⟨b, o + i * 12 + j, none⟩ = some u := fun j u hj => by
        rw [bw.cell (p := ⟨b, _, none⟩) hbr, hb.out.cell (p := ⟨b, _, none⟩) hbl]; exact HC.out j u hj
      have a0 := flw_grown hb1 ci 0 _ rfl; have a1 := flw_grown hb1 ci 1 _ rfl; have a2 := flw_grown hb1 ci 2 _ rfl; have a3 := flw_grown hb1 ci 3 _ rfl; have a4 := flw_grown hb1 ci 4 _ rfl; have a5 := flw_grown hb1 ci 5 _ rfl; have a6 := flw_grown hb1 ci 6 _ rfl; have a7 := flw_grown hb1 ci 7 _ rfl; have a8 := flw_grown hb1 ci 8 _ rfl; have a9 := flw_grown hb1 ci 9 _ rfl; have a10 := flw_grown hb1 ci 10 _ rfl; have a11 := flw_grown hb1 ci 11 _ rfl
      rw [Nat.add_zero] at a0
      have d0 := box_grown bx 0 _ rfl; have d1 := box_grown bx 1 _ rfl; have d2 := box_grown bx 2 _ rfl; have d3 := box_grown bx 3 _ rfl; have d4 := box_grown bx 4 _ rfl; have d5 := box_grown bx 5 _ rfl; have d6 := box_grown bx 6 _ rfl; have d7 := box_grown bx 7 _ rfl; have d8 := box_grown bx 8 _ rfl; have d9 := box_grown bx 9 _ rfl; have d10 := box_grown bx 10 _ rfl; have d11 := box_grown bx 11 _ rfl
      have HB1 := Lib.hid (hb.out.trans (bw.mono hb.out.size))
      clear bx bw ci ck hbr hb1 hke hkf hfk hm1
      by_cases hq : f.dest = q.f.frm
      · have HR : Hid (r = (k : Int)) := Lib.hid (by rw [← hr.out, hd, if_pos hq]; rfl)
        have ht : lfB f q.f = true := beq_iff_eq.2 hq
        have HT := Lib.hid (fun W => by have := feeds_tests W ⟨f, .slice u1 f.pre.length n5, .slice u2 f.post.length n6⟩ q; rw [ht] at this; exact this)
        clear hr hd hq ht
        go_wp2
        try rw [hW1]
        clear hW1
        go_quiet_grown ((go_at_call 31; refine Calls.grown_of (HT.out _)))
        go_wp2
        go_ret
        exact ⟨ret_int HR.out.symm, HB1.out.trans ((grow_below _ _ _).mono HB1.out.size)⟩
      · have HR : Hid (oI (wrGo q.f.frm (fs.drop (k + 1)) (k + 1)) = r) := Lib.hid (by rw [← hr.out, hd, if_neg hq])
        have ht : lfB f q.f = false := by unfold lfB; exact Pl.beq_of_ne hq
        have HT := Lib.hid (fun W => by have := feeds_tests W ⟨f, .slice u1 f.pre.length n5, .slice u2 f.post.length n6⟩ q; rw [ht] at this; exact this)
        clear hr hd hq ht
        go_wp2
        try rw [hW1]
        clear hW1
        go_quiet_grown ((go_at_call 31; refine Calls.grown_of (HT.out _)))
        go_wp2
        go_roundw
        case rel => exact ⟨k + 1, by omega, by go_num, HR, Lib.hid (HB1.out.trans ((grow_below _ _ _).mono HB1.out.size))⟩
        case measure => simp [RowKit.intOf]; omega
    · have HR : Hid (r = -1) := Lib.hid (by rw [← hr.out, List.drop_eq_nil_of_le (by rw [← HL.out, ← HM.out]; omega)]; rfl)
      clear hr
      go_wp2
      go_ret
      exact ⟨ret_int HR.out.symm, hb.out⟩
end Go.Proofs.YtfoenfipefhpoaaGreatDoor.Gr
/-
  The first flow that may be next, as the program finds it with its set of those that are listed. Conditions: the flows and the set lie in memory.
-/
namespace Go.Proofs.YtfoenfipefhpoaaGreatDoor.Gr
open Go.RowKit Go.Maps Go.Proofs.YtfoenfipefhpoaaGreatDoor.Ex Go.Proofs.YtfoenfipefhpoaaGreatDoor.Pl

theorem law3 : Keyed Tryz.prog 3 := int_keyed Tryz.underlying3
theorem zeroU (w : World) : (zeroValue 59).run Tryz.prog w = .ok (.agg #[]) w := by kernel_rfl
theorem wf_nat {k : Nat} (h : k ≤ maxLen) : (Lit.int .i64 (k : Int)).wf = true := by
  unfold maxLen at h
  have h1 : IntKind.i64.min = -9223372036854775808 := by decide
  have h2 : IntKind.i64.max = 9223372036854775807 := by decide
  show (decide (IntKind.i64.min ≤ (k : Int)) && decide ((k : Int) ≤ IntKind.i64.max)) = true
  rw [h1, h2, Bool.and_eq_true, decide_eq_true_eq, decide_eq_true_eq]
  omega
theorem key_nat {k : Nat} (h : k ≤ maxLen) : keyOf Tryz.prog 3 (.int .i64 (k : Int)) = some (.int .i64 (k : Int)) := keyOf_int_mk Tryz.underlying3 (wf_nat h)
theorem key_none : keyOf Tryz.prog 3 (.int .i64 (-1)) = some (.int .i64 (-1)) := keyOf_int_mk Tryz.underlying3 (by decide)
theorem ownsMap_below {P : Program} {k : TypeId} {R : Value → Option (DataW Unit × List MemPlace)} {w w' : World} {b n : Nat} {D : DataW Unit} (h : w.ownsMap P k R b n D) (hb : Below w.heap.size w w') : w'.ownsMap P k R b n D := by
  obtain ⟨es, clock, h0, r⟩ := h
  exact ⟨es, clock, (hb.block b (lt_of_heap h0)).trans h0, r⟩
set_option maxRecDepth 20000 in
set_option maxHeartbeats 4000000 in
theorem pfirst_at {w : World} {a : Option Addr} {m c : Nat} {es : List FE} {fs : List Flw} (hf : FlwsAt w (.slice a m c) es) (he : es.map FE.f = fs) {bm nn : Nat} {acc : List Nat} (hm : w.ownsMap Tryz.prog 3 unitElem bm nn (setI acc)) {R : Option Nat} (hR : pick (srcOf fs) fs.length acc = R) :
    Calls Tryz.prog 25 #[.slice a m c, .map (some bm)] w fun e w' => e = .returned (.int .i64 (oI R)) ∧ Below w.heap.size w w' := by
  have hl : es.length = fs.length := by rw [← he, List.length_map]
  obtain ⟨hme, -, k2, -⟩ := hf.1.len
  have hmf : m = fs.length := hme.trans hl
  have HK := Lib.hid k2
  unfold maxLen at k2
  have HR0 : Hid (pickGo (srcOf fs) acc (m - 0) 0 = R) := Lib.hid (by rw [Nat.sub_zero, pickGo_pick, hmf]; exact hR)
  have HF := Lib.hid hf
  have HE := Lib.hid he
  have HM := Lib.hid hmf
  have HW := Lib.hid hm
  have hh0 := has_none acc
  have hkey0 := key_none
  clear hf he hl hme hmf hm hR
  go_enter Tryz.func25, Tryz.ntmps25
  go_wp2
  go_loopw [13] (fun z wr => ∃ k : Nat, k ≤ m ∧ z = .int .i64 k ∧ Hid (pickGo (srcOf fs) acc (m - k) k = R) ∧ Hid (Below w.heap.size w wr)) (fun z _ => m - (RowKit.intOf z).toNat)
  case atStart => exact ⟨0, Nat.zero_le _, rfl, HR0, Lib.hid (Below.refl _ _)⟩
  case round =>
    clear HR0
    obtain ⟨k, hk, rfl, hp, hb⟩ := hrel
    by_cases hlt : k < m
    · have hd := hp.out
      rw [show m - k = (m - (k + 1)) + 1 by omega] at hd
      unfold pickGo at hd
      have hkf : k < fs.length := by rw [← HM.out]; exact hlt
      obtain ⟨tk, htk⟩ : ∃ tk, acc.contains k = tk := ⟨_, rfl⟩
      obtain ⟨s, hs⟩ : ∃ s, srcOf fs k = s := ⟨_, rfl⟩
      have hfr : free (srcOf fs) acc k = (!tk && mfree acc s) := by rw [free_eq, htk, hs]
      rw [hfr] at hd
      have hh : Maps.has (setI acc) (.int .i64 (k : Int)) = tk := by rw [has_nat, htk]
      have hkey : keyOf Tryz.prog 3 (.int .i64 (k : Int)) = some (.int .i64 (k : Int)) := key_nat (by have := HK.out; omega)
      have hown := ownsMap_below HW.out hb.out
      have hsm : ∀ j, s = some j → j < m := fun j e => by rw [HM.out]; exact srcOf_lt (hs.trans e)
      have HS : Hid (oI (srcOf fs k) = oI s) := Lib.hid (by rw [hs])
      obtain ⟨W1, hW1⟩ : ∃ W1, wr.alloc (.cells #[] 59) = W1 := ⟨_, rfl⟩
      have bw : Below wr.heap.size wr W1 := by rw [← hW1]; exact (Below.refl _ _).alloc (Nat.le_refl _) _
      have HB1 := Lib.hid (hb.out.trans (bw.mono hb.out.size))
      have HO1 := Lib.hid (ownsMap_below hown bw)
      have HF1 := Lib.hid (HF.out.grow HB1.out)
      clear hp hfr hs htk bw
      cases tk with
      | true =>
        have HD2 : Hid (pickGo (srcOf fs) acc (m - (k + 1)) (k + 1) = R) := Lib.hid (by rw [← hd]; rfl)
        clear hd hsm
        go_wp2_with (at_lookup; refine wpList_lookup_own_unit _ rfl _ _ 57 rfl 3 59 law3 Tryz.underlying57 (zeroU _) bm nn (setI acc) rfl hown _ _ rfl hkey ?_)
        go_roundw
        case rel => exact ⟨k + 1, by omega, by go_num, HD2, HB1⟩
        case measure => simp [RowKit.intOf]; omega
      | false =>
        cases s with
        | none =>
          have HD2 : Hid (R = some k) := Lib.hid (by rw [← hd]; rfl)
          clear hd hsm
          go_wp2_with (first
            | (at_lookup; refine wpList_lookup_own_unit _ rfl _ _ 57 rfl 3 59 law3 Tryz.underlying57 (zeroU _) bm nn (setI acc) rfl hown _ _ rfl hkey ?_)
            | (at_lookup; refine wpList_lookup_own_unit _ rfl _ _ 57 rfl 3 59 law3 Tryz.underlying57 (zeroU _) bm nn (setI acc) rfl HO2.out _ _ rfl hkey0 ?_)
            | (go_at_call 28; refine (psrc_at HF1.out HE.out hkf HS.out).mono ?_; rintro e w2 ⟨rfl, hb2⟩; have HB2 := Lib.hid (HB1.out.trans (hb2.mono HB1.out.size)); have HO2 := Lib.hid (ownsMap_below HO1.out hb2); clear hb2; dsimp only [oI]))
          go_ret
          exact ⟨ret_int (by rw [HD2.out]; rfl), HB2.out.trans (((Below.refl _ _).alloc (Nat.le_refl _) _).mono HB2.out.size)⟩
        | some s =>
          have hs2 := hsm s rfl
          obtain ⟨ts, hts⟩ : ∃ ts, acc.contains s = ts := ⟨_, rfl⟩
          have hh2 : Maps.has (setI acc) (.int .i64 (s : Int)) = ts := by rw [has_nat, hts]
          have hkey2 : keyOf Tryz.prog 3 (.int .i64 (s : Int)) = some (.int .i64 (s : Int)) := key_nat (by have := HK.out; omega)
          have e1 : ((s : Int) == -1) = false := ibne (by omega)
          simp only [mfree, hts] at hd
          cases ts with
          | true =>
            have HD2 : Hid (R = some k) := Lib.hid (by rw [← hd]; rfl)
            clear hd hsm hts
            go_wp2_with (first
              | (at_lookup; refine wpList_lookup_own_unit _ rfl _ _ 57 rfl 3 59 law3 Tryz.underlying57 (zeroU _) bm nn (setI acc) rfl hown _ _ rfl hkey ?_)
              | (at_lookup; refine wpList_lookup_own_unit _ rfl _ _ 57 rfl 3 59 law3 Tryz.underlying57 (zeroU _) bm nn (setI acc) rfl HO2.out _ _ rfl hkey2 ?_)
              | (go_at_call 28; refine (psrc_at HF1.out HE.out hkf HS.out).mono ?_; rintro e w2 ⟨rfl, hb2⟩; have HB2 := Lib.hid (HB1.out.trans (hb2.mono HB1.out.size)); have HO2 := Lib.hid (ownsMap_below HO1.out hb2); clear hb2; dsimp only [oI]))
            go_ret
            exact ⟨ret_int (by rw [HD2.out]; rfl), HB2.out.trans (((Below.refl _ _).alloc (Nat.le_refl _) _).mono HB2.out.size)⟩
          | false =>
            have HD2 : Hid (pickGo (srcOf fs) acc (m - (k + 1)) (k + 1) = R) := Lib.hid (by rw [← hd]; rfl)
            clear hd hsm hts
            go_wp2_with (first
              | (at_lookup; refine wpList_lookup_own_unit _ rfl _ _ 57 rfl 3 59 law3 Tryz.underlying57 (zeroU _) bm nn (setI acc) rfl hown _ _ rfl hkey ?_)
              | (at_lookup; refine wpList_lookup_own_unit _ rfl _ _ 57 rfl 3 59 law3 Tryz.underlying57 (zeroU _) bm nn (setI acc) rfl HO2.out _ _ rfl hkey2 ?_)
              | (go_at_call 28; refine (psrc_at HF1.out HE.out hkf HS.out).mono ?_; rintro e w2 ⟨rfl, hb2⟩; have HB2 := Lib.hid (HB1.out.trans (hb2.mono HB1.out.size)); have HO2 := Lib.hid (ownsMap_below HO1.out hb2); clear hb2; dsimp only [oI]))
            go_roundw
            case rel => exact ⟨k + 1, by omega, by go_num, HD2, Lib.hid (HB2.out.trans (((Below.refl _ _).alloc (Nat.le_refl _) _).mono HB2.out.size))⟩
            case measure => simp [RowKit.intOf]; omega
    · have HD2 : Hid (R = none) := Lib.hid (by
        have h1 := hp.out
        rw [show m - k = 0 by omega] at h1
        rw [← h1]; rfl)
      clear hp
      go_wp2
      go_ret
      exact ⟨ret_int (by rw [HD2.out]; rfl), hb.out⟩
end Go.Proofs.YtfoenfipefhpoaaGreatDoor.Gr
/-
  The library's functions that the program calls (strings.Clone, maps.Keys, slices.Sorted at int keys) are those of which the library's contracts speak. Conditions: none.
-/
namespace Go.Proofs
open Go.Shelf
def Tryz.laysM316_ren : Go.Shelf.Ren := ⟨fun | 316 => 41 | n => n, fun | 9 => 9 | 3 => 3 | 4 => 4 | 37 => 74 | 0 => 0 | 127 => 92 | 5 => 5 | n => n, fun | n => n⟩
theorem Tryz.laysM316 : Go.Proofs.LaysM.n316 Tryz.prog Tryz.laysM316_ren := {
  mixed := by kernel_rfl
  f316 := Tryz.func41.trans (congrArg some (by kernel_rfl))
  t0 := Tryz.underlying0
  a0 := Tryz.isAgg0
  z0 := Tryz.sizeOf0
  v0 := Tryz.zeroValue0
  t3 := Tryz.underlying3
  a3 := Tryz.isAgg3
  z3 := Tryz.sizeOf3
  v3 := Tryz.zeroValue3
  t4 := Tryz.underlying4
  a4 := Tryz.isAgg4
  z4 := Tryz.sizeOf4
  v4 := Tryz.zeroValue4
  t9 := Tryz.underlying9
  a9 := Tryz.isAgg9
  z9 := Tryz.sizeOf9
  v9 := Tryz.zeroValue9
  t37 := Tryz.underlying74
  a37 := Tryz.isAgg74
  z37 := Tryz.sizeOf74
  v37 := Tryz.zeroValue74
  t127 := Tryz.underlying92
  a127 := Tryz.isAgg92
  z127 := Tryz.sizeOf92
  v127 := Tryz.zeroValue92
  t5 := Tryz.underlying5
  a5 := Tryz.isAgg5
  z5 := Tryz.sizeOf5
  v5 := Tryz.zeroValue5
  i0 := by kernel_rfl
  i3 := by kernel_rfl
  i4 := by kernel_rfl
  i5 := by kernel_rfl
  i9 := by kernel_rfl
  i37 := by kernel_rfl
  i127 := by kernel_rfl }
def Tryz.keysI_ren : Go.Shelf.Ren := ⟨fun | 7 => 40 | 10 => 56 | n => n, fun | 23 => 57 | 26 => 3 | 3 => 59 | 28 => 78 | 0 => 0 | 27 => 77 | 33 => 91 | 4 => 4 | n => n, fun | n => n⟩
theorem Tryz.keysI : Go.Proofs.SlLaysZI.n7 Tryz.prog Tryz.keysI_ren := {
  mixed := by kernel_rfl
  f7 := ⟨Tryz.f40.name, by decide, Tryz.func40.trans (congrArg some (by kernel_rfl))⟩
  f10 := ⟨Tryz.f56.name, by decide, Tryz.func56.trans (congrArg some (by kernel_rfl))⟩
  t0 := Tryz.underlying0
  a0 := Tryz.isAgg0
  z0 := Tryz.sizeOf0
  v0 := Tryz.zeroValue0
  t4 := Tryz.underlying4
  a4 := Tryz.isAgg4
  z4 := Tryz.sizeOf4
  v4 := Tryz.zeroValue4
  t23 := Tryz.underlying57
  a23 := Tryz.isAgg57
  z23 := Tryz.sizeOf57
  v23 := Tryz.zeroValue57
  t26 := Tryz.underlying3
  a26 := Tryz.isAgg3
  z26 := Tryz.sizeOf3
  v26 := Tryz.zeroValue3
  t27 := Tryz.underlying77
  a27 := Tryz.isAgg77
  z27 := Tryz.sizeOf77
  v27 := Tryz.zeroValue77
  t28 := Tryz.underlying78
  a28 := Tryz.isAgg78
  z28 := Tryz.sizeOf78
  v28 := Tryz.zeroValue78
  t33 := Tryz.underlying91
  a33 := Tryz.isAgg91
  z33 := Tryz.sizeOf91
  v33 := Tryz.zeroValue91 }
def Tryz.sortedI_ren : Go.Shelf.Ren := ⟨fun | 6 => 39 | 8 => 54 | 9 => 55 | 11 => 66 | 13 => 68 | 12 => 67 | 23 => 84 | 24 => 85 | 14 => 75 | 15 => 76 | 16 => 77 | 17 => 78 | 18 => 79 | 19 => 80 | 20 => 81 | 21 => 82 | 22 => 83 | 25 => 91 | 26 => 92 | 27 => 93 | 28 => 94 | 29 => 95 | 30 => 96 | 31 => 101 | n => n, fun | 26 => 3 | 28 => 78 | 24 => 30 | 0 => 0 | 3 => 3 | 37 => 107 | 48 => 125 | 50 => 127 | 4 => 4 | 40 => 117 | 39 => 116 | 45 => 122 | 5 => 5 | 9 => 9 | 51 => 137 | 55 => 141 | 57 => 152 | 58 => 143 | 33 => 91 | n => n, fun | n => n⟩
theorem Tryz.sortedI : Go.Proofs.SlLaysZI.n6 Tryz.prog Tryz.sortedI_ren := {
  mixed := by kernel_rfl
  f6 := ⟨Tryz.f39.name, by decide, Tryz.func39.trans (congrArg some (by kernel_rfl))⟩
  f8 := ⟨Tryz.f54.name, by decide, Tryz.func54.trans (congrArg some (by kernel_rfl))⟩
  f11 := ⟨Tryz.f66.name, by decide, Tryz.func66.trans (congrArg some (by kernel_rfl))⟩
  t0 := Tryz.underlying0
  a0 := Tryz.isAgg0
  z0 := Tryz.sizeOf0
  v0 := Tryz.zeroValue0
  t24 := Tryz.underlying30
  a24 := Tryz.isAgg30
  z24 := Tryz.sizeOf30
  v24 := Tryz.zeroValue30
  t26 := Tryz.underlying3
  a26 := Tryz.isAgg3
  z26 := Tryz.sizeOf3
  v26 := Tryz.zeroValue3
  t28 := Tryz.underlying78
  a28 := Tryz.isAgg78
  z28 := Tryz.sizeOf78
  v28 := Tryz.zeroValue78
  i26 := by kernel_rfl }
def Tryz.sortI_ren : Go.Shelf.Ren := ⟨fun | 5 => 55 | 8 => 68 | 7 => 67 | 19 => 84 | 20 => 85 | 10 => 75 | 11 => 76 | 12 => 77 | 13 => 78 | 14 => 79 | 15 => 80 | 16 => 81 | 17 => 82 | 18 => 83 | 30 => 91 | 31 => 92 | 32 => 93 | 33 => 94 | 34 => 95 | 35 => 96 | 40 => 101 | n => n, fun | 23 => 30 | 25 => 3 | 3 => 3 | 32 => 107 | 22 => 30 | 0 => 0 | 44 => 125 | 46 => 127 | 4 => 4 | 36 => 117 | 35 => 116 | 41 => 122 | 5 => 5 | 9 => 9 | 53 => 137 | 57 => 141 | 63 => 152 | 64 => 143 | n => n, fun | n => n⟩
theorem Tryz.sortI : Go.Proofs.SlLaysM.n5 Tryz.prog Tryz.sortI_ren := {
  mixed := by kernel_rfl
  f5 := ⟨Tryz.f55.name, by decide, Tryz.func55.trans (congrArg some (by kernel_rfl))⟩
  f7 := ⟨Tryz.f67.name, by decide, Tryz.func67.trans (congrArg some (by kernel_rfl))⟩
  f8 := Tryz.func68.trans (congrArg some (by kernel_rfl))
  f10 := ⟨Tryz.f75.name, by decide, Tryz.func75.trans (congrArg some (by kernel_rfl))⟩
  f11 := ⟨Tryz.f76.name, by decide, Tryz.func76.trans (congrArg some (by kernel_rfl))⟩
  f12 := ⟨Tryz.f77.name, by decide, Tryz.func77.trans (congrArg some (by kernel_rfl))⟩
  f13 := ⟨Tryz.f78.name, by decide, Tryz.func78.trans (congrArg some (by kernel_rfl))⟩
  f14 := ⟨Tryz.f79.name, by decide, Tryz.func79.trans (congrArg some (by kernel_rfl))⟩
  f15 := ⟨Tryz.f80.name, by decide, Tryz.func80.trans (congrArg some (by kernel_rfl))⟩
  f16 := ⟨Tryz.f81.name, by decide, Tryz.func81.trans (congrArg some (by kernel_rfl))⟩
  f17 := ⟨Tryz.f82.name, by decide, Tryz.func82.trans (congrArg some (by kernel_rfl))⟩
  f18 := ⟨Tryz.f83.name, by decide, Tryz.func83.trans (congrArg some (by kernel_rfl))⟩
  f19 := Tryz.func84.trans (congrArg some (by kernel_rfl))
  f20 := Tryz.func85.trans (congrArg some (by kernel_rfl))
  f30 := ⟨Tryz.f91.name, by decide, Tryz.func91.trans (congrArg some (by kernel_rfl))⟩
  f31 := Tryz.func92.trans (congrArg some (by kernel_rfl))
  f32 := Tryz.func93.trans (congrArg some (by kernel_rfl))
  f33 := ⟨Tryz.f94.name, by decide, Tryz.func94.trans (congrArg some (by kernel_rfl))⟩
  f34 := ⟨Tryz.f95.name, by decide, Tryz.func95.trans (congrArg some (by kernel_rfl))⟩
  f35 := ⟨Tryz.f96.name, by decide, Tryz.func96.trans (congrArg some (by kernel_rfl))⟩
  f40 := ⟨Tryz.f101.name, by decide, Tryz.func101.trans (congrArg some (by kernel_rfl))⟩
  t0 := Tryz.underlying0
  a0 := Tryz.isAgg0
  z0 := Tryz.sizeOf0
  v0 := Tryz.zeroValue0
  t3 := Tryz.underlying3
  a3 := Tryz.isAgg3
  z3 := Tryz.sizeOf3
  v3 := Tryz.zeroValue3
  t4 := Tryz.underlying4
  a4 := Tryz.isAgg4
  z4 := Tryz.sizeOf4
  v4 := Tryz.zeroValue4
  t5 := Tryz.underlying5
  a5 := Tryz.isAgg5
  z5 := Tryz.sizeOf5
  v5 := Tryz.zeroValue5
  t9 := Tryz.underlying9
  a9 := Tryz.isAgg9
  z9 := Tryz.sizeOf9
  v9 := Tryz.zeroValue9
  t22 := Tryz.underlying30
  a22 := Tryz.isAgg30
  z22 := Tryz.sizeOf30
  v22 := Tryz.zeroValue30
  t23 := Tryz.underlying30
  a23 := Tryz.isAgg30
  z23 := Tryz.sizeOf30
  v23 := Tryz.zeroValue30
  t25 := Tryz.underlying3
  a25 := Tryz.isAgg3
  z25 := Tryz.sizeOf3
  v25 := Tryz.zeroValue3
  t32 := Tryz.underlying107
  a32 := Tryz.isAgg107
  z32 := Tryz.sizeOf107
  v32 := Tryz.zeroValue107
  t35 := Tryz.underlying116
  a35 := Tryz.isAgg116
  z35 := Tryz.sizeOf116
  v35 := Tryz.zeroValue116
  t36 := Tryz.underlying117
  a36 := Tryz.isAgg117
  z36 := Tryz.sizeOf117
  v36 := Tryz.zeroValue117
  t41 := Tryz.underlying122
  a41 := Tryz.isAgg122
  z41 := Tryz.sizeOf122
  v41 := Tryz.zeroValue122
  t44 := Tryz.underlying125
  a44 := Tryz.isAgg125
  z44 := Tryz.sizeOf125
  v44 := Tryz.zeroValue125
  t46 := Tryz.underlying127
  a46 := Tryz.isAgg127
  z46 := Tryz.sizeOf127
  v46 := Tryz.zeroValue127
  t53 := Tryz.underlying137
  a53 := Tryz.isAgg137
  z53 := Tryz.sizeOf137
  v53 := Tryz.zeroValue137
  t57 := Tryz.underlying141
  a57 := Tryz.isAgg141
  z57 := Tryz.sizeOf141
  v57 := Tryz.zeroValue141
  t63 := Tryz.underlying152
  a63 := Tryz.isAgg152
  z63 := Tryz.sizeOf152
  v63 := Tryz.zeroValue152
  t64 := Tryz.underlying143
  a64 := Tryz.isAgg143
  z64 := Tryz.sizeOf143
  v64 := Tryz.zeroValue143 }
end Go.Proofs
/-
  The search: slices.Sorted over a set's keys, the closure that calls itself, the flows that it reaches. Conditions: the flows lie in memory.
-/
namespace Go.Proofs.YtfoenfipefhpoaaGreatDoor.Gr
open Go.RowKit Go.Maps Go.Shelf Go.Proofs.YtfoenfipefhpoaaGreatDoor.Ex Go.Proofs.YtfoenfipefhpoaaGreatDoor.Pl
open Go.Sort (grow)

/-! ### The keys, sorted -/
theorem sortsI (m : Nat) : AnyZI.SortsIn Tryz.prog Tryz.sortedI_ren Fence.wide m :=
  ⟨fun blk off cap ss W hH hblk hsz => callsIn_wide.2 (AnyM.slices_Sort_int Tryz.sortI blk off cap ss W hH hblk hsz),
   fun p cap W => callsIn_wide.2 (AnyM.slices_Sort_int_none Tryz.sortI p cap W)⟩
theorem pkeys_at (mb : Option Nat) (W : World) : Calls Tryz.prog 40 #[.map mb] W fun e w' => e = .returned (.func (.func 56) #[] #[.pointer (some ⟨W.heap.size, 0, none⟩)]) ∧ w' = W.alloc (.cells #[.map mb] 57) :=
  (callsIn_wide (n := 5)).1 (AnyZI.keys_in Tryz.keysI Fence.wide 5 trivial rfl mb W)
theorem psorted_at {W : World} {b nn : Nat} {D0 : DataW Unit} (hown : W.ownsMap Tryz.prog 3 unitElem b nn D0) (hmax : Maps.size D0 ≤ maxLen) (hbytes : Maps.size D0 * 8 ≤ 140737488355328) :
    Calls Tryz.prog 39 #[.func (.func 56) #[] #[.pointer (some ⟨W.heap.size, 0, none⟩)]] (W.alloc (.cells #[.map (some b)] 57)) fun e w' => ∃ (v : Value) (ss : List Int), e = .returned v ∧ ss.Perm (intKeys D0) ∧
      w'.ownsRow (W.heap.size + 1) 3 1 v ss.length ((ss.mergeSort (fun x y => decide (x ≤ y))).map encZ) ∧ Below (W.heap.size + 1) (W.alloc (.cells #[.map (some b)] 57)) w' := by
  have hbl := hown.lt
  have hseq : SeqGives Fence.wide 2 Tryz.prog 56 #[.pointer (some ⟨W.heap.size, 0, none⟩)] encZ (fun ss => ss.Perm (intKeys D0)) (Maps.size D0) (W.alloc (.cells #[.map (some b)] 57)) :=
    AnyZI.keys_gives (ρ := Tryz.keysI_ren) { Tryz.keysI with } Fence.wide _ trivial rfl (by omega) W.heap.size b nn D0 _ (by simp) (by simp) (by
      obtain ⟨es, clock, hb, Ft, hs, hD⟩ := hown
      exact ⟨es, clock, (Below.heap_alloc _ _ b hbl).trans hb, Ft, hs, hD⟩)
  have cS := AnyZI.sorted_in Tryz.sortedI Fence.wide 5 trivial trivial trivial trivial rfl (by omega) (sortsI _) (enters_of Tryz.func55 (by kernel_rfl) rfl) 56 #[.pointer (some ⟨W.heap.size, 0, none⟩)] trivial (enters_of Tryz.func56 (by kernel_rfl) rfl) _ _ hmax hbytes _ hseq
  refine ((callsIn_wide (n := 5)).1 cS).mono ?_
  rintro e w' ⟨v, ss, rfl, hS, hrow, -, hb⟩
  rw [World.size_alloc] at hrow hb
  exact ⟨v, ss, rfl, hS, hrow, hb⟩
theorem keys_perm {w : World} {b n : Nat} {acc : List Nat} (hown : w.ownsMap Tryz.prog 3 unitElem b n (setI acc)) (hnd : acc.Nodup) : (acc.map fun (k : Nat) => (k : Int)).Perm (intKeys (setI acc)) := by
  refine CollectedI.perm (left := fun _ => false) ⟨?_, fun x => ?_⟩ hown law3 Tryz.underlying3 (fun _ => rfl)
  · exact List.pairwise_map.2 (hnd.imp (fun h e => h (by omega)))
  · rw [has_setI, List.mem_map, List.any_eq_true]
    simp
theorem ics_map (L : List Nat) : ics L = (L.map fun (k : Nat) => (k : Int)).map encZ := by
  induction L with
  | nil => rfl
  | cons a r ih => show [Value.int .i64 (a : Int)] ++ ics r = _; rw [ih]; rfl
/-- The set's keys, sorted: the list of those who are met. -/
theorem sorted_eq {acc L : List Nat} {ss : List Int} (hs : ss.Perm (acc.map fun (k : Nat) => (k : Int))) (ha : acc.Nodup) (hL : L.Pairwise (· < ·)) (hm : ∀ x, x ∈ acc ↔ x ∈ L) :
    ss.length = L.length ∧ (ss.mergeSort (fun x y => decide (x ≤ y))).map encZ = ics L := by
  have hp : acc.Perm L := (List.perm_ext_iff_of_nodup ha (hL.imp (fun h => Nat.ne_of_lt h))).2 hm
  have hq : ss.Perm (L.map fun (k : Nat) => (k : Int)) := hs.trans (hp.map _)
  refine ⟨by rw [hq.length_eq, List.length_map], ?_⟩
  have h1 := mergeSort_of_perm_i hq
  have h2 : (L.map fun (k : Nat) => (k : Int)).mergeSort leI = L.map fun (k : Nat) => (k : Int) := List.mergeSort_of_pairwise (List.pairwise_map.2 (hL.imp (fun h => by simp only [leI, decide_eq_true_eq]; omega)))
  rw [ics_map, ← h2, ← h1]

/-! ### The closure -/
/-- What the closure has captured, in memory. -/
structure SV (w0 w : World) (bf bv bl bi bm g : Nat) (fl : Value) (acc : List Nat) : Prop where
  f : w.heap[bf]? = some (.cells #[fl] 23 (0, 0))
  v : w.heap[bv]? = some (.cells #[.map (some bm)] 57 (0, 0))
  l : w.heap[bl]? = some (.cells #[.func (.func g) #[] #[]] 64 (0, 0))
  i : w.heap[bi]? = some (.cells #[.func (.func 38) #[] #[.pointer (some ⟨bf, 0, none⟩), .pointer (some ⟨bv, 0, none⟩), .pointer (some ⟨bl, 0, none⟩), .pointer (some ⟨bi, 0, none⟩)]] 75 (0, 0))
  m : w.ownsMap Tryz.prog 3 unitElem bm acc.length (setI acc)
  low : w0.heap.size ≤ bm
  bel : Below w0.heap.size w0 w
theorem SV.ne {w0 w : World} {bf bv bl bi bm g : Nat} {fl : Value} {acc : List Nat} (h : SV w0 w bf bv bl bi bm g fl acc) : bf ≠ bm ∧ bv ≠ bm ∧ bl ≠ bm ∧ bi ≠ bm := by
  obtain ⟨es, clock, hb, -⟩ := h.m
  refine ⟨?_, ?_, ?_, ?_⟩
  · intro e; have := h.f; rw [e, hb] at this; cases this
  · intro e; have := h.v; rw [e, hb] at this; cases this
  · intro e; have := h.l; rw [e, hb] at this; cases this
  · intro e; have := h.i; rw [e, hb] at this; cases this
theorem SV.grow {w0 w w' : World} {bf bv bl bi bm g : Nat} {fl : Value} {acc : List Nat} (h : SV w0 w bf bv bl bi bm g fl acc) (hb : Below w.heap.size w w') : SV w0 w' bf bv bl bi bm g fl acc :=
  ⟨(hb.block _ (lt_of_heap h.f)).trans h.f, (hb.block _ (lt_of_heap h.v)).trans h.v, (hb.block _ (lt_of_heap h.l)).trans h.l, (hb.block _ (lt_of_heap h.i)).trans h.i, ownsMap_below h.m hb, h.low, h.bel.trans (hb.mono h.bel.size)⟩
theorem SV.put {w0 w w' : World} {bf bv bl bi bm g : Nat} {fl : Value} {acc : List Nat} (h : SV w0 w bf bv bl bi bm g fl acc) {k : Nat} (hg : w.grownBy w' (some bm)) (ho : w'.ownsMap Tryz.prog 3 unitElem bm (acc.length + 1) ((setI acc).put (.int .i64 (k : Int)) (.agg []))) : SV w0 w' bf bv bl bi bm g fl (acc ++ [k]) := by
  obtain ⟨n1, n2, n3, n4⟩ := h.ne
  have hk : ∀ {b : Nat} {o : Obj}, b ≠ bm → w.heap[b]? = some o → w'.heap[b]? = some o := fun hn e => (hg.block _ (lt_of_heap e) (fun e2 => hn (Option.some.inj e2))).trans e
  exact ⟨hk n1 h.f, hk n2 h.v, hk n3 h.l, hk n4 h.i, by rw [setI_snoc, List.length_append]; exact ho, h.low, h.bel.grown hg h.bel.size (fun j e => by cases e; exact h.low)⟩
theorem SV.cells {w0 w : World} {bf bv bl bi bm g : Nat} {fl : Value} {acc : List Nat} (h : SV w0 w bf bv bl bi bm g fl acc) : w.cell? ⟨bf, 0, none⟩ = some fl ∧ w.cell? ⟨bv, 0, none⟩ = some (.map (some bm)) ∧ w.cell? ⟨bl, 0, none⟩ = some (.func (.func g) #[] #[]) ∧
    w.cell? ⟨bi, 0, none⟩ = some (.func (.func 38) #[] #[.pointer (some ⟨bf, 0, none⟩), .pointer (some ⟨bv, 0, none⟩), .pointer (some ⟨bl, 0, none⟩), .pointer (some ⟨bi, 0, none⟩)]) := by
  refine ⟨?_, ?_, ?_, ?_⟩
  · rw [cell_of_heap h.f]; rfl
  · rw [cell_of_heap h.v]; rfl
  · rw [cell_of_heap h.l]; rfl
  · rw [cell_of_heap h.i]; rfl
set_option maxRecDepth 20000 in
set_option maxHeartbeats 8000000 in
theorem pvisit_at {w0 : World} {bf bv bl bi bm g : Nat} {a : Option Addr} {m c : Nat} {es : List FE} {fs : List Flw} {lf : Flw → Flw → Bool} (hf : FlwsAt w0 (.slice a m c) es) (he : es.map FE.f = fs) (hs : fs.length ≤ 100)
    (eg : ∀ args w, (callFunc g args).run Tryz.prog w = .ok (.enter g args) w) (ht : Tests g lf) : ∀ (t i : Nat) (acc : List Nat) (w : World), fs.length - acc.length = t → i < fs.length → Good fs.length acc → SV w0 w bf bv bl bi bm g (.slice a m c) acc →
    Calls Tryz.prog 38 #[.int .i64 i, .pointer (some ⟨bf, 0, none⟩), .pointer (some ⟨bv, 0, none⟩), .pointer (some ⟨bl, 0, none⟩), .pointer (some ⟨bi, 0, none⟩)] w fun e w' => e = .returned (.tuple #[]) ∧ ∃ acc', Vis (ldOf lf fs) fs.length i fs.length acc acc' ∧ SV w0 w' bf bv bl bi bm g (.slice a m c) acc' := by
  intro t
  induction t using Nat.strongRecOn with
  | ind t ih =>
  intro i acc w htt hi hgd hsv
  have IH : Hid (∀ (i2 : Nat) (acc2 : List Nat) (w2 : World), fs.length - acc2.length < t → i2 < fs.length → Good fs.length acc2 → SV w0 w2 bf bv bl bi bm g (.slice a m c) acc2 →
    Calls Tryz.prog 38 #[.int .i64 i2, .pointer (some ⟨bf, 0, none⟩), .pointer (some ⟨bv, 0, none⟩), .pointer (some ⟨bl, 0, none⟩), .pointer (some ⟨bi, 0, none⟩)] w2 fun e w' => e = .returned (.tuple #[]) ∧ ∃ acc', Vis (ldOf lf fs) fs.length i2 fs.length acc2 acc' ∧ SV w0 w' bf bv bl bi bm g (.slice a m c) acc') :=
    Lib.hid (fun i2 acc2 w2 h1 h2 h3 h4 => ih _ h1 i2 acc2 w2 rfl h2 h3 h4)
  clear ih
  have hl : es.length = fs.length := by rw [← he, List.length_map]
  obtain ⟨hme, -, k2, -⟩ := hf.1.len
  have hmf : m = fs.length := hme.trans hl
  have hm100 : m ≤ 100 := by omega
  have him : i < m := by omega
  have hie : i < es.length := by omega
  have hfi : fs[i] = es[i].f := by simp [← he]
  obtain ⟨b, o, e0, hbl, ci⟩ := hf.1.at_ hie
  subst e0
  have hld : ∀ k, k < fs.length → ∀ (hk : k < es.length), ldOf lf fs i k = lf es[i].f es[k].f := fun k h1 h2 => by rw [ldOf_at lf hi h1, hfi]; simp [← he]
  generalize es[i] = q at hld ci
  have g0 : (0 : Int) ≤ (i : Int) := by omega
  have g1 : (i : Int) < (m : Int) := by omega
  obtain ⟨x0, x1, x2, x3⟩ := hsv.cells
  have HF := Lib.hid hf
  have HL := Lib.hid hl
  have HM := Lib.hid hmf
  have HC := Lib.hid ci
  have HLD := Lib.hid hld
  have HT := Lib.hid ht
  have HG := Lib.hid hgd
  have HS := Lib.hid hsv
  have HTT := Lib.hid htt
  have hmix := mixed_at
  clear hf he hl hme hmf ci hld ht hgd hsv htt hi hie hfi k2
  go_enter Tryz.func38, Tryz.ntmps38
  go_wp2
  go_loopw [11] (fun z wr => ∃ (k : Nat) (acc' : List Nat), k ≤ m ∧ z = .int .i64 k ∧ Hid (Vis (ldOf lf fs) fs.length i k acc acc') ∧ Hid (SV w0 wr bf bv bl bi bm g (.slice (some ⟨b, o, none⟩) m c) acc')) (fun z _ => m - (RowKit.intOf z).toNat)
  case atStart => exact ⟨0, acc, Nat.zero_le _, rfl, Lib.hid (Vis.start HG.out), HS⟩
  case round =>
    clear x0 x1 x2 x3 HS
    obtain ⟨k, acc', hk, rfl, hv, hsv⟩ := hrel
    by_cases hlt : k < m
    · have hkf : k < fs.length := by rw [← HM.out]; exact hlt
      have hke : k < es.length := by rw [HL.out]; exact hkf
      have hown := hsv.out.m
      obtain ⟨x0, x1, x2, x3⟩ := hsv.out.cells
      obtain ⟨vk, hvk⟩ : ∃ vk, acc'.contains k = vk := ⟨_, rfl⟩
      have hh : Maps.has (setI acc') (.int .i64 (k : Int)) = vk := by rw [has_nat, hvk]
      have hkey : keyOf Tryz.prog 3 (.int .i64 (k : Int)) = some (.int .i64 (k : Int)) := key_nat (by unfold maxLen; omega)
      obtain ⟨W1, hW1⟩ : ∃ W1, wr.alloc (.cells #[] 59) = W1 := ⟨_, rfl⟩
      have bw : Below wr.heap.size wr W1 := by rw [← hW1]; exact (Below.refl _ _).alloc (Nat.le_refl _) _
      have hsv1 := hsv.out.grow bw
      have HS1 := Lib.hid hsv1
      have hld := HLD.out k hkf hke
      obtain ⟨b', o', e', hbl', ck⟩ := HF.out.1.at_ hke
      injection e' with e'
      injection e' with e1 e2
      subst e1 e2
      have f0 : (0 : Int) ≤ (k : Int) := by omega
      have f1 : (k : Int) < (m : Int) := by omega
      generalize es[k] = x at hld ck
      cases vk with
      | true =>
        have HV : Hid (Vis (ldOf lf fs) fs.length i (k + 1) acc acc') := Lib.hid (hv.out.skip (fun _ => by rw [← List.contains_iff_mem]; exact hvk))
        clear hv hld ck hvk hsv1 bw
        go_wp2_with (at_lookup; refine wpList_lookup_own_unit _ rfl _ _ 57 rfl 3 59 law3 Tryz.underlying57 (zeroU _) bm acc'.length (setI acc') rfl hown _ _ rfl hkey ?_)
        try rw [hW1]
        clear hW1
        refine wp_region_quiet_grown hmix (by kernel_rfl) ?_
        repeat (go_big_quiet_step (fail))
        refine wpQuiet_nil ?_
        intro _ hw'
        obtain ⟨⟨nq, osq⟩, hw''⟩ := hw'
        subst hw''
        go_wp2
        go_roundw
        case rel => exact ⟨k + 1, acc', by omega, by go_num, HV, Lib.hid (HS1.out.grow (grow_below _ _ _))⟩
        case measure => simp [RowKit.intOf]; omega
      | false =>
        have hn : k ∉ acc' := by rw [← List.contains_iff_mem, hvk]; simp
        have hb1 : b < W1.heap.size := Nat.lt_of_lt_of_le hbl hsv1.bel.size
        have ci1 : ∀ j u, (flwC q)[j]? = some u → W1.cell? ⟨b, o + i * 12 + j, none⟩ = some u := fun j u hj => by
          rw [hsv1.bel.cell (p := ⟨b, _, none⟩) hbl]; exact HC.out j u hj
        have ck1 : ∀ j u, (flwC x)[j]? = some u → W1.cell? ⟨b, o + k * 12 + j, none⟩ = some u := fun j u hj => by
          rw [hsv1.bel.cell (p := ⟨b, _, none⟩) hbl]; exact ck j u hj
        have a0 := flw_grown hb1 ci1 0 _ rfl; have a1 := flw_grown hb1 ci1 1 _ rfl; have a2 := flw_grown hb1 ci1 2 _ rfl; have a3 := flw_grown hb1 ci1 3 _ rfl; have a4 := flw_grown hb1 ci1 4 _ rfl; have a5 := flw_grown hb1 ci1 5 _ rfl; have a6 := flw_grown hb1 ci1 6 _ rfl; have a7 := flw_grown hb1 ci1 7 _ rfl; have a8 := flw_grown hb1 ci1 8 _ rfl; have a9 := flw_grown hb1 ci1 9 _ rfl; have a10 := flw_grown hb1 ci1 10 _ rfl; have a11 := flw_grown hb1 ci1 11 _ rfl
        have d0 := flw_grown hb1 ck1 0 _ rfl; have d1 := flw_grown hb1 ck1 1 _ rfl; have d2 := flw_grown hb1 ck1 2 _ rfl; have d3 := flw_grown hb1 ck1 3 _ rfl; have d4 := flw_grown hb1 ck1 4 _ rfl; have d5 := flw_grown hb1 ck1 5 _ rfl; have d6 := flw_grown hb1 ck1 6 _ rfl; have d7 := flw_grown hb1 ck1 7 _ rfl; have d8 := flw_grown hb1 ck1 8 _ rfl; have d9 := flw_grown hb1 ck1 9 _ rfl; have d10 := flw_grown hb1 ck1 10 _ rfl; have d11 := flw_grown hb1 ck1 11 _ rfl
        rw [Nat.add_zero] at a0 d0
        have y0 : ∀ n os, (grow (W1.drewN n) os).cell? ⟨bf, 0, none⟩ = some (.slice (some ⟨b, o, none⟩) m c) := fun n os => cell_grown (lt_of_heap hsv1.f) hsv1.cells.1 n os
        have y2 : ∀ n os, (grow (W1.drewN n) os).cell? ⟨bl, 0, none⟩ = some (.func (.func g) #[] #[]) := fun n os => cell_grown (lt_of_heap hsv1.l) hsv1.cells.2.2.1 n os
        clear ci1 ck1 ck hvk hsv1 bw hb1
        cases hlx : lf q.f x.f with
        | false =>
          have HV : Hid (Vis (ldOf lf fs) fs.length i (k + 1) acc acc') := Lib.hid (hv.out.skip (fun h => by rw [hld, hlx] at h; cases h))
          have HX := Lib.hid (fun W => by have := HT.out W q x; rw [hlx] at this; exact this)
          clear hv hld hlx hn
          go_wp2_with (at_lookup; refine wpList_lookup_own_unit _ rfl _ _ 57 rfl 3 59 law3 Tryz.underlying57 (zeroU _) bm acc'.length (setI acc') rfl hown _ _ rfl hkey ?_)
          try rw [hW1]
          clear hW1
          refine wp_region_quiet_grown hmix (by kernel_rfl) ?_
          repeat (go_big_quiet_step ((go_at_fn g; refine Calls.grown_of (HX.out _))))
          refine wpQuiet_nil ?_
          intro _ hw'
          obtain ⟨⟨nq, osq⟩, hw''⟩ := hw'
          subst hw''
          go_wp2
          go_roundw
          case rel => exact ⟨k + 1, acc', by omega, by go_num, HV, Lib.hid (HS1.out.grow (grow_below _ _ _))⟩
          case measure => simp [RowKit.intOf]; omega
        | true =>
          have HX := Lib.hid (fun W => by have := HT.out W q x; rw [hlx] at this; exact this)
          have HLK : Hid (ldOf lf fs i k = true) := Lib.hid (by rw [hld, hlx])
          have hgs : Good fs.length (acc' ++ [k]) := hv.out.good.snoc hkf hn
          have hlen : fs.length - (acc' ++ [k]).length < t := by
            have h1 := hgs.len
            have h2 := hv.out.len
            have h3 := HTT.out
            rw [List.length_append, List.length_singleton] at h1 ⊢
            omega
          have HGS := Lib.hid hgs
          have HLEN := Lib.hid hlen
          clear hld hlx hn hgs hlen
          go_wp2_with (at_lookup; refine wpList_lookup_own_unit _ rfl _ _ 57 rfl 3 59 law3 Tryz.underlying57 (zeroU _) bm acc'.length (setI acc') rfl hown _ _ rfl hkey ?_)
          try rw [hW1]
          clear hW1
          refine wp_region_quiet_grown hmix (by kernel_rfl) ?_
          repeat (go_big_quiet_step ((go_at_fn g; refine Calls.grown_of (HX.out _))))
          refine wpQuiet_nil ?_
          intro _ hw'
          obtain ⟨⟨nq, osq⟩, hw''⟩ := hw'
          subst hw''
          obtain ⟨W2, hW2⟩ : ∃ W2, grow (W1.drewN nq) osq = W2 := ⟨_, rfl⟩
          rw [hW2]
          have hsv2 : SV w0 W2 bf bv bl bi bm g (.slice (some ⟨b, o, none⟩) m c) acc' := by rw [← hW2]; exact HS1.out.grow (grow_below _ _ _)
          obtain ⟨z0, z1, z2, z3⟩ := hsv2.cells
          have HS2 := Lib.hid hsv2
          have hla : acc'.length ≤ 100 := by have := HGS.out.len; rw [List.length_append, List.length_singleton] at this; have := HM.out; omega
          clear hsv2 hW2 a0 a1 a2 a3 a4 a5 a6 a7 a8 a9 a10 a11 d0 d1 d2 d3 d4 d5 d6 d7 d8 d9 d10 d11 y0 y2 x0 x1 x2 x3
          go_wp2_with (first
            | (at_mapUpdate; refine wpList_mapUpdate_own _ rfl _ _ _ 57 rfl 3 59 law3 Tryz.underlying57 (unitElem (H := Unit)) bm acc'.length _ rfl HS2.out.m (by unfold maxLen; omega) _ _ _ rfl rfl hkey _ [] unitElem_mk ?_; intro w3 hown3 hgrow3; have HS3 := Lib.hid (HS2.out.put hgrow3 hown3); have v3 := HS3.out.cells.2.2.2; clear hown3 hgrow3)
            | (go_at_call 38; refine (IH.out _ _ _ HLEN.out hkf HGS.out HS3.out).mono ?_; rintro e w4 ⟨rfl, acc'', hv4, hs4⟩; have HV4 := Lib.hid (hv.out.step HLK.out hv4); have HS4 := Lib.hid hs4; clear hv4 hs4))
          go_roundw
          case rel => exact ⟨k + 1, acc'', by omega, by go_num, HV4, HS4⟩
          case measure => simp [RowKit.intOf]; omega
    · have hkm : k = fs.length := by rw [← HM.out]; omega
      have HV : Hid (Vis (ldOf lf fs) fs.length i fs.length acc acc') := Lib.hid (by have := hv.out; rwa [hkm] at this)
      clear hv
      go_wp2
      go_end0
      exact ⟨rfl, acc', HV.out, hsv.out⟩
end Go.Proofs.YtfoenfipefhpoaaGreatDoor.Gr
