/-
  The document's own disk in memory: its cells, the row of its files, their bytes. Conditions: none.
-/
import Derived.Test.YtkiombbdddbkfaaRefName
import Derived.IntWalk
namespace Go.Proofs.Ytkiombbdddbkfaa.Dk
open Go.RowKit Go.Proofs.Ytkiombbdddbkfaa.Pk

def row1 (p : Nm × Fl) (v : Value) : List Value := [.string ⟨p.1.toArray⟩, v, .int .i64 (p.2.safe : Int)]
def rowOf : List (Nm × Fl) → List Value → List Value
  | p :: m, v :: vs => row1 p v ++ rowOf m vs
  | _, _ => []
theorem rowOf_length : ∀ {m : List (Nm × Fl)} {vs : List Value}, vs.length = m.length → (rowOf m vs).length = m.length * 3
  | [], [], _ => rfl
  | [], _ :: _, h => by simp at h
  | _ :: _, [], h => by simp at h
  | p :: m, v :: vs, h => by
    have := rowOf_length (m := m) (vs := vs) (by simpa using h)
    simp only [rowOf, List.length_append, this, row1, List.length_cons, List.length_nil]; omega
theorem rowOf_get : ∀ {m : List (Nm × Fl)} {vs : List Value} (h : vs.length = m.length) (i : Nat) (hi : i < m.length) (j : Nat), j < 3 → (rowOf m vs)[i * 3 + j]? = (row1 m[i] (vs[i]'(by omega)))[j]?
  | p :: m, v :: vs, h, 0, _, j, hj => by
    simp only [rowOf, Nat.zero_mul, Nat.zero_add, List.getElem_cons_zero]
    rw [List.getElem?_append_left (by simp [row1]; omega)]
  | p :: m, v :: vs, h, i + 1, hi, j, hj => by
    have := rowOf_get (m := m) (vs := vs) (by simpa using h) i (by simpa using hi) j hj
    simp only [rowOf, List.getElem_cons_succ]
    rw [List.getElem?_append_right (by simp [row1]; omega)]
    rw [← this]
    congr 1
    simp [row1]; omega
  | [], _, _, i, hi, _, _ => by simp at hi
  | _ :: _, [], h, _, _, _, _ => by simp at h

/-- The bytes l lie at A, in a row of bytes that is T's. -/
def LiesT (T : Nat → Prop) (w : World) (A : Option Addr) (l : List UInt8) : Prop :=
  ∀ k x, l[k]? = some x → ∃ b o cur fr, A = some ⟨b, o, none⟩ ∧ T b ∧ w.heap[b]? = some (.cells cur 5 fr) ∧ cur[o + k]? = some (bv x)

section
variable {T T' : Nat → Prop} {w w' : World} {A : Option Addr} {l : List UInt8}
theorem LiesT.lies (h : LiesT T w A l) : Lies w w.heap.size A l := fun k x hx => by
  obtain ⟨b, o, cur, fr, e, _, hh, hc⟩ := h k x hx
  exact ⟨b, o, e, (Array.getElem?_eq_some_iff.1 hh).1, by simp [World.cell?, hh, hc]⟩
theorem LiesT.none_ : LiesT T w A [] := fun k x h => by simp at h
theorem LiesT.take (h : LiesT T w A l) (n : Nat) : LiesT T w A (l.take n) := fun k x hx => by
  rw [List.getElem?_take] at hx
  split at hx
  · exact h k x hx
  · cases hx
theorem LiesT.keep (h : LiesT T w A l) (hT : ∀ b, T b → T' b) (hk : ∀ b cur fr, T b → w.heap[b]? = some (.cells cur 5 fr) → w'.heap[b]? = w.heap[b]?) : LiesT T' w' A l := fun k x hx => by
  obtain ⟨b, o, cur, fr, e, ht, hh, hc⟩ := h k x hx
  exact ⟨b, o, cur, fr, e, hT b ht, (hk b cur fr ht hh).trans hh, hc⟩
theorem LiesT.of_own {base n c : Nat} (h : w.ownsRow base 5 1 (.slice A n c) n (cells l)) (hT : ∀ g, (Value.slice A n c).ownBlock = some g → T g) : LiesT T w A l := fun k x hx => by
  have hk : (cells l)[k]? = some (bv x) := by simp [cells, hx]
  rcases h.2 with ⟨_, rfl⟩ | ⟨g, cap, cur, hv, hb, hg, h1, h2, h3, h4⟩
  · have := h.1
    rw [cells_length] at this
    have hl : l = [] := List.eq_nil_of_length_eq_zero (by omega)
    rw [hl] at hx; simp at hx
  · injection hv with hA _ _
    subst hA
    refine ⟨g, 0, cur, (0, 0), rfl, hT g rfl, hg, ?_⟩
    rw [← h4, List.getElem?_take] at hk
    split at hk
    · simpa using hk
    · cases hk
end

def RTop (w : World) (r : Nat) (vL : Value) (off : Bool) (fuse keep deeds : Int) : Prop :=
  w.heap[r]? = some (.cells #[vL, .bool off, .int .i64 fuse, .int .i64 keep, .int .i64 deeds] 31 (0, 0))
/-- The row of the files. -/
def RefIn (w : World) (T : Nat → Prop) (m : List (Nm × Fl)) (vL : Value) : Prop :=
  ∃ vs : List Value, ∃ hl : vs.length = m.length, w.ownsRow 0 72 3 vL m.length (rowOf m vs) ∧ (∀ g, vL.ownBlock = some g → T g) ∧
    ∀ i (h : i < m.length), ∃ A c, vs[i] = .slice A m[i].2.data.length c ∧ m[i].2.data.length ≤ c ∧ c ≤ maxLen ∧ LiesT T w A m[i].2.data
/-- Block r is the document's disk of state t; all that it reaches lies in T. -/
def Ref (w : World) (T : Nat → Prop) (r : Nat) (t : Ds) : Prop :=
  Good t ∧ T r ∧ (∀ b, T b → b < w.heap.size) ∧ ∃ vL, RTop w r vL t.off t.fuse t.keep t.deeds ∧ RefIn w T t.m vL

section
variable {w : World} {r : Nat} {vL : Value} {off : Bool} {fuse keep deeds : Int}
theorem RTop.lt (h : RTop w r vL off fuse keep deeds) : r < w.heap.size := (Array.getElem?_eq_some_iff.1 h).1
theorem RTop.c0 (h : RTop w r vL off fuse keep deeds) : w.cell? ⟨r, 0, none⟩ = some vL := by unfold RTop at h; simp [World.cell?, h]
theorem RTop.c1 (h : RTop w r vL off fuse keep deeds) : w.cell? ⟨r, 1, none⟩ = some (.bool off) := by unfold RTop at h; simp [World.cell?, h]
theorem RTop.c2 (h : RTop w r vL off fuse keep deeds) : w.cell? ⟨r, 2, none⟩ = some (.int .i64 fuse) := by unfold RTop at h; simp [World.cell?, h]
theorem RTop.c3 (h : RTop w r vL off fuse keep deeds) : w.cell? ⟨r, 3, none⟩ = some (.int .i64 keep) := by unfold RTop at h; simp [World.cell?, h]
theorem RTop.c4 (h : RTop w r vL off fuse keep deeds) : w.cell? ⟨r, 4, none⟩ = some (.int .i64 deeds) := by unfold RTop at h; simp [World.cell?, h]
theorem RTop.fz (h : RTop w r vL off fuse keep deeds) (o : Nat) : w.frozen? ⟨r, o, none⟩ = false := by unfold RTop at h; simp [World.frozen?, h]
theorem RTop.set0 (h : RTop w r vL off fuse keep deeds) (u : Value) : RTop (w.setCell ⟨r, 0, none⟩ u) r u off fuse keep deeds := by unfold RTop at h ⊢; simp [World.setCell, Array.getElem?_modify, h]
theorem RTop.set1 (h : RTop w r vL off fuse keep deeds) (u : Bool) : RTop (w.setCell ⟨r, 1, none⟩ (.bool u)) r vL u fuse keep deeds := by unfold RTop at h ⊢; simp [World.setCell, Array.getElem?_modify, h]
theorem RTop.set2 (h : RTop w r vL off fuse keep deeds) (u : Int) : RTop (w.setCell ⟨r, 2, none⟩ (.int .i64 u)) r vL off u keep deeds := by unfold RTop at h ⊢; simp [World.setCell, Array.getElem?_modify, h]
theorem RTop.set3 (h : RTop w r vL off fuse keep deeds) (u : Int) : RTop (w.setCell ⟨r, 3, none⟩ (.int .i64 u)) r vL off fuse u deeds := by unfold RTop at h ⊢; simp [World.setCell, Array.getElem?_modify, h]
theorem RTop.set4 (h : RTop w r vL off fuse keep deeds) (u : Int) : RTop (w.setCell ⟨r, 4, none⟩ (.int .i64 u)) r vL off fuse keep u := by unfold RTop at h ⊢; simp [World.setCell, Array.getElem?_modify, h]
end

/-- A cell of the row. -/
theorem row_cell {w : World} {vL : Value} {m : List (Nm × Fl)} {vs : List Value} (hl : vs.length = m.length) (h : w.ownsRow 0 72 3 vL m.length (rowOf m vs)) (hm : 0 < m.length) :
    ∃ g cap, vL = .slice (some ⟨g, 0, none⟩) m.length cap ∧ m.length ≤ cap ∧ cap ≤ maxLen ∧ g < w.heap.size ∧ (∀ o, w.frozen? ⟨g, o, none⟩ = false) ∧
      ∀ i (hi : i < m.length), w.cell? ⟨g, i * 3, none⟩ = some (.string ⟨m[i].1.toArray⟩) ∧ w.cell? ⟨g, i * 3 + 1, none⟩ = some (vs[i]'(by omega)) ∧ w.cell? ⟨g, i * 3 + 2, none⟩ = some (.int .i64 (m[i].2.safe : Int)) := by
  rcases h.2 with ⟨_, h0⟩ | ⟨g, cap, cur, hv, _, hg, h1, h2, h3, h4⟩
  · omega
  · have hc : ∀ j u, (rowOf m vs)[j]? = some u → w.cell? ⟨g, j, none⟩ = some u := fun j u hu => by
      have := h.cells (g := g) (by rw [hv]; rfl) j u hu
      rwa [Addr.add_lit, Nat.zero_add] at this
    refine ⟨g, cap, hv, h1, h2, (Array.getElem?_eq_some_iff.1 hg).1, fun o => by simp [World.frozen?, hg], fun i hi => ⟨?_, ?_, ?_⟩⟩
    · exact hc _ _ (by have := rowOf_get hl i hi 0 (by omega); simpa [row1] using this)
    · exact hc _ _ (by have := rowOf_get hl i hi 1 (by omega); simpa [row1] using this)
    · exact hc _ _ (by have := rowOf_get hl i hi 2 (by omega); simpa [row1] using this)

theorem eq_list {x y : ByteArray} (h : x ≠ y) : (x.toList == y.toList) = false := by
  rw [Lib.toList_data, Lib.toList_data, beq_eq_false_iff_ne]
  intro e
  exact h (ByteArray.ext (Array.toList_inj.1 e))

set_option maxHeartbeats 400000 in
theorem rfind_miss {w : World} {r n cap : Nat} {A : Option Addr} {name : ByteArray} (c0 : w.cell? ⟨r, 0, none⟩ = some (.slice A n cap)) (hn : n ≤ 1000000) (nm : Nat → ByteArray)
    (hA : ∀ i, i < n → ∃ g, A = some ⟨g, 0, none⟩ ∧ w.cell? ⟨g, i * 3, none⟩ = some (.string (nm i))) (hne : ∀ i, i < n → nm i ≠ name) :
    Calls Try.prog 44 #[.pointer (some ⟨r, 0, none⟩), .string name] w fun e w' => e = .returned (.int .i64 (-1)) ∧ w = w' := by
  have HA := Lib.hid hA
  have HN := Lib.hid hne
  clear hA hne
  go_enter Try.func44, Try.ntmps44
  go_wp2
  go_loop [5] (fun i => ∃ j : Nat, j ≤ n ∧ i = .int .i64 j) (fun i => n - (intOf i).toNat)
  case atStart => exact ⟨0, Nat.zero_le _, rfl⟩
  case round =>
    obtain ⟨j, hj, rfl⟩ := hrel
    by_cases hlt : j < n
    · obtain ⟨g, rfl, hc⟩ := HA.out j hlt
      have hjn : (j : Int) < (n : Int) := by omega
      have hd := eq_list (HN.out j hlt)
      generalize nm j = x at hc hd
      go_wp2
      go_round
      case rel => exact ⟨j + 1, by omega, by go_num⟩
      case measure => simp [intOf]; omega
    · have hjn : ¬ (j : Int) < (n : Int) := by omega
      go_wp2
      go_ret
      exact ⟨rfl, rfl⟩
set_option maxHeartbeats 400000 in
theorem rfind_hit {w : World} {r n cap : Nat} {A : Option Addr} {name : ByteArray} (c0 : w.cell? ⟨r, 0, none⟩ = some (.slice A n cap)) (hn : n ≤ 1000000) (k : Nat) (hk : k < n) (nm : Nat → ByteArray)
    (hA : ∀ i, i < n → ∃ g, A = some ⟨g, 0, none⟩ ∧ w.cell? ⟨g, i * 3, none⟩ = some (.string (nm i))) (hne : ∀ i, i < k → nm i ≠ name) (heq : nm k = name) :
    Calls Try.prog 44 #[.pointer (some ⟨r, 0, none⟩), .string name] w fun e w' => e = .returned (.int .i64 k) ∧ w = w' := by
  have HA := Lib.hid hA
  have HN := Lib.hid hne
  have HE := Lib.hid heq
  clear hA hne heq
  go_enter Try.func44, Try.ntmps44
  go_wp2
  go_loop [5] (fun i => ∃ j : Nat, j ≤ k ∧ i = .int .i64 j) (fun i => n - (intOf i).toNat)
  case atStart => exact ⟨0, Nat.zero_le _, rfl⟩
  case round =>
    obtain ⟨j, hj, rfl⟩ := hrel
    by_cases hlt : j < k
    · obtain ⟨g, rfl, hc⟩ := HA.out j (by omega)
      have hjn : (j : Int) < (n : Int) := by omega
      have hd := eq_list (HN.out j hlt)
      generalize nm j = x at hc hd
      go_wp2
      go_round
      case rel => exact ⟨j + 1, by omega, by go_num⟩
      case measure => simp [intOf]; omega
    · obtain rfl : j = k := by omega
      obtain ⟨g, rfl, hc⟩ := HA.out j hk
      rw [HE.out] at hc
      have hjn : (j : Int) < (n : Int) := by omega
      go_wp2
      go_ret
      exact ⟨rfl, rfl⟩

set_option maxHeartbeats 400000 in
theorem rdeed_zero {w : World} {r : Nat} {n : Int} (h2 : w.cell? ⟨r, 2, none⟩ = some (.int .i64 0)) (h4 : w.cell? ⟨r, 4, none⟩ = some (.int .i64 n)) (f4 : w.frozen? ⟨r, 4, none⟩ = false) (hn : 0 ≤ n) (hn2 : n < 4611686018427387904) :
    Calls Try.prog 45 #[.pointer (some ⟨r, 0, none⟩)] w fun e w' => e = .returned (.bool false) ∧ w.setCell ⟨r, 4, none⟩ (.int .i64 (n + 1)) = w' := by
  go_enter Try.func45, Try.ntmps45
  go_wp2
  go_ret
  exact ⟨rfl, rfl⟩
set_option maxHeartbeats 400000 in
theorem rdeed_more {w : World} {r : Nat} {n u : Int} {b : Bool} (h2 : w.cell? ⟨r, 2, none⟩ = some (.int .i64 u)) (h4 : w.cell? ⟨r, 4, none⟩ = some (.int .i64 n)) (f2 : w.frozen? ⟨r, 2, none⟩ = false) (f4 : w.frozen? ⟨r, 4, none⟩ = false) (hn : 0 ≤ n) (hn2 : n < 4611686018427387904) (hu : 0 < u) (hu2 : u ≤ 9223372036854775807) (hb : (u - 1 == 0) = b) :
    Calls Try.prog 45 #[.pointer (some ⟨r, 0, none⟩)] w fun e w' => e = .returned (.bool b) ∧ (w.setCell ⟨r, 4, none⟩ (.int .i64 (n + 1))).setCell ⟨r, 2, none⟩ (.int .i64 (u - 1)) = w' := by
  have HB := Lib.hid hb
  clear hb
  go_enter Try.func45, Try.ntmps45
  go_wp2
  go_ret
  exact ⟨ret_bool HB.out, rfl⟩
set_option maxHeartbeats 400000 in
theorem rarm_cell {w : World} {d : Nat} {n keep f0 k0 : Int} (h2 : w.cell? ⟨d, 2, none⟩ = some (.int .i64 f0)) (h3 : w.cell? ⟨d, 3, none⟩ = some (.int .i64 k0)) (hf2 : w.frozen? ⟨d, 2, none⟩ = false) (hf3 : w.frozen? ⟨d, 3, none⟩ = false) :
    Calls Try.prog 16 #[.pointer (some ⟨d, 0, none⟩), .int .i64 n, .int .i64 keep] w fun e w' => e = .returned (.tuple #[]) ∧ (w.setCell ⟨d, 2, none⟩ (.int .i64 (max n 0))).setCell ⟨d, 3, none⟩ (.int .i64 keep) = w' := by
  go_enter Try.func16, Try.ntmps16
  go_wp2
  go_end0
  exact ⟨rfl, rfl⟩

/-! ### the row, written -/
theorem own_set {w : World} {v u : Value} {n g j : Nat} {xs : List Value} (h : w.ownsRow 0 72 3 v n xs) (hg : v.ownBlock = some g) : (w.setCell ⟨g, j, none⟩ u).ownsRow 0 72 3 v n (xs.set j u) := by
  refine ⟨by rw [List.length_set]; exact h.1, ?_⟩
  rcases h.2 with ⟨hv, _⟩ | ⟨g', cap, cur, hv, hb, hh, h1, h2, h3, h4⟩
  · rw [hv] at hg; cases hg
  · rw [hv] at hg
    have : g' = g := by simpa [Value.ownBlock] using hg
    subst this
    refine .inr ⟨g', cap, cur.setIfInBounds j u, hv, hb, ?_, h1, h2, by simp [h3], ?_⟩
    · simp [World.setCell, Array.getElem?_modify, hh]
    · rw [Array.toList_setIfInBounds, ← h4, List.take_set]
theorem rowOf_setB : ∀ {m : List (Nm × Fl)} {vs : List Value} (i : Nat) (hi : i < m.length) (d : List UInt8) (v' : Value), vs.length = m.length → rowOf (m.set i (m[i].1, ⟨d, m[i].2.safe⟩)) (vs.set i v') = (rowOf m vs).set (i * 3 + 1) v'
  | p :: m, v :: vs, 0, _, d, v', _ => by simp [rowOf, row1]
  | p :: m, v :: vs, i + 1, hi, d, v', h => by
    have := rowOf_setB (m := m) (vs := vs) i (by simpa using hi) d v' (by simpa using h)
    simp only [List.set_cons_succ, List.getElem_cons_succ, rowOf, this]
    rw [List.set_append_right _ _ (by simp [row1]; omega)]
    congr 2
    simp [row1]; omega
  | [], _, i, hi, _, _, _ => by simp at hi
  | _ :: _, [], _, _, _, _, h => by simp at h
theorem rowOf_setS : ∀ {m : List (Nm × Fl)} {vs : List Value} (i : Nat) (hi : i < m.length) (q : Nat), vs.length = m.length → rowOf (m.set i (m[i].1, ⟨m[i].2.data, q⟩)) vs = (rowOf m vs).set (i * 3 + 2) (.int .i64 (q : Int))
  | p :: m, v :: vs, 0, _, q, _ => by simp [rowOf, row1]
  | p :: m, v :: vs, i + 1, hi, q, h => by
    have := rowOf_setS (m := m) (vs := vs) i (by simpa using hi) q (by simpa using h)
    simp only [List.set_cons_succ, List.getElem_cons_succ, rowOf, this]
    rw [List.set_append_right _ _ (by simp [row1]; omega)]
    congr 2
    simp [row1]; omega
  | [], _, i, hi, _, _ => by simp at hi
  | _ :: _, [], _, _, _, h => by simp at h

/-! ### where a name stands -/
theorem get_at {k : Nm} {f : Fl} : ∀ {m : List (Nm × Fl)}, get m k = some f → Sorted m → ∃ i, ∃ hi : i < m.length, m[i] = (k, f) ∧ (∀ j (hj : j < i), (m[j]'(by omega)).1 ≠ k) ∧ ∀ f', put k f' m = m.set i (k, f')
  | [], h, _ => by cases h
  | (n, g) :: r, h, hso => by
    unfold Sorted at hso
    rw [List.map_cons, List.pairwise_cons] at hso
    simp only [get] at h
    split at h
    · rename_i e; cases h; subst e
      exact ⟨0, by simp, rfl, fun j hj => by omega, fun f' => by simp [put]⟩
    · rename_i hne
      obtain ⟨i, hi, h1, h2, h3⟩ := get_at h hso.2
      have hlt : n < k := hso.1 k (List.mem_map.2 ⟨_, get_mem h, rfl⟩)
      refine ⟨i + 1, by simp; omega, by simpa using h1, fun j hj => ?_, fun f' => by simp [put, hne, hlt, h3]⟩
      rcases j with _ | j
      · exact hne
      · simpa using h2 j (by omega)
theorem get_no {k : Nm} : ∀ {m : List (Nm × Fl)}, get m k = none → ∀ i (hi : i < m.length), m[i].1 ≠ k
  | [], _, i, hi => by simp at hi
  | (n, g) :: r, h, i, hi => by
    simp only [get] at h
    split at h
    · cases h
    · rename_i hne
      rcases i with _ | i
      · exact hne
      · simpa using get_no h i (by simpa using hi)
/-- Where a new name goes. -/
theorem put_at {k : Nm} (f : Fl) : ∀ {m : List (Nm × Fl)}, get m k = none → ∃ i, i ≤ m.length ∧ (∀ j, j < i → ∀ h : j < m.length, (m[j]).1 < k) ∧ (∀ h : i < m.length, ¬ (m[i]).1 < k) ∧ put k f m = m.take i ++ (k, f) :: m.drop i
  | [], _ => ⟨0, Nat.le_refl _, fun j hj => by omega, fun h => by simp at h, rfl⟩
  | (n, g) :: r, h => by
    simp only [get] at h
    split at h
    · cases h
    · rename_i hne
      by_cases hlt : n < k
      · obtain ⟨i, h1, h2, h3, h4⟩ := put_at f h
        refine ⟨i + 1, by simp; omega, fun j hj hjl => ?_, fun hi => ?_, by simp [put, hne, hlt, h4]⟩
        · rcases j with _ | j
          · exact hlt
          · simpa using h2 j (by omega) (by simpa using hjl)
        · simpa using h3 (by simpa using hi)
      · exact ⟨0, Nat.zero_le _, fun j hj => by omega, fun _ => hlt, by simp [put, hne, hlt]⟩
end Go.Proofs.Ytkiombbdddbkfaa.Dk
