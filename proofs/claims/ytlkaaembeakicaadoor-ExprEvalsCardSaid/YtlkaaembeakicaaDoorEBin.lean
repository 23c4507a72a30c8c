/-
  An expression is made of an operator and two operands. Conditions: the texts are short.
-/
import Derived.Test.YtlkaaembeakicaaDoorEMake
import Derived.Deep.RegionHeld3
import Derived.Deep.DeepCutAuto
namespace Go.Proofs.YtlkaaembeakicaaDoor.Ex
open Go.RowKit
theorem heap_alloc_old {w : World} {k : Nat} {o : Obj} (h : w.heap[k]? = some o) (p : Obj) : (w.alloc p).heap[k]? = some o := by
  rw [((Below.refl w.heap.size w).alloc (Nat.le_refl _) p).block k (lt_of_heap h)]; exact h
theorem heap_alloc_at (w : World) {k : Nat} (h : w.heap.size = k) (p : Obj) : (w.alloc p).heap[k]? = some p := by subst h; exact heap_alloc_new w p
def chainW (w : World) (o0 o1 o2 o3 o4 o5 : Obj) : World := ((((((w.alloc o0).alloc o1).alloc o2).alloc o3).alloc o4).alloc o5).drew
theorem chain6 (w : World) (o0 o1 o2 o3 o4 o5 : Obj) : Below w.heap.size w (chainW w o0 o1 o2 o3 o4 o5) ∧
    (chainW w o0 o1 o2 o3 o4 o5).heap[w.heap.size]? = some o0 ∧ (chainW w o0 o1 o2 o3 o4 o5).heap[w.heap.size + 1]? = some o1 ∧ (chainW w o0 o1 o2 o3 o4 o5).heap[w.heap.size + 1 + 1]? = some o2 ∧
    (chainW w o0 o1 o2 o3 o4 o5).heap[w.heap.size + 1 + 1 + 1]? = some o3 ∧ (chainW w o0 o1 o2 o3 o4 o5).heap[w.heap.size + 1 + 1 + 1 + 1]? = some o4 ∧ (chainW w o0 o1 o2 o3 o4 o5).heap[w.heap.size + 1 + 1 + 1 + 1 + 1]? = some o5 := by
  refine ⟨?_, ?_, ?_, ?_, ?_, ?_, ?_⟩
  · exact ((((((((Below.refl _ _).alloc (Nat.le_refl _) _).alloc (by simp) _).alloc (by simp; omega) _).alloc (by simp; omega) _).alloc (by simp; omega) _).alloc (by simp; omega) _).drew)
  · exact heap_alloc_old (heap_alloc_old (heap_alloc_old (heap_alloc_old (heap_alloc_old (heap_alloc_at _ rfl _) _) _) _) _) _
  · exact heap_alloc_old (heap_alloc_old (heap_alloc_old (heap_alloc_old (heap_alloc_at _ (by simp) _) _) _) _) _
  · exact heap_alloc_old (heap_alloc_old (heap_alloc_old (heap_alloc_at _ (by simp) _) _) _) _
  · exact heap_alloc_old (heap_alloc_old (heap_alloc_at _ (by simp) _) _) _
  · exact heap_alloc_old (heap_alloc_at _ (by simp) _) _
  · exact heap_alloc_at _ (by simp) _
/-- What the first statement of binary leaves. -/
structure BinMid (w W : World) (s : Bs) (A B : Tree) (va vb : Value) (b7 b8 b9 : Nat) : Prop where
  below : Below w.heap.size w W
  h7 : Blk W b7 (fv (opFn s)) 88
  h8 : Blk W b8 va 61
  h9 : Blk W b9 vb 61
  ha : W.heap[w.heap.size]? = some (.cells #[va, .string ⟨A.text.toArray⟩, .int .i64 A.size] 63 (0, 0))
  hb : W.heap[w.heap.size + 1]? = some (.cells #[vb, .string ⟨B.text.toArray⟩, .int .i64 B.size] 63 (0, 0))
  hr : W.heap[w.heap.size + 1 + 1]? = some (.cells #[.nilFunc, .string ⟨#[]⟩, .int .i64 0] 63 (0, 0))
theorem cell_of_heap {w : World} {b : Nat} {cs : Array Value} {t : TypeId} {fz : Nat × Nat} (h : w.heap[b]? = some (.cells cs t fz)) (i : Nat) : w.cell? ⟨b, i, none⟩ = cs[i]? := by
  simp [World.cell?, h]
theorem free_of_heap {w : World} {b : Nat} {cs : Array Value} {t : TypeId} (h : w.heap[b]? = some (.cells cs t (0, 0))) (i : Nat) : w.frozen? ⟨b, i, none⟩ = false := by
  simp [World.frozen?, h]
theorem heap_setCell {w : World} {k : Nat} {o : Obj} (h : w.heap[k]? = some o) {a : Addr} (ha : a.block ≠ k) (v : Value) : (w.setCell a v).heap[k]? = some o := by
  simp only [World.setCell, Array.getElem?_modify, ha, if_false]; exact h
theorem Blk.set {w : World} {b : Nat} {v : Value} {t : TypeId} (h : Blk w b v t) {a : Addr} (ha : a.block ≠ b) (x : Value) : Blk (w.setCell a x) b v t := heap_setCell h ha x
theorem Blk.ne {w : World} {b k : Nat} {v : Value} {t t' : TypeId} {cs : Array Value} {fz : Nat × Nat} (h : Blk w b v t) (hk : w.heap[k]? = some (.cells cs t' fz)) (ht : t' ≠ t) : k ≠ b := by
  rintro rfl; unfold Blk at h; rw [h] at hk; injection hk with hk; injection hk with _ hk; exact ht hk.symm
theorem bin_done {w W : World} {s : Bs} {A B : Tree} {va vb : Value} {b7 b8 b9 : Nat} (hs : s ∈ ops) (hA : Clos w A va) (hB : Clos w B vb) (h : BinMid w W s A B va vb b7 b8 b9) {k : Nat} (hk : k = w.heap.size + 1 + 1) (x y z : Value) :
    Clos (((W.setCell ⟨k, 0, none⟩ x).setCell ⟨k, 1, none⟩ y).setCell ⟨k, 2, none⟩ z) (.bin s A B) (.func (.func 61) #[] #[ptr b7, ptr b8, ptr b9]) ∧ Below w.heap.size w (((W.setCell ⟨k, 0, none⟩ x).setCell ⟨k, 1, none⟩ y).setCell ⟨k, 2, none⟩ z) := by
  subst hk
  have n7 := h.h7.ne h.hr (by decide)
  have n8 := h.h8.ne h.hr (by decide)
  have n9 := h.h9.ne h.hr (by decide)
  have hb : Below w.heap.size w (((W.setCell ⟨w.heap.size + 1 + 1, 0, none⟩ x).setCell ⟨w.heap.size + 1 + 1, 1, none⟩ y).setCell ⟨w.heap.size + 1 + 1, 2, none⟩ z) :=
    ((h.below.setCell (by simp; omega) x).setCell (by simp; omega) y).setCell (by simp; omega) z
  exact ⟨⟨b7, b8, b9, va, vb, hs, rfl, ((h.h7.set n7 x).set n7 y).set n7 z, ((h.h8.set n8 x).set n8 y).set n8 z, ((h.h9.set n9 x).set n9 y).set n9 z, hA.keep (Keep.of_below hb), hB.keep (Keep.of_below hb)⟩, hb⟩
set_option maxRecDepth 20000 in
set_option maxHeartbeats 2000000 in
theorem binary_any {s : ByteArray} {w : World} {A B : Tree} {va vb : Value} (hs : s.data.toList ∈ ops) (ha : A.text.length ≤ 100000) (hb : B.text.length ≤ 100000) (hza : A.size ≤ 100000) (hzb : B.size ≤ 100000) (hA : Clos w A va) (hB : Clos w B vb) :
    Calls Tryd.prog 49 #[.string s, exprV va A, exprV vb B] w fun e w' => ∃ v', e = .returned (exprV v' (.bin s.data.toList A B)) ∧ Clos w' (.bin s.data.toList A B) v' ∧ Below w.heap.size w w' := by
  obtain ⟨f, cf, rfl⟩ := hA.form
  obtain ⟨g, cg, rfl⟩ := hB.form
  have h2 : s.size ≤ 2 := by
    have : s.data.toList.length ≤ 2 := by
      simp only [ops, List.mem_cons, List.not_mem_nil, or_false] at hs
      rcases hs with h | h | h | h | h | h | h | h | h | h | h | h | h <;> rw [h] <;> simp
    simpa using this
  have HS := Lib.hid hs
  have HA := Lib.hid hA
  have HB := Lib.hid hB
  clear hs hA hB
  unfold exprV
  go_enter Tryd.func49, Tryd.ntmps49
  go_upto_region 1 with fail
  go_cut [7, 8, 9] (fun s7 s8 s9 wx => ∃ b7 b8 b9 : Nat, s7 = .pointer (some ⟨b7, 0, none⟩) ∧ s8 = .pointer (some ⟨b8, 0, none⟩) ∧ s9 = .pointer (some ⟨b9, 0, none⟩) ∧ BinMid w wx s.data.toList A B (.func (.func f) #[] cf) (.func (.func g) #[] cg) b7 b8 b9)
  case first =>
    go_region_held3 (fun W => W.cell? ⟨w.heap.size, 0, none⟩ = some (.func (.func f) #[] cf) ∧ W.cell? ⟨w.heap.size + 1, 0, none⟩ = some (.func (.func g) #[] cg)) (first | (refine ⟨?_, ?_⟩ <;> go_simp) | go_keep) (first | (go_at_call 60; refine (operation_any HS.out _).mono ?_; rintro e w' ⟨rfl, rfl⟩))
    all_goals
      go_wp2_with fail
      go_meet
      refine ⟨_, _, _, rfl, rfl, rfl, ?_⟩
      obtain ⟨c0, c1, c2, c3, c4, c5, c6⟩ := chain6 w _ _ _ _ _ _
      exact ⟨c0, by first | exact c4 | exact c5 | exact c6, by first | exact c4 | exact c5 | exact c6, by first | exact c4 | exact c5 | exact c6, c1, c2, c3⟩
  case rest =>
    obtain ⟨b7, b8, b9, rfl, rfl, rfl, hM⟩ := hcut
    have p0 := cell_of_heap hM.ha 1
    have p1 := cell_of_heap hM.ha 2
    have p2 := cell_of_heap hM.hb 1
    have p3 := cell_of_heap hM.hb 2
    have p4 := cell_of_heap hM.hr 0
    have p5 := cell_of_heap hM.hr 1
    have p6 := cell_of_heap hM.hr 2
    have q4 := free_of_heap hM.hr 0
    have q5 := free_of_heap hM.hr 1
    have q6 := free_of_heap hM.hr 2
    simp at p0 p1 p2 p3 p4 p5 p6
    have HM := Lib.hid hM
    clear hM
    go_wp2
    obtain ⟨hC, hBl⟩ := bin_done HS.out HA.out HB.out HM.out rfl (.func (.func 61) #[] #[ptr b7, ptr b8, ptr b9]) (.string (⟨#[40]⟩ ++ ⟨A.text.toArray⟩ ++ ⟨#[32]⟩ ++ s ++ ⟨#[32]⟩ ++ ⟨B.text.toArray⟩ ++ ⟨#[41]⟩)) (.int .i64 (A.size + 1 + B.size))
    refine bodyPost_ret (v := .agg #[.func (.func 61) #[] #[ptr b7, ptr b8, ptr b9], .string (⟨#[40]⟩ ++ ⟨A.text.toArray⟩ ++ ⟨#[32]⟩ ++ s ++ ⟨#[32]⟩ ++ ⟨B.text.toArray⟩ ++ ⟨#[41]⟩), .int .i64 (A.size + 1 + B.size)]) (by simp [results, Tryd.results49, go_sem, p4, p5, p6]) rfl ⟨_, ?_, hC, hBl⟩
    congr 4
end Go.Proofs.YtlkaaembeakicaaDoor.Ex
