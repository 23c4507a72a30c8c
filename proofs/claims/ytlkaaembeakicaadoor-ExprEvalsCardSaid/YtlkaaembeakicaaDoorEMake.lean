/-
  Expressions are made: of a number, of a name, of a sign and one operand, of an operator and two. Conditions: the texts are short; the library's table of powers holds what it was laid with.
-/
import Derived.Test.YtlkaaembeakicaaDoorEClos
import Derived.WalkSmall
import Derived.Laws.EntriesVeiled
import Derived.RegionTactic
import Derived.Deep.RegionWith
namespace Go.Proofs.YtlkaaembeakicaaDoor.Ex
open Go.RowKit
def exprV (v : Value) (T : Tree) : Value := .agg #[v, .string ⟨T.text.toArray⟩, .int .i64 T.size]
/-- The library's table of powers of ten. -/
def Tab (w : World) : Prop := Lib.TabIs Tryd.prog w "internal/strconv.uint64pow10" .u64 Lib.pow10Tab ∧ 3 < w.heap.size
theorem tab_global : Tryd.prog.globalNamed "internal/strconv.uint64pow10" = some 3 := by kernel_rfl
theorem Tab.below {w w' : World} (h : Tab w) (hb : Below w.heap.size w w') : Tab w' := ⟨var?_below hb tab_global h.2 h.1, Nat.lt_of_lt_of_le h.2 hb.size⟩

set_option maxHeartbeats 1000000 in
theorem name_any {s : ByteArray} {w : World} (h : isNm s.data.toList = true) :
    Calls Tryd.prog 45 #[.string s] w fun e w' => ∃ v, e = .returned (exprV v (.name (s.data.toList.headD 0))) ∧ Clos w' (.name (s.data.toList.headD 0)) v ∧ Below w.heap.size w w' := by
  have : s = ⟨#[110]⟩ ∨ s = ⟨#[116]⟩ ∨ s = ⟨#[118]⟩ := by
    simp only [isNm, Bool.or_eq_true, beq_iff_eq] at h
    rcases h with (h | h) | h <;> have e := bytes_of h <;> simp [e]
  rcases this with rfl | rfl | rfl
  · go_enter Tryd.func45, Tryd.ntmps45
    go_wp2
    exact bodyPost_ret (v := exprV (fv 53) (.name 110)) (by simp [results, Tryd.results45, go_sem, exprV, Tree.text, Tree.size]) rfl ⟨_, rfl, rfl, (Below.refl _ _).alloc (Nat.le_refl _) _⟩
  · go_enter Tryd.func45, Tryd.ntmps45
    go_wp2
    exact bodyPost_ret (v := exprV (fv 54) (.name 116)) (by simp [results, Tryd.results45, go_sem, exprV, Tree.text, Tree.size]) rfl ⟨_, rfl, rfl, (Below.refl _ _).alloc (Nat.le_refl _) _⟩
  · go_enter Tryd.func45, Tryd.ntmps45
    go_wp2
    exact bodyPost_ret (v := exprV (fv 55) (.name 118)) (by simp [results, Tryd.results45, go_sem, exprV, Tree.text, Tree.size]) rfl ⟨_, rfl, rfl, (Below.refl _ _).alloc (Nat.le_refl _) _⟩
theorem Clos.form {w : World} : ∀ {T : Tree} {v : Value}, Clos w T v → ∃ f caps, v = .func (.func f) #[] caps
  | .num _, _, ⟨b, e, _⟩ => ⟨_, _, e⟩
  | .name _, _, e => ⟨_, _, e⟩
  | .pre _ _, _, ⟨_, _, _, e, _⟩ => ⟨_, _, e⟩
  | .bin _ _ _, _, ⟨_, _, _, _, _, _, e, _⟩ => ⟨_, _, e⟩
theorem Blk.new {w : World} {b : Nat} (v : Value) (t : TypeId) (h : w.heap.size = b) : Blk (w.alloc (.cells #[v] t)) b v t := by
  subst h; exact heap_alloc_new w _
theorem Blk.alloc {w : World} {b : Nat} {v : Value} {t : TypeId} (h : Blk w b v t) (o : Obj) : Blk (w.alloc o) b v t := by
  unfold Blk at h ⊢
  rw [((Below.refl w.heap.size w).alloc (Nat.le_refl _) o).block b (lt_of_heap h)]; exact h
theorem Blk.drew {w : World} {b : Nat} {v : Value} {t : TypeId} (h : Blk w b v t) : Blk w.drew b v t := h
theorem str_append (a b : Bs) : ((⟨a.toArray⟩ : ByteArray) ++ ⟨b.toArray⟩) = ⟨(a ++ b).toArray⟩ := Go.WideShapes.bytes_inj (by simp)
theorem pre_done {w W : World} {s : Bs} {T : Tree} {v : Value} {b1 b2 : Nat} (hT : Clos w T v) (hb : Below w.heap.size w W) (h1 : Blk W b1 (fv (preFn s)) 87) (h2 : Blk W b2 v 61) : Clos W (.pre s T) (.func (.func 59) #[] #[ptr b1, ptr b2]) :=
  ⟨b1, b2, v, rfl, h1, h2, hT.keep (Keep.of_below hb)⟩
set_option maxHeartbeats 1000000 in
theorem prefix_any {s : ByteArray} {w : World} {T : Tree} {v : Value} (hs : s.data.toList = [45] ∨ s.data.toList = [33]) (ht : T.text.length ≤ 100000) (hz : T.size ≤ 100000) (hT : Clos w T v) :
    Calls Tryd.prog 48 #[.string s, exprV v T] w fun e w' => ∃ v', e = .returned (exprV v' (.pre s.data.toList T)) ∧ Clos w' (.pre s.data.toList T) v' ∧ Below w.heap.size w w' := by
  obtain ⟨f, caps, rfl⟩ := hT.form
  have HT := Lib.hid hT
  clear hT
  unfold exprV
  have hb : ∀ o1 o2 o3 o4, Below w.heap.size w ((((w.alloc o1).alloc o2).alloc o3).alloc o4).drew := fun o1 o2 o3 o4 => (((((Below.refl _ _).alloc (Nat.le_refl _) _).alloc (by simp) _).alloc (by simp; omega) _).alloc (by simp; omega) _).drew
  have HB := Lib.hid hb
  clear hb
  rcases hs with h | h
  · obtain rfl := bytes_of h
    clear h
    go_enter Tryd.func48, Tryd.ntmps48
    go_wp2
    go_region
    all_goals go_wp2
    · refine bodyPost_ret (v := .agg #[.func (.func 59) #[] #[ptr (w.heap.size + 1 + 1), ptr (w.heap.size + 1 + 1 + 1)], .string (⟨#[45]⟩ ++ ⟨T.text.toArray⟩), .int .i64 (1 + T.size)]) (by simp [results, Tryd.results48, go_sem]) rfl ⟨.func (.func 59) #[] #[ptr (w.heap.size + 1 + 1), ptr (w.heap.size + 1 + 1 + 1)], ?_, pre_done HT.out (HB.out _ _ _ _) ?_ ?_, HB.out _ _ _ _⟩
      · rw [str_append]; simp [Tree.text, Tree.size]
      · exact ((Blk.new _ _ (by simp)).alloc _).drew
      · exact (Blk.new _ _ (by simp)).drew
    · refine bodyPost_ret (v := .agg #[.func (.func 59) #[] #[ptr (w.heap.size + 1 + 1 + 1), ptr (w.heap.size + 1 + 1)], .string (⟨#[45]⟩ ++ ⟨T.text.toArray⟩), .int .i64 (1 + T.size)]) (by simp [results, Tryd.results48, go_sem]) rfl ⟨.func (.func 59) #[] #[ptr (w.heap.size + 1 + 1 + 1), ptr (w.heap.size + 1 + 1)], ?_, pre_done HT.out (HB.out _ _ _ _) ?_ ?_, HB.out _ _ _ _⟩
      · rw [str_append]; simp [Tree.text, Tree.size]
      · exact (Blk.new _ _ (by simp)).drew
      · exact ((Blk.new _ _ (by simp)).alloc _).drew
  · obtain rfl := bytes_of h
    clear h
    go_enter Tryd.func48, Tryd.ntmps48
    go_wp2
    go_region
    all_goals go_wp2
    · refine bodyPost_ret (v := .agg #[.func (.func 59) #[] #[ptr (w.heap.size + 1 + 1), ptr (w.heap.size + 1 + 1 + 1)], .string (⟨#[33]⟩ ++ ⟨T.text.toArray⟩), .int .i64 (1 + T.size)]) (by simp [results, Tryd.results48, go_sem]) rfl ⟨.func (.func 59) #[] #[ptr (w.heap.size + 1 + 1), ptr (w.heap.size + 1 + 1 + 1)], ?_, pre_done HT.out (HB.out _ _ _ _) ?_ ?_, HB.out _ _ _ _⟩
      · rw [str_append]; simp [Tree.text, Tree.size]
      · exact ((Blk.new _ _ (by simp)).alloc _).drew
      · exact (Blk.new _ _ (by simp)).drew
    · refine bodyPost_ret (v := .agg #[.func (.func 59) #[] #[ptr (w.heap.size + 1 + 1 + 1), ptr (w.heap.size + 1 + 1)], .string (⟨#[33]⟩ ++ ⟨T.text.toArray⟩), .int .i64 (1 + T.size)]) (by simp [results, Tryd.results48, go_sem]) rfl ⟨.func (.func 59) #[] #[ptr (w.heap.size + 1 + 1 + 1), ptr (w.heap.size + 1 + 1)], ?_, pre_done HT.out (HB.out _ _ _ _) ?_ ?_, HB.out _ _ _ _⟩
      · rw [str_append]; simp [Tree.text, Tree.size]
      · exact (Blk.new _ _ (by simp)).drew
      · exact ((Blk.new _ _ (by simp)).alloc _).drew
end Go.Proofs.YtlkaaembeakicaaDoor.Ex
