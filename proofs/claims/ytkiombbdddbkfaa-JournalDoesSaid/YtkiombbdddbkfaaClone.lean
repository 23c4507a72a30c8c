/-
  strings.Clone hands back the same bytes and leaves what was there; a file is created. Conditions: a length far below the model's bound.
-/
import Derived.Test.YtkiombbdddbkfaaStrike
import Derived.Test.YtkiombbdddbkfaaShelf
import Derived.Deep.RegionHeld3
import Derived.Deep.RegionWith
namespace Go.Proofs.Ytkiombbdddbkfaa.Dk
open Go.RowKit Go.Proofs.Ytkiombbdddbkfaa.Pk

theorem clone_lite (s : ByteArray) (w : World) (hlim : s.size ≤ 281474976710656) :
    Calls Try.prog 51 #[.string s] w fun e w' => e = .returned (.string s) ∧ Below w.heap.size w w' := Any.stringslite_Clone Try.laysM316 s w hlim
set_option maxHeartbeats 400000 in
theorem clone_any (s : ByteArray) (w : World) (hlim : s.size ≤ 281474976710656) :
    Calls Try.prog 31 #[.string s] w fun e w' => e = .returned (.string s) ∧ Below w.heap.size w w' := by
  go_enter Try.func31, Try.ntmps31
  go_wp2_with (go_at_call 51; refine (clone_lite s _ hlim).mono ?_; rintro e w1 ⟨rfl, hb⟩)
  go_ret
  exact ⟨rfl, hb⟩

/-- What create leaves: the new file's block; the map with one key more; nothing else that was there has turned but the map. -/
structure Created (w w' : World) (bm fb n : Nat) (D : DataW Unit) (name : ByteArray) : Prop where
  own : w'.ownsMap Try.prog 9 ptrElem bm (n + 1) (D.put (.string name.data.toList) (.lit (.int .i64 (fb : Int))))
  file : FC w' fb (.slice none 0 0) 0
  new : w.heap.size ≤ fb
  grown : w.grownBy w' (some bm)

theorem created_of {w w1 w2 : World} {bm n fb : Nat} {D : DataW Unit} {name : ByteArray} {W : World} (hg : w.grownBy W none) (hf : FC W fb (.slice none 0 0) 0) (hnew : w.heap.size ≤ fb) (hb : Below W.heap.size W w1)
    (hown2 : w2.ownsMap Try.prog 9 ptrElem bm (n + 1) (D.put (.string name.data.toList) (.lit (.int .i64 (fb : Int))))) (hturn : w1.mapTurned w2 bm) : Created w w2 bm fb n D name := by
  have hg1 : W.grownBy w1 none := ⟨hb.os, hb.tape, hb.output, hb.size, fun k hk _ => hb.block k hk⟩
  have hne : fb ≠ bm := by
    rintro rfl
    obtain ⟨es, clock, es', clock', hh, rfl⟩ := hturn
    have := (hb.block fb (Array.getElem?_eq_some_iff.1 hf).1).trans hf
    rw [hh] at this; simp at this
  have hlt : fb < W.heap.size := (Array.getElem?_eq_some_iff.1 hf).1
  refine ⟨hown2, ?_, hnew, ((hg.trans hg1).but _).trans hturn.grown⟩
  exact (hturn.grown.block fb (Nat.lt_of_lt_of_le hlt hb.size) (fun e => hne (Option.some.inj e))).trans ((hb.block fb hlt).trans hf)

theorem below_undrew {w w1 : World} (h : Below w.drew.heap.size w.drew w1) : Below w.heap.size w w1 := ⟨h.os, h.tape, h.output, h.size, h.block⟩
theorem cell_made {w : World} {d : Nat} {x u : Value} (c0 : w.cell? ⟨d, 0, none⟩ = some x) (o1 o2 : Obj) : (((w.setCell ⟨d, 0, none⟩ u).alloc o1).alloc o2).cell? ⟨d, 0, none⟩ = some u := by
  have hlt : d < w.heap.size := World.block_lt_of_cell? _ _ c0
  rw [World.cell?_alloc_lt _ _ _ (by simp; omega), World.cell?_alloc_lt _ _ _ (by simp; omega)]
  exact World.cell?_setCell_same _ _ _ c0
theorem made_map {w : World} {d : Nat} {u : Value} : ((w.setCell ⟨d, 0, none⟩ u).alloc (.map #[] 0)).ownsMap Try.prog 9 ptrElem w.heap.size 0 (.map []) := by
  have := World.ownsMap_made (w.setCell ⟨d, 0, none⟩ u) Try.prog 9 ptrElem
  rwa [size_setCell] at this
theorem made_file {w : World} {d : Nat} {u : Value} : FC (((w.setCell ⟨d, 0, none⟩ u).alloc (.map #[] 0)).alloc (.cells #[.slice none 0 0, .int .i64 0] 75)) (w.heap.size + 1) (.slice none 0 0) 0 := by
  have := heap_alloc_new ((w.setCell ⟨d, 0, none⟩ u).alloc (.map #[] 0)) (.cells #[.slice none 0 0, .int .i64 0] 75)
  rw [show ((w.setCell ⟨d, 0, none⟩ u).alloc (.map #[] 0)).heap.size = w.heap.size + 1 by simp] at this
  exact this

set_option maxHeartbeats 1000000 in
theorem create_map {w : World} {d bm n : Nat} {D : DataW Unit} {name : ByteArray} (c0 : w.cell? ⟨d, 0, none⟩ = some (.map (some bm))) (hown : w.ownsMap Try.prog 9 ptrElem bm n D) (hn : n < maxLen) (hs : name.size ≤ 281474976710656) :
    Calls Try.prog 42 #[.pointer (some ⟨d, 0, none⟩), .string name] w fun e w' => ∃ fb, e = .returned (.pointer (some ⟨fb, 0, none⟩)) ∧ Created w w' bm fb n D name := by
  have hkey := key_of (name := name) (by unfold maxLen; omega)
  have heq : (binOp .eql 58 (.map (some bm)) (.map none)).run Try.prog w = .ok (.bool false) w := run_eql_map_nil w 58 9 69 (some bm) Try.underlying58
  have hlt : d < w.heap.size := World.block_lt_of_cell? _ _ c0
  obtain ⟨HN, HK, HO⟩ : Hid (n < maxLen) ∧ Hid (keyOf Try.prog 9 (Value.string name) = some (Lit.string name.data.toList)) ∧ Hid (w.ownsMap Try.prog 9 ptrElem bm n D) := ⟨hn, hkey, hown⟩
  clear hn hkey hown
  go_enter Try.func42, Try.ntmps42
  go_wp2
  go_region_with (first | (go_at_call 31; refine (clone_any name _ hs).mono ?_; rintro e w1 ⟨rfl, hb⟩; have c1 : w1.cell? ⟨d, 0, none⟩ = some (.map (some bm)) := (hb.cell (by simp; omega)).trans ((World.cell?_alloc_lt _ _ _ (by simpa using hlt)).trans c0); obtain ⟨w2, hrun, hown2, hturn⟩ := (((HO.out.alloc _).kept (row := none) ⟨hb.os, hb.tape, hb.output, hb.size, fun k hk _ => hb.block k hk⟩ (by simp)) : w1.ownsMap Try.prog 9 ptrElem bm n D).store law Try.underlying58 HN.out HK.out (ptrElem_some w.heap.size)))
  all_goals
    go_wp2
    go_ret
    exact ⟨_, rfl, created_of (World.grownBy_alloc w _ none) (heap_alloc_new w _) (Nat.le_refl _) (below_undrew hb) hown2 hturn⟩

set_option maxHeartbeats 1000000 in
theorem create_nil {w : World} {d : Nat} {name : ByteArray} (c0 : w.cell? ⟨d, 0, none⟩ = some (.map none)) (f0 : w.frozen? ⟨d, 0, none⟩ = false) (hs : name.size ≤ 281474976710656) :
    Calls Try.prog 42 #[.pointer (some ⟨d, 0, none⟩), .string name] w fun e w' => ∃ fb, e = .returned (.pointer (some ⟨fb, 0, none⟩)) ∧ Created (w.setCell ⟨d, 0, none⟩ (.map (some w.heap.size))) w' w.heap.size fb 0 (.map []) name := by
  have hkey := key_of (name := name) (by unfold maxLen; omega)
  have heq : (binOp .eql 58 (.map none) (.map none)).run Try.prog w = .ok (.bool true) w := run_eql_map_nil w 58 9 69 none Try.underlying58
  have hlt : d < w.heap.size := World.block_lt_of_cell? _ _ c0
  have hmm := @run_makeMap Try.prog
  obtain ⟨HK⟩ : Nonempty (Hid (keyOf Try.prog 9 (Value.string name) = some (Lit.string name.data.toList))) := ⟨hkey⟩
  clear hkey
  go_enter Try.func42, Try.ntmps42
  go_wp2
  go_region_with (first | (go_at_call 31; refine (clone_any name _ hs).mono ?_; rintro e w1 ⟨rfl, hb⟩; have c1 : w1.cell? ⟨d, 0, none⟩ = some (.map (some w.heap.size)) := (hb.cell (by simp; omega)).trans (cell_made c0 _ _); obtain ⟨w2, hrun, hown2, hturn⟩ := (((made_map.alloc _).kept (row := none) ⟨hb.os, hb.tape, hb.output, hb.size, fun k hk _ => hb.block k hk⟩ (by simp)) : w1.ownsMap Try.prog 9 ptrElem w.heap.size 0 (.map [])).store law Try.underlying58 (by unfold maxLen; omega) HK.out (ptrElem_some (w.heap.size + 1))))
  all_goals
    go_wp2
    go_ret
    exact ⟨_, rfl, created_of ((World.grownBy_alloc _ _ none).trans (World.grownBy_alloc _ _ none)) made_file (by rw [size_setCell]; omega) (below_undrew hb) hown2 hturn⟩
end Go.Proofs.Ytkiombbdddbkfaa.Dk
