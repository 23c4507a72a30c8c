/-
  Spans sorted by where they begin, by the library's sort: a row of one's own then holds them in that order. Conditions: at most 4096 spans.
-/
import Derived.Test.YtfkdkcdknpjoeaaWP1
import Derived.Test.YtfkdkcdknpjoeaaWShelf
import Derived.Shelf.SlSortCmp.NoneTotal
namespace Go.Proofs.Ytfkdkcdknpjoeaa.Wi
set_option linter.unusedVariables false
set_option linter.unusedSimpArgs false
open Go.RowKit Go.Sort

/-- In order of where they begin. -/
def Ord (S : List Sp) : Prop := S.Pairwise (fun a b => a.1 ≤ b.1)
theorem flat_scs (d : Array Sp) : (flatK spC 2 d).toList = scs d.toList := by
  apply List.ext_getElem?
  intro j
  by_cases hj : j < d.size * 2
  · have h1 := get_flatK spC 2 d j hj
    have hs : j < (flatK spC 2 d).size := by rw [size_flatK]; exact hj
    rw [getElem!_pos _ j hs] at h1
    have hl : j < (scs d.toList).length := by rw [scs_len, Array.length_toList]; exact hj
    rw [Array.getElem?_toList, Array.getElem?_eq_getElem hs, List.getElem?_eq_getElem hl, h1]
    obtain ⟨x, h2, h3⟩ := scs_at (List.getElem?_eq_getElem hl)
    rw [Array.getElem?_toList] at h2
    have h4 : d[j / 2]! = x := by
      obtain ⟨h5, h6⟩ := Array.getElem?_eq_some_iff.1 h2
      rw [getElem!_pos d _ h5, h6]
    rw [h4]
    obtain ⟨h5, h6⟩ := List.getElem?_eq_some_iff.1 h3
    rw [getElem!_pos (spC x) _ h5, h6]
  · rw [List.getElem?_eq_none (by rw [Array.length_toList, size_flatK]; omega), List.getElem?_eq_none (by rw [scs_len, Array.length_toList]; omega)]
theorem take_put (cur F : Array Value) (h : F.size ≤ cur.size) : (putCells id 0 F cur).toList.take F.size = F.toList := by
  apply List.ext_getElem?
  intro j
  by_cases hj : j < F.size
  · rw [List.getElem?_take_of_lt hj, Array.getElem?_toList]
    simp [putCells, hj, show j < cur.size by omega]
  · rw [List.getElem?_take_eq_none (by omega), List.getElem?_eq_none (by simp; omega)]
theorem heap_sorted {w : World} {g n : Nat} {os : Array Obj} {cur F : Array Value} {e : TypeId} {fr : Nat × Nat} (hb : w.heap[g]? = some (.cells cur e fr)) :
    (grow (putRow id (Sort.ahead w n) g 0 F) os).heap[g]? = some (.cells (putCells id 0 F cur) e fr) := by
  have hg : g < w.heap.size := (Array.getElem?_eq_some_iff.1 hb).1
  rw [heap_grow_old _ _ (by simpa using hg)]
  simp [putRow, mapBlock, Sort.ahead, Array.getElem?_modify, hb, onCells]
theorem grown_sorted {w : World} {g n : Nat} {os : Array Obj} (F : Array Value) : w.grownBy (grow (putRow id (Sort.ahead w n) g 0 F) os) (some g) := by
  refine ⟨rfl, rfl, rfl, by simp, fun k hk hne => ?_⟩
  rw [heap_grow_old _ _ (by simpa using hk)]
  have : g ≠ k := fun e => hne (by rw [e])
  simp [putRow, mapBlock, Sort.ahead, Array.getElem?_modify, this]
theorem row_sorted {w : World} {base g cap n m : Nat} {e : TypeId} {os : Array Obj} {L : List Sp} (h : w.ownsRow base e 2 (.slice (some ⟨g, 0, none⟩) m cap) m (scs L)) {d : Array Sp} (hd : d.size = m) :
    (sortWorldK spC 2 w g 0 n d os).ownsRow base e 2 (.slice (some ⟨g, 0, none⟩) m cap) m (scs d.toList) ∧ w.grownBy (sortWorldK spC 2 w g 0 n d os) (some g) := by
  refine ⟨⟨by rw [scs_len, Array.length_toList, hd], ?_⟩, grown_sorted _⟩
  rcases h.2 with ⟨e', -⟩ | ⟨g', cap', cur, e', hb, hg, h1, h2, h3, -⟩
  · simp at e'
  · simp only [Value.slice.injEq, Option.some.injEq, Addr.mk.injEq, and_true, true_and] at e'
    obtain ⟨rfl, rfl⟩ := e'
    have hF : (flatK spC 2 d).size = m * 2 := by rw [size_flatK, hd]
    refine .inr ⟨g, cap, putCells id 0 (flatK spC 2 d) cur, rfl, hb, heap_sorted hg, h1, h2, by simp [putCells, h3], ?_⟩
    rw [← flat_scs, ← hF]
    exact take_put cur _ (by rw [hF, h3]; omega)
theorem holds_row {w : World} {base g cap m : Nat} {e : TypeId} {L : List Sp} (h : w.ownsRow base e 2 (.slice (some ⟨g, 0, none⟩) m cap) m (scs L)) (hm : L.length = m) : HoldsK spC 2 w g 0 L.toArray := by
  intro j hj
  rw [size_flatK] at hj
  have hj' : j < m * 2 := by rw [← hm]; simpa using hj
  rw [Nat.zero_add]
  refine ⟨?_, h.frozenAt j⟩
  have e1 := flat_scs L.toArray
  rw [h.cellAt j hj', show scs L = scs L.toArray.toList from rfl, ← e1, Array.getElem?_toList, Array.getElem?_eq_getElem (by rw [size_flatK]; exact hj), getElem!_pos _ j (by rw [size_flatK]; exact hj)]
  rfl
theorem lt_is (x y : Sp) : ltOf (fun x y : Sp => cmpI x.1 y.1) x y = decide (x.1 < y.1) := by
  unfold ltOf cmpI
  by_cases h1 : x.1 < y.1
  · simp [h1]
  · by_cases h2 : y.1 < x.1 <;> simp [h1, h2]
theorem swo_is : SWO (ltOf fun x y : Sp => cmpI x.1 y.1) where
  irrefl x := by rw [lt_is]; simp
  trans x y z h1 h2 := by rw [lt_is] at *; simp at *; omega
  ntrans x y z h1 h2 := by rw [lt_is] at *; simp at *; omega
set_option maxHeartbeats 1000000 in
theorem sort_at {w0 w : World} {v : Value} {L : List Sp} (hown : w.ownsRow w0.heap.size 34 2 v L.length (scs L)) (hb : Below w0.heap.size w0 w) (hl : L.length ≤ 4096) : Calls Try.prog 27 #[v, .func (.func 28) #[] #[]] w fun e w' => e = .returned (.tuple #[]) ∧ ∃ S : List Sp, S.Perm L ∧ Ord S ∧ w'.ownsRow w0.heap.size 34 2 v S.length (scs S) ∧ Below w0.heap.size w0 w' := by
  rcases hown.2 with ⟨rfl, h0⟩ | ⟨g, cap, cur, rfl, hbg, hg, -⟩
  · have hL : L = [] := List.length_eq_zero_iff.1 h0
    subst hL
    have hcon := AnyF.slices_SortFunc_none (P := Try.prog) Try.sortF none 0 (.func (.func 28) #[] #[]) w
    refine hcon.mono ?_
    rintro e w' ⟨rfl, rfl⟩
    exact ⟨rfl, [], List.Perm.refl _, List.Pairwise.nil, hown, hb⟩
  · have eg : ∀ args w, (callFunc 28 args).run Try.prog w = .ok (.enter 28 args) w := enters_of Try.func28 (by kernel_rfl) rfl
    have hsz : L.toArray.size = L.length := by simp
    have hcon := AnyQ.slices_SortFunc (P := Try.prog) Try.sortF 2 Try.isAgg34 Try.sizeOf34 spC (fun _ => rfl) one_sp (fun x y : Sp => cmpI x.1 y.1) swo_is 28 #[] g 0 cap L.toArray w eg (fun _ _ _ _ x y => by_at x y _) (holds_row hown rfl) (lt_of_heap hg) (by rw [hsz]; omega)
    rw [hsz] at hcon
    refine hcon.mono ?_
    rintro e w' ⟨rfl, d, n, os, hp, hs, rfl⟩
    have hd : d.size = L.length := hp.1.trans hsz
    obtain ⟨h1, h2⟩ := row_sorted (os := os) (n := n) hown hd
    refine ⟨rfl, d.toList, ?_, ?_, ?_, hb.grown h2 hb.size (fun k e => by injection e with e; omega)⟩
    · have h3 := hp.2.2
      rw [show d.extract 0 L.length = d by rw [← hd]; simp, show L.toArray.extract 0 L.length = L.toArray by rw [← hsz]; simp] at h3
      exact h3
    · unfold Ord
      rw [List.pairwise_iff_getElem]
      intro i j hi hj hij
      have h3 := hs i j (Nat.zero_le _) hij (by rw [← hd]; simpa using hj)
      rw [lt_is] at h3
      simp only [decide_eq_false_iff_not, Int.not_lt] at h3
      rw [getElem!_pos d i (by simpa using hi), getElem!_pos d j (by simpa using hj)] at h3
      simpa using h3
    · have e : d.toList.length = L.length := (Array.length_toList).trans hd
      rw [e]
      exact h1
set_option maxHeartbeats 1000000 in
theorem clone_at {w : World} {v : Value} {L : List Sp} (h : SpansAt w v L) (hl : L.length ≤ 4096) : Calls Try.prog 26 #[v] w fun e w' => ∃ v', e = .returned v' ∧ w'.ownsRow w.heap.size 34 2 v' L.length (scs L) ∧ Below w.heap.size w w' := by
  obtain ⟨a, c, rfl⟩ := h.val
  obtain ⟨-, k1, k2, k3⟩ := h.len
  unfold maxLen at k2 k3
  have q : ∀ (w : World) (a : Option Addr) (n c n' c' : Nat), (binOp .eql 24 (.slice a n c) (.slice none n' c')).run Try.prog w = .ok (.bool a.isNone) w := fun w a n c n' c' => Lib.run_eql_slice_nil w _ _ a n c n' c' Try.underlying24
  obtain ⟨n, hn⟩ : ∃ n, L.length = n := ⟨_, rfl⟩
  rw [hn] at h k1 k2 hl ⊢
  cases a with
  | none =>
    have hL : L = [] := by
      obtain ⟨a', cap', h1, -, -, -, h4⟩ := h
      injection h1 with e1 e2 e3
      subst e1
      rcases List.eq_nil_or_concat L with h0 | ⟨l, x, h0⟩
      · exact h0
      · obtain ⟨b, o, e, -⟩ := h4 (by rw [h0]; simp)
        cases e
    subst hL
    have hn0 : n = 0 := by rw [← hn]; rfl
    subst hn0
    clear h hn
    go_enter Try.func26, Try.ntmps26
    go_wp2
    go_ret
    exact ⟨_, rfl, World.ownsRow_nil _ _ _ _, Below.refl _ _⟩
  | some p =>
    have HI := Lib.hid h
    have HN := Lib.hid hn
    clear h hn
    go_enter Try.func26, Try.ntmps26
    go_wp2_with (refine wpList_append_spans (by rfl) _ _ (by rfl) w.heap.size _ [] (by rfl) (World.ownsRow_made w #[] 0 (Nat.le_refl _) (Nat.zero_le _) rfl) (some p) n c L (by rfl) (HI.out.grow ((Below.refl _ _).alloc (Nat.le_refl _) _)) (by simp; omega) (by simp) ?_; intro v9 w9 hown9 hgrow9; have HO9 := Lib.hid hown9; have HB9 : Hid (Below w.heap.size w w9) := Lib.hid (((Below.refl _ w).alloc (Nat.le_refl _) _).grown hgrow9 (by simp) (by intro k hk; simp [Value.ownBlock] at hk; omega)); clear hown9 hgrow9)
    go_ret
    exact ⟨_, rfl, by have := HO9.out; rwa [List.nil_append, HN.out] at this, HB9.out⟩
end Go.Proofs.Ytfkdkcdknpjoeaa.Wi
