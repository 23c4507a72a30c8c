/-
  A pane put into a row at a place, by the library's Insert: in place where there is room, else in new memory. Conditions: at most 4000000 panes.
-/
import Derived.Test.YtlmnkmfpdjkijaaKCpy
import Derived.Test.YtlmnkmfpdjkijaaKRem
namespace Go.Proofs.Ytlmnkmfpdjkijaa.Kp
set_option linter.unusedVariables false
set_option linter.unusedSimpArgs false
open Go.Proofs.Ytlmnkmfpdjkijaa Go.Proofs.Ytlmnkmfpdjkijaa.Ke
open Go.RowKit

/-- A row's block, in parts. -/
theorem RowIn.parts {w : World} {v : Value} {L : List Pn} (h : RowIn w v L) : ∃ g o cap pre sp, v = .slice (some ⟨g, o, none⟩) L.length cap ∧ Blk w g (pre ++ (pns L ++ sp)) ∧ pre.length = o ∧ L.length * 7 + sp.length = cap * 7 ∧ cap ≤ maxLen := by
  obtain ⟨g, o, cap, cur, rfl, h1, h2, h3, h4, h5⟩ := h
  have hcl : cur.toList.length = cur.size := Array.length_toList
  refine ⟨g, o, cap, cur.toList.take o, (cur.toList.drop o).drop (L.length * 7), rfl, ?_, ?_, ?_, h3⟩
  · have e : cur.toList.take o ++ (pns L ++ (cur.toList.drop o).drop (L.length * 7)) = cur.toList := by
      rw [show pns L = (cur.toList.drop o).take (L.length * 7) from h5.symm, List.take_append_drop, List.take_append_drop]
    unfold Blk
    rw [e]
    simpa using h1
  · rw [List.length_take, hcl]; omega
  · rw [List.length_drop, List.length_drop, hcl]; omega
theorem row_back {w : World} {g o cap : Nat} {pre sp : List Value} {L : List Pn} (h : Blk w g (pre ++ (pns L ++ sp))) (hp : pre.length = o) (hs : L.length * 7 + sp.length = cap * 7) (hc : cap ≤ maxLen) : RowIn w (.slice (some ⟨g, o, none⟩) L.length cap) L := by
  refine ⟨g, o, cap, _, rfl, h, by omega, hc, ?_, ?_⟩
  · simp only [List.size_toArray, List.length_append, pns_len]; omega
  · subst hp
    show ((pre ++ (pns L ++ sp)).drop pre.length).take (L.length * 7) = _
    rw [List.drop_left, ← pns_len L, List.take_left]
theorem src_pn {w : World} {bp : Nat} {p : Pn} (hp : w.heap[bp]? = some (pnO p)) : ∀ (j : Nat) (u : Value), (pnC p)[j]? = some u → w.cell? (Addr.add ⟨bp, 0, none⟩ j) = some u := fun j u hu => by
  rw [Addr.add_lit, Nat.zero_add, cell_of_heap hp, ← Array.getElem?_toList]; exact hu
theorem src_row {w : World} {g o : Nat} {pre Y sp : List Value} (h : Blk w g (pre ++ (Y ++ sp))) (hp : pre.length = o) : ∀ (j : Nat) (u : Value), Y[j]? = some u → w.cell? (Addr.add ⟨g, o, none⟩ j) = some u := fun j u hu => by
  have hj := (List.getElem?_eq_some_iff.1 hu).1
  rw [Addr.add_lit, blk_cell h, List.getElem?_append_right (by omega), hp, show o + j - o = j by omega, List.getElem?_append_left hj]
  exact hu
theorem pns_one (p : Pn) : pns [p] = pnC p := by simp [pns]
theorem pns_cons (p : Pn) (L : List Pn) : pns (p :: L) = pnC p ++ pns L := rfl
/-- What a pane put into a row leaves. -/
def PutIn (w : World) (sv : Value) (L : List Pn) (e : Ending) (w' : World) : Prop :=
  ∃ v', e = .returned v' ∧ RowIn w' v' L ∧ w.grownBy w' sv.ownBlock ∧ (∀ g, v'.ownBlock = some g → sv.ownBlock = some g ∨ w.heap.size ≤ g)
theorem new_row {w : World} {L : List Pn} {cap : Nat} (h1 : L.length ≤ cap) (h2 : cap ≤ maxLen) (sv : Value) {C : Array Value} (hC : C = (pns L).toArray ++ Builtin.zeroCells zeroP.cells (cap - L.length)) : PutIn w sv L (.returned (.slice (some ⟨w.heap.size, 0, none⟩) L.length cap)) (w.drew.alloc (.cells C 51)) := by
  subst hC
  refine ⟨_, rfl, row_back (pre := []) (sp := (Builtin.zeroCells zeroP.cells (cap - L.length)).toList) ?_ rfl (by rw [zeroP_len]; omega) h2, ⟨rfl, rfl, rfl, by simp, fun k hk _ => Below.heap_alloc w.drew _ k hk⟩, fun g e => .inr (by injection e with e; exact Nat.le_of_eq e)⟩
  have := heap_alloc_new w.drew (.cells ((pns L).toArray ++ Builtin.zeroCells zeroP.cells (cap - L.length)) 51 (0, 0))
  rw [show w.drew.heap.size = w.heap.size from rfl] at this
  unfold Blk
  rw [this]
  congr 1
  congr 1
  simp
set_option maxRecDepth 20000 in
set_option maxHeartbeats 2000000 in
theorem insert_nil {w : World} {p : Pn} {bp : Nat} (hp : w.heap[bp]? = some (pnO p)) : Calls Try.prog 74 #[.slice none 0 0, .int .i64 0, .slice (some ⟨bp, 0, none⟩) 1 1] w (PutIn w (.slice none 0 0) [p]) := by
  obtain ⟨C, hC⟩ : ∃ C, C = (pns [p]).toArray ++ Builtin.zeroCells zeroP.cells (grownCap w 1 0 51 - 1) := ⟨_, rfl⟩
  have HN := Lib.hid (new_row (w := w) (L := [p]) (cap := grownCap w 1 0 51) (grownCap_ge w 1 0 _) (grownCap_le_maxLen w 1 0 _ (by unfold maxLen; omega)) (.slice none 0 0) hC)
  have hrun : ∀ ty, (Builtin.append_ #[82, 44] ty #[.slice none 0 0, .slice (some ⟨bp, 0, none⟩) 1 1]).run Try.prog w = .ok (.slice (some ⟨w.heap.size, 0, none⟩) 1 (grownCap w 1 0 51)) (w.drew.alloc (.cells C 51)) := fun ty => by
    rw [hC, pns_one]
    exact zeroRow7 (w := w) (ty := ty) Try.underlying82 Try.underlying44 (m := 1) (c' := 1) (news := pnC p) rfl (src_pn hp) (by decide) (by decide)
  clear hp hC
  go_enter Try.func74, Try.ntmps74
  go_wp2_with (at_builtin; refine Lib.wpList_append_run _ rfl _ _ _ _ rfl _ _ rfl rfl _ _ (hrun _) ?_)
  go_ret
  exact HN.out
/-- At the end of a row. -/
theorem insert_end {w : World} {sv : Value} {A : List Pn} {p : Pn} {bp : Nat} (hs : RowIn w sv A) (hn : A.length ≤ 4000000) (hp : w.heap[bp]? = some (pnO p)) : Calls Try.prog 74 #[sv, .int .i64 A.length, .slice (some ⟨bp, 0, none⟩) 1 1] w (PutIn w sv (A ++ [p])) := by
  obtain ⟨g, o, cap, pre, sp, rfl, hb, ho, hsp, hc⟩ := hs.parts
  obtain ⟨n, hn1⟩ : ∃ n, A.length = n := ⟨_, rfl⟩
  have hle : n ≤ cap := by omega
  obtain ⟨v', W, hrun, HN⟩ : ∃ v' W, (∀ ty, (Builtin.append_ #[82, 44] ty #[.slice (some ⟨g, o, none⟩) n cap, .slice (some ⟨bp, 0, none⟩) 1 1]).run Try.prog w = .ok v' W) ∧ Hid (PutIn w (.slice (some ⟨g, o, none⟩) n cap) (A ++ [p]) (.returned v') W) := by
    by_cases hroom : n + 1 ≤ cap
    · have hL : pre ++ (pns A ++ sp) = (pre ++ pns A) ++ (sp.take 7 ++ sp.drop 7) := by rw [List.take_append_drop, List.append_assoc]
      have h7 : (sp.take 7).length = 7 := by rw [List.length_take]; omega
      refine ⟨_, _, fun ty => run_room7 (w := w) (ty := ty) Try.underlying82 Try.underlying44 (m := 1) (c' := 1) (news := pnC p) hb rfl (src_pn hp) (one_pn p) hroom (by simp only [List.length_append, pns_len, pn7]; omega), Lib.hid ⟨_, rfl, ?_, blk_grown _, fun q e => .inl e⟩⟩
      rw [hL, spl_mid (by rw [List.length_append, pns_len, ho, hn1]) (by rw [h7]; rfl)]
      have := blk_set (M := (pre ++ pns A) ++ (pnC p ++ sp.drop 7)) hb
      rw [show n + 1 = (A ++ [p]).length by rw [List.length_append, hn1]; rfl]
      refine row_back (pre := pre) (sp := sp.drop 7) ?_ ho ?_ hc
      · have e : pre ++ (pns (A ++ [p]) ++ sp.drop 7) = (pre ++ pns A) ++ (pnC p ++ sp.drop 7) := by rw [pns_append, pns_one]; simp only [List.append_assoc]
        rw [e]; exact this
      · rw [List.length_append, List.length_drop, hn1]; simp only [List.length_singleton]; omega
    · have hN := new_row (w := w) (L := A ++ [p]) (cap := grownCap w (n + 1) cap 51) (by rw [List.length_append, hn1]; exact grownCap_ge w (n + 1) cap _) (grownCap_le_maxLen w (n + 1) cap _ (by unfold maxLen; omega)) (.slice (some ⟨g, o, none⟩) n cap) rfl
      rw [show (A ++ [p]).length = n + 1 by rw [List.length_append, hn1]; rfl, pns_append, pns_one] at hN
      refine ⟨_, _, fun ty => run_grow7 (w := w) (ty := ty) Try.underlying82 Try.underlying44 (olds := pns A) (news := pnC p) (m := 1) (c' := 1) (by rw [pns_len, hn1]) (src_row hb ho) rfl (src_pn hp) (by omega) (by omega), Lib.hid ?_⟩
      simpa using hN
  rw [hn1] at hn ⊢
  unfold maxLen at hc
  clear hs hp hb hsp hn1
  go_enter Try.func74, Try.ntmps74
  go_wp2_with (at_builtin; refine Lib.wpList_append_run _ rfl _ _ _ _ rfl _ _ rfl rfl _ _ (hrun _) ?_)
  all_goals go_ret
  all_goals exact HN.out
/-- The library asks whether the new pane lies in the row: it does not. -/
theorem overlap_no {w : World} {g bp q : Nat} {L : List Value} {p : Pn} (hp : w.heap[bp]? = some (pnO p)) (hb : Blk w g L) (hne : bp ≠ g) (hL : L ≠ []) (lb cb : Nat) :
    (callFunc 75 #[.slice (some ⟨bp, 0, none⟩) 1 1, .slice (some ⟨g, q, none⟩) lb cb]).run Try.prog w = .ok (.value (.bool false)) w := by
  have hsa : w.shape? bp = some (51, 7) := by simp [World.shape?, hp]
  have hsb : w.shape? g = some (51, L.length) := by simp [World.shape?, hb]
  have hfa : w.frozen? ⟨bp, 0, none⟩ = false := free_of_heap hp 0
  have hfe : w.frozen? { block := bp, off := 7 } = false := free_of_heap hp 7
  rw [run_callFunc_extern Try.func75 (by kernel_rfl) (by kernel_rfl) (by kernel_rfl) (e := Extern.SlicesOverlaps.overlaps #[44, 44] #[4]) (by kernel_rfl),
    Lib.run_overlaps_apart w 44 4 51 Try.underlying44 7 Try.sizeOf51 ⟨bp, 0, none⟩ ⟨g, q, none⟩ 1 1 lb cb hne 51 51 7 L.length hsa hsb (fun e => hL (List.length_eq_zero_iff.1 e)) hfa hfe]
  rfl
theorem wrap_is {z : Int} (h1 : -9223372036854775808 ≤ z) (h2 : z ≤ 9223372036854775807) : IntKind.i64.wrap z = z := by rw [IntKind.wrap_i64]; omega
set_option maxRecDepth 100000 in
set_option maxHeartbeats 4000000 in
/-- Ahead of others, where there is room. -/
theorem insert_shift {w : World} {g o cap n i bp : Nat} {A B : List Pn} {p : Pn} (hs : RowIn w (.slice (some ⟨g, o, none⟩) n cap) (A ++ B)) (hi : A.length = i) (hnn : (A ++ B).length = n) (hB : i < n) (hroom : n + 1 ≤ cap) (hp : w.heap[bp]? = some (pnO p)) (hne : bp ≠ g) :
    Calls Try.prog 74 #[.slice (some ⟨g, o, none⟩) n cap, .int .i64 i, .slice (some ⟨bp, 0, none⟩) 1 1] w (PutIn w (.slice (some ⟨g, o, none⟩) n cap) (A ++ p :: B)) := by
  obtain ⟨g', o', cap', pre, sp, e, hb, ho, hsp, hc⟩ := hs.parts
  simp only [Value.slice.injEq, Option.some.injEq, Addr.mk.injEq, and_true] at e
  obtain ⟨⟨rfl, rfl⟩, e2, rfl⟩ := e
  clear e2 hs
  rw [hnn] at hsp
  have hBl : B.length = n - i := by rw [List.length_append] at hnn; omega
  obtain ⟨Y, hY⟩ : ∃ Y, Y = pns B ++ sp.take 7 := ⟨_, rfl⟩
  have h7 : (sp.take 7).length = 7 := by rw [List.length_take]; omega
  have hYl : Y.length = (n - i) * 7 + 7 := by rw [hY, List.length_append, pns_len, hBl, h7]
  have hL : pre ++ (pns (A ++ B) ++ sp) = (pre ++ pns A) ++ (Y ++ sp.drop 7) := by
    rw [hY, pns_append]
    have := List.take_append_drop 7 sp
    calc pre ++ ((pns A ++ pns B) ++ sp) = pre ++ ((pns A ++ pns B) ++ (sp.take 7 ++ sp.drop 7)) := by rw [this]
      _ = _ := by simp only [List.append_assoc]
  rw [hL] at hb
  have hL1 : (pre ++ pns A) ++ (Y ++ sp.drop 7) = ((pre ++ pns A) ++ Y.take 7) ++ (Y.drop 7 ++ sp.drop 7) := by
    have := List.take_append_drop 7 Y
    calc (pre ++ pns A) ++ (Y ++ sp.drop 7) = (pre ++ pns A) ++ ((Y.take 7 ++ Y.drop 7) ++ sp.drop 7) := by rw [this]
      _ = _ := by simp only [List.append_assoc]
  have hX : (pre ++ pns A).length = o + i * 7 := by rw [List.length_append, pns_len, ho, hi]
  have hsrc : ∀ (W : World), (∀ x, W.cell? x = w.cell? x) → ∀ j u, (pns B)[j]? = some u → W.cell? (Addr.add ⟨g, o + i * 7, none⟩ j) = some u := fun W hW j u hu => by
    rw [hW]
    have hb' : Blk w g ((pre ++ pns A) ++ (pns B ++ (sp.take 7 ++ sp.drop 7))) := by have q := hb; rw [hY] at q; simpa only [List.append_assoc] using q
    exact src_row hb' hX j u hu
  obtain ⟨M1, hM1⟩ : ∃ M1, M1 = ((pre ++ pns A) ++ Y.take 7) ++ (pns B ++ sp.drop 7) := ⟨_, rfl⟩
  have hcp1 : ∀ ty dc sc, (Builtin.copy_ #[82, 82] ty #[.slice (some ⟨g, o + (i + 1) * 7, none⟩) (n - i) dc, .slice (some ⟨g, o + i * 7, none⟩) (n + 1 - i) sc]).run Try.prog w.drew = .ok (goInt ((n - i : Nat) : Int)) (w.drew.setRow g M1.toArray) := fun ty dc sc => by
    have hr := run_copy7 (w := w.drew) (dT := 82) (sT := 82) (ty := ty) (p := o + (i + 1) * 7) (dLen := n - i) (dCap := dc) (sLen := n + 1 - i) (sCap := sc) Try.underlying82 (show Blk w.drew g _ from hb) (cs := pns B) (by rw [pns_len, hBl]; simp only [Nat.min_def]; split <;> omega) (hsrc w.drew (fun _ => rfl)) (by simp only [List.length_append, List.length_drop, pns_len, hBl, hYl, ho, hi]; omega) (one_pns B)
    rw [show Nat.min (n + 1 - i) (n - i) = n - i by simp only [Nat.min_def]; split <;> omega] at hr
    rw [hr, hL1, spl_mid (by rw [List.length_append, hX, List.length_take, hYl]; omega) (by rw [pns_len, hBl, List.length_drop, hYl]; omega), hM1]
  have hb1 : Blk (w.drew.setRow g M1.toArray) g ((pre ++ pns A) ++ (Y.take 7 ++ (pns B ++ sp.drop 7))) := by
    have := blk_set (M := M1) (show Blk w.drew g _ from hb)
    rw [show (pre ++ pns A) ++ (Y.take 7 ++ (pns B ++ sp.drop 7)) = M1 by rw [hM1]; simp only [List.append_assoc]]
    exact this
  obtain ⟨W1, hW1⟩ : ∃ W1, w.drew.setRow g M1.toArray = W1 := ⟨_, rfl⟩
  rw [hW1] at hb1 hcp1
  have hp1 : W1.heap[bp]? = some (pnO p) := by rw [← hW1, setRow_other _ _ _ _ hne]; exact hp
  have hcp2 : ∀ ty dc, (Builtin.copy_ #[82, 44] ty #[.slice (some ⟨g, o + i * 7, none⟩) (n + 1 - i) dc, .slice (some ⟨bp, 0, none⟩) 1 1]).run Try.prog W1 = .ok (goInt ((1 : Nat) : Int)) (W1.setRow g ((pre ++ pns A) ++ (pnC p ++ (pns B ++ sp.drop 7))).toArray) := fun ty dc => by
    have hr := run_copy7 (w := W1) (dT := 82) (sT := 44) (ty := ty) (p := o + i * 7) (dLen := n + 1 - i) (dCap := dc) (sLen := 1) (sCap := 1) Try.underlying82 hb1 (cs := pnC p) (by rw [pn7]; simp only [Nat.min_def]; split <;> omega) (src_pn hp1) (by simp only [List.length_append, List.length_take, List.length_drop, pns_len, hBl, hYl, ho, hi, pn7]; omega) (one_pn p)
    rw [show Nat.min 1 (n + 1 - i) = 1 by simp only [Nat.min_def]; split <;> omega] at hr
    rw [hr, spl_mid hX (by rw [pn7, List.length_take, hYl]; omega)]
  have HN : Hid (PutIn w (.slice (some ⟨g, o, none⟩) n cap) (A ++ p :: B) (.returned (.slice (some ⟨g, o, none⟩) (n + 1) cap)) (W1.setRow g ((pre ++ pns A) ++ (pnC p ++ (pns B ++ sp.drop 7))).toArray)) := Lib.hid (by
    refine ⟨_, rfl, ?_, ?_, fun q e => .inl e⟩
    · have e : pre ++ (pns (A ++ p :: B) ++ sp.drop 7) = (pre ++ pns A) ++ (pnC p ++ (pns B ++ sp.drop 7)) := by rw [pns_append, pns_cons]; simp only [List.append_assoc]
      have hl : (A ++ p :: B).length = n + 1 := by simp only [List.length_append, List.length_cons]; omega
      rw [← hl]
      refine row_back (pre := pre) (sp := sp.drop 7) ?_ ho (by rw [hl, List.length_drop]; omega) hc
      rw [e]
      exact blk_set hb1
    · rw [← hW1]
      exact (⟨rfl, rfl, rfl, Nat.le_refl _, fun _ _ _ => rfl⟩ : w.grownBy w.drew (some g)).andThen ((blk_grown _).andThen (blk_grown _) (fun j e => .inr e)) (fun j e => .inr e))
  have hov : ∀ lb cb, (callFunc 75 #[.slice (some ⟨bp, 0, none⟩) 1 1, .slice (some ⟨g, o + (i + 1) * 7, none⟩) lb cb]).run Try.prog w = .ok (.value (.bool false)) w := fun lb cb => overlap_no hp hb hne (fun e => by have := congrArg List.length e; simp only [List.length_append, hYl, List.length_nil] at this; omega) lb cb
  generalize (pre ++ pns A) ++ (pnC p ++ (pns B ++ sp.drop 7)) = M2 at hcp2 HN
  unfold maxLen at hc
  have hz2 : ¬ ((i : Int) = (n : Int)) := by omega
  have hw1 : IntKind.i64.wrap ((i : Int) + 1) = (i : Int) + 1 := wrap_is (by omega) (by omega)
  have hw2 : IntKind.i64.wrap ((n : Int) + 1) = (n : Int) + 1 := wrap_is (by omega) (by omega)
  have hin : i ≤ n := by omega
  have htn : ((i : Int) + 1).toNat = i + 1 := by omega
  have htn2 : ((n : Int) + 1).toNat = n + 1 := by omega
  have hb2 : ¬ (cap = i + 1) := by omega
  have hb3 : (i : Int) ≤ (n : Int) + 1 := by omega
  have hb4 : ¬ (cap = i) := by omega
  have hb5 : (i : Int) + 1 ≤ (n : Int) + 1 := by omega
  have hb6 : (n : Int) + 1 ≤ (cap : Int) := by omega
  have hb7 : ¬ (cap : Int) < (n : Int) + 1 := by omega
  have hb8 : (0 : Int) ≤ (i : Int) + 1 := by omega
  clear hY hYl hL hL1 hX hsrc hM1 hb1 hp1 hb hp hBl h7 hsp
  go_enter Try.func74, Try.ntmps74
  go_wp2_with (simp only [hov])
  go_region_law (refine step_copy_run rfl _ _ 82 82 rfl _ _ (by simp [Act.eval, Act.put]) (by simp [Act.eval, Act.put]) (hcp1 _ _ _) ?_)
  go_wp2_with (at_builtin; refine wpList_copy_run _ rfl _ _ 82 44 rfl _ _ rfl rfl (hcp2 _ _) ?_)
  go_ret
  exact HN.out
set_option maxRecDepth 100000 in
set_option maxHeartbeats 4000000 in
/-- Ahead of others, where there is no room. -/
theorem insert_grow {w : World} {g o cap n i bp : Nat} {A B : List Pn} {p : Pn} (hs : RowIn w (.slice (some ⟨g, o, none⟩) n cap) (A ++ B)) (hi : A.length = i) (hnn : (A ++ B).length = n) (hB : i < n) (hroom : cap < n + 1) (hn : n ≤ 4000000) (hp : w.heap[bp]? = some (pnO p)) :
    Calls Try.prog 74 #[.slice (some ⟨g, o, none⟩) n cap, .int .i64 i, .slice (some ⟨bp, 0, none⟩) 1 1] w (PutIn w (.slice (some ⟨g, o, none⟩) n cap) (A ++ p :: B)) := by
  obtain ⟨g', o', cap', pre, sp, e, hb, ho, hsp, hc⟩ := hs.parts
  simp only [Value.slice.injEq, Option.some.injEq, Addr.mk.injEq, and_true] at e
  obtain ⟨⟨rfl, rfl⟩, e2, rfl⟩ := e
  clear e2
  have hgl : g < w.heap.size := hs.lt rfl
  rw [hnn] at hsp
  obtain rfl : n = cap := by omega
  have hBl : B.length = n - i := by rw [List.length_append] at hnn; omega
  obtain ⟨k, hk⟩ : ∃ k, n + 1 - i = k := ⟨_, rfl⟩
  have hik : i + k = n + 1 := by omega
  obtain ⟨C, hC⟩ : ∃ C, grownCap w (n + 1) n 51 = C := ⟨_, rfl⟩
  have hC1 : n + 1 ≤ C := by rw [← hC]; exact grownCap_ge w (n + 1) n _
  have hC2 : C ≤ maxLen := by rw [← hC]; exact grownCap_le_maxLen w (n + 1) n _ (by unfold maxLen; omega)
  have hb' : Blk w g ((pre ++ pns A) ++ (pns B ++ sp)) := by have q := hb; rw [pns_append] at q; simpa only [List.append_assoc] using q
  have hX : (pre ++ pns A).length = o + i * 7 := by rw [List.length_append, pns_len, ho, hi]
  have hsrcA : ∀ j u, (pns A)[j]? = some u → w.cell? (Addr.add ⟨g, o, none⟩ j) = some u := src_row (by have q := hb'; simpa only [List.append_assoc] using q) ho
  obtain ⟨Z, hZ⟩ : ∃ Z, (Builtin.zeroCells zeroP.cells k).toList = Z := ⟨_, rfl⟩
  obtain ⟨Z2, hZ2⟩ : ∃ Z2, (Builtin.zeroCells zeroP.cells (C - (n + 1))).toList = Z2 := ⟨_, rfl⟩
  have hZl : Z.length = k * 7 := by rw [← hZ, zeroP_len]
  have hZ2l : Z2.length = (C - (n + 1)) * 7 := by rw [← hZ2, zeroP_len]
  obtain ⟨W0, hW0⟩ : ∃ W0, w.drew.alloc (.cells (pns A ++ (Z ++ Z2)).toArray 51) = W0 := ⟨_, rfl⟩
  have hrun : ∀ ty, (Builtin.append_ #[82, 3] ty #[.slice (some ⟨g, o, none⟩) i n, .int .i64 ((n : Int) + 1 - (i : Int))]).run Try.prog w = .ok (.slice (some ⟨w.heap.size, 0, none⟩) (n + 1) C) W0 := fun ty => by
    have hr := run_zeros7 (w := w) (ty := ty) Try.underlying82 (b := ⟨g, o, none⟩) (n := i) (c := n) (k := k) (olds := pns A) (by rw [pns_len, hi]) hsrcA (by omega) (by omega) (by omega)
    rw [hik, hC] at hr
    rw [show (n : Int) + 1 - (i : Int) = (k : Int) by omega, hr, ← hW0]
    congr 3
    rw [← hZ, ← hZ2]
    apply Array.ext'
    simp
  obtain ⟨g2, hg2⟩ : ∃ g2, w.heap.size = g2 := ⟨_, rfl⟩
  have hbW : Blk W0 g2 (pns A ++ (Z ++ Z2)) := by rw [← hW0, ← hg2]; exact heap_alloc_new w.drew _
  have hold : ∀ q, q < g2 → W0.heap[q]? = w.heap[q]? := fun q hq => by rw [← hW0]; exact Below.heap_alloc w.drew _ q (by rw [← hg2] at hq; exact hq)
  have hsz : w.heap.size ≤ W0.heap.size := by rw [← hW0]; simp
  have hos : W0.os = w.os ∧ W0.tape = w.tape ∧ W0.output = w.output := by rw [← hW0]; exact ⟨rfl, rfl, rfl⟩
  have hbpl : bp < g2 := by rw [← hg2]; exact lt_of_heap hp
  have hgl2 : g < g2 := by rw [← hg2]; exact hgl
  have hp0 : W0.heap[bp]? = some (pnO p) := (hold bp hbpl).trans hp
  have hZ7 : pns A ++ (Z ++ Z2) = pns A ++ (Z.take 7 ++ (Z.drop 7 ++ Z2)) := by rw [← List.append_assoc (Z.take 7), List.take_append_drop]
  rw [hZ7] at hbW
  obtain ⟨W1, hW1⟩ : ∃ W1, W0.setRow g2 (pns A ++ (pnC p ++ (Z.drop 7 ++ Z2))).toArray = W1 := ⟨_, rfl⟩
  have hcp1 : ∀ ty dc, (Builtin.copy_ #[82, 44] ty #[.slice (some ⟨g2, i * 7, none⟩) (n + 1 - i) dc, .slice (some ⟨bp, 0, none⟩) 1 1]).run Try.prog W0 = .ok (goInt ((1 : Nat) : Int)) W1 := fun ty dc => by
    have hr := run_copy7 (w := W0) (dT := 82) (sT := 44) (ty := ty) (p := i * 7) (dLen := n + 1 - i) (dCap := dc) (sLen := 1) (sCap := 1) Try.underlying82 hbW (cs := pnC p) (by rw [pn7]; simp only [Nat.min_def]; split <;> omega) (src_pn hp0) (by simp only [List.length_append, List.length_take, List.length_drop, pns_len, hi, hZl, hZ2l, pn7]; omega) (one_pn p)
    rw [show Nat.min 1 (n + 1 - i) = 1 by simp only [Nat.min_def]; split <;> omega] at hr
    rw [hr, spl_mid (by rw [pns_len, hi]) (by rw [pn7, List.length_take, hZl]; omega), hW1]
  have hb1 : Blk W1.drew g2 ((pns A ++ pnC p) ++ (Z.drop 7 ++ Z2)) := by
    have := blk_set (M := pns A ++ (pnC p ++ (Z.drop 7 ++ Z2))) hbW
    rw [hW1] at this
    rw [show (pns A ++ pnC p) ++ (Z.drop 7 ++ Z2) = pns A ++ (pnC p ++ (Z.drop 7 ++ Z2)) by simp only [List.append_assoc]]
    exact this
  have hsrcB : ∀ j u, (pns B)[j]? = some u → W1.drew.cell? (Addr.add ⟨g, o + i * 7, none⟩ j) = some u := fun j u hu => by
    have h1 := src_row hb' hX j u hu
    rw [Addr.add_lit] at h1 ⊢
    rw [← h1]
    exact World.cell?_of_block (show W1.heap[g]? = w.heap[g]? by rw [← hW1, setRow_other _ _ _ _ (by omega)]; exact hold g hgl2)
  obtain ⟨M2, hM2⟩ : ∃ M2, (pns A ++ pnC p) ++ (pns B ++ Z2) = M2 := ⟨_, rfl⟩
  have hcp2 : ∀ ty dc sc, (Builtin.copy_ #[82, 82] ty #[.slice (some ⟨g2, (i + 1) * 7, none⟩) (n - i) dc, .slice (some ⟨g, o + i * 7, none⟩) (n - i) sc]).run Try.prog W1.drew = .ok (goInt ((n - i : Nat) : Int)) (W1.drew.setRow g2 M2.toArray) := fun ty dc sc => by
    have hr := run_copy7 (w := W1.drew) (dT := 82) (sT := 82) (ty := ty) (p := (i + 1) * 7) (dLen := n - i) (dCap := dc) (sLen := n - i) (sCap := sc) Try.underlying82 hb1 (cs := pns B) (by rw [pns_len, hBl]; simp only [Nat.min_def]; split <;> omega) hsrcB (by simp only [List.length_append, List.length_drop, pns_len, hBl, hi, hZl, hZ2l, pn7]; omega) (one_pns B)
    rw [show Nat.min (n - i) (n - i) = n - i by simp only [Nat.min_def]; split <;> omega] at hr
    rw [hr, spl_mid (by rw [List.length_append, pns_len, hi, pn7]; omega) (by rw [pns_len, hBl, List.length_drop, hZl]; omega), hM2]
  have HN : Hid (PutIn w (.slice (some ⟨g, o, none⟩) n n) (A ++ p :: B) (.returned (.slice (some ⟨g2, 0, none⟩) (n + 1) C)) (W1.drew.setRow g2 M2.toArray)) := Lib.hid (by
    have hl : (A ++ p :: B).length = n + 1 := by simp only [List.length_append, List.length_cons]; omega
    refine ⟨_, rfl, ?_, ?_, fun q e => .inr (by injection e with e; rw [hg2]; exact Nat.le_of_eq e)⟩
    · rw [← hl]
      refine row_back (pre := []) (sp := Z2) ?_ rfl (by rw [hl, hZ2l]; omega) hC2
      rw [show [] ++ (pns (A ++ p :: B) ++ Z2) = M2 by rw [← hM2, pns_append, pns_cons]; simp only [List.append_assoc, List.nil_append]]
      exact blk_set hb1
    · refine ⟨hos.1 ▸ by rw [← hW1]; rfl, hos.2.1 ▸ by rw [← hW1]; rfl, hos.2.2 ▸ by rw [← hW1]; rfl, by rw [← hW1]; simpa [World.setRow] using hsz, fun q hq _ => ?_⟩
      rw [setRow_other _ _ _ _ (by omega)]
      show W1.heap[q]? = _
      rw [← hW1, setRow_other _ _ _ _ (by omega)]
      exact hold q (by omega))
  rw [hg2] at hrun
  unfold maxLen at hc hC2
  have hz2 : ¬ ((i : Int) = (n : Int)) := by omega
  have hw1 : IntKind.i64.wrap ((i : Int) + 1) = (i : Int) + 1 := wrap_is (by omega) (by omega)
  have hw2 : IntKind.i64.wrap ((n : Int) + 1) = (n : Int) + 1 := wrap_is (by omega) (by omega)
  have hw3 : IntKind.i64.wrap ((n : Int) + 1 - (i : Int)) = (n : Int) + 1 - (i : Int) := wrap_is (by omega) (by omega)
  have hin : i ≤ n := by omega
  have htn : ((i : Int) + 1).toNat = i + 1 := by omega
  have hb2 : ¬ (C = i + 1) := by omega
  have hb3 : (i : Int) ≤ (n : Int) + 1 := by omega
  have hb4 : ¬ (n = i) := by omega
  have hb5 : (i : Int) + 1 ≤ (n : Int) + 1 := by omega
  have hb6 : ¬ (C = i) := by omega
  have hb7 : (n : Int) < (n : Int) + 1 := by omega
  have hb8 : (0 : Int) ≤ (i : Int) + 1 := by omega
  have hb9 : (i : Int) ≤ (n : Int) := by omega
  clear hs hb hsp hb' hX hsrcA hZ hZ2 hZl hZ2l hW0 hbW hold hsz hos hp0 hZ7 hW1 hb1 hsrcB hM2 hp hBl hC hk hik
  go_enter Try.func74, Try.ntmps74
  go_upto_region 9 with (fail)
  go_upto_region 10 with (at_builtin; refine Lib.wpList_append_run _ rfl (.tmp 34) (.tmp 39) 82 3 rfl (.slice (some ⟨g, o, none⟩) i n) (.int .i64 ((n : Int) + 1 - (i : Int))) rfl rfl (.slice (some ⟨g2, 0, none⟩) (n + 1) C) W0 (hrun _) ?_)
  go_upto_region 11 with (at_builtin; refine wpList_copy_run _ rfl (.tmp 43) (.tmp 44) 82 44 rfl (.slice (some ⟨g2, i * 7, none⟩) (n + 1 - i) (C - i)) (.slice (some ⟨bp, 0, none⟩) 1 1) rfl rfl (hcp1 _ _) ?_)
  go_region_law (refine step_copy_run rfl (.tmp 50) (.tmp 53) 82 82 rfl (.slice (some ⟨g2, (i + 1) * 7, none⟩) (n - i) (C - (i + 1))) (.slice (some ⟨g, o + i * 7, none⟩) (n - i) (n - i)) (by simp [Act.eval, Act.put]) (by simp [Act.eval, Act.put]) (hcp2 _ _ _) ?_)
  go_wp2
  go_ret
  exact HN.out
end Go.Proofs.Ytlmnkmfpdjkijaa.Kp
