/-
  Range: it goes by a range over a function that produces a keeper's groups. Conditions: as each theorem names them.
-/
import Derived.Test.YtamcocdkhjplfaaHOwned
namespace Go.Proofs.Ytamcocdkhjplfaa.Gp
set_option linter.unusedVariables false
set_option linter.unusedSimpArgs false
open Go.RowKit Go.Shelf
attribute [local go_sem] Oper.semAt_some
attribute [local go_sem] wide_fn
theorem four (w : World) (a b c d : Obj) : ((((w.alloc a).alloc b).alloc c).alloc d).heap[w.heap.size]? = some a ∧ ((((w.alloc a).alloc b).alloc c).alloc d).heap[w.heap.size + 1]? = some b ∧ ((((w.alloc a).alloc b).alloc c).alloc d).heap[w.heap.size + 2]? = some c ∧ ((((w.alloc a).alloc b).alloc c).alloc d).heap[w.heap.size + 3]? = some d := by
  refine ⟨?_, ?_, ?_, ?_⟩
  · exact (Below.heap_alloc _ _ _ (by simp only [World.size_alloc]; omega)).trans ((Below.heap_alloc _ _ _ (by simp only [World.size_alloc]; omega)).trans ((Below.heap_alloc _ _ _ (by simp only [World.size_alloc]; omega)).trans (World.alloc_heap_new w a)))
  · refine (Below.heap_alloc _ _ _ (by simp only [World.size_alloc]; omega)).trans ((Below.heap_alloc _ _ _ (by simp only [World.size_alloc]; omega)).trans ?_)
    have := World.alloc_heap_new (w.alloc a) b
    rwa [World.size_alloc] at this
  · refine (Below.heap_alloc _ _ _ (by simp only [World.size_alloc]; omega)).trans ?_
    have := World.alloc_heap_new ((w.alloc a).alloc b) c
    rwa [World.size_alloc, World.size_alloc] at this
  · have := World.alloc_heap_new (((w.alloc a).alloc b).alloc c) d
    rwa [World.size_alloc, World.size_alloc, World.size_alloc] at this
theorem blk_kept {W W' : World} {row : Option Nat} {b : Nat} {cs : Array Value} {t : TypeId} {fz : Nat × Nat} (h : W.heap[b]? = some (.cells cs t fz)) (hg : W.grownBy W' row) (hr : ∀ r, row = some r → ∃ o : Obj, W.heap[r]? = some o ∧ o.isCells = false) : W'.heap[b]? = some (.cells cs t fz) := by
  rw [hg.block b (lt_of_heap h) (fun e => by
    obtain ⟨o, ho, hc⟩ := hr b e.symm
    rw [h] at ho
    cases ho
    cases hc)]
  exact h
/-- The two captured cells, the groups L having come. -/
structure RI (s : Nat) (L : List Nat) (W : World) : Prop where
  one : W.heap[s]? = some (.cells #[.int .i64 (fst L : Nat)] 3 (0, 0))
  two : W.heap[s + 1]? = some (.cells #[.int .i64 (lst L : Nat)] 3 (0, 0))
theorem RI.own (s : Nat) : Own (fun (pre : List G16) W => RI s (pre.map Subtype.val) W) := fun _ _ _ _ hs hg hr => ⟨blk_kept hs.one hg hr, blk_kept hs.two hg hr⟩
theorem RI.cells {s : Nat} {L : List Nat} {W : World} (h : RI s L W) : W.cell? ⟨s, 0, none⟩ = some (.int .i64 (fst L : Nat)) ∧ W.frozen? ⟨s, 0, none⟩ = false ∧ W.cell? ⟨s + 1, 0, none⟩ = some (.int .i64 (lst L : Nat)) ∧ W.frozen? ⟨s + 1, 0, none⟩ = false := by
  refine ⟨?_, free_of_heap h.one 0, ?_, free_of_heap h.two 0⟩
  · rw [cell_of_heap h.one]; rfl
  · rw [cell_of_heap h.two]; rfl
set_option maxRecDepth 100000 in
set_option maxHeartbeats 2000000 in
theorem range_ok {k n : Nat} (hn8 : n ≤ 8) (hk : k < n) (w0 : World) : Calls Try.prog 13 #[.int .i64 k, .int .i64 n] w0 fun e w' => e = .returned (.tuple #[.int .i64 (lo k n : Nat), .int .i64 (lo (k + 1) n : Nat), .int .i64 0]) ∧ Below w0.heap.size w0 w' := by
  have hi : okI k n = true := by unfold okI; simp; omega
  have hc : okC n 8 = true := by unfold okC; simp; omega
  refine (callsIn_wide (n := 3)).1 ?_
  refine callsIn_of_wp_marks Try.func13 rfl trivial ?_ rfl
  simp only [Try.ntmps13, List.size_toArray, List.length_cons, List.length_nil, Nat.reduceAdd, Nat.reduceSub, Array.replicate_succ, Array.replicate_zero, List.push_toArray, List.append_toArray, List.nil_append, List.cons_append]
  gi_wp2_with (first
    | (gi_at_call 21; refine (callsIn_wide.2 (isCount_at hc _)).mono ?_; rintro e w2 ⟨rfl, rfl⟩)
    | (gi_at_call 20; refine (callsIn_wide.2 (isIndex_at hi _)).mono ?_; rintro e w2 ⟨rfl, rfl⟩)
    | (gi_at_call 23; refine (callsIn_wide.2 (owned_any _ _ _)).mono ?_; rintro e w2 ⟨rfl, rfl⟩))
  obtain ⟨s, hs⟩ : ∃ s, w0.heap.size = s := ⟨_, rfl⟩
  obtain ⟨W0, hW0⟩ : ∃ W0, (((w0.alloc (.cells #[.int .i64 16] 3)).alloc (.cells #[.int .i64 0] 3)).alloc (.cells #[.int .i64 (k : Int)] 3)).alloc (.cells #[.int .i64 (n : Int)] 3) = W0 := ⟨_, rfl⟩
  have hsz : W0.heap.size = s + 4 := by rw [← hW0, ← hs]; simp
  have hb0 : Below s w0 W0 := by
    rw [← hW0, ← hs]
    exact ((((Below.refl _ w0).alloc (Nat.le_refl _) _).alloc (by simp) _).alloc (by simp; omega) _).alloc (by simp; omega) _
  obtain ⟨e0, e1, e2, e3⟩ := four w0 (.cells #[.int .i64 16] 3) (.cells #[.int .i64 0] 3) (.cells #[.int .i64 (k : Int)] 3) (.cells #[.int .i64 (n : Int)] 3)
  rw [hW0, hs] at e0 e1 e2 e3
  simp only [hs]
  rw [hW0]
  have HS := Lib.hid hs
  have HSZ := Lib.hid hsz
  refine wpIn_rangeFunc_ownF rfl (by omega) (gf := 25) (lb := #[.pointer (some ⟨s + 1 + 1 + 1, 0, none⟩), .pointer (some ⟨s + 1 + 1, 0, none⟩)]) rfl trivial (enters_of Try.func25 (by kernel_rfl) rfl)
    (owned_stops hn8 (s + 2) W0 (by omega) e2 e3) two_t (two_b (by omega)) (Below.refl _ _) (fun _ => rfl)
    (fun pre W => RI s (pre.map Subtype.val) W ∧ Below s w0 W)
    (fun _ _ _ => False)
    (OwnFrom.and (Own.from (RI.own s) _) (ownFrom_below (by omega) (by omega)))
    (fun _ _ _ _ _ hs _ _ => hs)
    ⟨⟨e0, e1⟩, hb0⟩
    (fun x => { tmps := #[.int .i64 k, .int .i64 n, undef, undef, .int .i64 0, .int .i64 0, .int .i64 0, .pointer (some ⟨s, 0, none⟩), .pointer (some ⟨s + 1, 0, none⟩), .int .i64 (x.1 : Int), .int .i64 n, .bool true, .bool false, .bool false, .int .i64 k, .int .i64 n, .bool true, .bool false, .bool false, .int .i64 k, .int .i64 n, .func (.func 25) #[] #[.pointer (some ⟨s + 1 + 1 + 1, 0, none⟩), .pointer (some ⟨s + 1 + 1, 0, none⟩)], .int .i64 (x.1 : Int), undef, undef, undef, undef, undef, undef, undef, undef, undef], defers := [] }) ?assign ?body ?done ?stop
  case assign =>
    clear hW0 e0 e1 e2 e3 hb0 hsz hi hc hs
    intro l x W K hK
    gi_wp2
    exact hK
  case body =>
    clear hW0 e0 e1 e2 e3 hb0 hsz hi hc hs
    rintro l pre ⟨x, hx⟩ W ⟨hR, hB⟩ _
    obtain ⟨c0, f0, c1, f1⟩ := hR.cells
    obtain ⟨L, hL⟩ : ∃ L, pre.map Subtype.val = L := ⟨_, rfl⟩
    obtain ⟨A, hA⟩ : ∃ A, fst L = A := ⟨_, rfl⟩
    obtain ⟨B, hB2⟩ : ∃ B, lst L = B := ⟨_, rfl⟩
    rw [hL] at hR c0 c1
    rw [hA] at c0
    rw [hB2] at c1
    have HL := Lib.hid hL
    have HA := Lib.hid hA
    have HB2 := Lib.hid hB2
    clear hL hA hB2
    have HR := Lib.hid hR
    have HB := Lib.hid hB
    clear hR hB
    have hmx : Try.prog.follows .mixedOrders = true := by kernel_rfl
    gi_wp2
    have fin : KeepsOthers W ((W.drew.setCell ⟨s, 0, none⟩ (.int .i64 (min A x : Nat))).setCell ⟨s + 1, 0, none⟩ (.int .i64 (max B (x + 1) : Nat))) ∧ Two (s + 2) W ((W.drew.setCell ⟨s, 0, none⟩ (.int .i64 (min A x : Nat))).setCell ⟨s + 1, 0, none⟩ (.int .i64 (max B (x + 1) : Nat))) ∧
        (RI s ((pre ++ [(⟨x, hx⟩ : G16)]).map Subtype.val) ((W.drew.setCell ⟨s, 0, none⟩ (.int .i64 (min A x : Nat))).setCell ⟨s + 1, 0, none⟩ (.int .i64 (max B (x + 1) : Nat))) ∧ Below s w0 ((W.drew.setCell ⟨s, 0, none⟩ (.int .i64 (min A x : Nat))).setCell ⟨s + 1, 0, none⟩ (.int .i64 (max B (x + 1) : Nat)))) := by
      have hB := HB.out
      have o := HR.out.one
      have t := HR.out.two
      rw [HA.out] at o
      rw [HB2.out] at t
      have hm : (pre ++ [(⟨x, hx⟩ : G16)]).map Subtype.val = L ++ [x] := by rw [List.map_append, HL.out]; rfl
      rw [hm]
      refine ⟨((KeepsOthers.drew W).trans (KeepsOthers.setCell _ _ _)).trans (KeepsOthers.setCell _ _ _), ?_, ⟨?_, ?_⟩, ((hB.drew).setCell (p := ⟨s, 0, none⟩) (Nat.le_refl _) _).setCell (p := ⟨s + 1, 0, none⟩) (by simp) _⟩
      · exact two_t (two_t (B := W.drew) ⟨rfl, rfl⟩ (two_set (c := s) (by omega) (by omega) _)) (two_set (c := s + 1) (by omega) (by omega) _)
      · refine heap_setCell ?_ (by simp) _
        rw [heap_setCell_same W.drew s 0 _ _ _ o, fst_snoc, HA.out]
        rfl
      · have t2 : ((W.drew).setCell ⟨s, 0, none⟩ (.int .i64 (min A x : Nat))).heap[s + 1]? = some (.cells #[.int .i64 (B : Int)] 3 (0, 0)) := heap_setCell t (by simp) _
        rw [heap_setCell_same _ (s + 1) 0 _ _ _ t2, lst_snoc, HB2.out]
        rfl
    refine region_inRound rfl (by kernel_rfl) hmx ?_
    change wpAnyIn _ _ _ _ _ _ _ _ _ (World.drew _)
    refine wpAnyIn_take (i := 1) (v := .int .i64 (x : Int)) rfl rfl (by kernel_rfl) (by kernel_rfl) (by kernel_rfl) (fun _ _ _ h => h) ⟨Or.inl ⟨by rfl, ?t1⟩, fun _ => rfl⟩ ?_
    case t1 => intro w; go_simp
    refine wpAnyIn_take (i := 4) (v := .int .i64 (x : Int)) rfl rfl (by kernel_rfl) (by kernel_rfl) (by kernel_rfl) (fun _ _ _ h => h) ⟨Or.inl ⟨by rfl, ?t4⟩, fun _ => rfl⟩ ?_
    case t4 => intro w; go_simp
    refine wpAnyIn_take (i := 5) (v := .int .i64 ((x : Int) + 1)) rfl rfl (by kernel_rfl) (by kernel_rfl) (by kernel_rfl) (fun _ _ _ h => h) ⟨Or.inl ⟨by rfl, ?t5⟩, fun _ => rfl⟩ ?_
    case t5 => intro w; go_simp; simp [IntKind.wrap, IntKind.bits, IntKind.signed]; omega
    refine wpAnyIn_ready (rs := [0, 3]) (by kernel_rfl) (by simp) ?_
    refine AllReadyIn.cons rfl (fun K hK => ?_) (AllReadyIn.cons rfl (fun K hK => ?_) AllReadyIn.nil)
    · go_simp
      refine hK _ _ ?_
      clear hK K
      refine wpAnyIn_take (i := 2) (v := .int .i64 (min A x : Nat)) rfl rfl (by kernel_rfl) (by kernel_rfl) (by kernel_rfl) (fun _ _ _ h => h) ⟨Or.inl ⟨by rfl, fun w => (by go_simp; split <;> omega)⟩, fun _ => rfl⟩ ?_
      refine wpAnyIn_ready (rs := [3, 7]) (by kernel_rfl) (by simp) ?_
      refine AllReadyIn.cons rfl (fun K hK => ?_) (AllReadyIn.cons rfl (fun K hK => ?_) AllReadyIn.nil)
      · go_simp
        refine hK _ _ ?_
        clear hK K
        refine wpAnyIn_take (i := 6) (v := .int .i64 (max B (x + 1) : Nat)) rfl rfl (by kernel_rfl) (by kernel_rfl) (by kernel_rfl) (fun _ _ _ h => h) ⟨Or.inl ⟨by rfl, fun w => (by go_simp; split <;> omega)⟩, fun _ => rfl⟩ ?_
        refine wpAnyIn_ready (rs := [7]) (by kernel_rfl) (by simp) ?_
        refine AllReadyIn.cons rfl (fun K hK => ?_) AllReadyIn.nil
        go_simp
        refine hK _ _ ?_
        clear hK K
        refine wpAnyIn_ready (rs := [8]) (by kernel_rfl) (by simp) ?_
        refine AllReadyIn.cons rfl (fun K hK => ?_) AllReadyIn.nil
        go_simp
        refine hK _ _ ?_
        clear hK K
        refine wpAnyIn_done (by kernel_rfl) ?_ _
        exact fin
      · go_simp
        refine hK _ _ ?_
        clear hK K
        refine wpAnyIn_ready (rs := [3]) (by kernel_rfl) (by simp) ?_
        refine AllReadyIn.cons rfl (fun K hK => ?_) AllReadyIn.nil
        go_simp
        refine hK _ _ ?_
        clear hK K
        refine wpAnyIn_take (i := 6) (v := .int .i64 (max B (x + 1) : Nat)) rfl rfl (by kernel_rfl) (by kernel_rfl) (by kernel_rfl) (fun _ _ _ h => h) ⟨Or.inl ⟨by rfl, fun w => (by go_simp; split <;> omega)⟩, fun _ => rfl⟩ ?_
        refine wpAnyIn_ready (rs := [8]) (by kernel_rfl) (by simp) ?_
        refine AllReadyIn.cons rfl (fun K hK => ?_) AllReadyIn.nil
        go_simp
        refine hK _ _ ?_
        clear hK K
        refine wpAnyIn_done (by kernel_rfl) ?_ _
        exact fin
    · go_simp
      refine hK _ _ ?_
      clear hK K
      refine wpAnyIn_take (i := 6) (v := .int .i64 (max B (x + 1) : Nat)) rfl rfl (by kernel_rfl) (by kernel_rfl) (by kernel_rfl) (fun _ _ _ h => h) ⟨Or.inl ⟨by rfl, fun w => (by go_simp; split <;> omega)⟩, fun _ => rfl⟩ ?_
      refine wpAnyIn_ready (rs := [0]) (by kernel_rfl) (by simp) ?_
      refine AllReadyIn.cons rfl (fun K hK => ?_) AllReadyIn.nil
      go_simp
      refine hK _ _ ?_
      clear hK K
      refine wpAnyIn_take (i := 2) (v := .int .i64 (min A x : Nat)) rfl rfl (by kernel_rfl) (by kernel_rfl) (by kernel_rfl) (fun _ _ _ h => h) ⟨Or.inl ⟨by rfl, fun w => (by go_simp; split <;> omega)⟩, fun _ => rfl⟩ ?_
      refine wpAnyIn_ready (rs := [7]) (by kernel_rfl) (by simp) ?_
      refine AllReadyIn.cons rfl (fun K hK => ?_) AllReadyIn.nil
      go_simp
      refine hK _ _ ?_
      clear hK K
      refine wpAnyIn_ready (rs := [8]) (by kernel_rfl) (by simp) ?_
      refine AllReadyIn.cons rfl (fun K hK => ?_) AllReadyIn.nil
      go_simp
      refine hK _ _ ?_
      clear hK K
      refine wpAnyIn_done (by kernel_rfl) ?_ _
      exact fin
  case done =>
    clear hW0 e0 e1 e2 e3 hb0 hsz hi hc hs
    rintro D ys W hD rfl ⟨hR, hB⟩ hK
    obtain ⟨c0, f0, c1, f1⟩ := hR.cells
    rw [gq_val k n 16 (Nat.le_refl _), fst_goods hn8 hk] at c0
    rw [gq_val k n 16 (Nat.le_refl _), lst_goods hn8 hk] at c1
    have hmx : Try.prog.follows .mixedOrders = true := by kernel_rfl
    have HB := Lib.hid hB
    have HK := Lib.hid hK
    clear hR hB hK
    gi_wp2
    gi_big_quiet_th_o (fail)
    gi_wp2
    have hK' : (W.drewN nq).heap[D]? = some (.deferred (some [])) := HK.out
    refine ⟨by simp, .inl ⟨_, _, rfl, run_takeDeferred hK', ?_⟩⟩
    have hlt : w0.heap.size ≤ D := by
      have h1 := HS.out
      have h2 := HSZ.out
      omega
    have HL : Hid (Below w0.heap.size w0 ((W.drewN nq).putObj D (.deferred none))) := Lib.hid (by
      rw [HS.out]
      exact (HB.out.trans (drewN_below W nq)).trans (belowK_b (w := w0) (Nat.le_of_eq HS.out.symm) _ D _ _ hlt hK' rfl rfl))
    refine ⟨_, ?_, rfl, HL.out⟩
    simp [results, Try.f13, go_sem]
  case stop =>
    rintro D c pre W _ _ h _
    exact h.elim
end Go.Proofs.Ytamcocdkhjplfaa.Gp
