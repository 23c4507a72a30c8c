/-
  Texts joined into one file. Each part says in its own head what is proved there, and under which conditions.
-/
import Derived.Test.YtogcickcodlepaaGreatDoorJQ3
import Derived.Test.YtogcickcodlepaaGreatDoorJQ1
import Derived.Test.YtogcickcodlepaaGreatDoorJP7
import Derived.Test.YtogcickcodlepaaGreatDoorJP8
import Derived.Test.YtogcickcodlepaaGreatDoorJP9
import Derived.Test.YtogcickcodlepaaGreatDoorJR3
import Derived.Lib.ItoaMem
import Derived.BigQuiet
set_option linter.unusedVariables false
set_option linter.unusedSimpArgs false
/-
  The document's line of a window. Conditions: the words lie in memory.
-/
namespace Go.Proofs.YtogcickcodlepaaGreatDoor.Pl
open Go.RowKit Go.Proofs.YtogcickcodlepaaGreatDoor.Ex

theorem rnumber_still {l : Bs} {r : Int} (h : isNumber l = true) (hr : numOf l = r) (w : World) : Calls Tryz.prog 54 #[sv l] w fun e w' => e = .returned (.int .i64 r) ∧ w' = w :=
  (rnumber_at l w (by rw [rnum_num h, hr])).mono fun _ _ ⟨h1, h2⟩ => ⟨h1, h2.symm⟩
theorem all_at {L : List Bs} {k i : Nat} (h : (L.drop k).all isNumber = true) (h1 : k ≤ i) (h2 : i < L.length) : isNumber (wd L i) = true := by
  rw [wd_at h2]
  refine List.all_eq_true.1 h _ ?_
  have : (L.drop k)[i - k]? = some L[i] := by rw [List.getElem?_drop, show k + (i - k) = i by omega]; exact List.getElem?_eq_getElem h2
  exact List.mem_of_getElem? this
set_option maxRecDepth 20000 in
set_option maxHeartbeats 2000000 in
theorem rwindow_at {w : World} {v : Value} {ws : List Bs} (h : WdsAt w v ws) {x : LnX} (hx : windowX ws = x) : Calls Tryz.prog 57 #[v] w fun e w' => e = .returned (lnV x) ∧ Below w.heap.size w w' := by
  obtain ⟨a, c, rfl⟩ := Lst.val h
  obtain ⟨n, hn⟩ : ∃ n, ws.length = n := ⟨_, rfl⟩
  obtain ⟨-, k1, k2, k3⟩ := Lst.len h
  rw [hn] at h k1 k2 ⊢
  unfold windowX at hx
  rw [hn] at hx
  by_cases h3 : n < 3
  · rw [if_pos (.inl h3)] at hx
    subst hx
    have b1 : (n : Int) < 3 := by omega
    clear h
    go_enter Tryz.func57, Tryz.ntmps57
    go_wp2_with (refine wpList_store_row (by rfl) 65 (.tmp 2) (.tmp 12) (by rfl) w.heap.size (lnCs ln0).toArray (by rfl) (by rfl) 65 _ (heap_alloc_new w _) info65 (by rfl) (one_ln _) ?_)
    refine bodyPost_ret (res_cell rfl rfl (setRow_heap _ _ _ _ _ _ (heap_alloc_new w _)) Tryz.underlying65 info65) rfl ⟨rfl, below_setRow ((Below.refl _ _).alloc (Nat.le_refl _) _) (Nat.le_refl _) _⟩
  obtain ⟨b, o, rfl, hbl, x1⟩ := WdsAt.wd h (i := 1) (by omega)
  have x2 := h.lit (i := 2) (by omega)
  obtain ⟨R, hR⟩ : ∃ R, (ws.drop 2).all isNumber = R := ⟨_, rfl⟩
  have hd := WdsAt.drop h (k := 2) (by omega)
  obtain ⟨y, hy⟩ : ∃ y, wd ws 1 = y := ⟨_, rfl⟩
  rw [hy] at x1
  have b1 : ¬ (n : Int) < 3 := by omega
  have b2 : (2 : Int) ≤ (n : Int) := by omega
  have b3 : (1 : Int) < (n : Int) := by omega
  have b4 : (2 : Int) < (n : Int) := by omega
  have q1 : n ≤ 9223372036854775807 := by unfold maxLen at k2; omega
  have hb0 : ∀ Z, Below w.heap.size w (w.alloc (.cells Z 65)) := fun Z => (Below.refl _ _).alloc (Nat.le_refl _) _
  have HD := Lib.hid (fun Z => hd.grow (hb0 Z))
  have HR := Lib.hid hR
  have nb : ¬ b = w.heap.size := Nat.ne_of_lt hbl
  clear hd
  cases R with
  | false =>
    rw [hR, if_pos (.inr rfl)] at hx
    subst hx
    clear h x1 x2 hR hy
    go_enter Tryz.func57, Tryz.ntmps57
    go_wp2_with (first
      | (go_at_call 82; refine (rnumbers_at (HD.out _) HR.out).mono ?_; rintro e w2 ⟨rfl, rfl⟩)
      | refine wpList_store_row (by rfl) 65 (.tmp 2) (.tmp 12) (by rfl) w.heap.size (lnCs ln0).toArray (by rfl) (by rfl) 65 _ (heap_alloc_new w _) info65 (by rfl) (one_ln _) ?_)
    refine bodyPost_ret (res_cell rfl rfl (setRow_heap _ _ _ _ _ _ (heap_alloc_new w _)) Tryz.underlying65 info65) rfl ⟨rfl, below_setRow ((Below.refl _ _).alloc (Nat.le_refl _) _) (Nat.le_refl _) _⟩
  | true =>
    rw [hR, if_neg (by rintro (h | h); exact h3 h; cases h), hy] at hx
    have hn2 := all_at hR (Nat.le_refl 2) (by omega)
    obtain ⟨z2, hz2⟩ : ∃ z, wd ws 2 = z := ⟨_, rfl⟩
    obtain ⟨v2, hv2⟩ : ∃ z, numOf z2 = z := ⟨_, rfl⟩
    rw [hz2] at hn2 x2 hx
    rw [hv2] at hx
    have HN2 := Lib.hid hn2
    have HV2 := Lib.hid hv2
    clear hn2 hv2 hz2
    by_cases e0 : y = wTumble
    · by_cases m : n = 3
      · rw [if_pos ⟨e0, m⟩] at hx
        subst hx
        have HY := Lib.hid e0
        rw [e0] at x1
        have f0 : ((n : Int) == 3) = true := by simp; omega
        clear h hR hy m e0
        go_enter Tryz.func57, Tryz.ntmps57
        go_wp2_with (first
          | (go_at_call 82; refine (rnumbers_at (HD.out _) HR.out).mono ?_; rintro e w2 ⟨rfl, rfl⟩)
          | (go_at_call 54; refine (rnumber_still HN2.out HV2.out _).mono ?_; rintro e w2 ⟨rfl, rfl⟩)
          | refine wpList_store_row (by rfl) 65 (.tmp 2) (.tmp 28) (by rfl) w.heap.size (lnCs { ln0 with kind := 119, win := ⟨1, v2, 0⟩ }).toArray (by rfl) (by rfl) 65 _ (heap_alloc_new w _) info65 (by rfl) (one_ln _) ?_)
        refine bodyPost_ret (res_cell rfl rfl (setRow_heap _ _ _ _ _ _ (heap_alloc_new w _)) Tryz.underlying65 info65) rfl ⟨rfl, below_setRow ((Below.refl _ _).alloc (Nat.le_refl _) _) (Nat.le_refl _) _⟩
      · rw [if_neg (by rintro ⟨-, h⟩; exact m h), if_neg (by rintro ⟨h, -⟩; rw [e0] at h; exact absurd h (by decide)), if_neg (by rintro ⟨h, -⟩; rw [e0] at h; exact absurd h (by decide))] at hx
        subst hx
        rw [e0] at x1
        have f0 : ((n : Int) == 3) = false := by simp; omega
        clear h hR hy m e0
        go_enter Tryz.func57, Tryz.ntmps57
        go_wp2_with (first
          | (go_at_call 82; refine (rnumbers_at (HD.out _) HR.out).mono ?_; rintro e w2 ⟨rfl, rfl⟩)
          | (go_at_call 54; refine (rnumber_still HN2.out HV2.out _).mono ?_; rintro e w2 ⟨rfl, rfl⟩)
          | refine wpList_store_row (by rfl) 65 (.tmp 2) (.tmp 65) (by rfl) w.heap.size (lnCs ln0).toArray (by rfl) (by rfl) 65 _ (heap_alloc_new w _) info65 (by rfl) (one_ln _) ?_)
        refine bodyPost_ret (res_cell rfl rfl (setRow_heap _ _ _ _ _ _ (heap_alloc_new w _)) Tryz.underlying65 info65) rfl ⟨rfl, below_setRow ((Below.refl _ _).alloc (Nat.le_refl _) _) (Nat.le_refl _) _⟩
    have g0 : (y == [116, 117, 109, 98, 108, 101]) = false := beq_of_ne e0
    by_cases e1 : y = wSlide
    · by_cases m : n = 4
      · rw [if_neg (by rintro ⟨h, -⟩; exact e0 h), if_pos ⟨e1, m⟩] at hx
        have hn3 := all_at hR (show 2 ≤ 3 by omega) (by omega)
        have x3 := h.lit (i := 3) (by omega)
        obtain ⟨z3, hz3⟩ : ∃ z, wd ws 3 = z := ⟨_, rfl⟩
        obtain ⟨v3, hv3⟩ : ∃ z, numOf z3 = z := ⟨_, rfl⟩
        rw [hz3] at hn3 x3 hx
        rw [hv3] at hx
        have HN3 := Lib.hid hn3
        have HV3 := Lib.hid hv3
        subst hx
        rw [e1] at x1
        have b5 : (3 : Int) < (n : Int) := by omega
        have f0 : ((n : Int) == 4) = true := by simp; omega
        clear h hR hy m e1 hn3 hv3 hz3
        go_enter Tryz.func57, Tryz.ntmps57
        go_upto_region 6 with (go_at_call 82; refine (rnumbers_at (HD.out _) HR.out).mono ?_; rintro e w2 ⟨rfl, rfl⟩)
        refine region_still_tail 10 (by kernel_rfl) (by kernel_rfl) ?_
        intro Y hY
        clear hY
        simp only [List.take_succ_cons, List.take_zero, List.drop_succ_cons, List.drop_zero]
        iterate 3 (refine wpY_step (fun K hK => ?_); go_simp; refine hK.out _ ?_; clear hK K)
        refine wpY_step (fun K hK => ?_); go_simp; refine ⟨_, rnumber_still HN2.out HV2.out _, hK.out _ ?_⟩; clear hK K
        iterate 3 (refine wpY_step (fun K hK => ?_); go_simp; refine hK.out _ ?_; clear hK K)
        refine wpY_step (fun K hK => ?_); go_simp; refine ⟨_, rnumber_still HN3.out HV3.out _, hK.out _ ?_⟩; clear hK K
        iterate 2 (refine wpY_step (fun K hK => ?_); go_simp; refine hK.out _ ?_; clear hK K)
        refine wpY_nil ?_
        refine wpList_store_row (by rfl) 65 (.tmp 2) (.tmp 48) (by rfl) w.heap.size (lnCs { ln0 with kind := 119, win := ⟨2, v2, v3⟩ }).toArray (by rfl) (by rfl) 65 _ (heap_alloc_new w _) info65 (by rfl) (one_ln _) ?_
        go_wp2
        refine bodyPost_ret (res_cell rfl rfl (setRow_heap _ _ _ _ _ _ (heap_alloc_new w _)) Tryz.underlying65 info65) rfl ⟨rfl, below_setRow ((Below.refl _ _).alloc (Nat.le_refl _) _).drew (Nat.le_refl _) _⟩
      · rw [if_neg (by rintro ⟨h, -⟩; exact e0 h), if_neg (by rintro ⟨-, h⟩; exact m h), if_neg (by rintro ⟨h, -⟩; rw [e1] at h; exact absurd h (by decide))] at hx
        subst hx
        rw [e1] at x1
        have f0 : ((n : Int) == 4) = false := by simp; omega
        clear h hR hy m e1
        go_enter Tryz.func57, Tryz.ntmps57
        go_wp2_with (first
          | (go_at_call 82; refine (rnumbers_at (HD.out _) HR.out).mono ?_; rintro e w2 ⟨rfl, rfl⟩)
          | (go_at_call 54; refine (rnumber_still HN2.out HV2.out _).mono ?_; rintro e w2 ⟨rfl, rfl⟩)
          | refine wpList_store_row (by rfl) 65 (.tmp 2) (.tmp 65) (by rfl) w.heap.size (lnCs ln0).toArray (by rfl) (by rfl) 65 _ (heap_alloc_new w _) info65 (by rfl) (one_ln _) ?_)
        refine bodyPost_ret (res_cell rfl rfl (setRow_heap _ _ _ _ _ _ (heap_alloc_new w _)) Tryz.underlying65 info65) rfl ⟨rfl, below_setRow ((Below.refl _ _).alloc (Nat.le_refl _) _) (Nat.le_refl _) _⟩
    have g1 : (y == [115, 108, 105, 100, 101]) = false := beq_of_ne e1
    by_cases e2 : y = wSession
    · by_cases m : n = 3
      · rw [if_neg (by rintro ⟨h, -⟩; exact e0 h), if_neg (by rintro ⟨h, -⟩; exact e1 h), if_pos ⟨e2, m⟩] at hx
        subst hx
        have HY := Lib.hid e2
        rw [e2] at x1
        have f0 : ((n : Int) == 3) = true := by simp; omega
        clear h hR hy m e2
        go_enter Tryz.func57, Tryz.ntmps57
        go_wp2_with (first
          | (go_at_call 82; refine (rnumbers_at (HD.out _) HR.out).mono ?_; rintro e w2 ⟨rfl, rfl⟩)
          | (go_at_call 54; refine (rnumber_still HN2.out HV2.out _).mono ?_; rintro e w2 ⟨rfl, rfl⟩)
          | refine wpList_store_row (by rfl) 65 (.tmp 2) (.tmp 64) (by rfl) w.heap.size (lnCs { ln0 with kind := 119, win := ⟨3, v2, 0⟩ }).toArray (by rfl) (by rfl) 65 _ (heap_alloc_new w _) info65 (by rfl) (one_ln _) ?_)
        refine bodyPost_ret (res_cell rfl rfl (setRow_heap _ _ _ _ _ _ (heap_alloc_new w _)) Tryz.underlying65 info65) rfl ⟨rfl, below_setRow ((Below.refl _ _).alloc (Nat.le_refl _) _) (Nat.le_refl _) _⟩
      · rw [if_neg (by rintro ⟨h, -⟩; exact e0 h), if_neg (by rintro ⟨h, -⟩; exact e1 h), if_neg (by rintro ⟨-, h⟩; exact m h)] at hx
        subst hx
        rw [e2] at x1
        have f0 : ((n : Int) == 3) = false := by simp; omega
        clear h hR hy m e2
        go_enter Tryz.func57, Tryz.ntmps57
        go_wp2_with (first
          | (go_at_call 82; refine (rnumbers_at (HD.out _) HR.out).mono ?_; rintro e w2 ⟨rfl, rfl⟩)
          | (go_at_call 54; refine (rnumber_still HN2.out HV2.out _).mono ?_; rintro e w2 ⟨rfl, rfl⟩)
          | refine wpList_store_row (by rfl) 65 (.tmp 2) (.tmp 65) (by rfl) w.heap.size (lnCs ln0).toArray (by rfl) (by rfl) 65 _ (heap_alloc_new w _) info65 (by rfl) (one_ln _) ?_)
        refine bodyPost_ret (res_cell rfl rfl (setRow_heap _ _ _ _ _ _ (heap_alloc_new w _)) Tryz.underlying65 info65) rfl ⟨rfl, below_setRow ((Below.refl _ _).alloc (Nat.le_refl _) _) (Nat.le_refl _) _⟩
    have g2 : (y == [115, 101, 115, 115, 105, 111, 110]) = false := beq_of_ne e2
    rw [if_neg (by rintro ⟨h, -⟩; exact e0 h), if_neg (by rintro ⟨h, -⟩; exact e1 h), if_neg (by rintro ⟨h, -⟩; exact e2 h)] at hx
    subst hx
    clear h hR hy e0 e1 e2
    go_enter Tryz.func57, Tryz.ntmps57
    go_wp2_with (first
      | (go_at_call 82; refine (rnumbers_at (HD.out _) HR.out).mono ?_; rintro e w2 ⟨rfl, rfl⟩)
      | (go_at_call 54; refine (rnumber_still HN2.out HV2.out _).mono ?_; rintro e w2 ⟨rfl, rfl⟩)
      | refine wpList_store_row (by rfl) 65 (.tmp 2) (.tmp 65) (by rfl) w.heap.size (lnCs ln0).toArray (by rfl) (by rfl) 65 _ (heap_alloc_new w _) info65 (by rfl) (one_ln _) ?_)
    refine bodyPost_ret (res_cell rfl rfl (setRow_heap _ _ _ _ _ _ (heap_alloc_new w _)) Tryz.underlying65 info65) rfl ⟨rfl, below_setRow ((Below.refl _ _).alloc (Nat.le_refl _) _) (Nat.le_refl _) _⟩
end Go.Proofs.YtogcickcodlepaaGreatDoor.Pl
/-
  The document's line that begins a flow. Conditions: the words lie in memory, six and four.
-/
namespace Go.Proofs.YtogcickcodlepaaGreatDoor.Pl
open Go.RowKit Go.Proofs.YtogcickcodlepaaGreatDoor.Ex

theorem box_keep {w w2 : World} {Z : Array Value} (h : Below (w.alloc (.cells Z 65)).heap.size (w.alloc (.cells Z 65)) w2) : w2.heap[w.heap.size]? = some (.cells Z 65 (0, 0)) ∧ Below w.heap.size w w2 :=
  ⟨(h.block _ (by simp)).trans (heap_alloc_new w _), ((Below.refl _ _).alloc (Nat.le_refl _) _).trans (h.mono (by simp))⟩
theorem wds_two {W : World} (a b : Bs) {n : Nat} (hn : W.heap.size = n) : WdsAt (W.alloc (.cells #[sv a, sv b] 9)) (.slice (some ⟨n, 0, none⟩) 2 2) [a, b] := by
  subst hn
  refine ⟨some ⟨W.heap.size, 0, none⟩, 2, rfl, Nat.le_refl _, by show 2 ≤ maxLen; decide, by show 2 ≤ maxLen; decide, fun _ => ⟨W.heap.size, 0, rfl, by simp, fun i x hi j u hj => ?_⟩⟩
  have h := heap_alloc_new W (.cells #[sv a, sv b] 9)
  match j, hj with
  | 0, hj =>
    simp only [List.getElem?_cons_zero, Option.some.injEq] at hj
    subst hj
    match i, hi with
    | 0, hi => simp only [List.getElem?_cons_zero, Option.some.injEq] at hi; subst hi; rw [cell_of_heap h]; rfl
    | 1, hi => simp only [List.getElem?_cons_succ, List.getElem?_cons_zero, Option.some.injEq] at hi; subst hi; rw [cell_of_heap h]; rfl
    | i + 2, hi => simp at hi
  | j + 1, hj => simp at hj
theorem wds_two' {W : World} (a b : Bs) {n : Nat} (hn : W.heap.size = n) : WdsAt (W.alloc (.cells #[sv a, sv b] 9)).drew (.slice (some ⟨n, 0, none⟩) 2 2) [a, b] := (wds_two a b hn).grow (Below.refl _ _).drew
set_option maxRecDepth 20000 in
set_option maxHeartbeats 8000000 in
theorem rflowline_at {w : World} {hv tv : Value} {hs ts : List Bs} (hh : WdsAt w hv hs) (hl : hs.length = 6) (ht : WdsAt w tv ts) (tl : ts.length = 4) (bound : Int) {x : LnX} (hx : flowX hs ts bound = x) :
    Calls Tryz.prog 55 #[hv, tv, .int .i64 bound] w fun e w' => e = .returned (lnV x) ∧ Below w.heap.size w w' := by
  obtain ⟨a, c, rfl⟩ := Lst.val hh
  obtain ⟨a', c', rfl⟩ := Lst.val ht
  rw [hl] at hh ⊢
  rw [tl] at ht ⊢
  obtain ⟨b, o, rfl, hbl, x1⟩ := WdsAt.wd hh (i := 1) (by omega)
  have x2 := hh.lit (i := 2) (by omega)
  have x3 := hh.lit (i := 3) (by omega)
  have x4 := hh.lit (i := 4) (by omega)
  have x5 := hh.lit (i := 5) (by omega)
  obtain ⟨b', o', rfl, hbl', y0⟩ := WdsAt.wd ht (i := 0) (by omega)
  have y1 := ht.lit (i := 1) (by omega)
  have y2 := ht.lit (i := 2) (by omega)
  have y3 := ht.lit (i := 3) (by omega)
  rw [Nat.add_zero] at y0
  unfold flowX at hx
  obtain ⟨h1, eh1⟩ : ∃ z, wd hs 1 = z := ⟨_, rfl⟩
  rw [eh1] at x1 hx
  obtain ⟨h2, eh2⟩ : ∃ z, wd hs 2 = z := ⟨_, rfl⟩
  rw [eh2] at x2 hx
  obtain ⟨h3, eh3⟩ : ∃ z, wd hs 3 = z := ⟨_, rfl⟩
  rw [eh3] at x3 hx
  obtain ⟨h4, eh4⟩ : ∃ z, wd hs 4 = z := ⟨_, rfl⟩
  rw [eh4] at x4 hx
  obtain ⟨h5, eh5⟩ : ∃ z, wd hs 5 = z := ⟨_, rfl⟩
  rw [eh5] at x5 hx
  obtain ⟨t0, et0⟩ : ∃ z, wd ts 0 = z := ⟨_, rfl⟩
  rw [et0] at y0 hx
  obtain ⟨t1, et1⟩ : ∃ z, wd ts 1 = z := ⟨_, rfl⟩
  rw [et1] at y1 hx
  obtain ⟨t2, et2⟩ : ∃ z, wd ts 2 = z := ⟨_, rfl⟩
  rw [et2] at y2 hx
  obtain ⟨t3, et3⟩ : ∃ z, wd ts 3 = z := ⟨_, rfl⟩
  rw [et3] at y3 hx
  have nb : ¬ b = w.heap.size := Nat.ne_of_lt hbl
  have nb' : ¬ b' = w.heap.size := Nat.ne_of_lt hbl'
  have HH := Lib.hid (And.intro hh ht)
  clear hh ht eh1 eh2 eh3 eh4 eh5 et0 et1 et2 et3 hl tl
  by_cases g0 : h2 = wFrom
  case neg =>
    rw [if_pos (.inl g0)] at hx
    subst hx
    have f0 : (h2 == [102, 114, 111, 109]) = false := beq_of_ne g0
    have f0' : (h2 != [102, 114, 111, 109]) = true := by simp [bne, f0]
    clear g0 HH
    go_enter Tryz.func55, Tryz.ntmps55
    go_upto_region 1 with fail
    refine region_still_tail 29 (by kernel_rfl) (by kernel_rfl) ?_
    intro Y hY
    have yy4 := hY 4 11 (by kernel_rfl)
    have yy10 := hY 10 17 (by kernel_rfl)
    have yy16 := hY 16 23 (by kernel_rfl)
    have yy22 := hY 22 29 (by kernel_rfl)
    clear hY
    simp only [List.take_succ_cons, List.take_zero, List.drop_succ_cons, List.drop_zero]
    iterate 29 (refine wpY_step (fun K hK => ?_); go_simp; refine hK.out _ ?_; clear hK K)
    refine wpY_nil ?_
    go_wp2_with (refine wpList_store_row (by rfl) 65 (.tmp 6) (.tmp 40) (by rfl) w.heap.size (lnCs ln0).toArray (by rfl) (by rfl) 65 _ (heap_alloc_new w _) info65 (by rfl) (one_ln _) ?_)
    refine bodyPost_ret (res_cell rfl rfl (setRow_heap _ _ _ _ _ _ (heap_alloc_new w _)) Tryz.underlying65 info65) rfl ⟨rfl, below_setRow ((Below.refl _ _).alloc (Nat.le_refl _) _).drew (Nat.le_refl _) _⟩
  subst g0
  by_cases g1 : h4 = wTo
  case neg =>
    rw [if_pos (.inr (.inl g1))] at hx
    subst hx
    have f1 : (h4 == [116, 111]) = false := beq_of_ne g1
    have f1' : (h4 != [116, 111]) = true := by simp [bne, f1]
    clear g1 HH
    go_enter Tryz.func55, Tryz.ntmps55
    go_upto_region 1 with fail
    refine region_still_tail 29 (by kernel_rfl) (by kernel_rfl) ?_
    intro Y hY
    have yy4 := hY 4 11 (by kernel_rfl)
    have yy10 := hY 10 17 (by kernel_rfl)
    have yy16 := hY 16 23 (by kernel_rfl)
    have yy22 := hY 22 29 (by kernel_rfl)
    clear hY
    simp only [List.take_succ_cons, List.take_zero, List.drop_succ_cons, List.drop_zero]
    iterate 29 (refine wpY_step (fun K hK => ?_); go_simp; refine hK.out _ ?_; clear hK K)
    refine wpY_nil ?_
    go_wp2_with (refine wpList_store_row (by rfl) 65 (.tmp 6) (.tmp 40) (by rfl) w.heap.size (lnCs ln0).toArray (by rfl) (by rfl) 65 _ (heap_alloc_new w _) info65 (by rfl) (one_ln _) ?_)
    refine bodyPost_ret (res_cell rfl rfl (setRow_heap _ _ _ _ _ _ (heap_alloc_new w _)) Tryz.underlying65 info65) rfl ⟨rfl, below_setRow ((Below.refl _ _).alloc (Nat.le_refl _) _).drew (Nat.le_refl _) _⟩
  subst g1
  by_cases g2 : t0 = wReaders
  case neg =>
    rw [if_pos (.inr (.inr (.inl g2)))] at hx
    subst hx
    have f2 : (t0 == [114, 101, 97, 100, 101, 114, 115]) = false := beq_of_ne g2
    have f2' : (t0 != [114, 101, 97, 100, 101, 114, 115]) = true := by simp [bne, f2]
    clear g2 HH
    go_enter Tryz.func55, Tryz.ntmps55
    go_upto_region 1 with fail
    refine region_still_tail 29 (by kernel_rfl) (by kernel_rfl) ?_
    intro Y hY
    have yy4 := hY 4 11 (by kernel_rfl)
    have yy10 := hY 10 17 (by kernel_rfl)
    have yy16 := hY 16 23 (by kernel_rfl)
    have yy22 := hY 22 29 (by kernel_rfl)
    clear hY
    simp only [List.take_succ_cons, List.take_zero, List.drop_succ_cons, List.drop_zero]
    iterate 29 (refine wpY_step (fun K hK => ?_); go_simp; refine hK.out _ ?_; clear hK K)
    refine wpY_nil ?_
    go_wp2_with (refine wpList_store_row (by rfl) 65 (.tmp 6) (.tmp 40) (by rfl) w.heap.size (lnCs ln0).toArray (by rfl) (by rfl) 65 _ (heap_alloc_new w _) info65 (by rfl) (one_ln _) ?_)
    refine bodyPost_ret (res_cell rfl rfl (setRow_heap _ _ _ _ _ _ (heap_alloc_new w _)) Tryz.underlying65 info65) rfl ⟨rfl, below_setRow ((Below.refl _ _).alloc (Nat.le_refl _) _).drew (Nat.le_refl _) _⟩
  subst g2
  by_cases g3 : t2 = wKeepers
  case neg =>
    rw [if_pos (.inr (.inr (.inr (.inl g3))))] at hx
    subst hx
    have f3 : (t2 == [107, 101, 101, 112, 101, 114, 115]) = false := beq_of_ne g3
    have f3' : (t2 != [107, 101, 101, 112, 101, 114, 115]) = true := by simp [bne, f3]
    clear g3 HH
    go_enter Tryz.func55, Tryz.ntmps55
    go_upto_region 1 with fail
    refine region_still_tail 29 (by kernel_rfl) (by kernel_rfl) ?_
    intro Y hY
    have yy4 := hY 4 11 (by kernel_rfl)
    have yy10 := hY 10 17 (by kernel_rfl)
    have yy16 := hY 16 23 (by kernel_rfl)
    have yy22 := hY 22 29 (by kernel_rfl)
    clear hY
    simp only [List.take_succ_cons, List.take_zero, List.drop_succ_cons, List.drop_zero]
    iterate 29 (refine wpY_step (fun K hK => ?_); go_simp; refine hK.out _ ?_; clear hK K)
    refine wpY_nil ?_
    go_wp2_with (refine wpList_store_row (by rfl) 65 (.tmp 6) (.tmp 40) (by rfl) w.heap.size (lnCs ln0).toArray (by rfl) (by rfl) 65 _ (heap_alloc_new w _) info65 (by rfl) (one_ln _) ?_)
    refine bodyPost_ret (res_cell rfl rfl (setRow_heap _ _ _ _ _ _ (heap_alloc_new w _)) Tryz.underlying65 info65) rfl ⟨rfl, below_setRow ((Below.refl _ _).alloc (Nat.le_refl _) _).drew (Nat.le_refl _) _⟩
  subst g3
  by_cases hnum : isNumber t1 = false ∨ isNumber t3 = false
  case pos =>
    rw [if_pos (.inr (.inr (.inr (.inr hnum))))] at hx
    subst hx
    have HNN : Hid ([t1, t3].all isNumber = false) := Lib.hid (by rcases hnum with h | h <;> simp [h])
    clear hnum HH
    go_enter Tryz.func55, Tryz.ntmps55
    go_upto_region 1 with fail
    refine region_still_tail 29 (by kernel_rfl) (by kernel_rfl) ?_
    intro Y hY
    have yy4 := hY 4 11 (by kernel_rfl)
    have yy10 := hY 10 17 (by kernel_rfl)
    have yy16 := hY 16 23 (by kernel_rfl)
    have yy22 := hY 22 29 (by kernel_rfl)
    clear hY
    simp only [List.take_succ_cons, List.take_zero, List.drop_succ_cons, List.drop_zero]
    iterate 29 (refine wpY_step (fun K hK => ?_); go_simp; refine hK.out _ ?_; clear hK K)
    refine wpY_nil ?_
    go_wp2_with (first
      | (go_at_call 82; refine Calls.mono (rnumbers_at (wds_two' t1 t3 (by simp)) HNN.out) ?_; rintro e w2 ⟨rfl, hw2⟩; have hb2 : Below (w.alloc (.cells (lnCs ln0).toArray 65)).heap.size (w.alloc (.cells (lnCs ln0).toArray 65)) w2 := (by rw [← hw2]; exact ((Below.refl _ _).alloc (by simp) _).drew); obtain ⟨hk2, hbw2⟩ := box_keep hb2; have HK2 := Lib.hid (And.intro hk2 hbw2); clear hw2 hb2 hk2 hbw2)
      | refine wpList_store_row (by rfl) 65 (.tmp 6) (.tmp 40) (by rfl) w.heap.size (lnCs ln0).toArray (by rfl) (by rfl) 65 _ HK2.out.1 info65 (by rfl) (one_ln _) ?_)
    refine bodyPost_ret (res_cell rfl rfl (setRow_heap _ _ _ _ _ _ HK2.out.1) Tryz.underlying65 info65) rfl ⟨rfl, below_setRow HK2.out.2 (Nat.le_refl _) _⟩
  case neg =>
    rw [if_neg (by rintro (h | h | h | h | h); exact h rfl; exact h rfl; exact h rfl; exact h rfl; exact hnum h)] at hx
    have n1 : isNumber t1 = true := by cases e : isNumber t1 with | true => rfl | false => exact absurd (.inl e) hnum
    have n3 : isNumber t3 = true := by cases e : isNumber t3 with | true => rfl | false => exact absurd (.inr e) hnum
    have HNN : Hid ([t1, t3].all isNumber = true) := Lib.hid (by simp [n1, n3])
    obtain ⟨v1, hv1⟩ : ∃ z, numOf t1 = z := ⟨_, rfl⟩
    obtain ⟨v3, hv3⟩ : ∃ z, numOf t3 = z := ⟨_, rfl⟩
    rw [hv1, hv3] at hx
    have HN := Lib.hid (And.intro (And.intro n1 hv1) (And.intro n3 hv3))
    subst hx
    clear hnum n1 n3 hv1 hv3
    go_enter Tryz.func55, Tryz.ntmps55
    go_upto_region 1 with fail
    refine region_still_tail 29 (by kernel_rfl) (by kernel_rfl) ?_
    intro Y hY
    have yy4 := hY 4 11 (by kernel_rfl)
    have yy10 := hY 10 17 (by kernel_rfl)
    have yy16 := hY 16 23 (by kernel_rfl)
    have yy22 := hY 22 29 (by kernel_rfl)
    clear hY
    simp only [List.take_succ_cons, List.take_zero, List.drop_succ_cons, List.drop_zero]
    iterate 29 (refine wpY_step (fun K hK => ?_); go_simp; refine hK.out _ ?_; clear hK K)
    refine wpY_nil ?_
    go_upto_region 3 with (go_at_call 82; refine Calls.mono (rnumbers_at (wds_two' t1 t3 (by simp)) HNN.out) ?_; rintro e w2 ⟨rfl, hw2⟩; have hb2 : Below (w.alloc (.cells (lnCs ln0).toArray 65)).heap.size (w.alloc (.cells (lnCs ln0).toArray 65)) w2 := (by rw [← hw2]; exact ((Below.refl _ _).alloc (by simp) _).drew); obtain ⟨hk2, hbw2⟩ := box_keep hb2; have HK2 := Lib.hid (And.intro hk2 hbw2); clear hw2 hb2 hk2 hbw2)
    have x1' : w2.cell? ⟨b, o + 1, none⟩ = some (sv h1) := by rw [HK2.out.2.cell (p := ⟨b, o + 1, none⟩) hbl]; exact x1
    have x3' : w2.cell? ⟨b, o + 3, none⟩ = some (sv h3) := by rw [HK2.out.2.cell (p := ⟨b, o + 3, none⟩) hbl]; exact x3
    have x5' : w2.cell? ⟨b, o + 5, none⟩ = some (sv h5) := by rw [HK2.out.2.cell (p := ⟨b, o + 5, none⟩) hbl]; exact x5
    have y1' : w2.cell? ⟨b', o' + 1, none⟩ = some (sv t1) := by rw [HK2.out.2.cell (p := ⟨b', o' + 1, none⟩) hbl']; exact y1
    have y3' : w2.cell? ⟨b', o' + 3, none⟩ = some (sv t3) := by rw [HK2.out.2.cell (p := ⟨b', o' + 3, none⟩) hbl']; exact y3
    clear x1 x2 x3 x4 x5 y0 y1 y2 y3
    refine region_still_tail 20 (by kernel_rfl) (by kernel_rfl) ?_
    intro Y hY
    clear hY
    simp only [List.take_succ_cons, List.take_zero, List.drop_succ_cons, List.drop_zero]
    iterate 13 (refine wpY_step (fun K hK => ?_); go_simp; refine hK.out _ ?_; clear hK K)
    refine wpY_step (fun K hK => ?_); go_simp; refine ⟨_, rnumber_still HN.out.1.1 HN.out.1.2 _, hK.out _ ?_⟩; clear hK K
    iterate 3 (refine wpY_step (fun K hK => ?_); go_simp; refine hK.out _ ?_; clear hK K)
    refine wpY_step (fun K hK => ?_); go_simp; refine ⟨_, rnumber_still HN.out.2.1 HN.out.2.2 _, hK.out _ ?_⟩; clear hK K
    iterate 2 (refine wpY_step (fun K hK => ?_); go_simp; refine hK.out _ ?_; clear hK K)
    refine wpY_nil ?_
    refine wpList_store_row (by rfl) 65 (.tmp 6) (.tmp 60) (by rfl) w.heap.size (lnCs { ln0 with kind := 102, flw := { ln0.flw with name := h1, frm := h3, dest := h5, bound := bound, readers := v1, keepers := v3 } }).toArray (by rfl) (by rfl) 65 _ HK2.out.1 info65 (by rfl) (one_ln _) ?_
    go_wp2
    refine bodyPost_ret (res_cell rfl rfl (setRow_heap _ _ _ _ _ _ HK2.out.1) Tryz.underlying65 info65) rfl ⟨rfl, below_setRow HK2.out.2.drew (Nat.le_refl _) _⟩
end Go.Proofs.YtogcickcodlepaaGreatDoor.Pl
/-
  The document's lines of steps, its names of aggregations, its numbers as texts. Conditions: the steps lie in memory, are eight at most and without an error.
-/
namespace Go.Proofs.YtogcickcodlepaaGreatDoor.Pl
open Go.RowKit Go.Proofs.YtogcickcodlepaaGreatDoor.Ex

theorem dec_at {i : Int} {w : World} {r : Bs} (h0 : 0 ≤ i) (h1 : i < 1000000000000000000) (hr : Lib.itoa i = r) : Calls Tryz.prog 33 #[.int .i64 i] w fun e w' => e = .returned (sv r) ∧ Below w.heap.size w w' := by
  obtain ⟨n, rfl⟩ : ∃ n : Nat, i = n := ⟨i.toNat, by omega⟩
  rw [Lib.itoa_nonneg] at hr
  subst hr
  exact rdec_any n (by omega) w
theorem aggName_at (a : Int) (w : World) {r : Bs} (hr : aggWord a = r) : Calls Tryz.prog 35 #[.int .i64 a] w fun e w' => e = .returned (sv r) ∧ w = w' := by
  subst hr
  by_cases h1 : a = 1
  · subst h1
    go_enter Tryz.func35, Tryz.ntmps35
    go_wp2
    go_ret
    exact ⟨rfl, rfl⟩
  have e1 := ibne h1
  by_cases h2 : a = 2
  · subst h2
    go_enter Tryz.func35, Tryz.ntmps35
    go_wp2
    go_ret
    exact ⟨rfl, rfl⟩
  have e2 := ibne h2
  by_cases h3 : a = 3
  · subst h3
    go_enter Tryz.func35, Tryz.ntmps35
    go_wp2
    go_ret
    exact ⟨rfl, rfl⟩
  have e3 := ibne h3
  have hr : sv (aggWord a) = .string ⟨#[109, 97, 120]⟩ := by unfold aggWord; rw [if_neg h1, if_neg h2, if_neg h3]; rfl
  go_enter Tryz.func35, Tryz.ntmps35
  go_wp2
  go_ret
  exact ⟨by rw [hr]; rfl, rfl⟩
/-- Steps without an error. -/
def OkS (s : Stp) : Prop := (s.kind = 1 ∨ s.kind = 2 ∨ s.kind = 3) ∧ s.text.length ≤ 200 ∧ 0 ≤ s.n ∧ s.n ≤ 16
set_option maxRecDepth 20000 in
set_option maxHeartbeats 1000000 in
theorem rsteps_at {w : World} {u : Value} {L : List Stp} (hL : StpsAt w u L) (hk : ∀ s ∈ L, OkS s) {r : Bs} (hr : stepsText L = r) (hs : r.length ≤ 1099511627776) :
    Calls Tryz.prog 34 #[u] w fun e w' => e = .returned (sv r) ∧ Below w.heap.size w w' := by
  obtain ⟨a, c, rfl⟩ := hL.1.val
  obtain ⟨n, hn⟩ : ∃ n, L.length = n := ⟨_, rfl⟩
  obtain ⟨-, -, k2, -⟩ := hL.1.len
  rw [hn] at hL k2 ⊢
  have q2 : n ≤ 9223372036854775807 := by unfold maxLen at k2; omega
  have HN := Lib.hid hn
  have HS := Lib.hid hs
  have HL := Lib.hid hL
  have HK := Lib.hid hk
  have H0 : Hid ([] ++ stepsText (L.drop 0) = r) := Lib.hid (by simpa using hr)
  clear hn hs hL hk hr k2
  go_enter Tryz.func34, Tryz.ntmps34
  go_wp2
  go_loopw [3, 4] (fun v z wr => ∃ (k : Nat) (acc : Bs), k ≤ n ∧ z = .int .i64 k ∧ v = sv acc ∧ Hid (acc ++ stepsText (L.drop k) = r) ∧ Hid (Below w.heap.size w wr)) (fun _ z _ => n - (intOf z).toNat)
  case atStart => exact ⟨0, [], Nat.zero_le _, rfl, rfl, H0, Lib.hid (Below.refl _ _)⟩
  case round =>
    obtain ⟨k, acc, hkn, rfl, rfl, hr, hbel⟩ := hrel
    by_cases hlt : k < n
    · have hkl : k < L.length := by rw [HN.out]; exact hlt
      have hd := steps_drop L k hkl
      obtain ⟨b, o, rfl, hbl, c0, c1, c2⟩ := (HL.out.grow hbel.out).cells hkl
      have hok := HK.out _ (List.getElem_mem hkl)
      obtain ⟨⟨kd, tx, nn⟩, hs⟩ : ∃ s, L[k] = s := ⟨_, rfl⟩
      rw [hs] at hd hok c0 c1 c2
      obtain ⟨ok1, ok2, ok3, ok4⟩ := hok
      dsimp only at ok1 ok2 ok3 ok4 c0 c1 c2
      clear hs
      have hr2 : (acc ++ stepText ⟨kd, tx, nn⟩) ++ stepsText (L.drop (k + 1)) = r := by rw [← hr.out, hd]; simp
      have hal : acc.length ≤ 1099511627776 := by
        have h1 := congrArg List.length hr2
        have := HS.out
        rw [List.length_append, List.length_append] at h1
        omega
      have R2 := Lib.hid hr2
      have g0 : (0 : Int) ≤ (k : Int) := by omega
      have g1 : (k : Int) < (n : Int) := by omega
      clear hd hr hr2 hkl
      rcases ok1 with rfl | rfl | rfl
      · have z1 : ¬ 9223372036854775807 < acc.length + 7 := by omega
        have z2 : ¬ 9223372036854775807 < acc.length + 7 + tx.length := by omega
        have z3 : ¬ 9223372036854775807 < acc.length + 7 + tx.length + 1 := by omega
        clear hal
        go_wp2
        go_roundw
        case rel => exact ⟨k + 1, acc ++ stepText ⟨1, tx, nn⟩, by omega, by go_num, congrArg Value.string (by apply ByteArray.ext; simp [ByteArray.data_append, stepText, lineB, wFilter]), R2, hbel⟩
        case measure => simp [intOf]; omega
      · have z1 : ¬ 9223372036854775807 < acc.length + 4 := by omega
        have z2 : ¬ 9223372036854775807 < acc.length + 4 + tx.length := by omega
        have z3 : ¬ 9223372036854775807 < acc.length + 4 + tx.length + 1 := by omega
        clear hal
        go_wp2
        go_roundw
        case rel => exact ⟨k + 1, acc ++ stepText ⟨2, tx, nn⟩, by omega, by go_num, congrArg Value.string (by apply ByteArray.ext; simp [ByteArray.data_append, stepText, lineB, wSet]), R2, hbel⟩
        case measure => simp [intOf]; omega
      · obtain ⟨x, hx⟩ : ∃ x, Lib.itoa nn = x := ⟨_, rfl⟩
        have hxl := itoa_len nn (by unfold Num64; omega)
        rw [hx] at hxl
        have HX := Lib.hid hx
        have HO := Lib.hid (And.intro ok3 ok4)
        have z1 : ¬ 9223372036854775807 < acc.length + 4 := by omega
        have z2 : ¬ 9223372036854775807 < acc.length + 4 + x.length := by omega
        have z3 : ¬ 9223372036854775807 < acc.length + 4 + x.length + 1 := by omega
        clear hal hx
        go_wp2_with (go_at_call 33; refine (dec_at HO.out.1 (by have := HO.out.2; omega) HX.out).mono ?_; rintro e w2 ⟨rfl, hb2⟩; have HB2 := Lib.hid (hbel.out.trans (hb2.mono hbel.out.size)); clear hb2)
        go_roundw
        case rel => exact ⟨k + 1, acc ++ stepText ⟨3, tx, nn⟩, by omega, by go_num, congrArg Value.string (by apply ByteArray.ext; simp [ByteArray.data_append, stepText, lineB, wKey, HX.out]), R2, HB2⟩
        case measure => simp [intOf]; omega
    · have hkn2 : k = n := by omega
      have hfin : Hid (acc = r) := Lib.hid (by
        have := hr.out
        rw [hkn2, ← HN.out, List.drop_length] at this
        simpa [stepsText] using this)
      clear hr hkn2
      go_wp2
      go_ret
      exact ⟨by rw [hfin.out]; rfl, hbel.out⟩
end Go.Proofs.YtogcickcodlepaaGreatDoor.Pl
/-
  What a line says, as the document reads it. Conditions: the line is no longer than 4096 bytes; its words, one at least, lie in memory.
-/
namespace Go.Proofs.YtogcickcodlepaaGreatDoor.Pl
open Go.RowKit Go.Proofs.YtogcickcodlepaaGreatDoor.Ex

/-- What is asked of the line that is read. -/
structure LnH (w : World) (s : ByteArray) (b o n c : Nat) (ws : List Bs) : Prop where
  small : s.size ≤ 4096
  words : wordsOf s.data.toList = ws
  at_ : WdsAt w (.slice (some ⟨b, o, none⟩) n c) ws
  len : ws.length = n
  pos : 0 < n
  lt : b < w.heap.size
theorem LnH.facts {w : World} {s : ByteArray} {b o n c : Nat} {ws : List Bs} (h : LnH w s b o n c ws) : (0 : Int) < (n : Int) ∧ n ≤ 9223372036854775807 ∧ ¬ b = w.heap.size ∧ w.cell? ⟨b, o, none⟩ = some (sv (wd ws 0)) := by
  obtain ⟨-, -, k, -⟩ := Lst.len h.at_
  refine ⟨by have := h.pos; omega, by unfold maxLen at k; omega, Nat.ne_of_lt h.lt, ?_⟩
  have := h.at_.lit (i := 0) (by have := h.len; have := h.pos; omega)
  rwa [Nat.add_zero] at this
set_option maxRecDepth 20000 in
set_option maxHeartbeats 4000000 in
theorem rline_none {w : World} {s : ByteArray} {b o n c : Nat} {ws : List Bs} (h : LnH w s b o n c ws) (g : ∀ z ∈ [wTopic, wFlow, wFilter, wSet, wKey, wWindow, wAgg], wd ws 0 ≠ z) {x : LnX} (hx : lineX s.data.toList ws = x) :
    Calls Tryz.prog 30 #[.string s, .slice (some ⟨b, o, none⟩) n c] w fun e w' => e = .returned (lnV x) ∧ Below w.heap.size w w' := by
  obtain ⟨hpos, hmx, nb, x0⟩ := h.facts
  have hpn := h.pos
  have hbl := h.lt
  have HH := Lib.hid h
  have hat := h.at_
  have hlen := h.len
  have hwd := h.words
  have hsm := h.small
  clear h
  obtain ⟨y, hy⟩ : ∃ y, wd ws 0 = y := ⟨_, rfl⟩
  unfold lineX at hx
  rw [hy] at g hx x0
  rw [if_neg (g wTopic (by simp)), if_neg (g wFlow (by simp)), if_neg (g wFilter (by simp)), if_neg (g wSet (by simp)), if_neg (g wKey (by simp)), if_neg (g wWindow (by simp)), if_neg (g wAgg (by simp))] at hx
  subst hx
  have g0 : (y == [116, 111, 112, 105, 99]) = false := beq_of_ne (g wTopic (by simp))
  have g1 : (y == [102, 108, 111, 119]) = false := beq_of_ne (g wFlow (by simp))
  have g2 : (y == [102, 105, 108, 116, 101, 114]) = false := beq_of_ne (g wFilter (by simp))
  have g3 : (y == [115, 101, 116]) = false := beq_of_ne (g wSet (by simp))
  have g4 : (y == [107, 101, 121]) = false := beq_of_ne (g wKey (by simp))
  have g5 : (y == [119, 105, 110, 100, 111, 119]) = false := beq_of_ne (g wWindow (by simp))
  have g6 : (y == [97, 103, 103]) = false := beq_of_ne (g wAgg (by simp))
  clear HH hat hlen hwd hsm g hy
  go_enter Tryz.func30, Tryz.ntmps30
  go_wp2_with (refine wpList_store_row (by rfl) 65 (.tmp 4) (.tmp 128) (by rfl) w.heap.size (lnCs ln0).toArray (by rfl) (by rfl) 65 _ (heap_alloc_new w _) info65 (by rfl) (one_ln _) ?_)
  refine bodyPost_ret (res_cell rfl rfl (setRow_heap _ _ _ _ _ _ (heap_alloc_new w _)) Tryz.underlying65 info65) rfl ⟨rfl, below_setRow ((Below.refl _ _).alloc (Nat.le_refl _) _) (Nat.le_refl _) _⟩
set_option maxRecDepth 20000 in
set_option maxHeartbeats 4000000 in
theorem rline_topic {w : World} {s : ByteArray} {b o n c : Nat} {ws : List Bs} (h : LnH w s b o n c ws) (g : wd ws 0 = wTopic) {x : LnX} (hx : lineX s.data.toList ws = x) :
    Calls Tryz.prog 30 #[.string s, .slice (some ⟨b, o, none⟩) n c] w fun e w' => e = .returned (lnV x) ∧ Below w.heap.size w w' := by
  obtain ⟨hpos, hmx, nb, x0⟩ := h.facts
  have hpn := h.pos
  have hbl := h.lt
  have HH := Lib.hid h
  have hat := h.at_
  have hlen := h.len
  have hwd := h.words
  have hsm := h.small
  clear h
  unfold lineX at hx
  rw [if_pos g] at hx
  rw [g] at x0
  rw [hlen] at hx
  by_cases m : n = 3
  · have hx2 := hat.lit (i := 2) (by omega)
    have hx1 := hat.lit (i := 1) (by omega)
    obtain ⟨z, hz⟩ : ∃ z, wd ws 2 = z := ⟨_, rfl⟩
    obtain ⟨z1, hz1⟩ : ∃ z, wd ws 1 = z := ⟨_, rfl⟩
    rw [hz] at hx2 hx
    rw [hz1] at hx1 hx
    subst m
    by_cases hn : isNumber z = true
    · rw [if_pos ⟨rfl, hn⟩] at hx
      obtain ⟨k, hk⟩ : ∃ k, numOf z = k := ⟨_, rfl⟩
      rw [hk] at hx
      subst hx
      have HNK := Lib.hid (And.intro hn hk)
      have HY : Hid (rnum z = k) := Lib.hid (by rw [rnum_num hn, hk])
      have hk0 : (0 : Int) ≤ k := by rw [← hk]; exact (numOf_small hn).1
      clear hn hk g hz hz1
      clear HH hat hlen hwd hsm
      go_enter Tryz.func30, Tryz.ntmps30
      go_upto_region 5 with (first | (go_at_call 54; refine (rnumber_at _ _ HY.out).mono ?_; rintro e w2 ⟨rfl, rfl⟩))
      refine region_still_tail 9 (by kernel_rfl) (by kernel_rfl) ?_
      intro Y hY
      clear hY
      simp only [List.take_succ_cons, List.take_zero, List.drop_succ_cons, List.drop_zero]
      iterate 6 (refine wpY_step (fun K hK => ?_); go_simp; refine hK.out _ ?_; clear hK K)
      refine wpY_step (fun K hK => ?_); go_simp; refine ⟨_, rnumber_still HNK.out.1 HNK.out.2 _, hK.out _ ?_⟩; clear hK K
      iterate 2 (refine wpY_step (fun K hK => ?_); go_simp; refine hK.out _ ?_; clear hK K)
      refine wpY_nil ?_
      refine wpList_store_row (by rfl) 65 (.tmp 4) (.tmp 32) (by rfl) w.heap.size (lnCs { ln0 with kind := 116, top := ⟨z1, k⟩ }).toArray (by rfl) (by rfl) 65 _ (heap_alloc_new w _) info65 (by rfl) (one_ln _) ?_
      go_wp2
      refine bodyPost_ret (res_cell rfl rfl (setRow_heap _ _ _ _ _ _ (heap_alloc_new w _)) Tryz.underlying65 info65) rfl ⟨rfl, below_setRow ((Below.refl _ _).alloc (Nat.le_refl _) _).drew (Nat.le_refl _) _⟩
    · rw [if_neg (by rintro ⟨-, h⟩; exact hn h)] at hx
      subst hx
      obtain ⟨k, hk⟩ : ∃ k, rnum z = k := ⟨_, rfl⟩
      have HY := Lib.hid hk
      have hk0 : ¬ (0 : Int) ≤ k := by rw [← hk]; exact fun h => hn ((rnum_ge z).1 h)
      clear hn hk g hz hz1
      clear HH hat hlen hwd hsm
      go_enter Tryz.func30, Tryz.ntmps30
      go_wp2_with (first
        | (go_at_call 54; refine (rnumber_at _ _ HY.out).mono ?_; rintro e w2 ⟨rfl, rfl⟩)
        | refine wpList_store_row (by rfl) 65 (.tmp 4) (.tmp 128) (by rfl) w.heap.size (lnCs ln0).toArray (by rfl) (by rfl) 65 _ (heap_alloc_new w _) info65 (by rfl) (one_ln _) ?_)
      refine bodyPost_ret (res_cell rfl rfl (setRow_heap _ _ _ _ _ _ (heap_alloc_new w _)) Tryz.underlying65 info65) rfl ⟨rfl, below_setRow ((Below.refl _ _).alloc (Nat.le_refl _) _) (Nat.le_refl _) _⟩
  · rw [if_neg (by rintro ⟨h, -⟩; exact m h)] at hx
    subst hx
    have f0 : ((n : Int) == 3) = false := by simp; omega
    clear m g
    clear HH hat hlen hwd hsm
    go_enter Tryz.func30, Tryz.ntmps30
    go_wp2_with (refine wpList_store_row (by rfl) 65 (.tmp 4) (.tmp 128) (by rfl) w.heap.size (lnCs ln0).toArray (by rfl) (by rfl) 65 _ (heap_alloc_new w _) info65 (by rfl) (one_ln _) ?_)
    refine bodyPost_ret (res_cell rfl rfl (setRow_heap _ _ _ _ _ _ (heap_alloc_new w _)) Tryz.underlying65 info65) rfl ⟨rfl, below_setRow ((Below.refl _ _).alloc (Nat.le_refl _) _) (Nat.le_refl _) _⟩
set_option maxRecDepth 20000 in
set_option maxHeartbeats 4000000 in
theorem rline_filter {w : World} {s : ByteArray} {b o n c : Nat} {ws : List Bs} (h : LnH w s b o n c ws) (g : wd ws 0 = wFilter) {x : LnX} (hx : lineX s.data.toList ws = x) :
    Calls Tryz.prog 30 #[.string s, .slice (some ⟨b, o, none⟩) n c] w fun e w' => e = .returned (lnV x) ∧ Below w.heap.size w w' := by
  obtain ⟨hpos, hmx, nb, x0⟩ := h.facts
  have hpn := h.pos
  have hbl := h.lt
  have HH := Lib.hid h
  have hat := h.at_
  have hlen := h.len
  have hwd := h.words
  have hsm := h.small
  clear h
  unfold lineX at hx
  rw [if_neg (by rw [g]; decide), if_neg (by rw [g]; decide), if_pos g] at hx
  rw [g] at x0
  rw [hlen] at hx
  by_cases m : 2 ≤ n
  · rw [if_pos m] at hx
    obtain ⟨r, hr⟩ : ∃ r, restOf s.data.toList = r := ⟨_, rfl⟩
    rw [hr] at hx
    subst hx
    have HR : Hid (∀ W, Calls Tryz.prog 56 #[.string s, sv wFilter] W fun e w' => e = .returned (sv r) ∧ W = w') := Lib.hid (fun W => rrest_any s W hsm (by rw [hwd]; intro e; rw [e] at hlen; simp at hlen; omega) (by rw [hwd, g]) hr)
    have f0 : (2 : Int) ≤ (n : Int) := by omega
    clear m g hr
    clear HH hat hlen hwd hsm
    go_enter Tryz.func30, Tryz.ntmps30
    go_wp2_with (first
      | (go_at_call 56; refine (HR.out _).mono ?_; rintro e w2 ⟨rfl, rfl⟩)
      | refine wpList_store_row (by rfl) 65 (.tmp 4) (.tmp 88) (by rfl) w.heap.size (lnCs { ln0 with kind := 115, stp := ⟨1, r, 0⟩ }).toArray (by rfl) (by rfl) 65 _ (heap_alloc_new w _) info65 (by rfl) (one_ln _) ?_)
    refine bodyPost_ret (res_cell rfl rfl (setRow_heap _ _ _ _ _ _ (heap_alloc_new w _)) Tryz.underlying65 info65) rfl ⟨rfl, below_setRow ((Below.refl _ _).alloc (Nat.le_refl _) _) (Nat.le_refl _) _⟩
  · rw [if_neg m] at hx
    subst hx
    have f0 : ¬ (2 : Int) ≤ (n : Int) := by omega
    clear m g
    clear HH hat hlen hwd hsm
    go_enter Tryz.func30, Tryz.ntmps30
    go_wp2_with (refine wpList_store_row (by rfl) 65 (.tmp 4) (.tmp 128) (by rfl) w.heap.size (lnCs ln0).toArray (by rfl) (by rfl) 65 _ (heap_alloc_new w _) info65 (by rfl) (one_ln _) ?_)
    refine bodyPost_ret (res_cell rfl rfl (setRow_heap _ _ _ _ _ _ (heap_alloc_new w _)) Tryz.underlying65 info65) rfl ⟨rfl, below_setRow ((Below.refl _ _).alloc (Nat.le_refl _) _) (Nat.le_refl _) _⟩
set_option maxRecDepth 20000 in
set_option maxHeartbeats 4000000 in
theorem rline_set {w : World} {s : ByteArray} {b o n c : Nat} {ws : List Bs} (h : LnH w s b o n c ws) (g : wd ws 0 = wSet) {x : LnX} (hx : lineX s.data.toList ws = x) :
    Calls Tryz.prog 30 #[.string s, .slice (some ⟨b, o, none⟩) n c] w fun e w' => e = .returned (lnV x) ∧ Below w.heap.size w w' := by
  obtain ⟨hpos, hmx, nb, x0⟩ := h.facts
  have hpn := h.pos
  have hbl := h.lt
  have HH := Lib.hid h
  have hat := h.at_
  have hlen := h.len
  have hwd := h.words
  have hsm := h.small
  clear h
  unfold lineX at hx
  rw [if_neg (by rw [g]; decide), if_neg (by rw [g]; decide), if_neg (by rw [g]; decide), if_pos g] at hx
  rw [g] at x0
  rw [hlen] at hx
  by_cases m : 2 ≤ n
  · rw [if_pos m] at hx
    obtain ⟨r, hr⟩ : ∃ r, restOf s.data.toList = r := ⟨_, rfl⟩
    rw [hr] at hx
    subst hx
    have HR : Hid (∀ W, Calls Tryz.prog 56 #[.string s, sv wSet] W fun e w' => e = .returned (sv r) ∧ W = w') := Lib.hid (fun W => rrest_any s W hsm (by rw [hwd]; intro e; rw [e] at hlen; simp at hlen; omega) (by rw [hwd, g]) hr)
    have f0 : (2 : Int) ≤ (n : Int) := by omega
    clear m g hr
    clear HH hat hlen hwd hsm
    go_enter Tryz.func30, Tryz.ntmps30
    go_wp2_with (first
      | (go_at_call 56; refine (HR.out _).mono ?_; rintro e w2 ⟨rfl, rfl⟩)
      | refine wpList_store_row (by rfl) 65 (.tmp 4) (.tmp 88) (by rfl) w.heap.size (lnCs { ln0 with kind := 115, stp := ⟨2, r, 0⟩ }).toArray (by rfl) (by rfl) 65 _ (heap_alloc_new w _) info65 (by rfl) (one_ln _) ?_)
    refine bodyPost_ret (res_cell rfl rfl (setRow_heap _ _ _ _ _ _ (heap_alloc_new w _)) Tryz.underlying65 info65) rfl ⟨rfl, below_setRow ((Below.refl _ _).alloc (Nat.le_refl _) _) (Nat.le_refl _) _⟩
  · rw [if_neg m] at hx
    subst hx
    have f0 : ¬ (2 : Int) ≤ (n : Int) := by omega
    clear m g
    clear HH hat hlen hwd hsm
    go_enter Tryz.func30, Tryz.ntmps30
    go_wp2_with (refine wpList_store_row (by rfl) 65 (.tmp 4) (.tmp 128) (by rfl) w.heap.size (lnCs ln0).toArray (by rfl) (by rfl) 65 _ (heap_alloc_new w _) info65 (by rfl) (one_ln _) ?_)
    refine bodyPost_ret (res_cell rfl rfl (setRow_heap _ _ _ _ _ _ (heap_alloc_new w _)) Tryz.underlying65 info65) rfl ⟨rfl, below_setRow ((Below.refl _ _).alloc (Nat.le_refl _) _) (Nat.le_refl _) _⟩
set_option maxRecDepth 20000 in
set_option maxHeartbeats 4000000 in
theorem rline_key {w : World} {s : ByteArray} {b o n c : Nat} {ws : List Bs} (h : LnH w s b o n c ws) (g : wd ws 0 = wKey) {x : LnX} (hx : lineX s.data.toList ws = x) :
    Calls Tryz.prog 30 #[.string s, .slice (some ⟨b, o, none⟩) n c] w fun e w' => e = .returned (lnV x) ∧ Below w.heap.size w w' := by
  obtain ⟨hpos, hmx, nb, x0⟩ := h.facts
  have hpn := h.pos
  have hbl := h.lt
  have HH := Lib.hid h
  have hat := h.at_
  have hlen := h.len
  have hwd := h.words
  have hsm := h.small
  clear h
  unfold lineX at hx
  rw [if_neg (by rw [g]; decide), if_neg (by rw [g]; decide), if_neg (by rw [g]; decide), if_neg (by rw [g]; decide), if_pos g] at hx
  rw [g] at x0
  rw [hlen] at hx
  by_cases m : n = 2
  · have hx1 := hat.lit (i := 1) (by omega)
    obtain ⟨z, hz⟩ : ∃ z, wd ws 1 = z := ⟨_, rfl⟩
    rw [hz] at hx1 hx
    subst m
    by_cases hn : isNumber z = true
    · rw [if_pos ⟨rfl, hn⟩] at hx
      obtain ⟨k, hk⟩ : ∃ k, numOf z = k := ⟨_, rfl⟩
      rw [hk] at hx
      subst hx
      have HY : Hid (rnum z = k) := Lib.hid (by rw [rnum_num hn, hk])
      have hk0 : (0 : Int) ≤ k := by rw [← hk]; exact (numOf_small hn).1
      clear hn hk g hz
      clear HH hat hlen hwd hsm
      go_enter Tryz.func30, Tryz.ntmps30
      go_wp2_with (first
        | (go_at_call 54; refine (rnumber_at _ _ HY.out).mono ?_; rintro e w2 ⟨rfl, rfl⟩)
        | refine wpList_store_row (by rfl) 65 (.tmp 4) (.tmp 105) (by rfl) w.heap.size (lnCs { ln0 with kind := 115, stp := ⟨3, [], k⟩ }).toArray (by rfl) (by rfl) 65 _ (heap_alloc_new w _) info65 (by rfl) (one_ln _) ?_)
      refine bodyPost_ret (res_cell rfl rfl (setRow_heap _ _ _ _ _ _ (heap_alloc_new w _)) Tryz.underlying65 info65) rfl ⟨rfl, below_setRow ((Below.refl _ _).alloc (Nat.le_refl _) _) (Nat.le_refl _) _⟩
    · rw [if_neg (by rintro ⟨-, h⟩; exact hn h)] at hx
      subst hx
      obtain ⟨k, hk⟩ : ∃ k, rnum z = k := ⟨_, rfl⟩
      have HY := Lib.hid hk
      have hk0 : ¬ (0 : Int) ≤ k := by rw [← hk]; exact fun h => hn ((rnum_ge z).1 h)
      clear hn hk g hz
      clear HH hat hlen hwd hsm
      go_enter Tryz.func30, Tryz.ntmps30
      go_wp2_with (first
        | (go_at_call 54; refine (rnumber_at _ _ HY.out).mono ?_; rintro e w2 ⟨rfl, rfl⟩)
        | refine wpList_store_row (by rfl) 65 (.tmp 4) (.tmp 128) (by rfl) w.heap.size (lnCs ln0).toArray (by rfl) (by rfl) 65 _ (heap_alloc_new w _) info65 (by rfl) (one_ln _) ?_)
      refine bodyPost_ret (res_cell rfl rfl (setRow_heap _ _ _ _ _ _ (heap_alloc_new w _)) Tryz.underlying65 info65) rfl ⟨rfl, below_setRow ((Below.refl _ _).alloc (Nat.le_refl _) _) (Nat.le_refl _) _⟩
  · rw [if_neg (by rintro ⟨h, -⟩; exact m h)] at hx
    subst hx
    have f0 : ((n : Int) == 2) = false := by simp; omega
    clear m g
    clear HH hat hlen hwd hsm
    go_enter Tryz.func30, Tryz.ntmps30
    go_wp2_with (refine wpList_store_row (by rfl) 65 (.tmp 4) (.tmp 128) (by rfl) w.heap.size (lnCs ln0).toArray (by rfl) (by rfl) 65 _ (heap_alloc_new w _) info65 (by rfl) (one_ln _) ?_)
    refine bodyPost_ret (res_cell rfl rfl (setRow_heap _ _ _ _ _ _ (heap_alloc_new w _)) Tryz.underlying65 info65) rfl ⟨rfl, below_setRow ((Below.refl _ _).alloc (Nat.le_refl _) _) (Nat.le_refl _) _⟩
set_option maxRecDepth 20000 in
set_option maxHeartbeats 4000000 in
theorem rline_window {w : World} {s : ByteArray} {b o n c : Nat} {ws : List Bs} (h : LnH w s b o n c ws) (g : wd ws 0 = wWindow) {x : LnX} (hx : lineX s.data.toList ws = x) :
    Calls Tryz.prog 30 #[.string s, .slice (some ⟨b, o, none⟩) n c] w fun e w' => e = .returned (lnV x) ∧ Below w.heap.size w w' := by
  obtain ⟨hpos, hmx, nb, x0⟩ := h.facts
  have hpn := h.pos
  have hbl := h.lt
  have HH := Lib.hid h
  have hat := h.at_
  have hlen := h.len
  have hwd := h.words
  have hsm := h.small
  clear h
  unfold lineX at hx
  rw [if_neg (by rw [g]; decide), if_neg (by rw [g]; decide), if_neg (by rw [g]; decide), if_neg (by rw [g]; decide), if_neg (by rw [g]; decide), if_pos g] at hx
  rw [g] at x0
  have HWX := Lib.hid hx
  have HAT := Lib.hid (fun Z => hat.grow (show Below w.heap.size w (w.alloc (.cells Z 65)) from (Below.refl _ _).alloc (Nat.le_refl _) _))
  clear g hx
  clear HH hat hlen hwd hsm
  go_enter Tryz.func30, Tryz.ntmps30
  go_wp2_with (first
    | (go_at_call 57; refine (rwindow_at (HAT.out _) HWX.out).mono ?_; rintro e w2 ⟨rfl, hb2⟩; obtain ⟨hk2, hbw2⟩ := box_keep hb2; have HK2 := Lib.hid (And.intro hk2 hbw2); clear hb2 hk2 hbw2)
    | refine wpList_store_row (by rfl) 65 (.tmp 4) (.tmp 109) (by rfl) w.heap.size (lnCs x).toArray (by rfl) (by rfl) 65 _ HK2.out.1 info65 (by rfl) (one_ln _) ?_)
  refine bodyPost_ret (res_cell rfl rfl (setRow_heap _ _ _ _ _ _ HK2.out.1) Tryz.underlying65 info65) rfl ⟨rfl, below_setRow HK2.out.2 (Nat.le_refl _) _⟩
end Go.Proofs.YtogcickcodlepaaGreatDoor.Pl
