/-
  Texts joined into one file. Each part says in its own head what is proved there, and under which conditions.
-/
import Derived.Test.YtogcickcodlepaaGreatDoorJQ4
import Derived.Test.YtogcickcodlepaaGreatDoorJP7
set_option linter.unusedVariables false
set_option linter.unusedSimpArgs false
/-
  What a line that begins a flow, or says an aggregate, says. Conditions: the line is no longer than 4096 bytes; its words lie in memory.
-/
namespace Go.Proofs.YtogcickcodlepaaGreatDoor.Pl
open Go.RowKit Go.Proofs.YtogcickcodlepaaGreatDoor.Ex

theorem wds_take {w : World} {a : Option Addr} {n c : Nat} {ws : List Bs} (h : WdsAt w (.slice a n c) ws) {i : Nat} (hi : i ≤ ws.length) : WdsAt w (.slice a i c) (ws.take i) := Lst.take h hi
theorem aggName_still {a : Int} {r : Bs} (hr : aggWord a = r) (w : World) : Calls Tryz.prog 35 #[.int .i64 a] w fun e w' => e = .returned (sv r) ∧ w' = w :=
  (aggName_at a w hr).mono fun _ _ ⟨h1, h2⟩ => ⟨h1, h2.symm⟩
theorem aggOf_word {y : Bs} {k : Nat} (h1 : 1 ≤ k) (h4 : k ≤ 4) (h : y = aggWord k) : aggOf y = k := by
  obtain rfl | rfl | rfl | rfl : k = 1 ∨ k = 2 ∨ k = 3 ∨ k = 4 := by omega
  all_goals (rw [h]; decide)
theorem aggOf_none {y : Bs} (h : ∀ k : Nat, 1 ≤ k → k ≤ 4 → y ≠ aggWord k) : aggOf y = 0 := by
  unfold aggOf
  rw [if_neg (show ¬ y = wCount from h 1 (by decide) (by decide)), if_neg (show ¬ y = wSum from h 2 (by decide) (by decide)), if_neg (show ¬ y = wMin from h 3 (by decide) (by decide)), if_neg (show ¬ y = wMax from h 4 (by decide) (by decide))]
set_option maxRecDepth 20000 in
set_option maxHeartbeats 8000000 in
theorem rline_flow {w : World} {s : ByteArray} {b o n c : Nat} {ws : List Bs} (h : LnH w s b o n c ws) (g : wd ws 0 = wFlow) {x : LnX} (hx : lineX s.data.toList ws = x) :
    Calls Tryz.prog 30 #[.string s, .slice (some ⟨b, o, none⟩) n c] w fun e w' => e = .returned (lnV x) ∧ Below w.heap.size w w' := by
  obtain ⟨hpos, hmx, nb, x0⟩ := h.facts
  have hpn := h.pos
  have hbl := h.lt
  have HH := Lib.hid h
  have hat := h.at_
  have hlen := h.len
  have hwd := h.words
  have hsm := h.small
  clear h
  unfold lineX at hx
  rw [if_neg (by rw [g]; decide), if_pos g] at hx
  rw [g] at x0
  rw [hlen] at hx
  have HAT := Lib.hid (fun Z => hat.grow (show Below w.heap.size w (w.alloc (.cells Z 65)).drew from ((Below.refl _ _).alloc (Nat.le_refl _) _).drew))
  obtain ⟨-, hcap, -, -⟩ := Lst.len hat
  by_cases m : n = 12
  · have hx6 := hat.lit (i := 6) (by omega)
    have hx7 := hat.lit (i := 7) (by omega)
    obtain ⟨z, hz⟩ : ∃ z, wd ws 7 = z := ⟨_, rfl⟩
    obtain ⟨y, hy⟩ : ∃ z, wd ws 6 = z := ⟨_, rfl⟩
    rw [hz] at hx7 hx
    rw [hy] at hx6 hx
    subst m
    have hc6 : (6 : Int) ≤ (c : Int) := by omega
    have hc12 : (12 : Int) ≤ (c : Int) := by omega
    have HLN := Lib.hid hlen
    by_cases e : y = wBound
    · by_cases hn : isNumber z = true
      · rw [if_pos ⟨rfl, e, hn⟩] at hx
        obtain ⟨k, hk⟩ : ∃ k, numOf z = k := ⟨_, rfl⟩
        rw [hk] at hx
        have HXX := Lib.hid hx
        have HNK := Lib.hid (And.intro hn hk)
        have HY : Hid (rnum z = k) := Lib.hid (by rw [rnum_num hn, hk])
        have hk0 : (0 : Int) ≤ k := by rw [← hk]; exact (numOf_small hn).1
        rw [e] at hx6
        clear hn hk g hz hy e hx
        clear HH hat hlen hwd hsm
        go_enter Tryz.func30, Tryz.ntmps30
        go_upto_region 8 with (first | (go_at_call 54; refine (rnumber_at _ _ HY.out).mono ?_; rintro e w2 ⟨rfl, rfl⟩))
        refine region_still_tail 8 (by kernel_rfl) (by kernel_rfl) ?_
        intro Y hY
        clear hY
        simp only [List.take_succ_cons, List.take_zero, List.drop_succ_cons, List.drop_zero]
        iterate 7 (refine wpY_step (fun K hK => ?_); go_simp; refine hK.out _ ?_; clear hK K)
        refine wpY_step (fun K hK => ?_); go_simp; refine ⟨_, rnumber_still HNK.out.1 HNK.out.2 _, hK.out _ ?_⟩; clear hK K
        refine wpY_nil ?_
        go_wp2_with (first
          | (go_at_call 55; refine (rflowline_at (wds_take (HAT.out _) (i := 6) (by have := HLN.out; omega)) (by have := HLN.out; simp; omega) (WdsAt.drop (HAT.out _) (k := 8) (by omega)) (by have := HLN.out; simp; omega) _ HXX.out).mono ?_; rintro e w2 ⟨rfl, hb2⟩; obtain ⟨hk2, hbw2⟩ := box_keep (((Below.refl _ _).drew).trans hb2); have HK2 := Lib.hid (And.intro hk2 hbw2); clear hb2 hk2 hbw2)
          | refine wpList_store_row (by rfl) 65 (.tmp 4) (.tmp 58) (by rfl) w.heap.size (lnCs x).toArray (by rfl) (by rfl) 65 _ HK2.out.1 info65 (by rfl) (one_ln _) ?_)
        refine bodyPost_ret (res_cell rfl rfl (setRow_heap _ _ _ _ _ _ HK2.out.1) Tryz.underlying65 info65) rfl ⟨rfl, below_setRow HK2.out.2 (Nat.le_refl _) _⟩
      · rw [if_neg (by rintro ⟨-, -, h⟩; exact hn h), if_neg (by rintro ⟨h, -⟩; omega)] at hx
        subst hx
        obtain ⟨k, hk⟩ : ∃ k, rnum z = k := ⟨_, rfl⟩
        have HY := Lib.hid hk
        have hk0 : ¬ (0 : Int) ≤ k := by rw [← hk]; exact fun h => hn ((rnum_ge z).1 h)
        rw [e] at hx6
        clear hn hk g hz hy e
        clear HH hat hlen hwd hsm
        go_enter Tryz.func30, Tryz.ntmps30
        go_wp2_with (first
          | (go_at_call 54; refine (rnumber_at _ _ HY.out).mono ?_; rintro e w2 ⟨rfl, rfl⟩)
          | refine wpList_store_row (by rfl) 65 (.tmp 4) (.tmp 128) (by rfl) w.heap.size (lnCs ln0).toArray (by rfl) (by rfl) 65 _ (heap_alloc_new w _) info65 (by rfl) (one_ln _) ?_)
        refine bodyPost_ret (res_cell rfl rfl (setRow_heap _ _ _ _ _ _ (heap_alloc_new w _)) Tryz.underlying65 info65) rfl ⟨rfl, below_setRow ((Below.refl _ _).alloc (Nat.le_refl _) _) (Nat.le_refl _) _⟩
    · rw [if_neg (by rintro ⟨-, h, -⟩; exact e h), if_neg (by rintro ⟨h, -⟩; omega)] at hx
      subst hx
      have f1 : (y == [98, 111, 117, 110, 100]) = false := beq_of_ne e
      clear g hz hy e
      clear HH hat hlen hwd hsm
      go_enter Tryz.func30, Tryz.ntmps30
      go_wp2_with (refine wpList_store_row (by rfl) 65 (.tmp 4) (.tmp 128) (by rfl) w.heap.size (lnCs ln0).toArray (by rfl) (by rfl) 65 _ (heap_alloc_new w _) info65 (by rfl) (one_ln _) ?_)
      refine bodyPost_ret (res_cell rfl rfl (setRow_heap _ _ _ _ _ _ (heap_alloc_new w _)) Tryz.underlying65 info65) rfl ⟨rfl, below_setRow ((Below.refl _ _).alloc (Nat.le_refl _) _) (Nat.le_refl _) _⟩
  · have f0 : ((n : Int) == 12) = false := by simp; omega
    rw [if_neg (by rintro ⟨h, -⟩; exact m h)] at hx
    by_cases m2 : n = 11
    · have hx6 := hat.lit (i := 6) (by omega)
      obtain ⟨y, hy⟩ : ∃ z, wd ws 6 = z := ⟨_, rfl⟩
      rw [hy] at hx6 hx
      subst m2
      have hc6 : (6 : Int) ≤ (c : Int) := by omega
      have hc11 : (11 : Int) ≤ (c : Int) := by omega
      have HLN := Lib.hid hlen
      by_cases e : y = wMarks
      · rw [if_pos ⟨rfl, e⟩] at hx
        have HXX := Lib.hid hx
        rw [e] at hx6
        clear g hy e hx m f0
        clear HH hat hlen hwd hsm
        go_enter Tryz.func30, Tryz.ntmps30
        go_upto_region 10 with fail
        refine region_still_tail 4 (by kernel_rfl) (by kernel_rfl) ?_
        intro Y hY
        clear hY
        simp only [List.take_succ_cons, List.take_zero, List.drop_succ_cons, List.drop_zero]
        iterate 4 (refine wpY_step (fun K hK => ?_); go_simp; refine hK.out _ ?_; clear hK K)
        refine wpY_nil ?_
        go_wp2_with (first
          | (go_at_call 55; refine (rflowline_at (wds_take (HAT.out _) (i := 6) (by have := HLN.out; omega)) (by have := HLN.out; simp; omega) (WdsAt.drop (HAT.out _) (k := 7) (by omega)) (by have := HLN.out; simp; omega) _ HXX.out).mono ?_; rintro e w2 ⟨rfl, hb2⟩; obtain ⟨hk2, hbw2⟩ := box_keep (((Below.refl _ _).drew).trans hb2); have HK2 := Lib.hid (And.intro hk2 hbw2); clear hb2 hk2 hbw2)
          | refine wpList_store_row (by rfl) 65 (.tmp 4) (.tmp 71) (by rfl) w.heap.size (lnCs x).toArray (by rfl) (by rfl) 65 _ HK2.out.1 info65 (by rfl) (one_ln _) ?_)
        refine bodyPost_ret (res_cell rfl rfl (setRow_heap _ _ _ _ _ _ HK2.out.1) Tryz.underlying65 info65) rfl ⟨rfl, below_setRow HK2.out.2 (Nat.le_refl _) _⟩
      · rw [if_neg (by rintro ⟨-, h⟩; exact e h)] at hx
        subst hx
        have f1 : (y == [109, 97, 114, 107, 115]) = false := beq_of_ne e
        clear g hy e m f0
        clear HH hat hlen hwd hsm
        go_enter Tryz.func30, Tryz.ntmps30
        go_wp2_with (refine wpList_store_row (by rfl) 65 (.tmp 4) (.tmp 128) (by rfl) w.heap.size (lnCs ln0).toArray (by rfl) (by rfl) 65 _ (heap_alloc_new w _) info65 (by rfl) (one_ln _) ?_)
        refine bodyPost_ret (res_cell rfl rfl (setRow_heap _ _ _ _ _ _ (heap_alloc_new w _)) Tryz.underlying65 info65) rfl ⟨rfl, below_setRow ((Below.refl _ _).alloc (Nat.le_refl _) _) (Nat.le_refl _) _⟩
    · rw [if_neg (by rintro ⟨h, -⟩; exact m2 h)] at hx
      subst hx
      have f1 : ((n : Int) == 11) = false := by simp; omega
      clear m m2 g
      clear HH hat hlen hwd hsm
      go_enter Tryz.func30, Tryz.ntmps30
      go_wp2_with (refine wpList_store_row (by rfl) 65 (.tmp 4) (.tmp 128) (by rfl) w.heap.size (lnCs ln0).toArray (by rfl) (by rfl) 65 _ (heap_alloc_new w _) info65 (by rfl) (one_ln _) ?_)
      refine bodyPost_ret (res_cell rfl rfl (setRow_heap _ _ _ _ _ _ (heap_alloc_new w _)) Tryz.underlying65 info65) rfl ⟨rfl, below_setRow ((Below.refl _ _).alloc (Nat.le_refl _) _) (Nat.le_refl _) _⟩
set_option maxRecDepth 20000 in
set_option maxHeartbeats 4000000 in
theorem rline_agg {w : World} {s : ByteArray} {b o n c : Nat} {ws : List Bs} (h : LnH w s b o n c ws) (g : wd ws 0 = wAgg) {x : LnX} (hx : lineX s.data.toList ws = x) :
    Calls Tryz.prog 30 #[.string s, .slice (some ⟨b, o, none⟩) n c] w fun e w' => e = .returned (lnV x) ∧ Below w.heap.size w w' := by
  obtain ⟨hpos, hmx, nb, x0⟩ := h.facts
  have hpn := h.pos
  have hbl := h.lt
  have HH := Lib.hid h
  have hat := h.at_
  have hlen := h.len
  have hwd := h.words
  have hsm := h.small
  clear h
  unfold lineX at hx
  rw [if_neg (by rw [g]; decide), if_neg (by rw [g]; decide), if_neg (by rw [g]; decide), if_neg (by rw [g]; decide), if_neg (by rw [g]; decide), if_neg (by rw [g]; decide), if_pos g] at hx
  rw [g] at x0
  rw [hlen] at hx
  by_cases m : n = 2
  · have hx1 := hat.lit (i := 1) (by omega)
    obtain ⟨y, hy⟩ : ∃ z, wd ws 1 = z := ⟨_, rfl⟩
    rw [hy] at hx1 hx
    subst m
    have HXX := Lib.hid hx
    have H0 : Hid (∀ k : Nat, 1 ≤ k → k < 1 → y ≠ aggWord k) := Lib.hid (fun k h1 h2 => by omega)
    clear g hy hx
    clear HH hat hlen hwd hsm
    go_enter Tryz.func30, Tryz.ntmps30
    go_wp2
    go_loopw [7] (fun i wr => ∃ k : Nat, 1 ≤ k ∧ k ≤ 5 ∧ i = .int .i64 k ∧ Hid (∀ j : Nat, 1 ≤ j → j < k → y ≠ aggWord j) ∧ Hid (Below (w.alloc (.cells (lnCs ln0).toArray 65)).heap.size (w.alloc (.cells (lnCs ln0).toArray 65)) wr)) (fun i _ => 5 - (intOf i).toNat)
    case atStart => exact ⟨1, Nat.le_refl _, by omega, rfl, H0, Lib.hid (Below.refl _ _)⟩
    case round =>
      obtain ⟨k, hk1, hk5, rfl, hr, hbel⟩ := hrel
      obtain ⟨hkp, hbw⟩ := box_keep hbel.out
      have HKP := Lib.hid (And.intro hkp hbw)
      have c1 : wr.cell? ⟨b, o + 1, none⟩ = some (sv y) := by rw [hbw.cell (p := ⟨b, o + 1, none⟩) hbl]; exact hx1
      have hblr : b < wr.heap.size := Nat.lt_of_lt_of_le hbl hbw.size
      clear hkp hbw
      by_cases hlt : k ≤ 4
      · have f0 : (k : Int) ≤ 4 := by omega
        obtain ⟨ag, hag⟩ : ∃ z, aggWord (k : Int) = z := ⟨_, rfl⟩
        have HAG := Lib.hid hag
        by_cases e : y = ag
        · have HX2 : x = { ln0 with kind := 97, agg := (k : Int) } := by
            have h1 := aggOf_word hk1 hlt (e.trans hag.symm)
            have h2 := HXX.out
            rw [h1, if_pos ⟨by first | rfl | trivial, by omega⟩] at h2
            exact h2.symm
          have f1 : (y == ag) = true := by rw [e]; simp
          subst HX2
          clear hr hag e HXX H0
          go_upto_region 27 with fail
          refine region_still_tail 5 (by kernel_rfl) (by kernel_rfl) ?_
          intro Y hY
          clear hY
          simp only [List.take_succ_cons, List.take_zero, List.drop_succ_cons, List.drop_zero]
          iterate 4 (refine wpY_step (fun K hK => ?_); go_simp; refine hK.out _ ?_; clear hK K)
          refine wpY_step (fun K hK => ?_); go_simp; refine ⟨_, aggName_still HAG.out _, hK.out _ ?_⟩; clear hK K
          refine wpY_nil ?_
          go_wp2_with (refine wpList_store_row (by rfl) 65 (.tmp 4) (.tmp 127) (by rfl) w.heap.size (lnCs { ln0 with kind := 97, agg := (k : Int) }).toArray (by rfl) (by rfl) 65 _ HKP.out.1 info65 (by rfl) (one_ln _) ?_)
          refine bodyPost_ret (res_cell rfl rfl (setRow_heap _ _ _ _ _ _ HKP.out.1) Tryz.underlying65 info65) rfl ⟨rfl, below_setRow HKP.out.2.drew (Nat.le_refl _) _⟩
        · have HR2 : Hid (∀ j : Nat, 1 ≤ j → j < k + 1 → y ≠ aggWord j) := Lib.hid (fun j h1 h2 => by
            rcases Nat.lt_or_ge j k with h | h
            · exact hr.out j h1 h
            · have : j = k := by omega
              subst this
              rw [hag]; exact e)
          have f1 : (y == ag) = false := beq_of_ne e
          have HBD : Hid (Below (w.alloc (.cells (lnCs ln0).toArray 65)).heap.size (w.alloc (.cells (lnCs ln0).toArray 65)) wr.drew) := Lib.hid hbel.out.drew
          clear hr hag e
          go_upto_region 27 with fail
          refine region_still_tail 5 (by kernel_rfl) (by kernel_rfl) ?_
          intro Y hY
          clear hY
          simp only [List.take_succ_cons, List.take_zero, List.drop_succ_cons, List.drop_zero]
          iterate 4 (refine wpY_step (fun K hK => ?_); go_simp; refine hK.out _ ?_; clear hK K)
          refine wpY_step (fun K hK => ?_); go_simp; refine ⟨_, aggName_still HAG.out _, hK.out _ ?_⟩; clear hK K
          refine wpY_nil ?_
          go_wp2
          go_roundw
          case rel => exact ⟨k + 1, by omega, by omega, by go_num, HR2, HBD⟩
          case measure => simp [intOf]; omega
      · have hk5' : k = 5 := by omega
        have HX2 : x = ln0 := by
          have h1 := aggOf_none (y := y) (fun j h1 h2 => hr.out j h1 (by omega))
          have h2 := HXX.out
          rw [if_neg (by rw [h1]; rintro ⟨-, h⟩; exact h rfl)] at h2
          exact h2.symm
        have f0 : ¬ (k : Int) ≤ 4 := by omega
        subst HX2
        clear hr HXX H0
        go_wp2_with (refine wpList_store_row (by rfl) 65 (.tmp 4) (.tmp 128) (by rfl) w.heap.size (lnCs ln0).toArray (by rfl) (by rfl) 65 _ HKP.out.1 info65 (by rfl) (one_ln _) ?_)
        refine bodyPost_ret (res_cell rfl rfl (setRow_heap _ _ _ _ _ _ HKP.out.1) Tryz.underlying65 info65) rfl ⟨rfl, below_setRow HKP.out.2 (Nat.le_refl _) _⟩
  · rw [if_neg (by rintro ⟨h, -⟩; exact m h)] at hx
    subst hx
    have f0 : ((n : Int) == 2) = false := by simp; omega
    clear m g
    clear HH hat hlen hwd hsm
    go_enter Tryz.func30, Tryz.ntmps30
    go_wp2
    go_loopw [7] (fun i wr => i = .int .i64 1 ∧ Hid (Below (w.alloc (.cells (lnCs ln0).toArray 65)).heap.size (w.alloc (.cells (lnCs ln0).toArray 65)) wr)) (fun _ _ => 0)
    case atStart => exact ⟨rfl, Lib.hid (Below.refl _ _)⟩
    case round =>
      obtain ⟨rfl, hbel⟩ := hrel
      obtain ⟨hkp, hbw⟩ := box_keep hbel.out
      have HKP := Lib.hid (And.intro hkp hbw)
      clear hkp hbw
      go_wp2_with (refine wpList_store_row (by rfl) 65 (.tmp 4) (.tmp 128) (by rfl) w.heap.size (lnCs ln0).toArray (by rfl) (by rfl) 65 _ HKP.out.1 info65 (by rfl) (one_ln _) ?_)
      refine bodyPost_ret (res_cell rfl rfl (setRow_heap _ _ _ _ _ _ HKP.out.1) Tryz.underlying65 info65) rfl ⟨rfl, below_setRow HKP.out.2 (Nat.le_refl _) _⟩
end Go.Proofs.YtogcickcodlepaaGreatDoor.Pl
/-
  What a line says, as the document reads it, and as the program's parser does, are the same. Conditions: none; nothing of a program.
-/
namespace Go.Proofs.YtogcickcodlepaaGreatDoor.Pl
open Go.RowKit Go.Proofs.YtogcickcodlepaaGreatDoor.Ex

theorem ok_num (w : Bs) : okWord wNUMBER w = isNumber w := if_pos rfl
theorem ok_name (w : Bs) : okWord wNAME w = true := by unfold okWord; rw [if_neg (by decide), if_pos rfl]
theorem ok_topic (w : Bs) : okWord wTopic w = decide (wTopic = w) := by unfold okWord; rw [if_neg (by decide), if_neg (by decide)]
theorem ok_flow (w : Bs) : okWord wFlow w = decide (wFlow = w) := by unfold okWord; rw [if_neg (by decide), if_neg (by decide)]
theorem ok_from (w : Bs) : okWord wFrom w = decide (wFrom = w) := by unfold okWord; rw [if_neg (by decide), if_neg (by decide)]
theorem ok_to (w : Bs) : okWord wTo w = decide (wTo = w) := by unfold okWord; rw [if_neg (by decide), if_neg (by decide)]
theorem ok_bound (w : Bs) : okWord wBound w = decide (wBound = w) := by unfold okWord; rw [if_neg (by decide), if_neg (by decide)]
theorem ok_marks (w : Bs) : okWord wMarks w = decide (wMarks = w) := by unfold okWord; rw [if_neg (by decide), if_neg (by decide)]
theorem ok_readers (w : Bs) : okWord wReaders w = decide (wReaders = w) := by unfold okWord; rw [if_neg (by decide), if_neg (by decide)]
theorem ok_keepers (w : Bs) : okWord wKeepers w = decide (wKeepers = w) := by unfold okWord; rw [if_neg (by decide), if_neg (by decide)]
theorem ok_key (w : Bs) : okWord wKey w = decide (wKey = w) := by unfold okWord; rw [if_neg (by decide), if_neg (by decide)]
theorem ok_window (w : Bs) : okWord wWindow w = decide (wWindow = w) := by unfold okWord; rw [if_neg (by decide), if_neg (by decide)]
theorem ok_tumble (w : Bs) : okWord wTumble w = decide (wTumble = w) := by unfold okWord; rw [if_neg (by decide), if_neg (by decide)]
theorem ok_slide (w : Bs) : okWord wSlide w = decide (wSlide = w) := by unfold okWord; rw [if_neg (by decide), if_neg (by decide)]
theorem ok_session (w : Bs) : okWord wSession w = decide (wSession = w) := by unfold okWord; rw [if_neg (by decide), if_neg (by decide)]
theorem ok_agg (w : Bs) : okWord wAgg w = decide (wAgg = w) := by unfold okWord; rw [if_neg (by decide), if_neg (by decide)]
theorem fits_none {ws xs : List Bs} (h : ws.length ≠ xs.length) : fitsL ws xs = false := by
  cases e : fitsL ws xs with
  | false => rfl
  | true => exact absurd (fitsL_len ws xs e) h
theorem fits_topic {ws : List Bs} (h0 : wd ws 0 = wTopic) : fitsL ws topicForm = true ↔ ws.length = 3 ∧ isNumber (wd ws 2) = true := by
  rcases Classical.em (ws.length = 3) with h | h
  · match ws, h with
    | [a, b, c], _ =>
      simp only [wd, List.getD_cons_zero, List.getD_cons_succ] at h0 ⊢
      subst h0
      simp [fitsL, topicForm, ok_topic, ok_name, ok_num]
  · rw [fits_none (by simpa [topicForm] using h)]; simp [h]
theorem fits_key {ws : List Bs} (h0 : wd ws 0 = wKey) : fitsL ws keyForm = true ↔ ws.length = 2 ∧ isNumber (wd ws 1) = true := by
  rcases Classical.em (ws.length = 2) with h | h
  · match ws, h with
    | [a, b], _ =>
      simp only [wd, List.getD_cons_zero, List.getD_cons_succ] at h0 ⊢
      subst h0
      simp [fitsL, keyForm, ok_key, ok_num]
  · rw [fits_none (by simpa [keyForm] using h)]; simp [h]
theorem fits_agg {ws : List Bs} (h0 : wd ws 0 = wAgg) : fitsL ws aggForm = true ↔ ws.length = 2 := by
  rcases Classical.em (ws.length = 2) with h | h
  · match ws, h with
    | [a, b], _ =>
      simp only [wd, List.getD_cons_zero] at h0
      subst h0
      simp [fitsL, aggForm, ok_agg, ok_name]
  · rw [fits_none (by simpa [aggForm] using h)]; simp [h]
theorem fits_tumble {ws : List Bs} (h0 : wd ws 0 = wWindow) : fitsL ws tumbleForm = true ↔ ws.length = 3 ∧ wd ws 1 = wTumble ∧ isNumber (wd ws 2) = true := by
  rcases Classical.em (ws.length = 3) with h | h
  · match ws, h with
    | [a, b, c], _ =>
      simp only [wd, List.getD_cons_zero, List.getD_cons_succ] at h0 ⊢
      subst h0
      simp only [fitsL, tumbleForm, ok_window, ok_tumble, ok_num, Bool.and_eq_true, decide_eq_true_eq]
      constructor
      · rintro ⟨-, r1, r2, -⟩
        exact ⟨rfl, r1.symm, r2⟩
      · rintro ⟨-, r1, r2⟩
        exact ⟨trivial, r1.symm, r2, trivial⟩
  · rw [fits_none (by simpa [tumbleForm] using h)]; simp [h]
theorem fits_session {ws : List Bs} (h0 : wd ws 0 = wWindow) : fitsL ws sessionForm = true ↔ ws.length = 3 ∧ wd ws 1 = wSession ∧ isNumber (wd ws 2) = true := by
  rcases Classical.em (ws.length = 3) with h | h
  · match ws, h with
    | [a, b, c], _ =>
      simp only [wd, List.getD_cons_zero, List.getD_cons_succ] at h0 ⊢
      subst h0
      simp only [fitsL, sessionForm, ok_window, ok_session, ok_num, Bool.and_eq_true, decide_eq_true_eq]
      constructor
      · rintro ⟨-, r1, r2, -⟩
        exact ⟨rfl, r1.symm, r2⟩
      · rintro ⟨-, r1, r2⟩
        exact ⟨trivial, r1.symm, r2, trivial⟩
  · rw [fits_none (by simpa [sessionForm] using h)]; simp [h]
theorem fits_slide {ws : List Bs} (h0 : wd ws 0 = wWindow) : fitsL ws slideForm = true ↔ ws.length = 4 ∧ wd ws 1 = wSlide ∧ isNumber (wd ws 2) = true ∧ isNumber (wd ws 3) = true := by
  rcases Classical.em (ws.length = 4) with h | h
  · match ws, h with
    | [a, b, c, d], _ =>
      simp only [wd, List.getD_cons_zero, List.getD_cons_succ] at h0 ⊢
      subst h0
      simp only [fitsL, slideForm, ok_window, ok_slide, ok_num, Bool.and_eq_true, decide_eq_true_eq]
      constructor
      · rintro ⟨-, r1, r2, r3, -⟩
        exact ⟨rfl, r1.symm, r2, r3⟩
      · rintro ⟨-, r1, r2, r3⟩
        exact ⟨trivial, r1.symm, r2, r3, trivial⟩
  · rw [fits_none (by simpa [slideForm] using h)]; simp [h]
theorem fits_bound {ws : List Bs} (h0 : wd ws 0 = wFlow) : fitsL ws boundForm = true ↔ ws.length = 12 ∧ wd ws 6 = wBound ∧ isNumber (wd ws 7) = true ∧ wd ws 2 = wFrom ∧ wd ws 4 = wTo ∧ wd ws 8 = wReaders ∧ wd ws 10 = wKeepers ∧ isNumber (wd ws 9) = true ∧ isNumber (wd ws 11) = true := by
  rcases Classical.em (ws.length = 12) with h | h
  · match ws, h with
    | [a0, a1, a2, a3, a4, a5, a6, a7, a8, a9, a10, a11], _ =>
      simp only [wd, List.getD_cons_zero, List.getD_cons_succ] at h0 ⊢
      subst h0
      simp only [fitsL, boundForm, ok_flow, ok_from, ok_to, ok_bound, ok_readers, ok_keepers, ok_name, ok_num, Bool.and_eq_true, decide_eq_true_eq]
      constructor
      · rintro ⟨-, -, r1, -, r2, -, r3, r4, r5, r6, r7, r8, -⟩
        exact ⟨rfl, r3.symm, r4, r1.symm, r2.symm, r5.symm, r7.symm, r6, r8⟩
      · rintro ⟨-, r3, r4, r1, r2, r5, r7, r6, r8⟩
        exact ⟨trivial, trivial, r1.symm, trivial, r2.symm, trivial, r3.symm, r4, r5.symm, r6, r7.symm, r8, trivial⟩
  · rw [fits_none (by simpa [boundForm] using h)]; simp [h]
theorem fits_marks {ws : List Bs} (h0 : wd ws 0 = wFlow) : fitsL ws marksForm = true ↔ ws.length = 11 ∧ wd ws 6 = wMarks ∧ wd ws 2 = wFrom ∧ wd ws 4 = wTo ∧ wd ws 7 = wReaders ∧ wd ws 9 = wKeepers ∧ isNumber (wd ws 8) = true ∧ isNumber (wd ws 10) = true := by
  rcases Classical.em (ws.length = 11) with h | h
  · match ws, h with
    | [a0, a1, a2, a3, a4, a5, a6, a7, a8, a9, a10], _ =>
      simp only [wd, List.getD_cons_zero, List.getD_cons_succ] at h0 ⊢
      subst h0
      simp only [fitsL, marksForm, ok_flow, ok_from, ok_to, ok_marks, ok_readers, ok_keepers, ok_name, ok_num, Bool.and_eq_true, decide_eq_true_eq]
      constructor
      · rintro ⟨-, -, r1, -, r2, -, r3, r5, r6, r7, r8, -⟩
        exact ⟨rfl, r3.symm, r1.symm, r2.symm, r5.symm, r7.symm, r6, r8⟩
      · rintro ⟨-, r3, r1, r2, r5, r7, r6, r8⟩
        exact ⟨trivial, trivial, r1.symm, trivial, r2.symm, trivial, r3.symm, r5.symm, r6, r7.symm, r8, trivial⟩
  · rw [fits_none (by simpa [marksForm] using h)]; simp [h]
/-- The kind of what is read. -/
def lnKind (f : Bs) : Int := if f = wTopic then 116 else if f = wFlow then 102 else if f = wFilter ∨ f = wSet ∨ f = wKey then 115 else if f = wWindow then 119 else if f = wAgg then 97 else 0
/-- What a line of a known form says. -/
structure Says (l : Bs) (ws : List Bs) (x : LnX) : Prop where
  kind : x.kind = lnKind (wd ws 0)
  top : wd ws 0 = wTopic → x.top = ⟨wd ws 1, numOf (wd ws 2)⟩
  flw : wd ws 0 = wFlow → x.flw = flowOf ws
  filter : wd ws 0 = wFilter → x.stp = ⟨1, restOf l, 0⟩
  set : wd ws 0 = wSet → x.stp = ⟨2, restOf l, 0⟩
  key : wd ws 0 = wKey → x.stp = ⟨3, [], numOf (wd ws 1)⟩
  win : wd ws 0 = wWindow → x.win = windowOf ws
  agg : wd ws 0 = wAgg → x.agg = aggOf (wd ws 1)
theorem wd_take {ws : List Bs} {i k : Nat} (h : i < k) : wd (ws.take k) i = wd ws i := by
  unfold wd
  rw [List.getD_eq_getElem?_getD, List.getD_eq_getElem?_getD, List.getElem?_take, if_pos h]
theorem wd_drop (ws : List Bs) (i k : Nat) : wd (ws.drop k) i = wd ws (k + i) := by
  unfold wd
  rw [List.getD_eq_getElem?_getD, List.getD_eq_getElem?_getD, List.getElem?_drop]
def GoodFl (hs ts : List Bs) : Prop := wd hs 2 = wFrom ∧ wd hs 4 = wTo ∧ wd ts 0 = wReaders ∧ wd ts 2 = wKeepers ∧ isNumber (wd ts 1) = true ∧ isNumber (wd ts 3) = true
theorem flowX_good {hs ts : List Bs} {b : Int} (h : GoodFl hs ts) : flowX hs ts b = { ln0 with kind := 102, flw := { ln0.flw with name := wd hs 1, frm := wd hs 3, dest := wd hs 5, bound := b, readers := numOf (wd ts 1), keepers := numOf (wd ts 3) } } := by
  obtain ⟨h1, h2, h3, h4, h5, h6⟩ := h
  unfold flowX
  rw [if_neg]
  rintro (h | h | h | h | h | h)
  · exact h h1
  · exact h h2
  · exact h h3
  · exact h h4
  · rw [h5] at h; cases h
  · rw [h6] at h; cases h
theorem flowX_bad {hs ts : List Bs} {b : Int} (h : ¬ GoodFl hs ts) : flowX hs ts b = ln0 := by
  unfold flowX
  split
  · rfl
  · rename_i h2
    exfalso
    apply h
    simp only [not_or, Classical.not_not, Bool.not_eq_false] at h2
    exact h2
theorem line_says (l : Bs) (ws : List Bs) : (hasForm ws = true ∧ Says l ws (lineX l ws)) ∨ (hasForm ws = false ∧ lineX l ws = ln0) := by
  unfold hasForm
  by_cases h1 : wd ws 0 = wTopic
  · rw [if_pos h1]
    unfold lineX
    rw [if_pos h1]
    cases e : fitsL ws topicForm with
    | true =>
      left
      rw [if_pos ((fits_topic h1).1 e)]
      refine ⟨rfl, ⟨by rw [h1]; rfl, fun _ => rfl, fun h => ?_, fun h => ?_, fun h => ?_, fun h => ?_, fun h => ?_, fun h => ?_⟩⟩ <;> (rw [h1] at h; exact absurd h (by decide))
    | false =>
      right
      rw [if_neg (fun h => by rw [(fits_topic h1).2 h] at e; cases e)]
      exact ⟨rfl, rfl⟩
  rw [if_neg h1]
  by_cases h2 : wd ws 0 = wFlow
  · rw [if_pos h2]
    unfold lineX
    rw [if_neg h1, if_pos h2]
    by_cases c1 : ws.length = 12 ∧ wd ws 6 = wBound ∧ isNumber (wd ws 7) = true
    · rw [if_pos c1]
      obtain ⟨c2, c3, c4⟩ := c1
      have e2 : fitsL ws marksForm = false := fits_none (by rw [c2]; decide)
      rw [e2, Bool.or_false]
      by_cases g : GoodFl (ws.take 6) (ws.drop 8)
      · left
        rw [flowX_good g]
        unfold GoodFl at g
        simp only [wd_take (show 2 < 6 by decide), wd_take (show 4 < 6 by decide), wd_drop, Nat.reduceAdd] at g
        obtain ⟨g1, g2, g3, g4, g5, g6⟩ := g
        refine ⟨(fits_bound h2).2 ⟨c2, c3, c4, g1, g2, g3, g4, g5, g6⟩, ⟨by rw [h2]; rfl, fun h => absurd h h1, fun _ => ?_, fun h => ?_, fun h => ?_, fun h => ?_, fun h => ?_, fun h => ?_⟩⟩
        · simp only [wd_take (show 1 < 6 by decide), wd_take (show 3 < 6 by decide), wd_take (show 5 < 6 by decide), wd_drop, Nat.reduceAdd]
          unfold flowOf
          rw [if_pos c3, c2]
          rfl
        all_goals (rw [h2] at h; exact absurd h (by decide))
      · right
        refine ⟨?_, flowX_bad g⟩
        cases e : fitsL ws boundForm with
        | false => rfl
        | true =>
          exfalso
          apply g
          unfold GoodFl
          simp only [wd_take (show 2 < 6 by decide), wd_take (show 4 < 6 by decide), wd_drop, Nat.reduceAdd]
          obtain ⟨-, -, -, g1, g2, g3, g4, g5, g6⟩ := (fits_bound h2).1 e
          exact ⟨g1, g2, g3, g4, g5, g6⟩
    · rw [if_neg c1]
      have e1 : fitsL ws boundForm = false := by
        cases e : fitsL ws boundForm with
        | false => rfl
        | true => exact absurd (by obtain ⟨a, b, c, -⟩ := (fits_bound h2).1 e; exact ⟨a, b, c⟩) c1
      rw [e1, Bool.false_or]
      by_cases c5 : ws.length = 11 ∧ wd ws 6 = wMarks
      · rw [if_pos c5]
        obtain ⟨c2, c3⟩ := c5
        by_cases g : GoodFl (ws.take 6) (ws.drop 7)
        · left
          rw [flowX_good g]
          unfold GoodFl at g
          simp only [wd_take (show 2 < 6 by decide), wd_take (show 4 < 6 by decide), wd_drop, Nat.reduceAdd] at g
          obtain ⟨g1, g2, g3, g4, g5, g6⟩ := g
          refine ⟨(fits_marks h2).2 ⟨c2, c3, g1, g2, g3, g4, g5, g6⟩, ⟨by rw [h2]; rfl, fun h => absurd h h1, fun _ => ?_, fun h => ?_, fun h => ?_, fun h => ?_, fun h => ?_, fun h => ?_⟩⟩
          · simp only [wd_take (show 1 < 6 by decide), wd_take (show 3 < 6 by decide), wd_take (show 5 < 6 by decide), wd_drop, Nat.reduceAdd]
            unfold flowOf
            rw [if_neg (by rw [c3]; decide), c2]
            rfl
          all_goals (rw [h2] at h; exact absurd h (by decide))
        · right
          refine ⟨?_, flowX_bad g⟩
          cases e : fitsL ws marksForm with
          | false => rfl
          | true =>
            exfalso
            apply g
            unfold GoodFl
            simp only [wd_take (show 2 < 6 by decide), wd_take (show 4 < 6 by decide), wd_drop, Nat.reduceAdd]
            obtain ⟨-, -, g1, g2, g3, g4, g5, g6⟩ := (fits_marks h2).1 e
            exact ⟨g1, g2, g3, g4, g5, g6⟩
      · rw [if_neg c5]
        right
        refine ⟨?_, rfl⟩
        cases e : fitsL ws marksForm with
        | false => rfl
        | true => exact absurd (by obtain ⟨a, b, -⟩ := (fits_marks h2).1 e; exact ⟨a, b⟩) c5
  rw [if_neg h2]
  by_cases h3 : wd ws 0 = wFilter
  · rw [if_pos (.inl h3)]
    unfold lineX
    rw [if_neg h1, if_neg h2, if_pos h3]
    by_cases c : 2 ≤ ws.length
    · left
      rw [if_pos c]
      refine ⟨decide_eq_true (by omega), ⟨by rw [h3]; rfl, fun h => absurd h h1, fun h => absurd h h2, fun _ => rfl, fun h => ?_, fun h => ?_, fun h => ?_, fun h => ?_⟩⟩
      all_goals (rw [h3] at h; exact absurd h (by decide))
    · right
      rw [if_neg c]
      exact ⟨decide_eq_false (by omega), rfl⟩
  by_cases h4 : wd ws 0 = wSet
  · rw [if_pos (.inr h4)]
    unfold lineX
    rw [if_neg h1, if_neg h2, if_neg h3, if_pos h4]
    by_cases c : 2 ≤ ws.length
    · left
      rw [if_pos c]
      refine ⟨decide_eq_true (by omega), ⟨by rw [h4]; rfl, fun h => absurd h h1, fun h => absurd h h2, fun h => absurd h h3, fun _ => rfl, fun h => ?_, fun h => ?_, fun h => ?_⟩⟩
      all_goals (rw [h4] at h; exact absurd h (by decide))
    · right
      rw [if_neg c]
      exact ⟨decide_eq_false (by omega), rfl⟩
  rw [if_neg (by rintro (h | h); exact h3 h; exact h4 h)]
  by_cases h5 : wd ws 0 = wKey
  · rw [if_pos h5]
    unfold lineX
    rw [if_neg h1, if_neg h2, if_neg h3, if_neg h4, if_pos h5]
    cases e : fitsL ws keyForm with
    | true =>
      left
      rw [if_pos ((fits_key h5).1 e)]
      refine ⟨rfl, ⟨by rw [h5]; rfl, fun h => absurd h h1, fun h => absurd h h2, fun h => absurd h h3, fun h => absurd h h4, fun _ => rfl, fun h => ?_, fun h => ?_⟩⟩
      all_goals (rw [h5] at h; exact absurd h (by decide))
    | false =>
      right
      rw [if_neg (fun h => by rw [(fits_key h5).2 h] at e; cases e)]
      exact ⟨rfl, rfl⟩
  rw [if_neg h5]
  by_cases h6 : wd ws 0 = wWindow
  · rw [if_pos h6]
    unfold lineX
    rw [if_neg h1, if_neg h2, if_neg h3, if_neg h4, if_neg h5, if_pos h6]
    unfold windowX
    have hall : ∀ k, k = 3 ∨ k = 4 → ws.length = k → ((ws.drop 2).all isNumber = true ↔ isNumber (wd ws 2) = true ∧ (k = 4 → isNumber (wd ws 3) = true)) := by
      intro k hk hl
      rcases hk with rfl | rfl
      · match ws, hl with
        | [a, b, c], _ => simp [wd]
      · match ws, hl with
        | [a, b, c, d], _ => simp [wd]
    have hS : ∀ x : LnX, x.kind = 119 → x.win = windowOf ws → Says l ws x := fun x hk hw =>
      ⟨by rw [hk, h6]; rfl, fun h => absurd h h1, fun h => absurd h h2, fun h => absurd h h3, fun h => absurd h h4, fun h => absurd h h5, fun _ => hw, fun h => by rw [h6] at h; exact absurd h (by decide)⟩
    by_cases c0 : ws.length < 3 ∨ (ws.drop 2).all isNumber = false
    · right
      rw [if_pos c0]
      refine ⟨?_, rfl⟩
      have f1 : fitsL ws tumbleForm = false := by
        cases e : fitsL ws tumbleForm with
        | false => rfl
        | true =>
          obtain ⟨a, -, c⟩ := (fits_tumble h6).1 e
          rcases c0 with h | h
          · omega
          · rw [(hall 3 (.inl rfl) a).2 ⟨c, fun h => by cases h⟩] at h; cases h
      have f2 : fitsL ws slideForm = false := by
        cases e : fitsL ws slideForm with
        | false => rfl
        | true =>
          obtain ⟨a, -, c, d⟩ := (fits_slide h6).1 e
          rcases c0 with h | h
          · omega
          · rw [(hall 4 (.inr rfl) a).2 ⟨c, fun _ => d⟩] at h; cases h
      have f3 : fitsL ws sessionForm = false := by
        cases e : fitsL ws sessionForm with
        | false => rfl
        | true =>
          obtain ⟨a, -, c⟩ := (fits_session h6).1 e
          rcases c0 with h | h
          · omega
          · rw [(hall 3 (.inl rfl) a).2 ⟨c, fun h => by cases h⟩] at h; cases h
      rw [f1, f2, f3]; rfl
    · rw [if_neg c0]
      have c1 : (ws.drop 2).all isNumber = true := by
        cases e : (ws.drop 2).all isNumber with
        | true => rfl
        | false => exact absurd (.inr e) c0
      by_cases t1 : wd ws 1 = wTumble ∧ ws.length = 3
      · left
        rw [if_pos t1]
        obtain ⟨a, -⟩ := (hall 3 (.inl rfl) t1.2).1 c1
        refine ⟨by rw [(fits_tumble h6).2 ⟨t1.2, t1.1, a⟩]; rfl, hS _ rfl ?_⟩
        unfold windowOf; rw [if_pos t1.1]
      rw [if_neg t1]
      by_cases t2 : wd ws 1 = wSlide ∧ ws.length = 4
      · left
        rw [if_pos t2]
        obtain ⟨a, b⟩ := (hall 4 (.inr rfl) t2.2).1 c1
        refine ⟨by rw [(fits_slide h6).2 ⟨t2.2, t2.1, a, b rfl⟩]; simp, hS _ rfl ?_⟩
        unfold windowOf; rw [if_neg (by rw [t2.1]; decide), if_pos t2.1]
      rw [if_neg t2]
      by_cases t3 : wd ws 1 = wSession ∧ ws.length = 3
      · left
        rw [if_pos t3]
        obtain ⟨a, -⟩ := (hall 3 (.inl rfl) t3.2).1 c1
        refine ⟨by rw [(fits_session h6).2 ⟨t3.2, t3.1, a⟩]; simp, hS _ rfl ?_⟩
        unfold windowOf; rw [if_neg (by rw [t3.1]; decide), if_neg (by rw [t3.1]; decide)]
      rw [if_neg t3]
      right
      refine ⟨?_, rfl⟩
      have f1 : fitsL ws tumbleForm = false := by
        cases e : fitsL ws tumbleForm with
        | false => rfl
        | true => obtain ⟨a, b, -⟩ := (fits_tumble h6).1 e; exact absurd ⟨b, a⟩ t1
      have f2 : fitsL ws slideForm = false := by
        cases e : fitsL ws slideForm with
        | false => rfl
        | true => obtain ⟨a, b, -⟩ := (fits_slide h6).1 e; exact absurd ⟨b, a⟩ t2
      have f3 : fitsL ws sessionForm = false := by
        cases e : fitsL ws sessionForm with
        | false => rfl
        | true => obtain ⟨a, b, -⟩ := (fits_session h6).1 e; exact absurd ⟨b, a⟩ t3
      rw [f1, f2, f3]; rfl
  rw [if_neg h6]
  by_cases h7 : wd ws 0 = wAgg
  · rw [if_pos h7]
    unfold lineX
    rw [if_neg h1, if_neg h2, if_neg h3, if_neg h4, if_neg h5, if_neg h6, if_pos h7]
    by_cases c : ws.length = 2 ∧ aggOf (wd ws 1) ≠ 0
    · left
      rw [if_pos c, (fits_agg h7).2 c.1, decide_eq_true c.2]
      exact ⟨rfl, ⟨by rw [h7]; rfl, fun h => absurd h h1, fun h => absurd h h2, fun h => absurd h h3, fun h => absurd h h4, fun h => absurd h h5, fun h => absurd h h6, fun _ => rfl⟩⟩
    · right
      rw [if_neg c]
      refine ⟨?_, rfl⟩
      cases e : fitsL ws aggForm with
      | false => rfl
      | true => rw [Bool.true_and]; exact decide_eq_false (fun h => c ⟨(fits_agg h7).1 e, h⟩)
  rw [if_neg h7]
  right
  refine ⟨rfl, ?_⟩
  unfold lineX
  rw [if_neg h1, if_neg h2, if_neg h3, if_neg h4, if_neg h5, if_neg h6, if_neg h7]
theorem lnKind_form {ws : List Bs} (h : hasForm ws = true) : (wd ws 0 = wTopic ∨ wd ws 0 = wFlow ∨ wd ws 0 = wFilter ∨ wd ws 0 = wSet ∨ wd ws 0 = wKey ∨ wd ws 0 = wWindow ∨ wd ws 0 = wAgg) := by
  by_cases h1 : wd ws 0 = wTopic
  · exact .inl h1
  by_cases h2 : wd ws 0 = wFlow
  · exact .inr (.inl h2)
  by_cases h3 : wd ws 0 = wFilter
  · exact .inr (.inr (.inl h3))
  by_cases h4 : wd ws 0 = wSet
  · exact .inr (.inr (.inr (.inl h4)))
  by_cases h5 : wd ws 0 = wKey
  · exact .inr (.inr (.inr (.inr (.inl h5))))
  by_cases h6 : wd ws 0 = wWindow
  · exact .inr (.inr (.inr (.inr (.inr (.inl h6)))))
  by_cases h7 : wd ws 0 = wAgg
  · exact .inr (.inr (.inr (.inr (.inr (.inr h7)))))
  exfalso
  unfold hasForm at h
  rw [if_neg h1, if_neg h2, if_neg (by rintro (h | h); exact h3 h; exact h4 h), if_neg h5, if_neg h6, if_neg h7] at h
  cases h
/-- Where a line may stand, kind by kind. -/
theorem allows_topic {S : PSt} {f : Bs} (h : f = wTopic ∨ f = wFlow) : S.allows f = decide (S.win = 0) := by
  have h7 : f ≠ wAgg := by rcases h with h | h <;> (rw [h]; decide)
  unfold PSt.allows
  by_cases h0 : S.win = 0
  · rw [if_neg (by rintro (h | h); exact h h0; exact h7 h), if_pos h, decide_eq_true h0]
  · rw [if_pos (.inl h0), decide_eq_false h7, Bool.and_false, decide_eq_false h0]
theorem allows_step {S : PSt} {f : Bs} (h : f = wFilter ∨ f = wSet ∨ f = wKey) : S.allows f = (decide (S.win = 0) && decide (S.flws ≠ [])) := by
  have h7 : f ≠ wAgg := by rcases h with h | h | h <;> (rw [h]; decide)
  have h8 : ¬ (f = wTopic ∨ f = wFlow) := by rcases h with h | h | h <;> (rw [h]; decide)
  have h9 : ¬ f = wWindow := by rcases h with h | h | h <;> (rw [h]; decide)
  unfold PSt.allows
  by_cases h0 : S.win = 0
  · rw [if_neg (by rintro (h | h); exact h h0; exact h7 h), if_neg h8, if_neg h9, decide_eq_true h0, Bool.true_and]
  · rw [if_pos (.inl h0), decide_eq_false h7, Bool.and_false, decide_eq_false h0, Bool.false_and]
theorem allows_window {S : PSt} : S.allows wWindow = (decide (S.win = 0) && (decide (S.flws ≠ []) && decide (lastKind S.flws = 0))) := by
  unfold PSt.allows
  by_cases h0 : S.win = 0
  · rw [if_neg (by rintro (h | h); exact h h0; exact absurd h (by decide)), if_neg (by decide), if_pos rfl, decide_eq_true h0, Bool.true_and]
  · rw [if_pos (.inl h0), decide_eq_false (p := wWindow = wAgg) (by decide), Bool.and_false, decide_eq_false h0, Bool.false_and]
theorem allows_agg {S : PSt} : S.allows wAgg = decide (S.win ≠ 0) := by
  unfold PSt.allows
  rw [if_pos (.inr rfl), decide_eq_true (p := wAgg = wAgg) rfl, Bool.and_true]
theorem rline_at {w : World} {s : ByteArray} {b o n c : Nat} {ws : List Bs} (h : LnH w s b o n c ws) {x : LnX} (hx : lineX s.data.toList ws = x) :
    Calls Tryz.prog 30 #[.string s, .slice (some ⟨b, o, none⟩) n c] w fun e w' => e = .returned (lnV x) ∧ Below w.heap.size w w' := by
  by_cases h1 : wd ws 0 = wTopic
  · exact rline_topic h h1 hx
  by_cases h2 : wd ws 0 = wFlow
  · exact rline_flow h h2 hx
  by_cases h3 : wd ws 0 = wFilter
  · exact rline_filter h h3 hx
  by_cases h4 : wd ws 0 = wSet
  · exact rline_set h h4 hx
  by_cases h5 : wd ws 0 = wKey
  · exact rline_key h h5 hx
  by_cases h6 : wd ws 0 = wWindow
  · exact rline_window h h6 hx
  by_cases h7 : wd ws 0 = wAgg
  · exact rline_agg h h7 hx
  refine rline_none h (fun z hz => ?_) hx
  simp only [List.mem_cons, List.not_mem_nil, or_false] at hz
  rcases hz with rfl | rfl | rfl | rfl | rfl | rfl | rfl <;> assumption
end Go.Proofs.YtogcickcodlepaaGreatDoor.Pl
/-
  The document's reader of plans in memory: the plan that it makes, its rows, the rows of its flows' steps. Conditions: as the statements say.
-/
namespace Go.Proofs.YtogcickcodlepaaGreatDoor.Pl
open Go.RowKit Go.Proofs.YtogcickcodlepaaGreatDoor.Ex

structure QX (KL : Nat × Array Value) (w0 : World) (p : Nat) (S : PSt) (vt vf va vb : Value) (es : List FE) (w : World) : Prop where
  below : Below w0.heap.size w0 w
  keep : KAt KL w
  hp : w0.heap.size ≤ p
  blk : w.heap[p]? = some (.cells #[vt, vf] 25 (0, 0))
  flws : es.map FE.f = S.flws
  rowT : w.ownsRow w0.heap.size 47 2 vt S.tops.length (topCs S.tops)
  rowF : w.ownsRow w0.heap.size 43 12 vf es.length (flwCs es)
  rowA : w.ownsRow w0.heap.size 3 1 va S.tl.length (ixs S.tl)
  rowB : w.ownsRow w0.heap.size 3 1 vb S.fl.length (ixs S.fl)
  apart : Apt va vb
  steps : ∀ q ∈ es, SR w0.heap.size w q
  sapart : (svals es).Pairwise Apt
variable {KL : Nat × Array Value} {w0 w w1 w' : World} {p : Nat} {S : PSt} {vt vf va vb : Value} {es : List FE}
theorem QX.grow (h : QX KL w0 p S vt vf va vb es w) (hb : Below w.heap.size w w') : QX KL w0 p S vt vf va vb es w' :=
  ⟨h.below.trans (hb.mono h.below.size), h.keep.below hb, h.hp, by rw [hb.block p (lt_of_heap h.blk)]; exact h.blk, h.flws, ownsRow_below h.rowT hb, ownsRow_below h.rowF hb, ownsRow_below h.rowA hb, ownsRow_below h.rowB hb, h.apart, fun q hq => (h.steps q hq).below hb, h.sapart⟩
theorem QX.lt (h : QX KL w0 p S vt vf va vb es w) : p < w.heap.size := lt_of_heap h.blk
theorem qx_cells {a b : Value} (h : w.heap[p]? = some (.cells #[a, b] 25 (0, 0))) : w.cell? ⟨p, 0, none⟩ = some a ∧ w.cell? ⟨p, 1, none⟩ = some b ∧ w.frozen? ⟨p, 0, none⟩ = false ∧ w.frozen? ⟨p, 1, none⟩ = false := by
  refine ⟨?_, ?_, free_of_heap h 0, free_of_heap h 1⟩ <;> rw [cell_of_heap h] <;> rfl
/-- A field of the parser's block is stored into. -/
theorem QX.setP {S' : PSt} {vt' vf' va' vb' : Value} {es' : List FE} (h : QX KL w0 p S' vt' vf' va' vb' es' w1 ∨ True) (hk : KAt KL w1) (hbel : Below w0.heap.size w0 w1) (hp : w0.heap.size ≤ p) {a b : Value} (hblk : w1.heap[p]? = some (.cells #[a, b] 25 (0, 0))) (i : Nat) (v : Value)
    (hc : (#[a, b] : Array Value).setIfInBounds i v = #[vt', vf']) (hf : es'.map FE.f = S'.flws)
    (r1 : w1.ownsRow w0.heap.size 47 2 vt' S'.tops.length (topCs S'.tops)) (r2 : w1.ownsRow w0.heap.size 43 12 vf' es'.length (flwCs es')) (r3 : w1.ownsRow w0.heap.size 3 1 va' S'.tl.length (ixs S'.tl)) (r4 : w1.ownsRow w0.heap.size 3 1 vb' S'.fl.length (ixs S'.fl))
    (ha : Apt va' vb') (hs : ∀ q ∈ es', SR w0.heap.size w1 q) (hsa : (svals es').Pairwise Apt) : QX KL w0 p S' vt' vf' va' vb' es' (w1.setCell ⟨p, i, none⟩ v) where
  below := hbel.setCell hp v
  keep := hk.set hblk (by decide) i v
  hp := hp
  blk := by rw [heap_setCell_same w1 p i _ _ v hblk, hc]
  flws := hf
  rowT := ownsRow_setCell_other r1 (row_ne r1 hblk (by decide)) v
  rowF := ownsRow_setCell_other r2 (row_ne r2 hblk (by decide)) v
  rowA := ownsRow_setCell_other r3 (row_ne r3 hblk (by decide)) v
  rowB := ownsRow_setCell_other r4 (row_ne r4 hblk (by decide)) v
  apart := ha
  steps := fun q hq => ⟨ownsRow_setCell_other (hs q hq).pre (row_ne (hs q hq).pre hblk (by decide)) v, ownsRow_setCell_other (hs q hq).post (row_ne (hs q hq).post hblk (by decide)) v⟩
  sapart := hsa
/-- The window's line is no matter of the memory. -/
theorem QX.setWin (h : QX KL w0 p S vt vf va vb es w) (n : Nat) : QX KL w0 p { S with win := n } vt vf va vb es w :=
  ⟨h.below, h.keep, h.hp, h.blk, h.flws, h.rowT, h.rowF, h.rowA, h.rowB, h.apart, h.steps, h.sapart⟩
theorem QX.pushTop {v2 : Value} {t : Top} (h : QX KL w0 p S vt vf va vb es w) (hg : w.grownBy w1 vt.ownBlock) (ho : w1.ownsRow w0.heap.size 47 2 v2 (S.tops.length + 1) (topCs S.tops ++ topC t)) :
    w1.heap[p]? = some (.cells #[vt, vf] 25 (0, 0)) ∧ QX KL w0 p { S with tops := S.tops ++ [t] } v2 vf va vb es (w1.setCell ⟨p, 0, none⟩ v2) := by
  have hb : w1.heap[p]? = some (.cells #[vt, vf] 25 (0, 0)) := by rw [hg.block p h.lt (fun e => row_ne h.rowT h.blk (by decide) e.symm)]; exact h.blk
  have hbel : Below w0.heap.size w0 w1 := h.below.grown hg h.below.size (fun k e => (h.rowT.lt k e).1)
  rw [← topCs_snoc] at ho
  exact ⟨hb, QX.setP (.inr trivial) (h.keep.grown h.rowT (by decide) hg) hbel h.hp hb 0 v2 (by rfl) h.flws (by simpa using ho) (h.rowF.kept hg (own_ne h.rowF h.rowT (by decide))) (h.rowA.kept hg (own_ne h.rowA h.rowT (by decide))) (h.rowB.kept hg (own_ne h.rowB h.rowT (by decide))) h.apart (fun q hq => (h.steps q hq).kept hg h.rowT (by decide)) h.sapart⟩
theorem QX.pushFlow {v2 : Value} {f : Flw} (h : QX KL w0 p S vt vf va vb es w) (hg : w.grownBy w1 vf.ownBlock) (h0 : f.pre = []) (h1 : f.post = []) (ho : w1.ownsRow w0.heap.size 43 12 v2 (es.length + 1) (flwCs es ++ flwC ⟨f, .slice none 0 0, .slice none 0 0⟩)) :
    w1.heap[p]? = some (.cells #[vt, vf] 25 (0, 0)) ∧ QX KL w0 p { S with flws := S.flws ++ [f] } vt v2 va vb (es ++ [⟨f, .slice none 0 0, .slice none 0 0⟩]) (w1.setCell ⟨p, 1, none⟩ v2) := by
  have hb : w1.heap[p]? = some (.cells #[vt, vf] 25 (0, 0)) := by rw [hg.block p h.lt (fun e => row_ne h.rowF h.blk (by decide) e.symm)]; exact h.blk
  have hbel : Below w0.heap.size w0 w1 := h.below.grown hg h.below.size (fun k e => (h.rowF.lt k e).1)
  rw [← flwCs_snoc] at ho
  refine ⟨hb, QX.setP (.inr trivial) (h.keep.grown h.rowF (by decide) hg) hbel h.hp hb 1 v2 (by rfl) (by simp [h.flws]) (h.rowT.kept hg (own_ne h.rowT h.rowF (by decide))) (by simpa using ho) (h.rowA.kept hg (own_ne h.rowA h.rowF (by decide))) (h.rowB.kept hg (own_ne h.rowB h.rowF (by decide))) h.apart (fun q hq => ?_) ?_⟩
  · rcases List.mem_append.1 hq with hq | hq
    · exact (h.steps q hq).kept hg h.rowF (by decide)
    · simp only [List.mem_singleton] at hq
      subst hq
      exact ⟨by rw [h0]; exact World.ownsRow_nil _ _ _ _, by rw [h1]; exact World.ownsRow_nil _ _ _ _⟩
  · rw [svals_snoc, List.pairwise_append]
    refine ⟨h.sapart, ?_, fun a _ b hb => ?_⟩
    · simp [Apt, Value.ownBlock]
    · have : b.ownBlock = none := by
        simp only [List.mem_cons, List.not_mem_nil, or_false] at hb
        rcases hb with rfl | rfl <;> rfl
      exact Apt.symm (.inl this)
theorem QX.pushA {v2 : Value} {i : Nat} (h : QX KL w0 p S vt vf va vb es w) (hg : w.grownBy w1 va.ownBlock) (ho : w1.ownsRow w0.heap.size 3 1 v2 (S.tl.length + 1) (ixs S.tl ++ [.int .i64 i])) {g : Nat} (hv : v2.ownBlock = some g) (hat : va.ownBlock = some g ∨ g = w.heap.size) :
    QX KL w0 p { S with tl := S.tl ++ [i] } vt vf v2 vb es w1 := by
  have hb : w1.heap[p]? = some (.cells #[vt, vf] 25 (0, 0)) := by rw [hg.block p h.lt (fun e => row_ne h.rowA h.blk (by decide) e.symm)]; exact h.blk
  have hbel : Below w0.heap.size w0 w1 := h.below.grown hg h.below.size (fun k e => (h.rowA.lt k e).1)
  rw [← ixs_snoc] at ho
  refine ⟨hbel, h.keep.grown h.rowA (by decide) hg, h.hp, hb, h.flws, h.rowT.kept hg (own_ne h.rowT h.rowA (by decide)), h.rowF.kept hg (own_ne h.rowF h.rowA (by decide)), by simpa using ho, h.rowB.kept hg h.apart.symm, ?_, fun q hq => (h.steps q hq).kept hg h.rowA (by decide), h.sapart⟩
  refine Apt.symm ?_
  unfold Apt
  rw [hv]
  rcases hat with e | e
  · rw [← e]; exact h.apart.symm
  · cases hk : vb.ownBlock with
    | none => exact .inl rfl
    | some k => right; intro e2; have := (h.rowB.lt k hk).2; injection e2 with e2; omega
theorem QX.pushB {v2 : Value} {i : Nat} (h : QX KL w0 p S vt vf va vb es w) (hg : w.grownBy w1 vb.ownBlock) (ho : w1.ownsRow w0.heap.size 3 1 v2 (S.fl.length + 1) (ixs S.fl ++ [.int .i64 i])) {g : Nat} (hv : v2.ownBlock = some g) (hat : vb.ownBlock = some g ∨ g = w.heap.size) :
    QX KL w0 p { S with fl := S.fl ++ [i] } vt vf va v2 es w1 := by
  have hb : w1.heap[p]? = some (.cells #[vt, vf] 25 (0, 0)) := by rw [hg.block p h.lt (fun e => row_ne h.rowB h.blk (by decide) e.symm)]; exact h.blk
  have hbel : Below w0.heap.size w0 w1 := h.below.grown hg h.below.size (fun k e => (h.rowB.lt k e).1)
  rw [← ixs_snoc] at ho
  refine ⟨hbel, h.keep.grown h.rowB (by decide) hg, h.hp, hb, h.flws, h.rowT.kept hg (own_ne h.rowT h.rowB (by decide)), h.rowF.kept hg (own_ne h.rowF h.rowB (by decide)), h.rowA.kept hg h.apart, by simpa using ho, ?_, fun q hq => (h.steps q hq).kept hg h.rowB (by decide), h.sapart⟩
  unfold Apt
  rw [hv]
  rcases hat with e | e
  · rw [← e]; exact h.apart
  · cases hk : va.ownBlock with
    | none => exact .inl rfl
    | some k => right; intro e2; have := (h.rowA.lt k hk).2; injection e2 with e2; omega
/-- The last flow, looked at from above. -/
theorem QX.last {es : List FE} {q : FE} (h : QX KL w0 p S vt vf va vb (es ++ [q]) w) : ∃ g cap, vf = .slice (some ⟨g, 0, none⟩) (es.length + 1) cap ∧ g < w.heap.size ∧ w0.heap.size ≤ g ∧ g ≠ p ∧ es.length + 1 ≤ cap ∧
    (∀ j u, (flwC q)[j]? = some u → w.cell? ⟨g, es.length * 12 + j, none⟩ = some u) ∧ (∀ i, w.frozen? ⟨g, i, none⟩ = false) := by
  have r := h.rowF
  rw [List.length_append, List.length_singleton] at r
  rcases r.2 with ⟨_, h0⟩ | ⟨g, cap, cur, rfl, hb, hg, hnc, -⟩
  · omega
  · refine ⟨g, cap, rfl, lt_of_heap hg, hb, ?_, hnc, fun j u hj => ?_, fun i => r.frozenAt i⟩
    · intro e; subst e; have := h.blk; rw [hg] at this; injection this with this; injection this with _ this; cases this
    · have hl := flwCs_len es
      have hj12 : j < 12 := by
        rcases Nat.lt_or_ge j (flwC q).length with h | h
        · simpa [flwC] using h
        · rw [List.getElem?_eq_none h] at hj; cases hj
      have c := r.cellAt (es.length * 12 + j) (by omega)
      rw [flwCs_snoc, List.getElem?_append_right (by omega), hl] at c
      rw [show es.length * 12 + j - es.length * 12 = j by omega, hj] at c
      exact c
/-- A cell of the last flow is stored into: the general form. -/
theorem QX.mkLast {es : List FE} {q q' : FE} {g cap : Nat} {S' : PSt} (hk : KAt KL w) (hbel : Below w0.heap.size w0 w) (hp : w0.heap.size ≤ p) (hblk : w.heap[p]? = some (.cells #[vt, .slice (some ⟨g, 0, none⟩) (es.length + 1) cap] 25 (0, 0)))
    (rT : w.ownsRow w0.heap.size 47 2 vt S'.tops.length (topCs S'.tops)) (rF : w.ownsRow w0.heap.size 43 12 (.slice (some ⟨g, 0, none⟩) (es.length + 1) cap) (es.length + 1) (flwCs (es ++ [q]))) (rA : w.ownsRow w0.heap.size 3 1 va S'.tl.length (ixs S'.tl)) (rB : w.ownsRow w0.heap.size 3 1 vb S'.fl.length (ixs S'.fl)) (ha : Apt va vb)
    (hst : ∀ q ∈ es, SR w0.heap.size w q) (hs : SR w0.heap.size w q') (hsa : (svals (es ++ [q'])).Pairwise Apt) (hf : (es ++ [q']).map FE.f = S'.flws) (j : Nat) (v : Value) (hc : (flwC q).set j v = flwC q') :
    QX KL w0 p S' vt (.slice (some ⟨g, 0, none⟩) (es.length + 1) cap) va vb (es ++ [q']) (w.setCell ⟨g, es.length * 12 + j, none⟩ v) := by
  obtain ⟨a1, b1⟩ := rF.stored (es.length * 12 + j) v
  have hl := flwCs_len es
  rw [flwCs_snoc, ← hl, set_tail, hc, ← flwCs_snoc, hl] at a1
  rcases rF.2 with ⟨h0, _⟩ | ⟨g', cap', cur, h0, hb, hg, -⟩
  · cases h0
  cases h0
  have np : g ≠ p := by intro e; subst e; have := hblk; rw [hg] at this; injection this with this; injection this with _ this; cases this
  refine ⟨hbel.setCell hb v, hk.set hg (by decide) _ v, hp, heap_setCell hblk np v, hf, ownsRow_setCell_other rT (row_ne rT hg (by decide)) v, by simpa using a1, ownsRow_setCell_other rA (row_ne rA hg (by decide)) v, ownsRow_setCell_other rB (row_ne rB hg (by decide)) v, ha, fun q2 hq2 => ?_, hsa⟩
  have hq : SR w0.heap.size w q2 := by
    rcases List.mem_append.1 hq2 with h | h
    · exact hst q2 h
    · simp only [List.mem_singleton] at h; rw [h]; exact hs
  exact ⟨ownsRow_setCell_other hq.pre (row_ne hq.pre hg (by decide)) v, ownsRow_setCell_other hq.post (row_ne hq.post hg (by decide)) v⟩
theorem QX.rowF' {es : List FE} {q : FE} (h : QX KL w0 p S vt vf va vb (es ++ [q]) w) : w.ownsRow w0.heap.size 43 12 vf (es.length + 1) (flwCs (es ++ [q])) := by
  have r := h.rowF
  rw [List.length_append, List.length_singleton] at r
  exact r
/-- The last flow's window or aggregate is stored. -/
theorem QX.setLast {es : List FE} {f f' : Flw} {v1 v2 : Value} {g cap : Nat} (h : QX KL w0 p S vt (.slice (some ⟨g, 0, none⟩) (es.length + 1) cap) va vb (es ++ [⟨f, v1, v2⟩]) w) (j : Nat) (v : Value) {fs : List Flw}
    (hc : (flwC ⟨f, v1, v2⟩).set j v = flwC ⟨f', v1, v2⟩) (h1 : f'.pre = f.pre) (h2 : f'.post = f.post) (hf : es.map FE.f ++ [f'] = fs) :
    QX KL w0 p { S with flws := fs } vt (.slice (some ⟨g, 0, none⟩) (es.length + 1) cap) va vb (es ++ [⟨f', v1, v2⟩]) (w.setCell ⟨g, es.length * 12 + j, none⟩ v) :=
  QX.mkLast (S' := { S with flws := fs }) h.keep h.below h.hp h.blk h.rowT h.rowF' h.rowA h.rowB h.apart (fun q hq => h.steps q (List.mem_append_left _ hq))
    ⟨by rw [h1]; exact (h.steps _ (List.mem_append_right _ (List.mem_singleton.2 rfl))).pre, by rw [h2]; exact (h.steps _ (List.mem_append_right _ (List.mem_singleton.2 rfl))).post⟩
    (by have := h.sapart; rw [svals_snoc] at this ⊢; exact this) (by simpa using hf) j v hc
theorem QX.pushPre {es : List FE} {f : Flw} {v1 v2 v3 : Value} {g cap gn : Nat} {s : Stp} (h : QX KL w0 p S vt (.slice (some ⟨g, 0, none⟩) (es.length + 1) cap) va vb (es ++ [⟨f, v1, v2⟩]) w) (hg : w.grownBy w1 v1.ownBlock)
    (ho : w1.ownsRow w0.heap.size 50 3 v3 (f.pre.length + 1) (stpCs f.pre ++ stpC s)) (hv : v3.ownBlock = some gn) (hat : v1.ownBlock = some gn ∨ gn = w.heap.size) :
    w1.cell? ⟨g, es.length * 12 + 6, none⟩ = some v1 ∧ w1.frozen? ⟨g, es.length * 12 + 6, none⟩ = false ∧
    QX KL w0 p { S with flws := es.map FE.f ++ [{ f with pre := f.pre ++ [s] }] } vt (.slice (some ⟨g, 0, none⟩) (es.length + 1) cap) va vb (es ++ [⟨{ f with pre := f.pre ++ [s] }, v3, v2⟩]) (w1.setCell ⟨g, es.length * 12 + 6, none⟩ v3) := by
  have hsr := h.steps _ (List.mem_append_right _ (List.mem_singleton.2 rfl))
  have hr := hsr.pre
  have hbel : Below w0.heap.size w0 w1 := h.below.grown hg h.below.size (fun k e => (hr.lt k e).1)
  have hblk : w1.heap[p]? = _ := (hg.block p h.lt (fun e => row_ne hr h.blk (by decide) e.symm)).trans h.blk
  have rF := h.rowF'.kept hg (own_ne h.rowF' hr (by decide))
  have hap := h.sapart
  rw [svals_snoc, List.pairwise_append] at hap
  obtain ⟨hap1, hap2, hap3⟩ := hap
  have h12 : Apt v2 v1 := by
    simp only [List.pairwise_cons, List.mem_singleton, forall_eq] at hap2
    exact hap2.1.symm
  have hpost : w1.ownsRow w0.heap.size 50 3 v2 f.post.length (stpCs f.post) := hsr.post.kept hg h12
  have hst : ∀ q ∈ es, SR w0.heap.size w1 q := fun q hq => by
    have hq' := h.steps q (List.mem_append_left _ hq)
    have m1 : q.pre ∈ svals es := List.mem_flatMap.2 ⟨q, hq, by simp⟩
    have m2 : q.post ∈ svals es := List.mem_flatMap.2 ⟨q, hq, by simp⟩
    exact ⟨hq'.pre.kept hg (hap3 _ m1 v1 (by simp)), hq'.post.kept hg (hap3 _ m2 v1 (by simp))⟩
  obtain ⟨_, _, ev, _, _, _, _, hcell, _⟩ := h.last
  have hc6 := hcell 6 v1 rfl
  injection ev with ev
  injection ev with ev
  injection ev with ev _
  subst ev
  have hne : v1.ownBlock ≠ some g := by
    rcases h.rowF'.2 with ⟨h0, _⟩ | ⟨g', cap', cur, h0, _, hgg, -⟩
    · cases h0
    · cases h0; exact row_ne hr hgg (by decide)
  refine ⟨?_, ?_, QX.mkLast (S' := { S with flws := es.map FE.f ++ [{ f with pre := f.pre ++ [s] }] }) (h.keep.grown hr (by decide) hg) hbel h.hp hblk (h.rowT.kept hg (own_ne h.rowT hr (by decide))) rF (h.rowA.kept hg (own_ne h.rowA hr (by decide))) (h.rowB.kept hg (own_ne h.rowB hr (by decide))) h.apart hst ⟨?_, hpost⟩ ?_ (by simp) 6 v3 rfl⟩
  · rw [rF.cellAt _ (by omega), ← h.rowF'.cellAt _ (by omega)]; exact hc6
  · exact rF.frozenAt _
  · rw [← stpCs_snoc] at ho; simpa using ho
  · rw [svals_snoc, List.pairwise_append]
    refine ⟨hap1, ?_, fun a ha b hb => ?_⟩
    · simp only [List.pairwise_cons, List.mem_singleton, forall_eq, List.not_mem_nil, List.Pairwise.nil, and_true, implies_true, false_imp_iff]
      exact (apt_new hv hat h12 hsr.post).symm
    · simp only [List.mem_cons, List.not_mem_nil, or_false] at hb
      rcases hb with hb | hb
      · rw [hb]
        obtain ⟨q, hq, hqa⟩ := List.mem_flatMap.1 ha
        have hq' := h.steps q (List.mem_append_left _ hq)
        have hx := hap3 a ha v1 (by simp)
        simp only [List.mem_cons, List.not_mem_nil, or_false] at hqa
        rcases hqa with rfl | rfl
        · exact apt_new hv hat hx hq'.pre
        · exact apt_new hv hat hx hq'.post
      · rw [hb]; exact hap3 a ha v2 (by simp)
theorem QX.pushPost {es : List FE} {f : Flw} {v1 v2 v3 : Value} {g cap gn : Nat} {s : Stp} (h : QX KL w0 p S vt (.slice (some ⟨g, 0, none⟩) (es.length + 1) cap) va vb (es ++ [⟨f, v1, v2⟩]) w) (hg : w.grownBy w1 v2.ownBlock)
    (ho : w1.ownsRow w0.heap.size 50 3 v3 (f.post.length + 1) (stpCs f.post ++ stpC s)) (hv : v3.ownBlock = some gn) (hat : v2.ownBlock = some gn ∨ gn = w.heap.size) :
    w1.cell? ⟨g, es.length * 12 + 11, none⟩ = some v2 ∧ w1.frozen? ⟨g, es.length * 12 + 11, none⟩ = false ∧
    QX KL w0 p { S with flws := es.map FE.f ++ [{ f with post := f.post ++ [s] }] } vt (.slice (some ⟨g, 0, none⟩) (es.length + 1) cap) va vb (es ++ [⟨{ f with post := f.post ++ [s] }, v1, v3⟩]) (w1.setCell ⟨g, es.length * 12 + 11, none⟩ v3) := by
  have hsr := h.steps _ (List.mem_append_right _ (List.mem_singleton.2 rfl))
  have hr := hsr.post
  have hbel : Below w0.heap.size w0 w1 := h.below.grown hg h.below.size (fun k e => (hr.lt k e).1)
  have hblk : w1.heap[p]? = _ := (hg.block p h.lt (fun e => row_ne hr h.blk (by decide) e.symm)).trans h.blk
  have rF := h.rowF'.kept hg (own_ne h.rowF' hr (by decide))
  have hap := h.sapart
  rw [svals_snoc, List.pairwise_append] at hap
  obtain ⟨hap1, hap2, hap3⟩ := hap
  have h12 : Apt v1 v2 := by
    simp only [List.pairwise_cons, List.mem_singleton, forall_eq] at hap2
    exact hap2.1
  have hpre : w1.ownsRow w0.heap.size 50 3 v1 f.pre.length (stpCs f.pre) := hsr.pre.kept hg h12
  have hst : ∀ q ∈ es, SR w0.heap.size w1 q := fun q hq => by
    have hq' := h.steps q (List.mem_append_left _ hq)
    have m1 : q.pre ∈ svals es := List.mem_flatMap.2 ⟨q, hq, by simp⟩
    have m2 : q.post ∈ svals es := List.mem_flatMap.2 ⟨q, hq, by simp⟩
    exact ⟨hq'.pre.kept hg (hap3 _ m1 v2 (by simp)), hq'.post.kept hg (hap3 _ m2 v2 (by simp))⟩
  obtain ⟨_, _, ev, _, _, _, _, hcell, _⟩ := h.last
  have hc6 := hcell 11 v2 rfl
  injection ev with ev
  injection ev with ev
  injection ev with ev _
  subst ev
  refine ⟨?_, ?_, QX.mkLast (S' := { S with flws := es.map FE.f ++ [{ f with post := f.post ++ [s] }] }) (h.keep.grown hr (by decide) hg) hbel h.hp hblk (h.rowT.kept hg (own_ne h.rowT hr (by decide))) rF (h.rowA.kept hg (own_ne h.rowA hr (by decide))) (h.rowB.kept hg (own_ne h.rowB hr (by decide))) h.apart hst ⟨hpre, ?_⟩ ?_ (by simp) 11 v3 rfl⟩
  · rw [rF.cellAt _ (by omega), ← h.rowF'.cellAt _ (by omega)]; exact hc6
  · exact rF.frozenAt _
  · rw [← stpCs_snoc] at ho; simpa using ho
  · rw [svals_snoc, List.pairwise_append]
    refine ⟨hap1, ?_, fun a ha b hb => ?_⟩
    · simp only [List.pairwise_cons, List.mem_singleton, forall_eq, List.not_mem_nil, List.Pairwise.nil, and_true, implies_true, false_imp_iff]
      exact apt_new hv hat h12 hsr.pre
    · simp only [List.mem_cons, List.not_mem_nil, or_false] at hb
      rcases hb with hb | hb
      · rw [hb]; exact hap3 a ha v1 (by simp)
      · rw [hb]
        obtain ⟨q, hq, hqa⟩ := List.mem_flatMap.1 ha
        have hq' := h.steps q (List.mem_append_left _ hq)
        have hx := hap3 a ha v2 (by simp)
        simp only [List.mem_cons, List.not_mem_nil, or_false] at hqa
        rcases hqa with rfl | rfl
        · exact apt_new hv hat hx hq'.pre
        · exact apt_new hv hat hx hq'.post
end Go.Proofs.YtogcickcodlepaaGreatDoor.Pl
