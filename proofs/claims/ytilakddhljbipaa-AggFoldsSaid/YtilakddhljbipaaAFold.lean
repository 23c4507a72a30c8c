/-
  The law's fold: what is kept of some values. Conditions: they lie in memory, no more than 1000, each an int.
-/
import Derived.Test.YtilakddhljbipaaAProg
namespace Go.Proofs.Ytilakddhljbipaa.Ag
set_option linter.unusedVariables false
set_option linter.unusedSimpArgs false
open Go.RowKit

theorem stayF {w X : World} {b i : Nat} {v : Value} (hbl : b < w.heap.size) (hc : w.cell? ⟨b, i, none⟩ = some v) (h : Below w.heap.size w X) : X.cell? ⟨b, i, none⟩ = some v ∧ Hid (Below w.heap.size w X) :=
  ⟨(h.cell (p := ⟨b, i, none⟩) hbl).trans hc, Lib.hid h⟩
/-- A whole record stored. -/
abbrev put4 (w : World) (b : Nat) (a : Ac) : World := (((w.setCell ⟨b, 0, none⟩ (.int .i64 a.c)).setCell ⟨b, 1, none⟩ (.int .i64 a.s)).setCell ⟨b, 2, none⟩ (.int .i64 a.mn)).setCell ⟨b, 3, none⟩ (.int .i64 a.mx)
theorem AcAt.store {w : World} {b : Nat} {a : Ac} (h : AcAt w b a) (r : Ac) : AcAt (put4 w b r) b r := by
  refine ⟨?_⟩
  have h1 := heap_setCell_same w b 0 _ _ (.int .i64 r.c) h.blk
  have h2 := heap_setCell_same _ b 1 _ _ (.int .i64 r.s) h1
  have h3 := heap_setCell_same _ b 2 _ _ (.int .i64 r.mn) h2
  have h4 := heap_setCell_same _ b 3 _ _ (.int .i64 r.mx) h3
  exact h4
theorem AcAt.stored {w : World} {b g : Nat} {a : Ac} (h : AcAt w g a) (hne : b ≠ g) (r : Ac) : AcAt (put4 w b r) g a :=
  (((h.other (p := ⟨b, 0, none⟩) hne _).other (p := ⟨b, 1, none⟩) hne _).other (p := ⟨b, 2, none⟩) hne _).other (p := ⟨b, 3, none⟩) hne _
theorem below_stored {w X : World} (h : Below w.heap.size w X) {b : Nat} (hb : w.heap.size ≤ b) (r : Ac) : Below w.heap.size w (put4 X b r) :=
  (((h.setCell (p := ⟨b, 0, none⟩) hb _).setCell (p := ⟨b, 1, none⟩) hb _).setCell (p := ⟨b, 2, none⟩) hb _).setCell (p := ⟨b, 3, none⟩) hb _
set_option maxRecDepth 20000 in
set_option maxHeartbeats 2000000 in
theorem fold_at {w : World} {a : Option Addr} {n c : Nat} {L : List Int} (h : IntsZ w (.slice a n c) L) (hn : n ≤ 1000) (hb : ∀ z ∈ L, I64 z) : Calls Try.prog 6 #[.slice a n c] w fun e w' => ∃ r, e = .returned (acV r) ∧ Is r L ∧ Below w.heap.size w w' := by
  obtain ⟨hnl, k1, k2, k3⟩ := Lst.len h
  unfold maxLen at k2 k3
  have HI := Lib.hid h
  have HN := Lib.hid hnl
  have HZ := Lib.hid hb
  clear h hnl hb k2 k3
  have hb0 := ((Below.refl w.heap.size w).alloc (Nat.le_refl _) (.cells (acC zer) 24)).alloc (by simp) (.cells (acC zer) 24)
  have HA0 := Lib.hid (ac_new (w.alloc (.cells (acC zer) 24)) zer)
  have HR0 := Lib.hid ((ac_new w zer).grow ((Below.refl _ _).alloc (Nat.le_refl _) (.cells (acC zer) 24)))
  have HB0 := Lib.hid hb0
  have hs : (w.alloc (.cells (acC zer) 24)).heap.size = w.heap.size + 1 := by simp
  rw [hs] at HA0
  clear hb0 hs
  go_enter Try.func6, Try.ntmps6
  go_wp2
  go_loopw [4] (fun z wr => ∃ (k : Nat) (r : Ac), k ≤ n ∧ z = .int .i64 k ∧ Hid (AcAt wr (w.heap.size + 1) r) ∧ Hid (AcAt wr w.heap.size zer) ∧ Hid (Is r (L.take k)) ∧ Hid (Below w.heap.size w wr)) (fun z _ => n - (intOf z).toNat)
  case atStart => exact ⟨0, zer, Nat.zero_le _, rfl, HA0, HR0, Lib.hid is_nil, HB0⟩
  case round =>
    clear HA0 HR0 HB0
    obtain ⟨k, r, hk, rfl, HA, HR, HS, HB⟩ := hrel
    rename World => wq
    by_cases hlt : k < n
    · have hkl : k < L.length := by rw [← HN.out]; exact hlt
      obtain ⟨b, o, ha, hbl, hcx⟩ := IntsZ.cell HI.out hkl
      subst ha
      obtain ⟨x, hx⟩ : ∃ x, L[k] = x := ⟨_, rfl⟩
      rw [hx] at hcx
      have hxi := HZ.out x (by rw [← hx]; exact List.getElem_mem hkl)
      obtain ⟨r2, hr2⟩ : ∃ r2, jn r (one x) = r2 := ⟨_, rfl⟩
      have HJ := Lib.hid hr2
      have HN : Hid (Is r2 (L.take (k + 1))) := Lib.hid (by
        rw [take_next hkl hx, ← hr2]
        refine HS.out.join (is_one hxi) ?_
        rw [List.length_take]
        simp
        omega)
      have g0 : (0 : Int) ≤ (k : Int) := by omega
      have g1 : (k : Int) < (n : Int) := by omega
      clear hx hxi hr2 hkl HS
      go_wp2
      refine wp_region_held_drew (S := (fun X => X.cell? ⟨b, o + k, none⟩ = some (.int .i64 x) ∧ Hid (Below w.heap.size w X))) (by kernel_rfl) (stayF hbl hcx HB.out.drew) (fun hHeld => ?_)
      refine wpAnyH_take (i := 1) (oi := ({ dst := some 12, op := Op.move (Operand.tmp 0), type := 22, pos := "law.go:23", after := #[], guard := none } : Oper)) (v := ?_) rfl (by kernel_rfl) (by kernel_rfl) (by kernel_rfl) (fun _ _ _ h => h) (Or.inl ⟨by rfl, ?hy5_1⟩) hHeld ?_
      case hy5_1 => (intro W hSw; (try dsimp only at hSw); go_simp; (try with_reducible rfl))
      try simp only [Act.put, List.setIfInBounds_toArray, List.set_cons_zero, List.set_cons_succ]
      refine wpAnyH_take (i := 2) (oi := ({ dst := some 13, op := Op.move (Operand.tmp 4), type := 3, pos := "law.go:23", after := #[], guard := none } : Oper)) (v := ?_) rfl (by kernel_rfl) (by kernel_rfl) (by kernel_rfl) (fun _ _ _ h => h) (Or.inl ⟨by rfl, ?hy5_2⟩) hHeld ?_
      case hy5_2 => (intro W hSw; (try dsimp only at hSw); go_simp; (try with_reducible rfl))
      try simp only [Act.put, List.setIfInBounds_toArray, List.set_cons_zero, List.set_cons_succ]
      refine wpAnyH_take (i := 3) (oi := ({ dst := some 14, op := Op.indexAddr 22 (Operand.tmp 12) (Operand.tmp 13), type := 0, pos := "law.go:23", after := #[{ on := 1, ground := Ground.data }, { on := 2, ground := Ground.data }], guard := none } : Oper)) (v := ?_) rfl (by kernel_rfl) (by kernel_rfl) (by kernel_rfl) (fun _ _ _ h => h) (Or.inl ⟨by rfl, ?hy5_3⟩) hHeld ?_
      case hy5_3 => (intro W hSw; (try dsimp only at hSw); go_simp; (try with_reducible rfl))
      try simp only [Act.put, List.setIfInBounds_toArray, List.set_cons_zero, List.set_cons_succ]
      refine wpAnyH_take (i := 4) (oi := ({ dst := some 15, op := Op.load 3 (Operand.tmp 14), type := 3, pos := "law.go:23", after := #[{ on := 3, ground := Ground.data }], guard := none } : Oper)) (v := ?_) rfl (by kernel_rfl) (by kernel_rfl) (by kernel_rfl) (fun _ _ _ h => h) (Or.inl ⟨by rfl, ?hy5_4⟩) hHeld ?_
      case hy5_4 => (intro W hSw; (try dsimp only at hSw); go_simp; (try with_reducible rfl))
      try simp only [Act.put, List.setIfInBounds_toArray, List.set_cons_zero, List.set_cons_succ]
      refine wpAnyH_ready (rs := [0, 5]) (by kernel_rfl) (by simp) ?_
      refine (AllReadyH.cons (o := ({ dst := some 11, op := Op.load 24 (Operand.tmp 3), type := 24, pos := "law.go:23", after := #[], guard := none } : Oper)) rfl (fun K hK => ?_) (AllReadyH.cons (o := ({ dst := some 16, op := Op.call { callee := Callee.value (Operand.func 12), args := #[Operand.tmp 15], argTypes := #[3] }, type := 24, pos := "law.go:23", after := #[{ on := 4, ground := Ground.data }], guard := none } : Oper)) rfl (fun K hK => ?_) AllReadyH.nil))
      · skip
        obtain ⟨c0, c1, c2, c3⟩ := (HA.out.grow (Below.refl _ _).drew).cells
        go_simp
        clear c0 c1 c2 c3
        refine hK.out _ _ hHeld (fun hHeld' => ?_)
        clear hK K hHeld
        have hHeld := hHeld'
        clear hHeld'
        try simp only [Act.put, List.setIfInBounds_toArray, List.set_cons_zero, List.set_cons_succ]
        refine wpAnyH_ready (rs := [5]) (by kernel_rfl) (by simp) ?_
        refine AllReadyH.cons (o := ({ dst := some 16, op := Op.call { callee := Callee.value (Operand.func 12), args := #[Operand.tmp 15], argTypes := #[3] }, type := 24, pos := "law.go:23", after := #[{ on := 4, ground := Ground.data }], guard := none } : Oper)) rfl (fun K hK => ?_) AllReadyH.nil
        go_simp
        go_at_call 12
        refine (one_at (v := x) rfl _).mono ?_
        rintro e w2 ⟨rfl, hb2⟩
        have HA2 := Lib.hid ((HA.out.grow (Below.refl _ _).drew).grow hb2)
        have HR2 := Lib.hid ((HR.out.grow (Below.refl _ _).drew).grow hb2)
        have hS2 := stayF hbl hcx (grow_below (HB.out.drew) hb2)
        have HB2 := Lib.hid (grow_below (HB.out.drew) hb2)
        clear hb2
        refine hK.out _ _ hS2 (fun hHeld' => ?_)
        clear hK K hHeld
        have hHeld := hHeld'
        clear hHeld'
        try simp only [Act.put, List.setIfInBounds_toArray, List.set_cons_zero, List.set_cons_succ]
        refine wpAnyH_ready (rs := [6]) (by kernel_rfl) (by simp) ?_
        refine AllReadyH.cons (o := ({ dst := some 17, op := Op.call { callee := Callee.value (Operand.func 11), args := #[Operand.tmp 11, Operand.tmp 16], argTypes := #[24, 24] }, type := 24, pos := "law.go:23", after := #[{ on := 0, ground := Ground.data }, { on := 5, ground := Ground.data }, { on := 5, ground := Ground.chain }], guard := none } : Oper)) rfl (fun K hK => ?_) AllReadyH.nil
        go_simp
        go_at_call 11
        refine (join_at (a := r) (b := one x) HJ.out _).mono ?_
        rintro e w3 ⟨rfl, hb3⟩
        have HA3 := Lib.hid (HA2.out.grow hb3)
        have HR3 := Lib.hid (HR2.out.grow hb3)
        have hS3 := stayF hbl hcx (grow_below HB2.out hb3)
        have HB3 := Lib.hid (grow_below HB2.out hb3)
        clear hb3 HA2 HR2 HB2
        refine hK.out _ _ hS3 (fun hHeld' => ?_)
        clear hK K hHeld
        have hHeld := hHeld'
        clear hHeld'
        try simp only [Act.put, List.setIfInBounds_toArray, List.set_cons_zero, List.set_cons_succ]
        obtain ⟨c0, c1, c2, c3⟩ := HA3.out.cells
        obtain ⟨d0, d1, d2, d3⟩ := HA3.out.free
        refine wpAnyH_ready (rs := [7]) (by kernel_rfl) (by simp) ?_
        refine AllReadyH.cons (o := ({ dst := none, op := Op.store 24 (Operand.tmp 3) (Operand.tmp 17), type := 0, pos := "law.go:23", after := #[{ on := 6, ground := Ground.data }, { on := 6, ground := Ground.chain }, { on := 0, ground := Ground.phase }, { on := 1, ground := Ground.phase }, { on := 2, ground := Ground.phase }, { on := 3, ground := Ground.phase }, { on := 4, ground := Ground.phase }, { on := 5, ground := Ground.phase }, { on := 6, ground := Ground.phase }], guard := none } : Oper)) rfl (fun K hK => ?_) AllReadyH.nil
        go_simp
        clear c0 c1 c2 c3 d0 d1 d2 d3
        have HA4 := Lib.hid (HA3.out.store r2)
        have HR4 := Lib.hid (HR3.out.stored (b := w.heap.size + 1) (by omega) r2)
        have HB4 := Lib.hid (below_stored HB3.out (b := w.heap.size + 1) (by omega) r2)
        refine hK.out _ _ (stayF hbl hcx HB4.out) (fun hHeld' => ?_)
        clear hK K hHeld
        have hHeld := hHeld'
        clear hHeld'
        try simp only [Act.put, List.setIfInBounds_toArray, List.set_cons_zero, List.set_cons_succ]
        refine wpAnyH_done (by kernel_rfl) ?_ _
        go_wp2
        go_roundw
        case rel => exact ⟨k + 1, r2, by omega, by go_num, HA4, HR4, HN, HB4⟩
        case measure => simp [intOf]; omega
      · skip
        go_simp
        go_at_call 12
        refine (one_at (v := x) rfl _).mono ?_
        rintro e w2 ⟨rfl, hb2⟩
        have HA2 := Lib.hid ((HA.out.grow (Below.refl _ _).drew).grow hb2)
        have HR2 := Lib.hid ((HR.out.grow (Below.refl _ _).drew).grow hb2)
        have hS2 := stayF hbl hcx (grow_below (HB.out.drew) hb2)
        have HB2 := Lib.hid (grow_below (HB.out.drew) hb2)
        clear hb2
        refine hK.out _ _ hS2 (fun hHeld' => ?_)
        clear hK K hHeld
        have hHeld := hHeld'
        clear hHeld'
        try simp only [Act.put, List.setIfInBounds_toArray, List.set_cons_zero, List.set_cons_succ]
        obtain ⟨c0, c1, c2, c3⟩ := (HA2.out).cells
        refine wpAnyH_ready (rs := [0]) (by kernel_rfl) (by simp) ?_
        refine AllReadyH.cons (o := ({ dst := some 11, op := Op.load 24 (Operand.tmp 3), type := 24, pos := "law.go:23", after := #[], guard := none } : Oper)) rfl (fun K hK => ?_) AllReadyH.nil
        go_simp
        clear c0 c1 c2 c3
        refine hK.out _ _ hHeld (fun hHeld' => ?_)
        clear hK K hHeld
        have hHeld := hHeld'
        clear hHeld'
        try simp only [Act.put, List.setIfInBounds_toArray, List.set_cons_zero, List.set_cons_succ]
        refine wpAnyH_ready (rs := [6]) (by kernel_rfl) (by simp) ?_
        refine AllReadyH.cons (o := ({ dst := some 17, op := Op.call { callee := Callee.value (Operand.func 11), args := #[Operand.tmp 11, Operand.tmp 16], argTypes := #[24, 24] }, type := 24, pos := "law.go:23", after := #[{ on := 0, ground := Ground.data }, { on := 5, ground := Ground.data }, { on := 5, ground := Ground.chain }], guard := none } : Oper)) rfl (fun K hK => ?_) AllReadyH.nil
        go_simp
        go_at_call 11
        refine (join_at (a := r) (b := one x) HJ.out _).mono ?_
        rintro e w3 ⟨rfl, hb3⟩
        have HA3 := Lib.hid (HA2.out.grow hb3)
        have HR3 := Lib.hid (HR2.out.grow hb3)
        have hS3 := stayF hbl hcx (grow_below HB2.out hb3)
        have HB3 := Lib.hid (grow_below HB2.out hb3)
        clear hb3 HA2 HR2 HB2
        refine hK.out _ _ hS3 (fun hHeld' => ?_)
        clear hK K hHeld
        have hHeld := hHeld'
        clear hHeld'
        try simp only [Act.put, List.setIfInBounds_toArray, List.set_cons_zero, List.set_cons_succ]
        obtain ⟨c0, c1, c2, c3⟩ := HA3.out.cells
        obtain ⟨d0, d1, d2, d3⟩ := HA3.out.free
        refine wpAnyH_ready (rs := [7]) (by kernel_rfl) (by simp) ?_
        refine AllReadyH.cons (o := ({ dst := none, op := Op.store 24 (Operand.tmp 3) (Operand.tmp 17), type := 0, pos := "law.go:23", after := #[{ on := 6, ground := Ground.data }, { on := 6, ground := Ground.chain }, { on := 0, ground := Ground.phase }, { on := 1, ground := Ground.phase }, { on := 2, ground := Ground.phase }, { on := 3, ground := Ground.phase }, { on := 4, ground := Ground.phase }, { on := 5, ground := Ground.phase }, { on := 6, ground := Ground.phase }], guard := none } : Oper)) rfl (fun K hK => ?_) AllReadyH.nil
        go_simp
        clear c0 c1 c2 c3 d0 d1 d2 d3
        have HA4 := Lib.hid (HA3.out.store r2)
        have HR4 := Lib.hid (HR3.out.stored (b := w.heap.size + 1) (by omega) r2)
        have HB4 := Lib.hid (below_stored HB3.out (b := w.heap.size + 1) (by omega) r2)
        refine hK.out _ _ (stayF hbl hcx HB4.out) (fun hHeld' => ?_)
        clear hK K hHeld
        have hHeld := hHeld'
        clear hHeld'
        try simp only [Act.put, List.setIfInBounds_toArray, List.set_cons_zero, List.set_cons_succ]
        refine wpAnyH_done (by kernel_rfl) ?_ _
        go_wp2
        go_roundw
        case rel => exact ⟨k + 1, r2, by omega, by go_num, HA4, HR4, HN, HB4⟩
        case measure => simp [intOf]; omega
    · have HQ : Hid (Is r L) := Lib.hid (by
        have := HS.out
        rwa [List.take_of_length_le (by rw [← HN.out]; omega)] at this)
      obtain ⟨c0, c1, c2, c3⟩ := HA.out.cells
      obtain ⟨d0, d1, d2, d3⟩ := HR.out.free
      obtain ⟨e0, e1, e2, e3⟩ := HR.out.cells
      have HB4 := Lib.hid (below_stored HB.out (b := w.heap.size) (Nat.le_refl _) r)
      obtain ⟨q0, q1, q2, q3⟩ := (HR.out.store r).cells
      clear HS
      go_wp2
      refine bodyPost_ret (v := acV r) (by simp [results, Try.results6, go_sem, q0, q1, q2, q3]) rfl ⟨r, rfl, HQ.out, HB4.out⟩
end Go.Proofs.Ytilakddhljbipaa.Ag
