/-
  WindowMore: the walk of the law. Conditions: the spans lie in memory.
-/
import Derived.Test.YtfkdkcdknpjoeaaWStep
import Derived.Test.YtfkdkcdknpjoeaaWindowMergesWalk
namespace Go.Proofs.Ytfkdkcdknpjoeaa.Wi
set_option linter.unusedVariables false
set_option linter.unusedSimpArgs false
open Go.RowKit

/-- What Merge answers for L: M, and the error e. -/
def Mres (L M : List Sp) (e : Int) : Prop := (e = 0 ∧ (∀ s ∈ L, s.1 < s.2) ∧ mg L = M) ∨ (e = 1 ∧ (¬ ∀ s ∈ L, s.1 < s.2) ∧ M = [])
theorem mres_ex (L : List Sp) : ∃ M e, Mres L M e := by
  rcases Classical.em (∀ s ∈ L, s.1 < s.2) with h | h
  · exact ⟨_, 0, .inl ⟨rfl, h, rfl⟩⟩
  · exact ⟨_, 1, .inr ⟨rfl, h, rfl⟩⟩
theorem merge_res {w : World} {v : Value} {L M : List Sp} {e : Int} (h : SpansAt w v L) (hlen : L.length ≤ 4096) (hr : Mres L M e) : Calls Try.prog 18 #[v] w fun e' w' => ∃ v', e' = .returned (.tuple #[v', .int .i64 e]) ∧ SpansAt w' v' M ∧ Below w.heap.size w w' := by
  rcases hr with ⟨rfl, hf, hm⟩ | ⟨rfl, hf, rfl⟩
  · exact merge_ok h hlen hf hm
  · exact merge_arg h hlen hf
theorem mres_len {L M : List Sp} {e : Int} (h : Mres L M e) : M.length ≤ L.length := by
  rcases h with ⟨-, -, rfl⟩ | ⟨-, -, rfl⟩
  · exact mg_len L
  · exact Nat.zero_le _
theorem mres_more {L M1 M2 M3 : List Sp} {s : Sp} {e1 e2 e3 : Int} (h1 : Mres L M1 e1) (h2 : Mres (L ++ [s]) M2 e2) (h3 : Mres (M1 ++ [s]) M3 e3) : (e1 = 0 ∧ e2 = 0 ∧ e3 = 0 ∧ M3 = M2) ∨ (e1 = 0 ∧ e2 = 1) ∨ (e1 = 1 ∧ e2 = 1) := by
  rcases h1 with ⟨rfl, f1, rfl⟩ | ⟨rfl, f1, rfl⟩
  · rcases h2 with ⟨rfl, f2, rfl⟩ | ⟨rfl, f2, rfl⟩
    · have hs : s.1 < s.2 := f2 s (by simp)
      rcases h3 with ⟨rfl, f3, rfl⟩ | ⟨rfl, f3, rfl⟩
      · exact .inl ⟨rfl, rfl, rfl, mg_more f1 hs⟩
      · exact absurd (fun x hx => by
          rcases List.mem_append.1 hx with h | h
          · exact (mg_spec L f1).1.1 x h
          · rw [List.mem_singleton.1 h]; exact hs) f3
    · exact .inr (.inl ⟨rfl, rfl⟩)
  · rcases h2 with ⟨rfl, f2, rfl⟩ | ⟨rfl, f2, rfl⟩
    · exact absurd (fun x hx => f2 x (List.mem_append_left _ hx)) f1
    · exact .inr (.inr ⟨rfl, rfl⟩)
theorem one_block {w : World} {b : Nat} {s1 s2 : Int} (h : w.heap[b]? = some (.cells #[.int .i64 s1, .int .i64 s2] 34 (0, 0))) : SpansAt w (.slice (some ⟨b, 0, none⟩) 1 1) [(s1, s2)] :=
  spans_block h rfl rfl (by decide)
theorem empty_rowk {w w' : World} {B k : Nat} (hw : w' = w.alloc (.cells #[] 34)) (hk : w.heap.size = k) (hB : B ≤ k) : w'.ownsRow B 34 2 (.slice (some ⟨k, 0, none⟩) 0 0) ([] : List Sp).length (scs []) := by
  subst hk; exact empty_row hw hB
theorem heap_alloc_at {w : World} {k : Nat} (hk : w.heap.size = k) (cs : Array Value) {t : TypeId} : (w.alloc (.cells cs t)).heap[k]? = some (.cells cs t (0, 0)) := by
  subst hk; exact heap_alloc_new w _
theorem drew_row {w : World} {base : Nat} {e : TypeId} {size : Nat} {v : Value} {n : Nat} {xs : List Value} (h : w.ownsRow base e size v n xs) : w.drew.ownsRow base e size v n xs := ownsRow_below h (Below.refl _ _).drew
theorem stayM {W X : World} {B : Nat} {s1 s2 : Int} (h : W.heap[B]? = some (.cells #[.int .i64 s1, .int .i64 s2] 34 (0, 0))) (hl : B < W.heap.size) (hb : Below W.heap.size W X) :
    X.cell? ⟨B, 0, none⟩ = some (.int .i64 s1) ∧ X.cell? ⟨B, 1, none⟩ = some (.int .i64 s2) ∧ Hid (Below W.heap.size W X) := by
  have h' : X.heap[B]? = some (.cells #[.int .i64 s1, .int .i64 s2] 34 (0, 0)) := (hb.block B hl).trans h
  exact ⟨by rw [cell_of_heap h']; rfl, by rw [cell_of_heap h']; rfl, Lib.hid hb⟩
set_option maxRecDepth 20000 in
set_option maxHeartbeats 8000000 in
theorem wmore_at {w : World} {a : Option Addr} {n c : Nat} {L : List Sp} {s1 s2 : Int} (h : SpansAt w (.slice a n c) L) (h1 : n ≤ 300) : Calls Try.prog 7 #[.slice a n c, spV (s1, s2)] w fun e w' => e = .returned (.bool true) ∧ Below w.heap.size w w' := by
  obtain ⟨hnl, k1, k2, k3⟩ := h.len
  unfold maxLen at k2 k3
  obtain ⟨M1, e1, hr1⟩ := mres_ex L
  obtain ⟨M2, e2, hr2⟩ := mres_ex (L ++ [(s1, s2)])
  obtain ⟨M3, e3, hr3⟩ := mres_ex (M1 ++ [(s1, s2)])
  have hrel := mres_more hr1 hr2 hr3
  have hml := mres_len hr1
  obtain ⟨m1, hm1⟩ : ∃ m, M1.length = m := ⟨_, rfl⟩
  have HL : Hid (L.length ≤ 300) := Lib.hid (by omega)
  have HL0 : Hid (L.length ≤ 4096) := Lib.hid (by omega)
  have HL1 : Hid ((L ++ [(s1, s2)]).length ≤ 4096) := Lib.hid (by simp; omega)
  have HL2 : Hid ((M1 ++ [(s1, s2)]).length ≤ 4096) := Lib.hid (by simp; omega)
  have HML : Hid (M1.length ≤ 300) := Lib.hid (by omega)
  have hm300 : m1 ≤ 300 := by omega
  have HR1 := Lib.hid hr1
  have HR2 := Lib.hid hr2
  have HR3 := Lib.hid hr3
  have HREL := Lib.hid hrel
  have HM1 := Lib.hid hm1
  have hb0 : Below w.heap.size w (w.alloc (.cells #[.int .i64 s1, .int .i64 s2] 34)) := (Below.refl _ _).alloc (Nat.le_refl _) _
  have HX0 : Hid ((w.alloc (.cells #[.int .i64 s1, .int .i64 s2] 34)).heap[w.heap.size]? = some (.cells #[.int .i64 s1, .int .i64 s2] 34 (0, 0))) := Lib.hid (heap_alloc_new w _)
  have HI0 := Lib.hid (h.grow hb0)
  have HB0 := Lib.hid hb0
  clear h hnl k2 hr1 hr2 hr3 hrel hml hm1 hb0
  go_enter Try.func7, Try.ntmps7
  go_upto_region 4 with (go_at_call 18; refine (merge_res HI0.out HL0.out HR1.out).mono ?_; rintro e w2 ⟨v1, rfl, hi1, hb1⟩; obtain ⟨a1, c1, rfl⟩ := hi1.val; rw [HM1.out] at hi1 ⊢; have HX := Lib.hid ((hb1.block _ (lt_of_heap HX0.out)).trans HX0.out); have HI := Lib.hid (HI0.out.grow hb1); have HJ := Lib.hid hi1; have HB := Lib.hid (grow_below HB0.out hb1); clear hi1 hb1 HX0 HI0 HB0)
  have HXL : Hid (w.heap.size < w2.heap.size) := Lib.hid (lt_of_heap HX.out)
  go_cut [7, 8] (fun v7 v8 wx => v8 = .int .i64 e2 ∧ Hid (SpansAt wx v7 M2) ∧ Hid (Below w2.heap.size w2 wx))
  case first =>
    refine wp_region_held_drew (S := (fun X => X.cell? ⟨w.heap.size, 0, none⟩ = some (.int .i64 s1) ∧ X.cell? ⟨w.heap.size, 1, none⟩ = some (.int .i64 s2) ∧ Hid (Below w2.heap.size w2 X))) (by kernel_rfl) (stayM HX.out HXL.out (Below.refl _ _).drew) (fun hHeld => ?_)
    refine wpAnyH_take (i := 1) (oi := ({ dst := some 21, op := Op.move (Operand.tmp 0), type := 24, pos := "law.go:142", after := #[], guard := none } : Oper)) (v := ?_) rfl (by kernel_rfl) (by kernel_rfl) (by kernel_rfl) (fun _ _ _ h => h) (Or.inl ⟨by rfl, ?hy4_1⟩) hHeld ?_
    case hy4_1 => (intro W hSw; (try dsimp only at hSw); go_simp; (try with_reducible rfl))
    try simp only [Act.put, List.setIfInBounds_toArray, List.set_cons_zero, List.set_cons_succ]
    refine wpAnyH_take (i := 3) (oi := ({ dst := some 23, op := Op.load 34 (Operand.tmp 3), type := 34, pos := "law.go:142", after := #[], guard := none } : Oper)) (v := ?_) rfl (by kernel_rfl) (by kernel_rfl) (by kernel_rfl) (fun _ _ _ h => h) (Or.inl ⟨by rfl, ?hy4_2⟩) hHeld ?_
    case hy4_2 => (intro W hSw; (try dsimp only at hSw); go_simp; (try with_reducible rfl))
    try simp only [Act.put, List.setIfInBounds_toArray, List.set_cons_zero, List.set_cons_succ]
    refine wpAnyH_ready (rs := [0, 4]) (by kernel_rfl) (by simp) ?_
    refine (AllReadyH.cons (o := ({ dst := some 20, op := Op.buildSlice 24 0 #[], type := 24, pos := "law.go:142", after := #[], guard := none } : Oper)) rfl (fun K hK => ?_) (AllReadyH.cons (o := ({ dst := some 24, op := Op.buildSlice 24 1 #[(0, Operand.tmp 23)], type := 24, pos := "law.go:142", after := #[{ on := 3, ground := Ground.data }], guard := none } : Oper)) rfl (fun K hK => ?_) AllReadyH.nil))
    · skip
      go_simp
      refine hK.out _ _ (stayM HX.out HXL.out (((Below.refl _ _).alloc (Nat.le_refl _) _).drew)) (fun hHeld' => ?_)
      clear hK K hHeld
      have hHeld := hHeld'
      clear hHeld'
      try simp only [Act.put, List.setIfInBounds_toArray, List.set_cons_zero, List.set_cons_succ]
      refine wpAnyH_ready (rs := [2, 4]) (by kernel_rfl) (by simp) ?_
      refine (AllReadyH.cons (o := ({ dst := some 22, op := Op.call { callee := Callee.builtin Builtin.append, args := #[Operand.tmp 20, Operand.tmp 21], argTypes := #[24, 24] }, type := 24, pos := "law.go:142", after := #[{ on := 0, ground := Ground.data }, { on := 1, ground := Ground.data }], guard := none } : Oper)) rfl (fun K hK => ?_) (AllReadyH.cons (o := ({ dst := some 24, op := Op.buildSlice 24 1 #[(0, Operand.tmp 23)], type := 24, pos := "law.go:142", after := #[{ on := 3, ground := Ground.data }], guard := none } : Oper)) rfl (fun K hK => ?_) AllReadyH.nil))
      · skip
        refine step_spans (by rfl) (.tmp 20) (.tmp 21) (by rfl) w2.heap.size (.slice (some ⟨w2.heap.size, 0, none⟩) 0 0) [] (by rfl) (drew_row (empty_row rfl (Nat.le_refl _))) a n c L (by rfl) (HI.out.grow (((Below.refl _ _).alloc (Nat.le_refl _) _).drew)) (by simp; omega) (by simp <;> omega) ?_
        intro v3 w3 hown3 hgrow3
        rw [List.nil_append] at hown3
        have HB3 : Hid (Below w2.heap.size w2 w3) := Lib.hid ((((Below.refl _ _).alloc (Nat.le_refl _) _).drew).grown hgrow3 ((((Below.refl _ _).alloc (Nat.le_refl _) _).drew).size) (fun k e => by simp [Value.ownBlock] at e; omega))
        have HO3 := Lib.hid hown3
        clear hown3 hgrow3
        refine hK.out _ _ (stayM HX.out HXL.out HB3.out) (fun hHeld' => ?_)
        clear hK K hHeld
        have hHeld := hHeld'
        clear hHeld'
        try simp only [Act.put, List.setIfInBounds_toArray, List.set_cons_zero, List.set_cons_succ]
        refine wpAnyH_ready (rs := [4]) (by kernel_rfl) (by simp) ?_
        refine AllReadyH.cons (o := ({ dst := some 24, op := Op.buildSlice 24 1 #[(0, Operand.tmp 23)], type := 24, pos := "law.go:142", after := #[{ on := 3, ground := Ground.data }], guard := none } : Oper)) rfl (fun K hK => ?_) AllReadyH.nil
        go_simp
        refine hK.out _ _ (stayM HX.out HXL.out (HB3.out.alloc HB3.out.size _)) (fun hHeld' => ?_)
        clear hK K hHeld
        have hHeld := hHeld'
        clear hHeld'
        try simp only [Act.put, List.setIfInBounds_toArray, List.set_cons_zero, List.set_cons_succ]
        have HE : Hid (SpansAt (w3.alloc (.cells #[.int .i64 s1, .int .i64 s2] 34)) (.slice (some ⟨w3.heap.size, 0, none⟩) 1 1) [(s1, s2)]) := Lib.hid (one_block (heap_alloc_new w3 _))
        have HO := Lib.hid (ownsRow_below HO3.out ((Below.refl _ _).alloc (Nat.le_refl _) (.cells #[.int .i64 s1, .int .i64 s2] 34)))
        have HB4 := Lib.hid (HB3.out.alloc HB3.out.size (.cells #[.int .i64 s1, .int .i64 s2] 34))
        clear HO3 HB3
        refine wpAnyH_ready (rs := [5]) (by kernel_rfl) (by simp) ?_
        refine AllReadyH.cons (o := ({ dst := some 25, op := Op.call { callee := Callee.builtin Builtin.append, args := #[Operand.tmp 22, Operand.tmp 24], argTypes := #[24, 24] }, type := 24, pos := "law.go:142", after := #[{ on := 2, ground := Ground.data }, { on := 4, ground := Ground.data }, { on := 2, ground := Ground.chain }], guard := none } : Oper)) rfl (fun K hK => ?_) AllReadyH.nil
        refine step_spans (by rfl) (.tmp 22) (.tmp 24) (by rfl) w2.heap.size v3 L (by rfl) HO.out (some ⟨w3.heap.size, 0, none⟩) 1 1 [(s1, s2)] (by rfl) HE.out (by have := HL.out; omega) HB4.out.size ?_
        intro v4 w4 hown4 hgrow4
        have HI4 := Lib.hid (spans_row hown4)
        have HB5 := Lib.hid (HB4.out.grown hgrow4 HB4.out.size (fun k e => (HO.out.lt k e).1))
        clear hown4 hgrow4
        refine hK.out _ _ (stayM HX.out HXL.out HB5.out) (fun hHeld' => ?_)
        clear hK K hHeld
        have hHeld := hHeld'
        clear hHeld'
        try simp only [Act.put, List.setIfInBounds_toArray, List.set_cons_zero, List.set_cons_succ]
        refine wpAnyH_ready (rs := [6]) (by kernel_rfl) (by simp) ?_
        refine AllReadyH.cons (o := ({ dst := some 26, op := Op.call { callee := Callee.value (Operand.func 18), args := #[Operand.tmp 25], argTypes := #[24] }, type := 26, pos := "law.go:142", after := #[{ on := 5, ground := Ground.data }, { on := 5, ground := Ground.chain }], guard := none } : Oper)) rfl (fun K hK => ?_) AllReadyH.nil
        go_simp
        go_at_call 18
        refine (merge_res HI4.out HL1.out HR2.out).mono ?_
        rintro e w5 ⟨v5, rfl, hi5, hb5⟩
        have HI5 := Lib.hid hi5
        have HB6 := Lib.hid (grow_below HB5.out hb5)
        clear hi5 hb5
        refine hK.out _ _ (stayM HX.out HXL.out HB6.out) (fun hHeld' => ?_)
        clear hK K hHeld
        have hHeld := hHeld'
        clear hHeld'
        try simp only [Act.put, List.setIfInBounds_toArray, List.set_cons_zero, List.set_cons_succ]
        refine wpAnyH_take (i := 7) (oi := ({ dst := some 19, op := Op.move (Operand.tmp 26), type := 26, pos := "law.go:142", after := #[{ on := 6, ground := Ground.data }], guard := none } : Oper)) (v := ?_) rfl (by kernel_rfl) (by kernel_rfl) (by kernel_rfl) (fun _ _ _ h => h) (Or.inl ⟨by rfl, ?hy4_3⟩) hHeld ?_
        case hy4_3 => (intro W hSw; (try dsimp only at hSw); go_simp; (try with_reducible rfl))
        try simp only [Act.put, List.setIfInBounds_toArray, List.set_cons_zero, List.set_cons_succ]
        refine wpAnyH_take (i := 8) (oi := ({ dst := some 27, op := Op.extract (Operand.tmp 19) 0, type := 24, pos := "law.go:142", after := #[{ on := 7, ground := Ground.data }], guard := none } : Oper)) (v := ?_) rfl (by kernel_rfl) (by kernel_rfl) (by kernel_rfl) (fun _ _ _ h => h) (Or.inl ⟨by rfl, ?hy4_4⟩) hHeld ?_
        case hy4_4 => (intro W hSw; (try dsimp only at hSw); go_simp; (try with_reducible rfl))
        try simp only [Act.put, List.setIfInBounds_toArray, List.set_cons_zero, List.set_cons_succ]
        refine wpAnyH_take (i := 10) (oi := ({ dst := some 7, op := Op.assign (Operand.tmp 27), type := 24, pos := "law.go:142", after := #[{ on := 8, ground := Ground.data }, { on := 6, ground := Ground.chain }, { on := 0, ground := Ground.phase }, { on := 1, ground := Ground.phase }, { on := 2, ground := Ground.phase }, { on := 3, ground := Ground.phase }, { on := 4, ground := Ground.phase }, { on := 5, ground := Ground.phase }, { on := 6, ground := Ground.phase }, { on := 7, ground := Ground.phase }, { on := 8, ground := Ground.phase }, { on := 9, ground := Ground.textOnly Departure.lateStores }], guard := none } : Oper)) (v := ?_) rfl (by kernel_rfl) (by kernel_rfl) (by kernel_rfl) (fun _ _ _ h => h) (Or.inl ⟨by rfl, ?hy4_5⟩) hHeld ?_
        case hy4_5 => (intro W hSw; (try dsimp only at hSw); go_simp; (try with_reducible rfl))
        try simp only [Act.put, List.setIfInBounds_toArray, List.set_cons_zero, List.set_cons_succ]
        refine wpAnyH_take (i := 9) (oi := ({ dst := some 28, op := Op.extract (Operand.tmp 19) 1, type := 25, pos := "law.go:142", after := #[{ on := 7, ground := Ground.data }, { on := 10, ground := Ground.gcOnly Departure.lateStores }], guard := none } : Oper)) (v := ?_) rfl (by kernel_rfl) (by kernel_rfl) (by kernel_rfl) (fun _ _ _ h => h) (Or.inl ⟨by rfl, ?hy4_6⟩) hHeld ?_
        case hy4_6 => (intro W hSw; (try dsimp only at hSw); go_simp; (try with_reducible rfl))
        try simp only [Act.put, List.setIfInBounds_toArray, List.set_cons_zero, List.set_cons_succ]
        refine wpAnyH_take (i := 11) (oi := ({ dst := some 8, op := Op.assign (Operand.tmp 28), type := 25, pos := "law.go:142", after := #[{ on := 9, ground := Ground.data }, { on := 10, ground := Ground.chain }, { on := 0, ground := Ground.phase }, { on := 1, ground := Ground.phase }, { on := 2, ground := Ground.phase }, { on := 3, ground := Ground.phase }, { on := 4, ground := Ground.phase }, { on := 5, ground := Ground.phase }, { on := 6, ground := Ground.phase }, { on := 7, ground := Ground.phase }, { on := 8, ground := Ground.phase }, { on := 9, ground := Ground.phase }, { on := 10, ground := Ground.phase }], guard := none } : Oper)) (v := ?_) rfl (by kernel_rfl) (by kernel_rfl) (by kernel_rfl) (fun _ _ _ h => h) (Or.inl ⟨by rfl, ?hy4_7⟩) hHeld ?_
        case hy4_7 => (intro W hSw; (try dsimp only at hSw); go_simp; (try with_reducible rfl))
        try simp only [Act.put, List.setIfInBounds_toArray, List.set_cons_zero, List.set_cons_succ]
        refine wpAnyH_done (by kernel_rfl) ?_ _
        go_wp2_with fail
        go_meet
        exact ⟨rfl, HI5, HB6⟩
      · skip
        go_simp
        refine hK.out _ _ (stayM HX.out HXL.out ((((Below.refl _ _).alloc (Nat.le_refl _) _).alloc (by simp) _).drew)) (fun hHeld' => ?_)
        clear hK K hHeld
        have hHeld := hHeld'
        clear hHeld'
        try simp only [Act.put, List.setIfInBounds_toArray, List.set_cons_zero, List.set_cons_succ]
        refine wpAnyH_ready (rs := [2]) (by kernel_rfl) (by simp) ?_
        refine AllReadyH.cons (o := ({ dst := some 22, op := Op.call { callee := Callee.builtin Builtin.append, args := #[Operand.tmp 20, Operand.tmp 21], argTypes := #[24, 24] }, type := 24, pos := "law.go:142", after := #[{ on := 0, ground := Ground.data }, { on := 1, ground := Ground.data }], guard := none } : Oper)) rfl (fun K hK => ?_) AllReadyH.nil
        refine step_spans (by rfl) (.tmp 20) (.tmp 21) (by rfl) w2.heap.size (.slice (some ⟨w2.heap.size, 0, none⟩) 0 0) [] (by rfl) (drew_row (ownsRow_below (empty_row rfl (Nat.le_refl _)) ((Below.refl _ _).alloc (Nat.le_refl _) _))) a n c L (by rfl) (HI.out.grow ((((Below.refl _ _).alloc (Nat.le_refl _) _).alloc (by simp) _).drew)) (by simp; omega) (by simp <;> omega) ?_
        intro v3 w3 hown3 hgrow3
        rw [List.nil_append] at hown3
        have HB3 : Hid (Below w2.heap.size w2 w3) := Lib.hid (((((Below.refl _ _).alloc (Nat.le_refl _) _).alloc (by simp) _).drew).grown hgrow3 (((((Below.refl _ _).alloc (Nat.le_refl _) _).alloc (by simp) _).drew).size) (fun k e => by simp [Value.ownBlock] at e; omega))
        have HE : Hid (SpansAt w3 (.slice (some ⟨w2.heap.size + 1, 0, none⟩) 1 1) [(s1, s2)]) := Lib.hid (one_block (by rw [hgrow3.block _ (by simp [World.drew]) (fun e => by simp [Value.ownBlock] at e)]; exact heap_alloc_at (w := w2.alloc (.cells #[] 34)) (by simp) _))
        have HO := Lib.hid hown3
        have HB4 := Lib.hid HB3.out
        clear hown3 hgrow3
        refine hK.out _ _ (stayM HX.out HXL.out HB3.out) (fun hHeld' => ?_)
        clear hK K hHeld
        have hHeld := hHeld'
        clear hHeld'
        try simp only [Act.put, List.setIfInBounds_toArray, List.set_cons_zero, List.set_cons_succ]
        refine wpAnyH_ready (rs := [5]) (by kernel_rfl) (by simp) ?_
        refine AllReadyH.cons (o := ({ dst := some 25, op := Op.call { callee := Callee.builtin Builtin.append, args := #[Operand.tmp 22, Operand.tmp 24], argTypes := #[24, 24] }, type := 24, pos := "law.go:142", after := #[{ on := 2, ground := Ground.data }, { on := 4, ground := Ground.data }, { on := 2, ground := Ground.chain }], guard := none } : Oper)) rfl (fun K hK => ?_) AllReadyH.nil
        refine step_spans (by rfl) (.tmp 22) (.tmp 24) (by rfl) w2.heap.size v3 L (by rfl) HO.out (some ⟨w2.heap.size + 1, 0, none⟩) 1 1 [(s1, s2)] (by rfl) HE.out (by have := HL.out; omega) HB4.out.size ?_
        intro v4 w4 hown4 hgrow4
        have HI4 := Lib.hid (spans_row hown4)
        have HB5 := Lib.hid (HB4.out.grown hgrow4 HB4.out.size (fun k e => (HO.out.lt k e).1))
        clear hown4 hgrow4
        refine hK.out _ _ (stayM HX.out HXL.out HB5.out) (fun hHeld' => ?_)
        clear hK K hHeld
        have hHeld := hHeld'
        clear hHeld'
        try simp only [Act.put, List.setIfInBounds_toArray, List.set_cons_zero, List.set_cons_succ]
        refine wpAnyH_ready (rs := [6]) (by kernel_rfl) (by simp) ?_
        refine AllReadyH.cons (o := ({ dst := some 26, op := Op.call { callee := Callee.value (Operand.func 18), args := #[Operand.tmp 25], argTypes := #[24] }, type := 26, pos := "law.go:142", after := #[{ on := 5, ground := Ground.data }, { on := 5, ground := Ground.chain }], guard := none } : Oper)) rfl (fun K hK => ?_) AllReadyH.nil
        go_simp
        go_at_call 18
        refine (merge_res HI4.out HL1.out HR2.out).mono ?_
        rintro e w5 ⟨v5, rfl, hi5, hb5⟩
        have HI5 := Lib.hid hi5
        have HB6 := Lib.hid (grow_below HB5.out hb5)
        clear hi5 hb5
        refine hK.out _ _ (stayM HX.out HXL.out HB6.out) (fun hHeld' => ?_)
        clear hK K hHeld
        have hHeld := hHeld'
        clear hHeld'
        try simp only [Act.put, List.setIfInBounds_toArray, List.set_cons_zero, List.set_cons_succ]
        refine wpAnyH_take (i := 7) (oi := ({ dst := some 19, op := Op.move (Operand.tmp 26), type := 26, pos := "law.go:142", after := #[{ on := 6, ground := Ground.data }], guard := none } : Oper)) (v := ?_) rfl (by kernel_rfl) (by kernel_rfl) (by kernel_rfl) (fun _ _ _ h => h) (Or.inl ⟨by rfl, ?hy4_8⟩) hHeld ?_
        case hy4_8 => (intro W hSw; (try dsimp only at hSw); go_simp; (try with_reducible rfl))
        try simp only [Act.put, List.setIfInBounds_toArray, List.set_cons_zero, List.set_cons_succ]
        refine wpAnyH_take (i := 8) (oi := ({ dst := some 27, op := Op.extract (Operand.tmp 19) 0, type := 24, pos := "law.go:142", after := #[{ on := 7, ground := Ground.data }], guard := none } : Oper)) (v := ?_) rfl (by kernel_rfl) (by kernel_rfl) (by kernel_rfl) (fun _ _ _ h => h) (Or.inl ⟨by rfl, ?hy4_9⟩) hHeld ?_
        case hy4_9 => (intro W hSw; (try dsimp only at hSw); go_simp; (try with_reducible rfl))
        try simp only [Act.put, List.setIfInBounds_toArray, List.set_cons_zero, List.set_cons_succ]
        refine wpAnyH_take (i := 10) (oi := ({ dst := some 7, op := Op.assign (Operand.tmp 27), type := 24, pos := "law.go:142", after := #[{ on := 8, ground := Ground.data }, { on := 6, ground := Ground.chain }, { on := 0, ground := Ground.phase }, { on := 1, ground := Ground.phase }, { on := 2, ground := Ground.phase }, { on := 3, ground := Ground.phase }, { on := 4, ground := Ground.phase }, { on := 5, ground := Ground.phase }, { on := 6, ground := Ground.phase }, { on := 7, ground := Ground.phase }, { on := 8, ground := Ground.phase }, { on := 9, ground := Ground.textOnly Departure.lateStores }], guard := none } : Oper)) (v := ?_) rfl (by kernel_rfl) (by kernel_rfl) (by kernel_rfl) (fun _ _ _ h => h) (Or.inl ⟨by rfl, ?hy4_10⟩) hHeld ?_
        case hy4_10 => (intro W hSw; (try dsimp only at hSw); go_simp; (try with_reducible rfl))
        try simp only [Act.put, List.setIfInBounds_toArray, List.set_cons_zero, List.set_cons_succ]
        refine wpAnyH_take (i := 9) (oi := ({ dst := some 28, op := Op.extract (Operand.tmp 19) 1, type := 25, pos := "law.go:142", after := #[{ on := 7, ground := Ground.data }, { on := 10, ground := Ground.gcOnly Departure.lateStores }], guard := none } : Oper)) (v := ?_) rfl (by kernel_rfl) (by kernel_rfl) (by kernel_rfl) (fun _ _ _ h => h) (Or.inl ⟨by rfl, ?hy4_11⟩) hHeld ?_
        case hy4_11 => (intro W hSw; (try dsimp only at hSw); go_simp; (try with_reducible rfl))
        try simp only [Act.put, List.setIfInBounds_toArray, List.set_cons_zero, List.set_cons_succ]
        refine wpAnyH_take (i := 11) (oi := ({ dst := some 8, op := Op.assign (Operand.tmp 28), type := 25, pos := "law.go:142", after := #[{ on := 9, ground := Ground.data }, { on := 10, ground := Ground.chain }, { on := 0, ground := Ground.phase }, { on := 1, ground := Ground.phase }, { on := 2, ground := Ground.phase }, { on := 3, ground := Ground.phase }, { on := 4, ground := Ground.phase }, { on := 5, ground := Ground.phase }, { on := 6, ground := Ground.phase }, { on := 7, ground := Ground.phase }, { on := 8, ground := Ground.phase }, { on := 9, ground := Ground.phase }, { on := 10, ground := Ground.phase }], guard := none } : Oper)) (v := ?_) rfl (by kernel_rfl) (by kernel_rfl) (by kernel_rfl) (fun _ _ _ h => h) (Or.inl ⟨by rfl, ?hy4_12⟩) hHeld ?_
        case hy4_12 => (intro W hSw; (try dsimp only at hSw); go_simp; (try with_reducible rfl))
        try simp only [Act.put, List.setIfInBounds_toArray, List.set_cons_zero, List.set_cons_succ]
        refine wpAnyH_done (by kernel_rfl) ?_ _
        go_wp2_with fail
        go_meet
        exact ⟨rfl, HI5, HB6⟩
    · skip
      go_simp
      refine hK.out _ _ (stayM HX.out HXL.out (((Below.refl _ _).alloc (Nat.le_refl _) _).drew)) (fun hHeld' => ?_)
      clear hK K hHeld
      have hHeld := hHeld'
      clear hHeld'
      try simp only [Act.put, List.setIfInBounds_toArray, List.set_cons_zero, List.set_cons_succ]
      refine wpAnyH_ready (rs := [0]) (by kernel_rfl) (by simp) ?_
      refine AllReadyH.cons (o := ({ dst := some 20, op := Op.buildSlice 24 0 #[], type := 24, pos := "law.go:142", after := #[], guard := none } : Oper)) rfl (fun K hK => ?_) AllReadyH.nil
      go_simp
      refine hK.out _ _ (stayM HX.out HXL.out ((((Below.refl _ _).alloc (Nat.le_refl _) _).alloc (by simp) _).drew)) (fun hHeld' => ?_)
      clear hK K hHeld
      have hHeld := hHeld'
      clear hHeld'
      try simp only [Act.put, List.setIfInBounds_toArray, List.set_cons_zero, List.set_cons_succ]
      refine wpAnyH_ready (rs := [2]) (by kernel_rfl) (by simp) ?_
      refine AllReadyH.cons (o := ({ dst := some 22, op := Op.call { callee := Callee.builtin Builtin.append, args := #[Operand.tmp 20, Operand.tmp 21], argTypes := #[24, 24] }, type := 24, pos := "law.go:142", after := #[{ on := 0, ground := Ground.data }, { on := 1, ground := Ground.data }], guard := none } : Oper)) rfl (fun K hK => ?_) AllReadyH.nil
      refine step_spans (by rfl) (.tmp 20) (.tmp 21) (by rfl) w2.heap.size (.slice (some ⟨w2.heap.size + 1, 0, none⟩) 0 0) [] (by rfl) (drew_row (empty_rowk (w := w2.alloc (.cells #[.int .i64 s1, .int .i64 s2] 34)) rfl (by simp) (by omega))) a n c L (by rfl) (HI.out.grow ((((Below.refl _ _).alloc (Nat.le_refl _) _).alloc (by simp) _).drew)) (by simp; omega) (by simp <;> omega) ?_
      intro v3 w3 hown3 hgrow3
      rw [List.nil_append] at hown3
      have HB3 : Hid (Below w2.heap.size w2 w3) := Lib.hid (((((Below.refl _ _).alloc (Nat.le_refl _) _).alloc (by simp) _).drew).grown hgrow3 (((((Below.refl _ _).alloc (Nat.le_refl _) _).alloc (by simp) _).drew).size) (fun k e => by simp [Value.ownBlock] at e; omega))
      have HE : Hid (SpansAt w3 (.slice (some ⟨w2.heap.size, 0, none⟩) 1 1) [(s1, s2)]) := Lib.hid (one_block (by rw [hgrow3.block _ (by simp [World.drew]; omega) (fun e => by simp [Value.ownBlock] at e)]; exact (Below.heap_alloc (w2.alloc (.cells #[.int .i64 s1, .int .i64 s2] 34)) _ _ (by simp)).trans (heap_alloc_new w2 _)))
      have HO := Lib.hid hown3
      have HB4 := Lib.hid HB3.out
      clear hown3 hgrow3
      refine hK.out _ _ (stayM HX.out HXL.out HB3.out) (fun hHeld' => ?_)
      clear hK K hHeld
      have hHeld := hHeld'
      clear hHeld'
      try simp only [Act.put, List.setIfInBounds_toArray, List.set_cons_zero, List.set_cons_succ]
      refine wpAnyH_ready (rs := [5]) (by kernel_rfl) (by simp) ?_
      refine AllReadyH.cons (o := ({ dst := some 25, op := Op.call { callee := Callee.builtin Builtin.append, args := #[Operand.tmp 22, Operand.tmp 24], argTypes := #[24, 24] }, type := 24, pos := "law.go:142", after := #[{ on := 2, ground := Ground.data }, { on := 4, ground := Ground.data }, { on := 2, ground := Ground.chain }], guard := none } : Oper)) rfl (fun K hK => ?_) AllReadyH.nil
      refine step_spans (by rfl) (.tmp 22) (.tmp 24) (by rfl) w2.heap.size v3 L (by rfl) HO.out (some ⟨w2.heap.size, 0, none⟩) 1 1 [(s1, s2)] (by rfl) HE.out (by have := HL.out; omega) HB4.out.size ?_
      intro v4 w4 hown4 hgrow4
      have HI4 := Lib.hid (spans_row hown4)
      have HB5 := Lib.hid (HB4.out.grown hgrow4 HB4.out.size (fun k e => (HO.out.lt k e).1))
      clear hown4 hgrow4
      refine hK.out _ _ (stayM HX.out HXL.out HB5.out) (fun hHeld' => ?_)
      clear hK K hHeld
      have hHeld := hHeld'
      clear hHeld'
      try simp only [Act.put, List.setIfInBounds_toArray, List.set_cons_zero, List.set_cons_succ]
      refine wpAnyH_ready (rs := [6]) (by kernel_rfl) (by simp) ?_
      refine AllReadyH.cons (o := ({ dst := some 26, op := Op.call { callee := Callee.value (Operand.func 18), args := #[Operand.tmp 25], argTypes := #[24] }, type := 26, pos := "law.go:142", after := #[{ on := 5, ground := Ground.data }, { on := 5, ground := Ground.chain }], guard := none } : Oper)) rfl (fun K hK => ?_) AllReadyH.nil
      go_simp
      go_at_call 18
      refine (merge_res HI4.out HL1.out HR2.out).mono ?_
      rintro e w5 ⟨v5, rfl, hi5, hb5⟩
      have HI5 := Lib.hid hi5
      have HB6 := Lib.hid (grow_below HB5.out hb5)
      clear hi5 hb5
      refine hK.out _ _ (stayM HX.out HXL.out HB6.out) (fun hHeld' => ?_)
      clear hK K hHeld
      have hHeld := hHeld'
      clear hHeld'
      try simp only [Act.put, List.setIfInBounds_toArray, List.set_cons_zero, List.set_cons_succ]
      refine wpAnyH_take (i := 7) (oi := ({ dst := some 19, op := Op.move (Operand.tmp 26), type := 26, pos := "law.go:142", after := #[{ on := 6, ground := Ground.data }], guard := none } : Oper)) (v := ?_) rfl (by kernel_rfl) (by kernel_rfl) (by kernel_rfl) (fun _ _ _ h => h) (Or.inl ⟨by rfl, ?hy4_13⟩) hHeld ?_
      case hy4_13 => (intro W hSw; (try dsimp only at hSw); go_simp; (try with_reducible rfl))
      try simp only [Act.put, List.setIfInBounds_toArray, List.set_cons_zero, List.set_cons_succ]
      refine wpAnyH_take (i := 8) (oi := ({ dst := some 27, op := Op.extract (Operand.tmp 19) 0, type := 24, pos := "law.go:142", after := #[{ on := 7, ground := Ground.data }], guard := none } : Oper)) (v := ?_) rfl (by kernel_rfl) (by kernel_rfl) (by kernel_rfl) (fun _ _ _ h => h) (Or.inl ⟨by rfl, ?hy4_14⟩) hHeld ?_
      case hy4_14 => (intro W hSw; (try dsimp only at hSw); go_simp; (try with_reducible rfl))
      try simp only [Act.put, List.setIfInBounds_toArray, List.set_cons_zero, List.set_cons_succ]
      refine wpAnyH_take (i := 10) (oi := ({ dst := some 7, op := Op.assign (Operand.tmp 27), type := 24, pos := "law.go:142", after := #[{ on := 8, ground := Ground.data }, { on := 6, ground := Ground.chain }, { on := 0, ground := Ground.phase }, { on := 1, ground := Ground.phase }, { on := 2, ground := Ground.phase }, { on := 3, ground := Ground.phase }, { on := 4, ground := Ground.phase }, { on := 5, ground := Ground.phase }, { on := 6, ground := Ground.phase }, { on := 7, ground := Ground.phase }, { on := 8, ground := Ground.phase }, { on := 9, ground := Ground.textOnly Departure.lateStores }], guard := none } : Oper)) (v := ?_) rfl (by kernel_rfl) (by kernel_rfl) (by kernel_rfl) (fun _ _ _ h => h) (Or.inl ⟨by rfl, ?hy4_15⟩) hHeld ?_
      case hy4_15 => (intro W hSw; (try dsimp only at hSw); go_simp; (try with_reducible rfl))
      try simp only [Act.put, List.setIfInBounds_toArray, List.set_cons_zero, List.set_cons_succ]
      refine wpAnyH_take (i := 9) (oi := ({ dst := some 28, op := Op.extract (Operand.tmp 19) 1, type := 25, pos := "law.go:142", after := #[{ on := 7, ground := Ground.data }, { on := 10, ground := Ground.gcOnly Departure.lateStores }], guard := none } : Oper)) (v := ?_) rfl (by kernel_rfl) (by kernel_rfl) (by kernel_rfl) (fun _ _ _ h => h) (Or.inl ⟨by rfl, ?hy4_16⟩) hHeld ?_
      case hy4_16 => (intro W hSw; (try dsimp only at hSw); go_simp; (try with_reducible rfl))
      try simp only [Act.put, List.setIfInBounds_toArray, List.set_cons_zero, List.set_cons_succ]
      refine wpAnyH_take (i := 11) (oi := ({ dst := some 8, op := Op.assign (Operand.tmp 28), type := 25, pos := "law.go:142", after := #[{ on := 9, ground := Ground.data }, { on := 10, ground := Ground.chain }, { on := 0, ground := Ground.phase }, { on := 1, ground := Ground.phase }, { on := 2, ground := Ground.phase }, { on := 3, ground := Ground.phase }, { on := 4, ground := Ground.phase }, { on := 5, ground := Ground.phase }, { on := 6, ground := Ground.phase }, { on := 7, ground := Ground.phase }, { on := 8, ground := Ground.phase }, { on := 9, ground := Ground.phase }, { on := 10, ground := Ground.phase }], guard := none } : Oper)) (v := ?_) rfl (by kernel_rfl) (by kernel_rfl) (by kernel_rfl) (fun _ _ _ h => h) (Or.inl ⟨by rfl, ?hy4_17⟩) hHeld ?_
      case hy4_17 => (intro W hSw; (try dsimp only at hSw); go_simp; (try with_reducible rfl))
      try simp only [Act.put, List.setIfInBounds_toArray, List.set_cons_zero, List.set_cons_succ]
      refine wpAnyH_done (by kernel_rfl) ?_ _
      go_wp2_with fail
      go_meet
      exact ⟨rfl, HI5, HB6⟩
  case rest =>
    obtain ⟨rfl, HI7, HB7⟩ := hcut
    rename World => wq
    have HJ7 := Lib.hid (HJ.out.grow HB7.out)
    have HX7 := Lib.hid ((HB7.out.block _ HXL.out).trans HX.out)
    have HB8 := Lib.hid (grow_below HB.out HB7.out)
    clear HX HJ HB HB7 HI HXL
    rcases HREL.out with ⟨rfl, rfl, rfl, rfl⟩ | ⟨rfl, rfl⟩ | ⟨rfl, rfl⟩
    · have HX := HX7
      have HXL : Hid (w.heap.size < wq.heap.size) := Lib.hid (lt_of_heap HX.out)
      go_upto_region 7 with (fail)
      go_cut [9, 10] (fun v9 v10 wx => v10 = .int .i64 0 ∧ Hid (SpansAt wx v9 M3) ∧ Hid (Below wq.heap.size wq wx))
      case first =>
        refine wp_region_held_drew (S := (fun X => X.cell? ⟨w.heap.size, 0, none⟩ = some (.int .i64 s1) ∧ X.cell? ⟨w.heap.size, 1, none⟩ = some (.int .i64 s2) ∧ Hid (Below wq.heap.size wq X))) (by kernel_rfl) (stayM HX.out HXL.out (Below.refl _ _).drew) (fun hHeld => ?_)
        refine wpAnyH_take (i := 1) (oi := ({ dst := some 42, op := Op.move (Operand.tmp 5), type := 24, pos := "law.go:146", after := #[], guard := none } : Oper)) (v := ?_) rfl (by kernel_rfl) (by kernel_rfl) (by kernel_rfl) (fun _ _ _ h => h) (Or.inl ⟨by rfl, ?hy7_1⟩) hHeld ?_
        case hy7_1 => (intro W hSw; (try dsimp only at hSw); go_simp; (try with_reducible rfl))
        try simp only [Act.put, List.setIfInBounds_toArray, List.set_cons_zero, List.set_cons_succ]
        refine wpAnyH_take (i := 3) (oi := ({ dst := some 44, op := Op.load 34 (Operand.tmp 3), type := 34, pos := "law.go:146", after := #[], guard := none } : Oper)) (v := ?_) rfl (by kernel_rfl) (by kernel_rfl) (by kernel_rfl) (fun _ _ _ h => h) (Or.inl ⟨by rfl, ?hy7_2⟩) hHeld ?_
        case hy7_2 => (intro W hSw; (try dsimp only at hSw); go_simp; (try with_reducible rfl))
        try simp only [Act.put, List.setIfInBounds_toArray, List.set_cons_zero, List.set_cons_succ]
        refine wpAnyH_ready (rs := [0, 4]) (by kernel_rfl) (by simp) ?_
        refine (AllReadyH.cons (o := ({ dst := some 41, op := Op.buildSlice 24 0 #[], type := 24, pos := "law.go:146", after := #[], guard := none } : Oper)) rfl (fun K hK => ?_) (AllReadyH.cons (o := ({ dst := some 45, op := Op.buildSlice 24 1 #[(0, Operand.tmp 44)], type := 24, pos := "law.go:146", after := #[{ on := 3, ground := Ground.data }], guard := none } : Oper)) rfl (fun K hK => ?_) AllReadyH.nil))
        · skip
          go_simp
          refine hK.out _ _ (stayM HX.out HXL.out (((Below.refl _ _).alloc (Nat.le_refl _) _).drew)) (fun hHeld' => ?_)
          clear hK K hHeld
          have hHeld := hHeld'
          clear hHeld'
          try simp only [Act.put, List.setIfInBounds_toArray, List.set_cons_zero, List.set_cons_succ]
          refine wpAnyH_ready (rs := [2, 4]) (by kernel_rfl) (by simp) ?_
          refine (AllReadyH.cons (o := ({ dst := some 43, op := Op.call { callee := Callee.builtin Builtin.append, args := #[Operand.tmp 41, Operand.tmp 42], argTypes := #[24, 24] }, type := 24, pos := "law.go:146", after := #[{ on := 0, ground := Ground.data }, { on := 1, ground := Ground.data }], guard := none } : Oper)) rfl (fun K hK => ?_) (AllReadyH.cons (o := ({ dst := some 45, op := Op.buildSlice 24 1 #[(0, Operand.tmp 44)], type := 24, pos := "law.go:146", after := #[{ on := 3, ground := Ground.data }], guard := none } : Oper)) rfl (fun K hK => ?_) AllReadyH.nil))
          · skip
            refine step_spans (by rfl) (.tmp 41) (.tmp 42) (by rfl) wq.heap.size (.slice (some ⟨wq.heap.size, 0, none⟩) 0 0) [] (by rfl) (drew_row (empty_row rfl (Nat.le_refl _))) a1 m1 c1 M1 (by rfl) (HJ7.out.grow (((Below.refl _ _).alloc (Nat.le_refl _) _).drew)) (by simp; omega) (by simp <;> omega) ?_
            intro v3 w3 hown3 hgrow3
            rw [List.nil_append] at hown3
            have HB3 : Hid (Below wq.heap.size wq w3) := Lib.hid ((((Below.refl _ _).alloc (Nat.le_refl _) _).drew).grown hgrow3 ((((Below.refl _ _).alloc (Nat.le_refl _) _).drew).size) (fun k e => by simp [Value.ownBlock] at e; omega))
            have HO3 := Lib.hid hown3
            clear hown3 hgrow3
            refine hK.out _ _ (stayM HX.out HXL.out HB3.out) (fun hHeld' => ?_)
            clear hK K hHeld
            have hHeld := hHeld'
            clear hHeld'
            try simp only [Act.put, List.setIfInBounds_toArray, List.set_cons_zero, List.set_cons_succ]
            refine wpAnyH_ready (rs := [4]) (by kernel_rfl) (by simp) ?_
            refine AllReadyH.cons (o := ({ dst := some 45, op := Op.buildSlice 24 1 #[(0, Operand.tmp 44)], type := 24, pos := "law.go:146", after := #[{ on := 3, ground := Ground.data }], guard := none } : Oper)) rfl (fun K hK => ?_) AllReadyH.nil
            go_simp
            refine hK.out _ _ (stayM HX.out HXL.out (HB3.out.alloc HB3.out.size _)) (fun hHeld' => ?_)
            clear hK K hHeld
            have hHeld := hHeld'
            clear hHeld'
            try simp only [Act.put, List.setIfInBounds_toArray, List.set_cons_zero, List.set_cons_succ]
            have HE : Hid (SpansAt (w3.alloc (.cells #[.int .i64 s1, .int .i64 s2] 34)) (.slice (some ⟨w3.heap.size, 0, none⟩) 1 1) [(s1, s2)]) := Lib.hid (one_block (heap_alloc_new w3 _))
            have HO := Lib.hid (ownsRow_below HO3.out ((Below.refl _ _).alloc (Nat.le_refl _) (.cells #[.int .i64 s1, .int .i64 s2] 34)))
            have HB4 := Lib.hid (HB3.out.alloc HB3.out.size (.cells #[.int .i64 s1, .int .i64 s2] 34))
            clear HO3 HB3
            refine wpAnyH_ready (rs := [5]) (by kernel_rfl) (by simp) ?_
            refine AllReadyH.cons (o := ({ dst := some 46, op := Op.call { callee := Callee.builtin Builtin.append, args := #[Operand.tmp 43, Operand.tmp 45], argTypes := #[24, 24] }, type := 24, pos := "law.go:146", after := #[{ on := 2, ground := Ground.data }, { on := 4, ground := Ground.data }, { on := 2, ground := Ground.chain }], guard := none } : Oper)) rfl (fun K hK => ?_) AllReadyH.nil
            refine step_spans (by rfl) (.tmp 43) (.tmp 45) (by rfl) wq.heap.size v3 M1 (by rfl) HO.out (some ⟨w3.heap.size, 0, none⟩) 1 1 [(s1, s2)] (by rfl) HE.out (by have := HML.out; omega) HB4.out.size ?_
            intro v4 w4 hown4 hgrow4
            have HI4 := Lib.hid (spans_row hown4)
            have HB5 := Lib.hid (HB4.out.grown hgrow4 HB4.out.size (fun k e => (HO.out.lt k e).1))
            clear hown4 hgrow4
            refine hK.out _ _ (stayM HX.out HXL.out HB5.out) (fun hHeld' => ?_)
            clear hK K hHeld
            have hHeld := hHeld'
            clear hHeld'
            try simp only [Act.put, List.setIfInBounds_toArray, List.set_cons_zero, List.set_cons_succ]
            refine wpAnyH_ready (rs := [6]) (by kernel_rfl) (by simp) ?_
            refine AllReadyH.cons (o := ({ dst := some 47, op := Op.call { callee := Callee.value (Operand.func 18), args := #[Operand.tmp 46], argTypes := #[24] }, type := 26, pos := "law.go:146", after := #[{ on := 5, ground := Ground.data }, { on := 5, ground := Ground.chain }], guard := none } : Oper)) rfl (fun K hK => ?_) AllReadyH.nil
            go_simp
            go_at_call 18
            refine (merge_res HI4.out HL2.out HR3.out).mono ?_
            rintro e w5 ⟨v5, rfl, hi5, hb5⟩
            have HI5 := Lib.hid hi5
            have HB6 := Lib.hid (grow_below HB5.out hb5)
            clear hi5 hb5
            refine hK.out _ _ (stayM HX.out HXL.out HB6.out) (fun hHeld' => ?_)
            clear hK K hHeld
            have hHeld := hHeld'
            clear hHeld'
            try simp only [Act.put, List.setIfInBounds_toArray, List.set_cons_zero, List.set_cons_succ]
            refine wpAnyH_take (i := 7) (oi := ({ dst := some 40, op := Op.move (Operand.tmp 47), type := 26, pos := "law.go:146", after := #[{ on := 6, ground := Ground.data }], guard := none } : Oper)) (v := ?_) rfl (by kernel_rfl) (by kernel_rfl) (by kernel_rfl) (fun _ _ _ h => h) (Or.inl ⟨by rfl, ?hy7_3⟩) hHeld ?_
            case hy7_3 => (intro W hSw; (try dsimp only at hSw); go_simp; (try with_reducible rfl))
            try simp only [Act.put, List.setIfInBounds_toArray, List.set_cons_zero, List.set_cons_succ]
            refine wpAnyH_take (i := 8) (oi := ({ dst := some 48, op := Op.extract (Operand.tmp 40) 0, type := 24, pos := "law.go:146", after := #[{ on := 7, ground := Ground.data }], guard := none } : Oper)) (v := ?_) rfl (by kernel_rfl) (by kernel_rfl) (by kernel_rfl) (fun _ _ _ h => h) (Or.inl ⟨by rfl, ?hy7_4⟩) hHeld ?_
            case hy7_4 => (intro W hSw; (try dsimp only at hSw); go_simp; (try with_reducible rfl))
            try simp only [Act.put, List.setIfInBounds_toArray, List.set_cons_zero, List.set_cons_succ]
            refine wpAnyH_take (i := 10) (oi := ({ dst := some 9, op := Op.assign (Operand.tmp 48), type := 24, pos := "law.go:146", after := #[{ on := 8, ground := Ground.data }, { on := 6, ground := Ground.chain }, { on := 0, ground := Ground.phase }, { on := 1, ground := Ground.phase }, { on := 2, ground := Ground.phase }, { on := 3, ground := Ground.phase }, { on := 4, ground := Ground.phase }, { on := 5, ground := Ground.phase }, { on := 6, ground := Ground.phase }, { on := 7, ground := Ground.phase }, { on := 8, ground := Ground.phase }, { on := 9, ground := Ground.textOnly Departure.lateStores }], guard := none } : Oper)) (v := ?_) rfl (by kernel_rfl) (by kernel_rfl) (by kernel_rfl) (fun _ _ _ h => h) (Or.inl ⟨by rfl, ?hy7_5⟩) hHeld ?_
            case hy7_5 => (intro W hSw; (try dsimp only at hSw); go_simp; (try with_reducible rfl))
            try simp only [Act.put, List.setIfInBounds_toArray, List.set_cons_zero, List.set_cons_succ]
            refine wpAnyH_take (i := 9) (oi := ({ dst := some 49, op := Op.extract (Operand.tmp 40) 1, type := 25, pos := "law.go:146", after := #[{ on := 7, ground := Ground.data }, { on := 10, ground := Ground.gcOnly Departure.lateStores }], guard := none } : Oper)) (v := ?_) rfl (by kernel_rfl) (by kernel_rfl) (by kernel_rfl) (fun _ _ _ h => h) (Or.inl ⟨by rfl, ?hy7_6⟩) hHeld ?_
            case hy7_6 => (intro W hSw; (try dsimp only at hSw); go_simp; (try with_reducible rfl))
            try simp only [Act.put, List.setIfInBounds_toArray, List.set_cons_zero, List.set_cons_succ]
            refine wpAnyH_take (i := 11) (oi := ({ dst := some 10, op := Op.assign (Operand.tmp 49), type := 25, pos := "law.go:146", after := #[{ on := 9, ground := Ground.data }, { on := 10, ground := Ground.chain }, { on := 0, ground := Ground.phase }, { on := 1, ground := Ground.phase }, { on := 2, ground := Ground.phase }, { on := 3, ground := Ground.phase }, { on := 4, ground := Ground.phase }, { on := 5, ground := Ground.phase }, { on := 6, ground := Ground.phase }, { on := 7, ground := Ground.phase }, { on := 8, ground := Ground.phase }, { on := 9, ground := Ground.phase }, { on := 10, ground := Ground.phase }], guard := none } : Oper)) (v := ?_) rfl (by kernel_rfl) (by kernel_rfl) (by kernel_rfl) (fun _ _ _ h => h) (Or.inl ⟨by rfl, ?hy7_7⟩) hHeld ?_
            case hy7_7 => (intro W hSw; (try dsimp only at hSw); go_simp; (try with_reducible rfl))
            try simp only [Act.put, List.setIfInBounds_toArray, List.set_cons_zero, List.set_cons_succ]
            refine wpAnyH_done (by kernel_rfl) ?_ _
            go_wp2_with fail
            go_meet
            exact ⟨rfl, HI5, HB6⟩
          · skip
            go_simp
            refine hK.out _ _ (stayM HX.out HXL.out ((((Below.refl _ _).alloc (Nat.le_refl _) _).alloc (by simp) _).drew)) (fun hHeld' => ?_)
            clear hK K hHeld
            have hHeld := hHeld'
            clear hHeld'
            try simp only [Act.put, List.setIfInBounds_toArray, List.set_cons_zero, List.set_cons_succ]
            refine wpAnyH_ready (rs := [2]) (by kernel_rfl) (by simp) ?_
            refine AllReadyH.cons (o := ({ dst := some 43, op := Op.call { callee := Callee.builtin Builtin.append, args := #[Operand.tmp 41, Operand.tmp 42], argTypes := #[24, 24] }, type := 24, pos := "law.go:146", after := #[{ on := 0, ground := Ground.data }, { on := 1, ground := Ground.data }], guard := none } : Oper)) rfl (fun K hK => ?_) AllReadyH.nil
            refine step_spans (by rfl) (.tmp 41) (.tmp 42) (by rfl) wq.heap.size (.slice (some ⟨wq.heap.size, 0, none⟩) 0 0) [] (by rfl) (drew_row (ownsRow_below (empty_row rfl (Nat.le_refl _)) ((Below.refl _ _).alloc (Nat.le_refl _) _))) a1 m1 c1 M1 (by rfl) (HJ7.out.grow ((((Below.refl _ _).alloc (Nat.le_refl _) _).alloc (by simp) _).drew)) (by simp; omega) (by simp <;> omega) ?_
            intro v3 w3 hown3 hgrow3
            rw [List.nil_append] at hown3
            have HB3 : Hid (Below wq.heap.size wq w3) := Lib.hid (((((Below.refl _ _).alloc (Nat.le_refl _) _).alloc (by simp) _).drew).grown hgrow3 (((((Below.refl _ _).alloc (Nat.le_refl _) _).alloc (by simp) _).drew).size) (fun k e => by simp [Value.ownBlock] at e; omega))
            have HE : Hid (SpansAt w3 (.slice (some ⟨wq.heap.size + 1, 0, none⟩) 1 1) [(s1, s2)]) := Lib.hid (one_block (by rw [hgrow3.block _ (by simp [World.drew]) (fun e => by simp [Value.ownBlock] at e)]; exact heap_alloc_at (w := wq.alloc (.cells #[] 34)) (by simp) _))
            have HO := Lib.hid hown3
            have HB4 := Lib.hid HB3.out
            clear hown3 hgrow3
            refine hK.out _ _ (stayM HX.out HXL.out HB3.out) (fun hHeld' => ?_)
            clear hK K hHeld
            have hHeld := hHeld'
            clear hHeld'
            try simp only [Act.put, List.setIfInBounds_toArray, List.set_cons_zero, List.set_cons_succ]
            refine wpAnyH_ready (rs := [5]) (by kernel_rfl) (by simp) ?_
            refine AllReadyH.cons (o := ({ dst := some 46, op := Op.call { callee := Callee.builtin Builtin.append, args := #[Operand.tmp 43, Operand.tmp 45], argTypes := #[24, 24] }, type := 24, pos := "law.go:146", after := #[{ on := 2, ground := Ground.data }, { on := 4, ground := Ground.data }, { on := 2, ground := Ground.chain }], guard := none } : Oper)) rfl (fun K hK => ?_) AllReadyH.nil
            refine step_spans (by rfl) (.tmp 43) (.tmp 45) (by rfl) wq.heap.size v3 M1 (by rfl) HO.out (some ⟨wq.heap.size + 1, 0, none⟩) 1 1 [(s1, s2)] (by rfl) HE.out (by have := HML.out; omega) HB4.out.size ?_
            intro v4 w4 hown4 hgrow4
            have HI4 := Lib.hid (spans_row hown4)
            have HB5 := Lib.hid (HB4.out.grown hgrow4 HB4.out.size (fun k e => (HO.out.lt k e).1))
            clear hown4 hgrow4
            refine hK.out _ _ (stayM HX.out HXL.out HB5.out) (fun hHeld' => ?_)
            clear hK K hHeld
            have hHeld := hHeld'
            clear hHeld'
            try simp only [Act.put, List.setIfInBounds_toArray, List.set_cons_zero, List.set_cons_succ]
            refine wpAnyH_ready (rs := [6]) (by kernel_rfl) (by simp) ?_
            refine AllReadyH.cons (o := ({ dst := some 47, op := Op.call { callee := Callee.value (Operand.func 18), args := #[Operand.tmp 46], argTypes := #[24] }, type := 26, pos := "law.go:146", after := #[{ on := 5, ground := Ground.data }, { on := 5, ground := Ground.chain }], guard := none } : Oper)) rfl (fun K hK => ?_) AllReadyH.nil
            go_simp
            go_at_call 18
            refine (merge_res HI4.out HL2.out HR3.out).mono ?_
            rintro e w5 ⟨v5, rfl, hi5, hb5⟩
            have HI5 := Lib.hid hi5
            have HB6 := Lib.hid (grow_below HB5.out hb5)
            clear hi5 hb5
            refine hK.out _ _ (stayM HX.out HXL.out HB6.out) (fun hHeld' => ?_)
            clear hK K hHeld
            have hHeld := hHeld'
            clear hHeld'
            try simp only [Act.put, List.setIfInBounds_toArray, List.set_cons_zero, List.set_cons_succ]
            refine wpAnyH_take (i := 7) (oi := ({ dst := some 40, op := Op.move (Operand.tmp 47), type := 26, pos := "law.go:146", after := #[{ on := 6, ground := Ground.data }], guard := none } : Oper)) (v := ?_) rfl (by kernel_rfl) (by kernel_rfl) (by kernel_rfl) (fun _ _ _ h => h) (Or.inl ⟨by rfl, ?hy7_8⟩) hHeld ?_
            case hy7_8 => (intro W hSw; (try dsimp only at hSw); go_simp; (try with_reducible rfl))
            try simp only [Act.put, List.setIfInBounds_toArray, List.set_cons_zero, List.set_cons_succ]
            refine wpAnyH_take (i := 8) (oi := ({ dst := some 48, op := Op.extract (Operand.tmp 40) 0, type := 24, pos := "law.go:146", after := #[{ on := 7, ground := Ground.data }], guard := none } : Oper)) (v := ?_) rfl (by kernel_rfl) (by kernel_rfl) (by kernel_rfl) (fun _ _ _ h => h) (Or.inl ⟨by rfl, ?hy7_9⟩) hHeld ?_
            case hy7_9 => (intro W hSw; (try dsimp only at hSw); go_simp; (try with_reducible rfl))
            try simp only [Act.put, List.setIfInBounds_toArray, List.set_cons_zero, List.set_cons_succ]
            refine wpAnyH_take (i := 10) (oi := ({ dst := some 9, op := Op.assign (Operand.tmp 48), type := 24, pos := "law.go:146", after := #[{ on := 8, ground := Ground.data }, { on := 6, ground := Ground.chain }, { on := 0, ground := Ground.phase }, { on := 1, ground := Ground.phase }, { on := 2, ground := Ground.phase }, { on := 3, ground := Ground.phase }, { on := 4, ground := Ground.phase }, { on := 5, ground := Ground.phase }, { on := 6, ground := Ground.phase }, { on := 7, ground := Ground.phase }, { on := 8, ground := Ground.phase }, { on := 9, ground := Ground.textOnly Departure.lateStores }], guard := none } : Oper)) (v := ?_) rfl (by kernel_rfl) (by kernel_rfl) (by kernel_rfl) (fun _ _ _ h => h) (Or.inl ⟨by rfl, ?hy7_10⟩) hHeld ?_
            case hy7_10 => (intro W hSw; (try dsimp only at hSw); go_simp; (try with_reducible rfl))
            try simp only [Act.put, List.setIfInBounds_toArray, List.set_cons_zero, List.set_cons_succ]
            refine wpAnyH_take (i := 9) (oi := ({ dst := some 49, op := Op.extract (Operand.tmp 40) 1, type := 25, pos := "law.go:146", after := #[{ on := 7, ground := Ground.data }, { on := 10, ground := Ground.gcOnly Departure.lateStores }], guard := none } : Oper)) (v := ?_) rfl (by kernel_rfl) (by kernel_rfl) (by kernel_rfl) (fun _ _ _ h => h) (Or.inl ⟨by rfl, ?hy7_11⟩) hHeld ?_
            case hy7_11 => (intro W hSw; (try dsimp only at hSw); go_simp; (try with_reducible rfl))
            try simp only [Act.put, List.setIfInBounds_toArray, List.set_cons_zero, List.set_cons_succ]
            refine wpAnyH_take (i := 11) (oi := ({ dst := some 10, op := Op.assign (Operand.tmp 49), type := 25, pos := "law.go:146", after := #[{ on := 9, ground := Ground.data }, { on := 10, ground := Ground.chain }, { on := 0, ground := Ground.phase }, { on := 1, ground := Ground.phase }, { on := 2, ground := Ground.phase }, { on := 3, ground := Ground.phase }, { on := 4, ground := Ground.phase }, { on := 5, ground := Ground.phase }, { on := 6, ground := Ground.phase }, { on := 7, ground := Ground.phase }, { on := 8, ground := Ground.phase }, { on := 9, ground := Ground.phase }, { on := 10, ground := Ground.phase }], guard := none } : Oper)) (v := ?_) rfl (by kernel_rfl) (by kernel_rfl) (by kernel_rfl) (fun _ _ _ h => h) (Or.inl ⟨by rfl, ?hy7_12⟩) hHeld ?_
            case hy7_12 => (intro W hSw; (try dsimp only at hSw); go_simp; (try with_reducible rfl))
            try simp only [Act.put, List.setIfInBounds_toArray, List.set_cons_zero, List.set_cons_succ]
            refine wpAnyH_done (by kernel_rfl) ?_ _
            go_wp2_with fail
            go_meet
            exact ⟨rfl, HI5, HB6⟩
        · skip
          go_simp
          refine hK.out _ _ (stayM HX.out HXL.out (((Below.refl _ _).alloc (Nat.le_refl _) _).drew)) (fun hHeld' => ?_)
          clear hK K hHeld
          have hHeld := hHeld'
          clear hHeld'
          try simp only [Act.put, List.setIfInBounds_toArray, List.set_cons_zero, List.set_cons_succ]
          refine wpAnyH_ready (rs := [0]) (by kernel_rfl) (by simp) ?_
          refine AllReadyH.cons (o := ({ dst := some 41, op := Op.buildSlice 24 0 #[], type := 24, pos := "law.go:146", after := #[], guard := none } : Oper)) rfl (fun K hK => ?_) AllReadyH.nil
          go_simp
          refine hK.out _ _ (stayM HX.out HXL.out ((((Below.refl _ _).alloc (Nat.le_refl _) _).alloc (by simp) _).drew)) (fun hHeld' => ?_)
          clear hK K hHeld
          have hHeld := hHeld'
          clear hHeld'
          try simp only [Act.put, List.setIfInBounds_toArray, List.set_cons_zero, List.set_cons_succ]
          refine wpAnyH_ready (rs := [2]) (by kernel_rfl) (by simp) ?_
          refine AllReadyH.cons (o := ({ dst := some 43, op := Op.call { callee := Callee.builtin Builtin.append, args := #[Operand.tmp 41, Operand.tmp 42], argTypes := #[24, 24] }, type := 24, pos := "law.go:146", after := #[{ on := 0, ground := Ground.data }, { on := 1, ground := Ground.data }], guard := none } : Oper)) rfl (fun K hK => ?_) AllReadyH.nil
          refine step_spans (by rfl) (.tmp 41) (.tmp 42) (by rfl) wq.heap.size (.slice (some ⟨wq.heap.size + 1, 0, none⟩) 0 0) [] (by rfl) (drew_row (empty_rowk (w := wq.alloc (.cells #[.int .i64 s1, .int .i64 s2] 34)) rfl (by simp) (by omega))) a1 m1 c1 M1 (by rfl) (HJ7.out.grow ((((Below.refl _ _).alloc (Nat.le_refl _) _).alloc (by simp) _).drew)) (by simp; omega) (by simp <;> omega) ?_
          intro v3 w3 hown3 hgrow3
          rw [List.nil_append] at hown3
          have HB3 : Hid (Below wq.heap.size wq w3) := Lib.hid (((((Below.refl _ _).alloc (Nat.le_refl _) _).alloc (by simp) _).drew).grown hgrow3 (((((Below.refl _ _).alloc (Nat.le_refl _) _).alloc (by simp) _).drew).size) (fun k e => by simp [Value.ownBlock] at e; omega))
          have HE : Hid (SpansAt w3 (.slice (some ⟨wq.heap.size, 0, none⟩) 1 1) [(s1, s2)]) := Lib.hid (one_block (by rw [hgrow3.block _ (by simp [World.drew]; omega) (fun e => by simp [Value.ownBlock] at e)]; exact (Below.heap_alloc (wq.alloc (.cells #[.int .i64 s1, .int .i64 s2] 34)) _ _ (by simp)).trans (heap_alloc_new wq _)))
          have HO := Lib.hid hown3
          have HB4 := Lib.hid HB3.out
          clear hown3 hgrow3
          refine hK.out _ _ (stayM HX.out HXL.out HB3.out) (fun hHeld' => ?_)
          clear hK K hHeld
          have hHeld := hHeld'
          clear hHeld'
          try simp only [Act.put, List.setIfInBounds_toArray, List.set_cons_zero, List.set_cons_succ]
          refine wpAnyH_ready (rs := [5]) (by kernel_rfl) (by simp) ?_
          refine AllReadyH.cons (o := ({ dst := some 46, op := Op.call { callee := Callee.builtin Builtin.append, args := #[Operand.tmp 43, Operand.tmp 45], argTypes := #[24, 24] }, type := 24, pos := "law.go:146", after := #[{ on := 2, ground := Ground.data }, { on := 4, ground := Ground.data }, { on := 2, ground := Ground.chain }], guard := none } : Oper)) rfl (fun K hK => ?_) AllReadyH.nil
          refine step_spans (by rfl) (.tmp 43) (.tmp 45) (by rfl) wq.heap.size v3 M1 (by rfl) HO.out (some ⟨wq.heap.size, 0, none⟩) 1 1 [(s1, s2)] (by rfl) HE.out (by have := HML.out; omega) HB4.out.size ?_
          intro v4 w4 hown4 hgrow4
          have HI4 := Lib.hid (spans_row hown4)
          have HB5 := Lib.hid (HB4.out.grown hgrow4 HB4.out.size (fun k e => (HO.out.lt k e).1))
          clear hown4 hgrow4
          refine hK.out _ _ (stayM HX.out HXL.out HB5.out) (fun hHeld' => ?_)
          clear hK K hHeld
          have hHeld := hHeld'
          clear hHeld'
          try simp only [Act.put, List.setIfInBounds_toArray, List.set_cons_zero, List.set_cons_succ]
          refine wpAnyH_ready (rs := [6]) (by kernel_rfl) (by simp) ?_
          refine AllReadyH.cons (o := ({ dst := some 47, op := Op.call { callee := Callee.value (Operand.func 18), args := #[Operand.tmp 46], argTypes := #[24] }, type := 26, pos := "law.go:146", after := #[{ on := 5, ground := Ground.data }, { on := 5, ground := Ground.chain }], guard := none } : Oper)) rfl (fun K hK => ?_) AllReadyH.nil
          go_simp
          go_at_call 18
          refine (merge_res HI4.out HL2.out HR3.out).mono ?_
          rintro e w5 ⟨v5, rfl, hi5, hb5⟩
          have HI5 := Lib.hid hi5
          have HB6 := Lib.hid (grow_below HB5.out hb5)
          clear hi5 hb5
          refine hK.out _ _ (stayM HX.out HXL.out HB6.out) (fun hHeld' => ?_)
          clear hK K hHeld
          have hHeld := hHeld'
          clear hHeld'
          try simp only [Act.put, List.setIfInBounds_toArray, List.set_cons_zero, List.set_cons_succ]
          refine wpAnyH_take (i := 7) (oi := ({ dst := some 40, op := Op.move (Operand.tmp 47), type := 26, pos := "law.go:146", after := #[{ on := 6, ground := Ground.data }], guard := none } : Oper)) (v := ?_) rfl (by kernel_rfl) (by kernel_rfl) (by kernel_rfl) (fun _ _ _ h => h) (Or.inl ⟨by rfl, ?hy7_13⟩) hHeld ?_
          case hy7_13 => (intro W hSw; (try dsimp only at hSw); go_simp; (try with_reducible rfl))
          try simp only [Act.put, List.setIfInBounds_toArray, List.set_cons_zero, List.set_cons_succ]
          refine wpAnyH_take (i := 8) (oi := ({ dst := some 48, op := Op.extract (Operand.tmp 40) 0, type := 24, pos := "law.go:146", after := #[{ on := 7, ground := Ground.data }], guard := none } : Oper)) (v := ?_) rfl (by kernel_rfl) (by kernel_rfl) (by kernel_rfl) (fun _ _ _ h => h) (Or.inl ⟨by rfl, ?hy7_14⟩) hHeld ?_
          case hy7_14 => (intro W hSw; (try dsimp only at hSw); go_simp; (try with_reducible rfl))
          try simp only [Act.put, List.setIfInBounds_toArray, List.set_cons_zero, List.set_cons_succ]
          refine wpAnyH_take (i := 10) (oi := ({ dst := some 9, op := Op.assign (Operand.tmp 48), type := 24, pos := "law.go:146", after := #[{ on := 8, ground := Ground.data }, { on := 6, ground := Ground.chain }, { on := 0, ground := Ground.phase }, { on := 1, ground := Ground.phase }, { on := 2, ground := Ground.phase }, { on := 3, ground := Ground.phase }, { on := 4, ground := Ground.phase }, { on := 5, ground := Ground.phase }, { on := 6, ground := Ground.phase }, { on := 7, ground := Ground.phase }, { on := 8, ground := Ground.phase }, { on := 9, ground := Ground.textOnly Departure.lateStores }], guard := none } : Oper)) (v := ?_) rfl (by kernel_rfl) (by kernel_rfl) (by kernel_rfl) (fun _ _ _ h => h) (Or.inl ⟨by rfl, ?hy7_15⟩) hHeld ?_
          case hy7_15 => (intro W hSw; (try dsimp only at hSw); go_simp; (try with_reducible rfl))
          try simp only [Act.put, List.setIfInBounds_toArray, List.set_cons_zero, List.set_cons_succ]
          refine wpAnyH_take (i := 9) (oi := ({ dst := some 49, op := Op.extract (Operand.tmp 40) 1, type := 25, pos := "law.go:146", after := #[{ on := 7, ground := Ground.data }, { on := 10, ground := Ground.gcOnly Departure.lateStores }], guard := none } : Oper)) (v := ?_) rfl (by kernel_rfl) (by kernel_rfl) (by kernel_rfl) (fun _ _ _ h => h) (Or.inl ⟨by rfl, ?hy7_16⟩) hHeld ?_
          case hy7_16 => (intro W hSw; (try dsimp only at hSw); go_simp; (try with_reducible rfl))
          try simp only [Act.put, List.setIfInBounds_toArray, List.set_cons_zero, List.set_cons_succ]
          refine wpAnyH_take (i := 11) (oi := ({ dst := some 10, op := Op.assign (Operand.tmp 49), type := 25, pos := "law.go:146", after := #[{ on := 9, ground := Ground.data }, { on := 10, ground := Ground.chain }, { on := 0, ground := Ground.phase }, { on := 1, ground := Ground.phase }, { on := 2, ground := Ground.phase }, { on := 3, ground := Ground.phase }, { on := 4, ground := Ground.phase }, { on := 5, ground := Ground.phase }, { on := 6, ground := Ground.phase }, { on := 7, ground := Ground.phase }, { on := 8, ground := Ground.phase }, { on := 9, ground := Ground.phase }, { on := 10, ground := Ground.phase }], guard := none } : Oper)) (v := ?_) rfl (by kernel_rfl) (by kernel_rfl) (by kernel_rfl) (fun _ _ _ h => h) (Or.inl ⟨by rfl, ?hy7_17⟩) hHeld ?_
          case hy7_17 => (intro W hSw; (try dsimp only at hSw); go_simp; (try with_reducible rfl))
          try simp only [Act.put, List.setIfInBounds_toArray, List.set_cons_zero, List.set_cons_succ]
          refine wpAnyH_done (by kernel_rfl) ?_ _
          go_wp2_with fail
          go_meet
          exact ⟨rfl, HI5, HB6⟩
      case rest =>
        obtain ⟨rfl, HI9, HB9⟩ := hcut
        rename World => wz
        have HI10 := Lib.hid (HI7.out.grow HB9.out)
        have HB10 := Lib.hid (grow_below HB8.out HB9.out)
        clear HX HX7 HB8 HB9 HI7 HXL HJ7
        go_wp2_with (first
          | (go_at_call 16; refine (awake_any _).mono ?_; rintro e w8 ⟨rfl, hb8⟩; have HI11 := Lib.hid (HI10.out.grow hb8); have HI12 := Lib.hid (HI9.out.grow hb8); have HB11 := Lib.hid (grow_below HB10.out hb8); clear hb8 HI10 HI9 HB10)
          | (go_at_call 14; refine (same_at HI12.out HI11.out (decide_eq_true rfl)).mono ?_; rintro e w9 ⟨rfl, hb9⟩; have HB12 := Lib.hid (grow_below HB11.out hb9); clear hb9 HB11))
        go_ret
        exact ⟨rfl, HB12.out⟩
    · go_wp2_with (go_at_call 16; refine (awake_any _).mono ?_; rintro e w8 ⟨rfl, hb8⟩; have HB9 := Lib.hid (grow_below HB8.out hb8); clear hb8)
      go_ret
      exact ⟨rfl, HB9.out⟩
    · go_wp2_with (go_at_call 16; refine (awake_any _).mono ?_; rintro e w8 ⟨rfl, hb8⟩; have HB9 := Lib.hid (grow_below HB8.out hb8); clear hb8)
      go_ret
      exact ⟨rfl, HB9.out⟩
set_option maxRecDepth 20000 in
theorem windowMore_walk {w : World} {a : Option Addr} {n c : Nat} {L : List Sp} (s : Sp) (h : SpansAt w (.slice a n c) L) : Calls Try.prog 7 #[.slice a n c, spV s] w fun e w' => e = .returned (.bool true) ∧ Below w.heap.size w w' := by
  by_cases h1 : n ≤ 300
  · exact wmore_at h h1
  · have HB0 : Hid (Below w.heap.size w (w.alloc (.cells #[.int .i64 s.1, .int .i64 s.2] 34))) := Lib.hid ((Below.refl _ _).alloc (Nat.le_refl _) _)
    clear h
    go_enter Try.func7, Try.ntmps7
    go_wp2
    go_ret
    exact ⟨rfl, HB0.out⟩
end Go.Proofs.Ytfkdkcdknpjoeaa.Wi
