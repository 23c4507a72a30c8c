/-
  Texts joined into one file. Each part says in its own head what is proved there, and under which conditions.
-/
import Derived.Test.YtfoenfipefhpoaaGreatDoorJE3
import Derived.Deep.RegionLaw
import Derived.Deep.AppendLies
set_option linter.unusedVariables false
set_option linter.unusedSimpArgs false
/-
  The parser's stacks grow: what an append leaves. Conditions: as the statements say.
-/
namespace Go.Proofs.YtfoenfipefhpoaaGreatDoor.Ex
open Go.RowKit
theorem info78 : (Tryz.prog.info? 157).map (fun i => (i.zero, i.size, i.bytes)) = some (some (.agg #[.string ⟨#[]⟩, .int .i64 0]), 2, 24) := by kernel_rfl
theorem info63 : (Tryz.prog.info? 151).map (fun i => (i.zero, i.size, i.bytes)) = some (some (.agg #[.nilFunc, .string ⟨#[]⟩, .int .i64 0]), 3, 32) := by kernel_rfl
theorem news2 {w W : World} (a b : Value) (t : TypeId) (hW : W = (w.alloc (.cells #[a, b] t)).drew) {n : Nat} (hn : n = w.heap.size) : ∀ j u, [a, b][j]? = some u → W.cell? ((⟨n, 0, none⟩ : Addr).add j) = some u := by
  subst hW hn; exact cell_two_new w a b t
theorem news3 {w W : World} (a b c : Value) (t : TypeId) (hW : W = w.alloc (.cells #[a, b, c] t) ∨ W = (w.alloc (.cells #[a, b, c] t)).drew) {n : Nat} (hn : n = w.heap.size) : ∀ j u, [a, b, c][j]? = some u → W.cell? ((⟨n, 0, none⟩ : Addr).add j) = some u := by
  intro j u hj
  have h : (w.alloc (.cells #[a, b, c] t)).cell? ((⟨n, 0, none⟩ : Addr).add j) = some u := by
    subst hn
    match j, hj with
    | 0, hj => simp at hj; subst hj; simp [Addr.add]
    | 1, hj => simp at hj; subst hj; simp [Addr.add]
    | 2, hj => simp at hj; subst hj; simp [Addr.add]
    | j + 3, hj => simp at hj
  rcases hW with rfl | rfl
  · exact h
  · exact h
theorem keep_grown {w w1 : World} {base : Nat} {e : TypeId} {size n : Nat} {v : Value} {xs : List Value} (h : w.ownsRow base e size v n xs) (he : e = 151 ∨ e = 157) (hg : w.grownBy w1 v.ownBlock) : Keep w w1 := by
  intro k cs t fz hk h1 h2 h3
  rw [hg.block k (lt_of_heap hk) (fun ek => row_ne h hk (by rcases he with rfl | rfl <;> assumption) ek.symm)]; exact hk
/-- An operator is pushed. -/
theorem PX.pushW {w0 : World} {p : Nat} {s : St} {vo vp v2 : Value} {es : List Ent} {w w1 : World} {q : Bs × Nat} (h : PX w0 p s vo vp es w) (hg : w.grownBy w1 vp.ownBlock) (ho : w1.ownsRow w0.heap.size 157 2 v2 (s.waits.length + 1) (opCells s.waits ++ opC q)) :
    w1.heap[p]? = some (.cells (pCells vo vp s) 131 (0, 0)) ∧ PX w0 p { s with waits := q :: s.waits } vo v2 es (w1.setCell ⟨p, 1, none⟩ v2) ∧ Keep w (w1.setCell ⟨p, 1, none⟩ v2) := by
  have hb : w1.heap[p]? = some (.cells (pCells vo vp s) 131 (0, 0)) := by
    rw [hg.block p h.lt (fun e => row_ne h.row2 h.blk (by decide) e.symm)]; exact h.blk
  have hne : vo.ownBlock = none ∨ vo.ownBlock ≠ vp.ownBlock := by
    cases hv : vo.ownBlock with
    | none => exact .inl rfl
    | some k =>
      right
      intro e
      obtain ⟨-, hk⟩ := h.row1.lt k hv
      rcases h.row1.2 with ⟨rfl, _⟩ | ⟨g, _, _, rfl, _, hgg, _⟩
      · simp [Value.ownBlock] at hv
      · simp only [Value.ownBlock, Option.some.injEq] at hv
        subst hv
        exact row_ne h.row2 hgg (by decide) e.symm
  have hbel : Below w0.heap.size w0 w1 := h.below.grown hg h.below.size (fun k e => (h.row2.lt k e).1)
  have r1 := h.row1.kept hg hne
  rw [← opCells_cons] at ho
  refine ⟨hb, ⟨hbel.setCell h.hp _, h.hp, ?_, h.vals, ownsRow_setCell_other r1 (row_ne r1 hb (by decide)) _, ownsRow_setCell_other ho (row_ne ho hb (by decide)) _, fun r hr => ((h.clos r hr).keep (keep_grown h.row2 (.inr rfl) hg)).keep (keep_setCell hb (.inl rfl) _)⟩, (keep_grown h.row2 (.inr rfl) hg).trans (keep_setCell hb (.inl rfl) _)⟩
  rw [heap_setCell_same w1 p 1 _ _ _ hb]
  rfl
/-- An operand is pushed. -/
theorem PX.pushV {w0 : World} {p : Nat} {s : St} {vo vp v2 : Value} {es : List Ent} {w w1 : World} {q : Ent} (h : PX w0 p s vo vp es w) (hg : w.grownBy w1 vo.ownBlock) (ho : w1.ownsRow w0.heap.size 151 3 v2 (es.length + 1) (exCells es ++ exC q)) (hc : Clos w q.2 q.1) :
    w1.heap[p]? = some (.cells (pCells vo vp s) 131 (0, 0)) ∧ PX w0 p { s with vals := q.2 :: s.vals } v2 vp (q :: es) (w1.setCell ⟨p, 0, none⟩ v2) ∧ Keep w (w1.setCell ⟨p, 0, none⟩ v2) := by
  have hb : w1.heap[p]? = some (.cells (pCells vo vp s) 131 (0, 0)) := by
    rw [hg.block p h.lt (fun e => row_ne h.row1 h.blk (by decide) e.symm)]; exact h.blk
  have hne : vp.ownBlock = none ∨ vp.ownBlock ≠ vo.ownBlock := by
    cases hv : vp.ownBlock with
    | none => exact .inl rfl
    | some k =>
      right
      intro e
      rcases h.row2.2 with ⟨rfl, _⟩ | ⟨g, _, _, rfl, _, hgg, _⟩
      · simp [Value.ownBlock] at hv
      · simp only [Value.ownBlock, Option.some.injEq] at hv
        subst hv
        exact row_ne h.row1 hgg (by decide) e.symm
  have hbel : Below w0.heap.size w0 w1 := h.below.grown hg h.below.size (fun k e => (h.row1.lt k e).1)
  have r2 := h.row2.kept hg hne
  rw [← exCells_cons] at ho
  have hK := keep_grown h.row1 (.inl rfl) hg
  refine ⟨hb, ⟨hbel.setCell h.hp _, h.hp, ?_, by simp [h.vals], ownsRow_setCell_other ho (row_ne ho hb (by decide)) _, ownsRow_setCell_other r2 (row_ne r2 hb (by decide)) _, fun r hr => ?_⟩, hK.trans (keep_setCell hb (.inl rfl) _)⟩
  · rw [heap_setCell_same w1 p 0 _ _ _ hb]
    rfl
  · simp only [List.mem_cons] at hr
    rcases hr with rfl | hr
    · exact (hc.keep hK).keep (keep_setCell hb (.inl rfl) _)
    · exact ((h.clos r hr).keep hK).keep (keep_setCell hb (.inl rfl) _)
theorem p_cells {w : World} {p : Nat} {vo vp : Value} {s : St} (h : w.heap[p]? = some (.cells (pCells vo vp s) 131 (0, 0))) : w.cell? ⟨p, 0, none⟩ = some vo ∧ w.cell? ⟨p, 1, none⟩ = some vp ∧ w.cell? ⟨p, 2, none⟩ = some (.int .i64 s.opn) ∧ w.cell? ⟨p, 3, none⟩ = some (.int .i64 s.parts) ∧ w.cell? ⟨p, 4, none⟩ = some (.bool s.complete) ∧
    w.frozen? ⟨p, 0, none⟩ = false ∧ w.frozen? ⟨p, 1, none⟩ = false ∧ w.frozen? ⟨p, 2, none⟩ = false ∧ w.frozen? ⟨p, 3, none⟩ = false ∧ w.frozen? ⟨p, 4, none⟩ = false := by
  refine ⟨?_, ?_, ?_, ?_, ?_, free_of_heap h 0, free_of_heap h 1, free_of_heap h 2, free_of_heap h 3, free_of_heap h 4⟩ <;> rw [cell_of_heap h] <;> rfl
/-- The other fields. -/
theorem PX.setField {w0 : World} {p : Nat} {s s' : St} {vo vp : Value} {es : List Ent} {w : World} (h : PX w0 p s vo vp es w) (i : Nat) (v : Value) (hc : (pCells vo vp s).setIfInBounds i v = pCells vo vp s') (hv : s'.vals = s.vals) (hw : s'.waits = s.waits) : PX w0 p s' vo vp es (w.setCell ⟨p, i, none⟩ v) :=
  h.setP i v hc (by rw [hv]; exact h.vals) (fun _ h => h) h.row1 (by rw [hw]; exact h.row2)
end Go.Proofs.YtfoenfipefhpoaaGreatDoor.Ex
/-
  put: what a word that is allowed does to the parser. Conditions: the parser keeps what it keeps.
-/
namespace Go.Proofs.YtfoenfipefhpoaaGreatDoor.Ex
open Go.RowKit
theorem PS.grow {w0 : World} {p : Nat} {s : St} {w w' : World} (h : PS w0 p s w) (hb : Below w.heap.size w w') : PS w0 p s w' := by
  obtain ⟨vo, vp, es, hx⟩ := h; exact ⟨vo, vp, es, hx.grow hb⟩
theorem one2 (a : ByteArray) (b : Int) : ∀ u ∈ [Value.string a, Value.int .i64 b], u.oneCell' = true := by intro u hu; simp only [List.mem_cons, List.not_mem_nil, or_false] at hu; rcases hu with rfl | rfl <;> rfl
theorem one3 (f : Nat) (c : Array Value) (a : ByteArray) (b : Int) : ∀ u ∈ [Value.func (.func f) #[] c, Value.string a, Value.int .i64 b], u.oneCell' = true := by intro u hu; simp only [List.mem_cons, List.not_mem_nil, or_false] at hu; rcases hu with rfl | rfl | rfl <;> rfl
set_option maxRecDepth 20000 in
set_option maxHeartbeats 2000000 in
theorem put_open {w0 w : World} {p at_ : Nat} {s : St} {vo vp : Value} {es : List Ent} (hx : PX w0 p s vo vp es w) (hn : s.waits.length ≤ 1000) (ho : s.opn ≤ 1000) :
    Calls Tryz.prog 100 #[ptr p, .agg #[.int .i64 4, .int .i64 at_, .string ⟨#[40]⟩]] w fun e w' => e = .returned (.tuple #[]) ∧ PS w0 p { s with waits := ([40], 0) :: s.waits, opn := s.opn + 1 } w' ∧ Keep w w' := by
  obtain ⟨i0, hi0, hz0, hz1, hz2⟩ := info_parts info78
  obtain ⟨c0, c1, c2, c3, c4⟩ := hx.cell
  have hp := hx.lt
  have hx' : PX w0 p s vo vp es (((w.alloc (.cells #[.int .i64 4, .int .i64 at_, .string ⟨#[40]⟩] 133)).alloc (.cells #[.string ⟨#[40]⟩, .int .i64 0] 157)).drew) := hx.grow (((Below.refl _ _).alloc (Nat.le_refl _) _).alloc (by simp) _).drew
  have HX := Lib.hid hx'
  have HO := Lib.hid hx'.row2
  have HK0 : Hid (Keep w (((w.alloc (.cells #[.int .i64 4, .int .i64 at_, .string ⟨#[40]⟩] 133)).alloc (.cells #[.string ⟨#[40]⟩, .int .i64 0] 157)).drew)) := Lib.hid (Keep.of_below (((Below.refl _ _).alloc (Nat.le_refl _) _).alloc (by simp) _).drew)
  have hB : w0.heap.size ≤ w.heap.size := hx.below.size
  clear hx hx'
  go_enter Tryz.func100, Tryz.ntmps100
  go_wp2
  go_region_law (first | (refine step_append_lies _ (by rfl) (.tmp 69) (.tmp 73) 129 (by rfl) w0.heap.size 157 i0 (.agg #[.string ⟨#[]⟩, .int .i64 0]) 2 24 Tryz.underlying129 hi0 hz0 hz1 hz2 rfl (by decide) vp s.waits.length (opCells s.waits) (by rfl) HO.out ⟨w.heap.size + 1, 0, none⟩ 1 1 [.string ⟨#[40]⟩, .int .i64 0] (by rfl) rfl (news2 _ _ 157 rfl (by simp)) (one2 _ _) (by decide) (by unfold maxLen; omega) (by omega) (by simp; omega) _ rfl ?_; intro g2 cap2 w1 hown2 hgrow2 hat2 hlt2; obtain ⟨hp1, hx2, hk2⟩ := HX.out.pushW (q := ([40], 0)) hgrow2 hown2; have HK2 : Hid (Keep w _) := Lib.hid (HK0.out.trans hk2); obtain ⟨d0, d1, d2, d3, d4, f0, f1, f2, f3, f4⟩ := p_cells hp1; have HX2 := Lib.hid hx2; clear hown2 hgrow2 hat2 hlt2 hp1 hx2 hk2))
  all_goals go_wp2
  all_goals go_end0
  all_goals exact ⟨rfl, ⟨_, _, _, HX2.out.setField (s' := { s with waits := ([40], 0) :: s.waits, opn := s.opn + 1 }) 2 _ (by rfl) rfl rfl⟩, HK2.out.trans (keep_setCell HX2.out.blk (.inl rfl) _)⟩
set_option maxRecDepth 20000 in
set_option maxHeartbeats 2000000 in
theorem put_sign {w0 w : World} {p at_ : Nat} {s : St} {vo vp : Value} {es : List Ent} {t : ByteArray} (hx : PX w0 p s vo vp es w) (hn : s.waits.length ≤ 1000) (hc : s.complete = false) (ht : t.data.toList = [45] ∨ t.data.toList = [33]) :
    Calls Tryz.prog 100 #[ptr p, .agg #[.int .i64 4, .int .i64 at_, .string t]] w fun e w' => e = .returned (.tuple #[]) ∧ PS w0 p { s with waits := (t.data.toList, 6) :: s.waits } w' ∧ Keep w w' := by
  have ht' : t = ⟨#[45]⟩ ∨ t = ⟨#[33]⟩ := by rcases ht with h | h <;> have e := bytes_of h <;> simp [e]
  clear ht
  obtain ⟨i0, hi0, hz0, hz1, hz2⟩ := info_parts info78
  obtain ⟨c0, c1, c2, c3, c4⟩ := hx.cell
  rw [hc] at c4
  have hp := hx.lt
  have hx' : PX w0 p s vo vp es (((w.alloc (.cells #[.int .i64 4, .int .i64 at_, .string t] 133)).alloc (.cells #[.string t, .int .i64 6] 157)).drew) := hx.grow (((Below.refl _ _).alloc (Nat.le_refl _) _).alloc (by simp) _).drew
  have HX := Lib.hid hx'
  have HO := Lib.hid hx'.row2
  have HK0 : Hid (Keep w (((w.alloc (.cells #[.int .i64 4, .int .i64 at_, .string t] 133)).alloc (.cells #[.string t, .int .i64 6] 157)).drew)) := Lib.hid (Keep.of_below (((Below.refl _ _).alloc (Nat.le_refl _) _).alloc (by simp) _).drew)
  have hB : w0.heap.size ≤ w.heap.size := hx.below.size
  clear hx hx'
  rcases ht' with rfl | rfl
  · go_enter Tryz.func100, Tryz.ntmps100
    go_wp2
    go_region_law (first | (refine step_append_lies _ (by rfl) (.tmp 9) (.tmp 13) 129 (by rfl) w0.heap.size 157 i0 (.agg #[.string ⟨#[]⟩, .int .i64 0]) 2 24 Tryz.underlying129 hi0 hz0 hz1 hz2 rfl (by decide) vp s.waits.length (opCells s.waits) (by rfl) HO.out ⟨w.heap.size + 1, 0, none⟩ 1 1 [.string ⟨#[45]⟩, .int .i64 6] (by rfl) rfl (news2 _ _ 157 rfl (by simp)) (one2 _ _) (by decide) (by unfold maxLen; omega) (by omega) (by simp; omega) _ rfl ?_; intro g2 cap2 w1 hown2 hgrow2 hat2 hlt2; obtain ⟨hp1, hx2, hk2⟩ := HX.out.pushW (q := ([45], 6)) hgrow2 hown2; have HK2 : Hid (Keep w _) := Lib.hid (HK0.out.trans hk2); obtain ⟨d0, d1, d2, d3, d4, f0, f1, f2, f3, f4⟩ := p_cells hp1; have HX2 := Lib.hid hx2; clear hown2 hgrow2 hat2 hlt2 hp1 hx2 hk2))
    all_goals go_wp2
    all_goals go_end0
    all_goals exact ⟨rfl, ⟨_, _, _, HX2.out⟩, HK2.out⟩
  · go_enter Tryz.func100, Tryz.ntmps100
    go_wp2
    go_region_law (first | (refine step_append_lies _ (by rfl) (.tmp 9) (.tmp 13) 129 (by rfl) w0.heap.size 157 i0 (.agg #[.string ⟨#[]⟩, .int .i64 0]) 2 24 Tryz.underlying129 hi0 hz0 hz1 hz2 rfl (by decide) vp s.waits.length (opCells s.waits) (by rfl) HO.out ⟨w.heap.size + 1, 0, none⟩ 1 1 [.string ⟨#[33]⟩, .int .i64 6] (by rfl) rfl (news2 _ _ 157 rfl (by simp)) (one2 _ _) (by decide) (by unfold maxLen; omega) (by omega) (by simp; omega) _ rfl ?_; intro g2 cap2 w1 hown2 hgrow2 hat2 hlt2; obtain ⟨hp1, hx2, hk2⟩ := HX.out.pushW (q := ([33], 6)) hgrow2 hown2; have HK2 : Hid (Keep w _) := Lib.hid (HK0.out.trans hk2); obtain ⟨d0, d1, d2, d3, d4, f0, f1, f2, f3, f4⟩ := p_cells hp1; have HX2 := Lib.hid hx2; clear hown2 hgrow2 hat2 hlt2 hp1 hx2 hk2))
    all_goals go_wp2
    all_goals go_end0
    all_goals exact ⟨rfl, ⟨_, _, _, HX2.out⟩, HK2.out⟩
end Go.Proofs.YtfoenfipefhpoaaGreatDoor.Ex
/-
  put of a number and of a name. Conditions: the parser keeps what it keeps.
-/
namespace Go.Proofs.YtfoenfipefhpoaaGreatDoor.Ex
open Go.RowKit
theorem number_at {s : ByteArray} {w : World} (h0 : s.data.toList ≠ []) (hl : s.size ≤ 18) (h : ∀ c ∈ s.data.toList, isDig c = true) (hT : Tab w) :
    Calls Tryz.prog 109 #[.string s] w fun e w' => ∃ f c, e = .returned (.agg #[.func (.func f) #[] c, .string ⟨(Tree.num (numVal s.data.toList)).text.toArray⟩, .int .i64 (Tree.num (numVal s.data.toList)).size]) ∧ Clos w' (.num (numVal s.data.toList)) (.func (.func f) #[] c) ∧ Below w.heap.size w w' := by
  refine (number_any h0 hl h hT).mono ?_
  rintro e w' ⟨v', rfl, hC, hb⟩
  obtain ⟨f', c', rfl⟩ := hC.form
  exact ⟨f', c', rfl, hC, hb⟩
theorem name_at {s : ByteArray} {w : World} (h : isNm s.data.toList = true) :
    Calls Tryz.prog 110 #[.string s] w fun e w' => ∃ f c, e = .returned (.agg #[.func (.func f) #[] c, .string ⟨(Tree.name (s.data.toList.headD 0)).text.toArray⟩, .int .i64 (Tree.name (s.data.toList.headD 0)).size]) ∧ Clos w' (.name (s.data.toList.headD 0)) (.func (.func f) #[] c) ∧ Below w.heap.size w w' := by
  refine (name_any h).mono ?_
  rintro e w' ⟨v', rfl, hC, hb⟩
  obtain ⟨f', c', rfl⟩ := hC.form
  exact ⟨f', c', rfl, hC, hb⟩
set_option maxRecDepth 20000 in
set_option maxHeartbeats 2000000 in
theorem put_num {w0 w : World} {p at_ : Nat} {s : St} {vo vp : Value} {es : List Ent} {t : ByteArray} (hx : PX w0 p s vo vp es w) (hn : es.length ≤ 1000) (h0 : t.data.toList ≠ []) (hl : t.size ≤ 18) (hd : ∀ c ∈ t.data.toList, isDig c = true) (hT : Tab w) :
    Calls Tryz.prog 100 #[ptr p, .agg #[.int .i64 2, .int .i64 at_, .string t]] w fun e w' => e = .returned (.tuple #[]) ∧ PS w0 p { s with vals := Tree.num (numVal t.data.toList) :: s.vals, complete := true } w' ∧ Keep w w' := by
  obtain ⟨i0, hi0, hz0, hz1, hz2⟩ := info_parts info63
  obtain ⟨c0, c1, c2, c3, c4⟩ := hx.cell
  have hp := hx.lt
  have hbt : Below w.heap.size w ((w.alloc (.cells #[.int .i64 2, .int .i64 at_, .string t] 133)).drew) := ((Below.refl _ _).alloc (Nat.le_refl _) _).drew
  have hx' := hx.grow hbt
  have HKt := Lib.hid (Keep.of_below hbt)
  have HT := Lib.hid (hT.below hbt)
  have HD := Lib.hid (And.intro h0 (And.intro hl hd))
  clear hT h0 hl hd
  have HX := Lib.hid hx'
  have hB : w0.heap.size ≤ w.heap.size := hx.below.size
  obtain ⟨T, hTT⟩ : ∃ T, T = Tree.num (numVal t.data.toList) := ⟨_, rfl⟩
  have HTT := Lib.hid hTT
  rw [← hTT]
  clear hx hx' hbt hTT
  go_enter Tryz.func100, Tryz.ntmps100
  go_wp2
  go_region_law (first | (refine step_append_lies _ (by rfl) (.tmp 31) (.tmp 35) 128 (by rfl) w0.heap.size 151 i0 (.agg #[.nilFunc, .string ⟨#[]⟩, .int .i64 0]) 3 32 Tryz.underlying128 hi0 hz0 hz1 hz2 rfl (by decide) vo es.length (exCells es) (by rfl) HO.out ⟨w2.heap.size, 0, none⟩ 1 1 [.func (.func f2) #[] cc2, .string ⟨T.text.toArray⟩, .int .i64 T.size] (by rfl) rfl (news3 _ _ _ 151 (.inl rfl) rfl) (one3 _ _ _ _) (by decide) (by unfold maxLen; omega) (by omega) (by simp; omega) _ rfl ?_; intro g2 cap2 w1 hown2 hgrow2 hat2 hlt2; obtain ⟨hp1, hx2, hk2⟩ := HX2.out.pushV (q := (.func (.func f2) #[] cc2, T)) hgrow2 hown2 (HC2.out.keep (Keep.of_below ((Below.refl _ _).alloc (Nat.le_refl _) _))); obtain ⟨d0, d1, d2, d3, d4, f0, f1, f2, f3, f4⟩ := p_cells hp1; have HX3 := Lib.hid hx2; have HK3 : Hid (Keep w _) := Lib.hid (HKa.out.trans hk2); clear hown2 hgrow2 hat2 hlt2 hp1 hx2 hk2) | (go_simp; go_at_call 109; refine (number_at HD.out.1 HD.out.2.1 HD.out.2.2 HT.out).mono ?_; rw [← HTT.out]; rintro e w2 ⟨f2, cc2, rfl, hC2, hb2⟩; have hx2 := HX.out.grow hb2; obtain ⟨d0, d1, d2, d3, d4, f0, f1, f2', f3, f4⟩ := p_cells hx2.blk; have hp2 := hx2.lt; have hB2 := Nat.le_trans hB (Nat.le_trans (Nat.le_of_lt (Nat.lt_succ_self _)) (by simpa using hb2.size)); have HC2 := Lib.hid hC2; have HX2 := Lib.hid (hx2.grow ((Below.refl _ _).alloc (Nat.le_refl _) (.cells #[.func (.func f2) #[] cc2, .string ⟨T.text.toArray⟩, .int .i64 T.size] 151))); have HO := Lib.hid HX2.out.row1; have HKa : Hid (Keep w (w2.alloc (.cells #[.func (.func f2) #[] cc2, .string ⟨T.text.toArray⟩, .int .i64 T.size] 151))) := Lib.hid ((HKt.out.trans (Keep.of_below hb2)).trans (Keep.of_below ((Below.refl _ _).alloc (Nat.le_refl _) _))); clear hx2 hb2 hC2))
  all_goals go_wp2
  all_goals go_end0
  all_goals exact ⟨rfl, ⟨_, _, _, HX3.out.setField (s' := { s with vals := T :: s.vals, complete := true }) 4 _ (by rfl) rfl rfl⟩, HK3.out.trans (keep_setCell HX3.out.blk (.inl rfl) _)⟩
set_option maxRecDepth 20000 in
set_option maxHeartbeats 2000000 in
theorem put_name {w0 w : World} {p at_ : Nat} {s : St} {vo vp : Value} {es : List Ent} {t : ByteArray} (hx : PX w0 p s vo vp es w) (hn : es.length ≤ 1000) (hd : isNm t.data.toList = true) :
    Calls Tryz.prog 100 #[ptr p, .agg #[.int .i64 3, .int .i64 at_, .string t]] w fun e w' => e = .returned (.tuple #[]) ∧ PS w0 p { s with vals := Tree.name (t.data.toList.headD 0) :: s.vals, complete := true } w' ∧ Keep w w' := by
  obtain ⟨i0, hi0, hz0, hz1, hz2⟩ := info_parts info63
  obtain ⟨c0, c1, c2, c3, c4⟩ := hx.cell
  have hp := hx.lt
  have hbt : Below w.heap.size w ((w.alloc (.cells #[.int .i64 3, .int .i64 at_, .string t] 133)).drew) := ((Below.refl _ _).alloc (Nat.le_refl _) _).drew
  have hx' := hx.grow hbt
  have HKt := Lib.hid (Keep.of_below hbt)
  have HD := Lib.hid hd
  clear hd
  have HX := Lib.hid hx'
  have hB : w0.heap.size ≤ w.heap.size := hx.below.size
  obtain ⟨T, hTT⟩ : ∃ T, T = Tree.name (t.data.toList.headD 0) := ⟨_, rfl⟩
  have HTT := Lib.hid hTT
  rw [← hTT]
  clear hx hx' hbt hTT
  go_enter Tryz.func100, Tryz.ntmps100
  go_wp2
  go_region_law (first | (refine step_append_lies _ (by rfl) (.tmp 50) (.tmp 54) 128 (by rfl) w0.heap.size 151 i0 (.agg #[.nilFunc, .string ⟨#[]⟩, .int .i64 0]) 3 32 Tryz.underlying128 hi0 hz0 hz1 hz2 rfl (by decide) vo es.length (exCells es) (by rfl) HO.out ⟨w2.heap.size, 0, none⟩ 1 1 [.func (.func f2) #[] cc2, .string ⟨T.text.toArray⟩, .int .i64 T.size] (by rfl) rfl (news3 _ _ _ 151 (.inl rfl) rfl) (one3 _ _ _ _) (by decide) (by unfold maxLen; omega) (by omega) (by simp; omega) _ rfl ?_; intro g2 cap2 w1 hown2 hgrow2 hat2 hlt2; obtain ⟨hp1, hx2, hk2⟩ := HX2.out.pushV (q := (.func (.func f2) #[] cc2, T)) hgrow2 hown2 (HC2.out.keep (Keep.of_below ((Below.refl _ _).alloc (Nat.le_refl _) _))); obtain ⟨d0, d1, d2, d3, d4, f0, f1, f2, f3, f4⟩ := p_cells hp1; have HX3 := Lib.hid hx2; have HK3 : Hid (Keep w _) := Lib.hid (HKa.out.trans hk2); clear hown2 hgrow2 hat2 hlt2 hp1 hx2 hk2) | (go_simp; go_at_call 110; refine (name_at HD.out).mono ?_; rw [← HTT.out]; rintro e w2 ⟨f2, cc2, rfl, hC2, hb2⟩; have hx2 := HX.out.grow hb2; obtain ⟨d0, d1, d2, d3, d4, f0, f1, f2', f3, f4⟩ := p_cells hx2.blk; have hp2 := hx2.lt; have hB2 := Nat.le_trans hB (Nat.le_trans (Nat.le_of_lt (Nat.lt_succ_self _)) (by simpa using hb2.size)); have HC2 := Lib.hid hC2; have HX2 := Lib.hid (hx2.grow ((Below.refl _ _).alloc (Nat.le_refl _) (.cells #[.func (.func f2) #[] cc2, .string ⟨T.text.toArray⟩, .int .i64 T.size] 151))); have HO := Lib.hid HX2.out.row1; have HKa : Hid (Keep w (w2.alloc (.cells #[.func (.func f2) #[] cc2, .string ⟨T.text.toArray⟩, .int .i64 T.size] 151))) := Lib.hid ((HKt.out.trans (Keep.of_below hb2)).trans (Keep.of_below ((Below.refl _ _).alloc (Nat.le_refl _) _))); clear hx2 hb2 hC2))
  all_goals go_wp2
  all_goals go_end0
  all_goals exact ⟨rfl, ⟨_, _, _, HX3.out.setField (s' := { s with vals := T :: s.vals, complete := true }) 4 _ (by rfl) rfl rfl⟩, HK3.out.trans (keep_setCell HX3.out.blk (.inl rfl) _)⟩
end Go.Proofs.YtfoenfipefhpoaaGreatDoor.Ex
/-
  put at the end, of a parenthesis that closes, of an operator. Conditions: the parser keeps what it keeps.
-/
namespace Go.Proofs.YtfoenfipefhpoaaGreatDoor.Ex
open Go.RowKit
set_option maxRecDepth 20000 in
set_option maxHeartbeats 2000000 in
theorem put_end {w0 w : World} {p at_ : Nat} {s : St} (h : PS w0 p s w) (hi : s.Inv) (hc : s.complete = true) (hn : s.waits.length ≤ 1000) :
    Calls Tryz.prog 100 #[ptr p, .agg #[.int .i64 1, .int .i64 at_, .string ⟨#[]⟩]] w fun e w' => e = .returned (.tuple #[]) ∧ PS w0 p (s.join 1) w' ∧ Keep w w' := by
  have HP := Lib.hid (h.grow ((Below.refl _ _).alloc (Nat.le_refl _) (.cells #[.int .i64 1, .int .i64 at_, .string ⟨#[]⟩] 133)))
  have HI := Lib.hid hi
  have HC := Lib.hid hc
  clear h hi hc
  go_enter Tryz.func100, Tryz.ntmps100
  go_wp2_with (go_at_call 108; refine (join_any (level := 1) HP.out HI.out HC.out (by omega) (by omega) hn).mono ?_; rintro e w1 ⟨rfl, hp1, hk1⟩; have HP1 := Lib.hid hp1; have HK1 : Hid (Keep w w1) := Lib.hid ((Keep.of_below ((Below.refl _ _).alloc (Nat.le_refl _) _)).trans hk1); clear hp1 hk1)
  go_end0
  exact ⟨rfl, HP1.out, HK1.out⟩
set_option maxRecDepth 20000 in
set_option maxHeartbeats 2000000 in
theorem put_close {w0 w : World} {p at_ : Nat} {s : St} (h : PS w0 p s w) (hi : s.Inv) (hc : s.complete = true) (hn : s.waits.length ≤ 1000) (ho : 0 < s.opn) (ho2 : s.opn ≤ 1000) :
    Calls Tryz.prog 100 #[ptr p, .agg #[.int .i64 4, .int .i64 at_, .string ⟨#[41]⟩]] w fun e w' => e = .returned (.tuple #[]) ∧ PS w0 p { s.join 1 with waits := (s.join 1).waits.tail, opn := s.opn - 1 } w' ∧ Keep w w' := by
  have HP := Lib.hid (h.grow ((Below.refl _ _).alloc (Nat.le_refl _) (.cells #[.int .i64 4, .int .i64 at_, .string ⟨#[41]⟩] 133)))
  have HI := Lib.hid hi
  have HC := Lib.hid hc
  obtain ⟨hi1, -, hl1, htop⟩ := joinL_inv (level := 1) (by omega) (by omega) s.waits s rfl hi hc
  obtain ⟨q, ws, hq⟩ : ∃ q ws, (s.join 1).waits = q :: ws := by
    cases hw : (s.join 1).waits with
    | nil =>
      have := hi1.opn
      rw [hw] at this
      have e : (s.join 1).opn = s.opn := rfl
      rw [e] at this
      simp [no] at this
      omega
    | cons q ws => exact ⟨q, ws, rfl⟩
  have hlw : ws.length ≤ 1000 := by rw [hq] at hl1; simp at hl1; omega
  have HQ : Hid ((s.join 1).waits = (q.1, q.2) :: ws) := Lib.hid hq
  clear h hi hc hi1 hl1 htop hq
  go_enter Tryz.func100, Tryz.ntmps100
  go_wp2_with (first
    | (go_at_call 108; refine (join_any (level := 1) HP.out HI.out HC.out (by omega) (by omega) hn).mono ?_; rintro e w1 ⟨rfl, hp1, hk1⟩; obtain ⟨vo, vp, es, hx1⟩ := hp1; have HX1 := Lib.hid hx1; have HK1 : Hid (Keep w w1) := Lib.hid ((Keep.of_below ((Below.refl _ _).alloc (Nat.le_refl _) _)).trans hk1); clear hx1 hk1)
    | (go_at_call 111; refine (pop_any HX1.out HQ.out hlw).mono ?_; rintro e w2 ⟨rfl, ⟨vp', hx2⟩, hk2⟩; have HK2 : Hid (Keep w w2) := Lib.hid (HK1.out.trans hk2); clear hk2; obtain ⟨d0, d1, d2, d3, d4, f0, f1, f2, f3, f4⟩ := p_cells hx2.blk; have d2' : w2.cell? ⟨p, 2, none⟩ = some (.int .i64 s.opn) := d2; have hp2 := hx2.lt; have HX2 := Lib.hid hx2; clear hx2 d2))
  go_end0
  refine ⟨rfl, ⟨_, _, _, HX2.out.setField (s' := { s.join 1 with waits := (s.join 1).waits.tail, opn := s.opn - 1 }) 2 _ ?_ rfl (by rw [HQ.out]; rfl)⟩, HK2.out.trans (keep_setCell HX2.out.blk (.inl rfl) _)⟩
  have e : ((s.opn - 1 : Nat) : Int) = (s.opn : Int) - 1 := by omega
  simp only [pCells, List.setIfInBounds_toArray, List.set_cons_succ, List.set_cons_zero, e]
  try rfl
theorem tok_kept {w w1 : World} {k a : Int} {t : ByteArray} (h : Keep (w.alloc (.cells #[.int .i64 k, .int .i64 a, .string t] 133)) w1) : w1.cell? ⟨w.heap.size, 2, none⟩ = some (.string t) ∧ w.heap.size < w1.heap.size := by
  have := h _ _ _ _ (heap_alloc_new w _) (by decide) (by decide) (by decide)
  exact ⟨by rw [cell_of_heap this]; rfl, lt_of_heap this⟩
set_option maxRecDepth 20000 in
set_option maxHeartbeats 2000000 in
theorem put_bin {w0 w : World} {p at_ : Nat} {s : St} {t : ByteArray} (h : PS w0 p s w) (hi : s.Inv) (hc : s.complete = true) (hn : s.waits.length ≤ 1000) (ht : t.data.toList ∈ ops) :
    Calls Tryz.prog 100 #[ptr p, .agg #[.int .i64 4, .int .i64 at_, .string t]] w fun e w' => e = .returned (.tuple #[]) ∧ PS w0 p { s.join (levelOf t.data.toList) with waits := (t.data.toList, levelOf t.data.toList) :: (s.join (levelOf t.data.toList)).waits, complete := false } w' ∧ Keep w w' := by
  obtain ⟨i0, hi0, hz0, hz1, hz2⟩ := info_parts info78
  have hp := Lib.hid (h.grow ((Below.refl _ _).alloc (Nat.le_refl _) (.cells #[.int .i64 4, .int .i64 at_, .string t] 133)))
  obtain ⟨vo, vp, es, hx⟩ := h
  obtain ⟨c0, c1, c2, c3, c4⟩ := hx.cell
  rw [hc] at c4
  have hpl := hx.lt
  have hB : w0.heap.size ≤ w.heap.size := hx.below.size
  have n40 := str_ne (t := t) (l := [40]) (fun e => by rw [e] at ht; simp [ops] at ht)
  have n41 := str_ne (t := t) (l := [41]) (fun e => by rw [e] at ht; simp [ops] at ht)
  obtain ⟨tl, htl⟩ : ∃ tl, tl = t.data.toList := ⟨_, rfl⟩
  obtain ⟨lv, hlv⟩ : ∃ lv, levelOf tl = lv := ⟨_, rfl⟩
  have hl15 : 1 ≤ lv ∧ lv ≤ 5 := by
    rw [← hlv, htl]
    simp only [ops, List.mem_cons, List.not_mem_nil, or_false] at ht
    rcases ht with h | h | h | h | h | h | h | h | h | h | h | h | h <;> rw [h] <;> decide
  obtain ⟨-, -, hl1, -⟩ := joinL_inv (level := lv) (by omega) (by omega) s.waits s rfl hi hc
  have hl2 : (s.join lv).waits.length ≤ 1000 := by omega
  have HLV : Hid (levelOf t.data.toList = lv) := Lib.hid (by rw [← htl]; exact hlv)
  have HTL := Lib.hid htl
  rw [← htl, hlv]
  have HI := Lib.hid hi
  have HC := Lib.hid hc
  clear hx hi hc htl hlv hl1 ht
  go_enter Tryz.func100, Tryz.ntmps100
  go_wp2_with (first
    | (go_at_call 107; refine (levelOf_at _ _ HLV.out).mono ?_; rintro e w' ⟨rfl, rfl⟩)
    | (go_at_call 108; refine (join_any (level := lv) hp.out HI.out HC.out (by omega) (by omega) hn).mono ?_; rintro e w1 ⟨rfl, hp1, hk1⟩; obtain ⟨vo1, vp1, es1, hx1⟩ := hp1; obtain ⟨d0, d1, d2, d3, d4, f0, f1, f2, f3, f4⟩ := p_cells hx1.blk; have hp2 := hx1.lt; have htok := tok_kept (w := w) hk1; have htl := htok.2; have htk := htok.1; have hB1 := hx1.below.size; have HX1 := Lib.hid hx1; have HK1 : Hid (Keep w w1) := Lib.hid ((Keep.of_below ((Below.refl _ _).alloc (Nat.le_refl _) _)).trans hk1); clear hx1 hk1 htok))
  have hx' : PX w0 p (s.join lv) vo1 vp1 es1 ((w1.alloc (.cells #[.string t, .int .i64 (lv : Int)] 157)).drew) := HX1.out.grow ((Below.refl _ _).alloc (Nat.le_refl _) _).drew
  have HX := Lib.hid hx'
  have HO := Lib.hid hx'.row2
  have HKb : Hid (Keep w ((w1.alloc (.cells #[.string t, .int .i64 (lv : Int)] 157)).drew)) := Lib.hid (HK1.out.trans (Keep.of_below ((Below.refl _ _).alloc (Nat.le_refl _) _).drew))
  clear hx'
  have HTT : Hid (t = ⟨tl.toArray⟩) := Lib.hid (bytes_of HTL.out.symm)
  go_region_law (first | (refine step_append_lies _ (by rfl) (.tmp 114) (.tmp 119) 129 (by rfl) w0.heap.size 157 i0 (.agg #[.string ⟨#[]⟩, .int .i64 0]) 2 24 Tryz.underlying129 hi0 hz0 hz1 hz2 rfl (by decide) vp1 (s.join lv).waits.length (opCells (s.join lv).waits) (by rfl) HO.out ⟨w1.heap.size, 0, none⟩ 1 1 [.string t, .int .i64 (lv : Int)] (by rfl) rfl (news2 _ _ 157 rfl rfl) (one2 _ _) (by decide) (by unfold maxLen; omega) (by omega) (by simp; omega) _ rfl ?_; intro g2 cap2 w2 hown2 hgrow2 hat2 hlt2; obtain ⟨hp1, hx2, hk2⟩ := HX.out.pushW (q := (tl, lv)) hgrow2 (HTT.out ▸ hown2); have HK2 : Hid (Keep w _) := Lib.hid (HKb.out.trans hk2); obtain ⟨d0, d1, d2, d3, d4, f0, f1, f2, f3, f4⟩ := p_cells hp1; have HX2 := Lib.hid hx2; clear hown2 hgrow2 hat2 hlt2 hp1 hx2 hk2))
  all_goals go_wp2
  all_goals go_end0
  all_goals exact ⟨rfl, ⟨_, _, _, HX2.out.setField (s' := { s.join lv with waits := (tl, lv) :: (s.join lv).waits, complete := false }) 4 _ (by rfl) rfl rfl⟩, HK2.out.trans (keep_setCell HX2.out.blk (.inl rfl) _)⟩
end Go.Proofs.YtfoenfipefhpoaaGreatDoor.Ex
/-
  A word's kind and text; put, of whatever word is allowed; what the machine keeps. Conditions: the parser keeps what it keeps.
-/
namespace Go.Proofs.YtfoenfipefhpoaaGreatDoor.Ex
open Go.RowKit
def TokOK (k : Nat) (t : Bs) : Prop :=
  (k = 0 ∧ t = []) ∨ (k = 1 ∧ t = []) ∨ (k = 2 ∧ t ≠ [] ∧ t.length ≤ 18 ∧ ∀ c ∈ t, isDig c = true) ∨ (k = 3 ∧ isNm t = true) ∨ (k = 4 ∧ (t ∈ ops ∨ t = [33] ∨ t = [40] ∨ t = [41]))
theorem run_take (P : UInt8 → Bool) : ∀ l : Bs, ∀ c ∈ l.take (runLen P l), P c = true
  | [], c, h => by simp [runLen] at h
  | x :: r, c, h => by
    simp only [runLen] at h
    split at h
    · rename_i hx
      simp only [List.take_succ_cons, List.mem_cons] at h
      rcases h with rfl | h
      · exact hx
      · exact run_take P r c h
    · simp at h
theorem sign_tok {l : Bs} (h : 0 < signLen l) : l.take (signLen l) ∈ ops ∨ l.take (signLen l) = [33] ∨ l.take (signLen l) = [40] ∨ l.take (signLen l) = [41] := by
  match l, h with
  | c :: r, h =>
    simp only [signLen] at h ⊢
    split at h
    · rename_i h2
      rw [if_pos h2]
      left
      have h3 := h2.2
      simp only [two2, Bool.or_eq_true, beq_iff_eq] at h3
      rcases h3 with ((((h3 | h3) | h3) | h3) | h3) | h3 <;> rw [h3] <;> decide
    · rename_i h2
      rw [if_neg h2]
      split at h
      · rename_i h1
        rw [if_pos h1]
        have hc : ∀ n : Fin 256, one1 (UInt8.ofNat n) = true → [UInt8.ofNat n] ∈ ops ∨ ([UInt8.ofNat n] : Bs) = [33] ∨ ([UInt8.ofNat n] : Bs) = [40] ∨ ([UInt8.ofNat n] : Bs) = [41] := by decide +kernel
        have := hc ⟨c.toNat, c.toNat_lt⟩ (by simpa using h1)
        simpa using this
      · omega
theorem tok_ok (l : Bs) : TokOK (kindOf l) (wordOf l) := by
  unfold kindOf wordOf
  by_cases h : l = []
  · rw [if_pos h, if_pos h]; exact .inr (.inl ⟨rfl, rfl⟩)
  · rw [if_neg h, if_neg h]
    unfold meas
    by_cases h1 : 0 < runLen isDig l
    · rw [if_pos h1]
      by_cases h2 : 18 < runLen isDig l
      · rw [if_pos h2]; exact .inl ⟨rfl, by simp⟩
      · rw [if_neg h2]
        refine .inr (.inr (.inl ⟨rfl, ?_, ?_, run_take isDig l⟩))
        · have := runLen_le isDig l
          intro e
          have : (l.take (runLen isDig l)).length = 0 := by rw [e]; rfl
          rw [List.length_take] at this; omega
        · rw [List.length_take]; omega
    · rw [if_neg h1]
      by_cases h2 : 0 < runLen isLet l
      · rw [if_pos h2]
        by_cases h3 : isNm (l.take (runLen isLet l)) = true
        · rw [if_pos h3]; exact .inr (.inr (.inr (.inl ⟨rfl, h3⟩)))
        · rw [if_neg h3]; exact .inl ⟨rfl, by simp⟩
      · rw [if_neg h2]
        by_cases h3 : 0 < signLen l
        · rw [if_pos h3]; exact .inr (.inr (.inr (.inr ⟨rfl, sign_tok h3⟩)))
        · rw [if_neg h3]; exact .inl ⟨rfl, by simp⟩
theorem ops_no {t : Bs} (h : t ∈ ops) : t ≠ [40] ∧ t ≠ [41] ∧ 1 ≤ levelOf t ∧ levelOf t ≤ 5 := by
  simp only [ops, List.mem_cons, List.not_mem_nil, or_false] at h
  rcases h with h | h | h | h | h | h | h | h | h | h | h | h | h <;> rw [h] <;> decide
theorem level_ops {t : Bs} (h : levelOf t ≠ 0) : t ∈ ops := Classical.byContradiction fun hn => h (levelOf_not hn)
theorem dig_level {t : Bs} (h0 : t ≠ []) (h : ∀ c ∈ t, isDig c = true) : t ∉ ops ∧ t ≠ [40] ∧ t ≠ [41] := by
  match t, h0 with
  | c :: r, _ =>
    have hc := h c (by simp)
    refine ⟨fun hm => ?_, fun e => ?_, fun e => ?_⟩
    · simp only [ops, List.mem_cons, List.not_mem_nil, or_false] at hm
      rcases hm with e | e | e | e | e | e | e | e | e | e | e | e | e <;> (injection e with e _; subst e; revert hc; decide)
    · injection e with e _; subst e; revert hc; decide
    · injection e with e _; subst e; revert hc; decide
theorem nm_level {t : Bs} (h : isNm t = true) : t ∉ ops ∧ t ≠ [40] ∧ t ≠ [41] ∧ ∃ c, t = [c] ∧ (c = 110 ∨ c = 116 ∨ c = 118) := by
  simp only [isNm, Bool.or_eq_true, beq_iff_eq] at h
  rcases h with (rfl | rfl) | rfl
  · exact ⟨by decide, by decide, by decide, _, rfl, .inl rfl⟩
  · exact ⟨by decide, by decide, by decide, _, rfl, .inr (.inl rfl)⟩
  · exact ⟨by decide, by decide, by decide, _, rfl, .inr (.inr rfl)⟩
/-- The ways of a word that is allowed. -/
inductive Way (s : St) : Nat → Bs → Prop where
  | fin : s.complete = true → s.opn = 0 → Way s 1 []
  | num (t : Bs) : t ≠ [] → t.length ≤ 18 → (∀ c ∈ t, isDig c = true) → s.complete = false → Way s 2 t
  | name (t : Bs) : isNm t = true → s.complete = false → Way s 3 t
  | opn : s.complete = false → Way s 4 [40]
  | close : s.complete = true → 0 < s.opn → Way s 4 [41]
  | bin (t : Bs) : s.complete = true → t ∈ ops → Way s 4 t
  | sign (t : Bs) : s.complete = false → (t = [45] ∨ t = [33]) → Way s 4 t
theorem way_of {s : St} {k : Nat} {t : Bs} (h : TokOK k t) (ha : s.allows k t = true) : Way s k t := by
  unfold St.allows at ha
  rcases h with ⟨rfl, rfl⟩ | ⟨rfl, rfl⟩ | ⟨rfl, h0, hl, hd⟩ | ⟨rfl, hn⟩ | ⟨rfl, h⟩
  · cases hc : s.complete <;> rw [hc] at ha <;> revert ha <;> simp [levelOf]
  · rw [if_pos rfl] at ha; simp at ha; exact .fin ha.1 ha.2
  · obtain ⟨a, b, c⟩ := dig_level h0 hd
    rw [if_neg (by decide), if_neg c] at ha
    cases hc : s.complete
    · exact .num t h0 hl hd hc
    · rw [hc, if_pos rfl, levelOf_not a] at ha; simp at ha
  · obtain ⟨a, b, c, _⟩ := nm_level hn
    rw [if_neg (by decide), if_neg c] at ha
    cases hc : s.complete
    · exact .name t hn hc
    · rw [hc, if_pos rfl, levelOf_not a] at ha; simp at ha
  · rw [if_neg (by decide)] at ha
    by_cases h41 : t = [41]
    · rw [if_pos h41] at ha; subst h41; simp at ha; exact .close ha.1 ha.2
    · rw [if_neg h41] at ha
      cases hc : s.complete
      · rw [hc, if_neg (by simp)] at ha
        simp at ha
        rcases ha with (h1 | h1) | h1
        · exact .sign t hc (.inl h1)
        · exact .sign t hc (.inr h1)
        · subst h1; exact .opn hc
      · rw [hc, if_pos rfl] at ha
        exact .bin t hc (level_ops (by simpa using ha))
theorem put_any {w0 w : World} {p at_ k : Nat} {s : St} {t : ByteArray} (h : PS w0 p s w) (hi : s.Inv) (hw : Way s k t.data.toList) (hn : s.waits.length ≤ 1000) (hT : Tab w) :
    Calls Tryz.prog 100 #[ptr p, .agg #[.int .i64 k, .int .i64 at_, .string t]] w fun e w' => e = .returned (.tuple #[]) ∧ PS w0 p (s.put k t.data.toList) w' ∧ Keep w w' := by
  have hoc : s.opn ≤ 1000 := by
    have : no s.waits ≤ s.waits.length := by
      generalize s.waits = l
      induction l with
      | nil => simp [no]
      | cons q r ih => simp only [no, List.length_cons]; split <;> omega
    rw [hi.opn]; omega
  obtain ⟨vo, vp, es, hx⟩ := h
  have hel : es.length ≤ 1000 := by
    have := hi.count
    rw [← hx.vals] at this
    simp at this; omega
  generalize ht : t.data.toList = tl at hw
  cases hw with
  | fin h1 h2 =>
    obtain rfl := bytes_of ht
    exact put_end ⟨vo, vp, es, hx⟩ hi h1 hn
  | num _ h0 hl hd hc =>
    refine (put_num hx hel (by rw [ht]; exact h0) (by have e : t.size = t.data.toList.length := by simp
                                                      rw [e, ht]; exact hl) (by rw [ht]; exact hd) hT).mono ?_
    rw [ht]; rintro e w' ⟨rfl, hp, hk⟩
    exact ⟨rfl, hp, hk⟩
  | name _ hn hc =>
    refine (put_name hx hel (by rw [ht]; exact hn)).mono ?_
    rw [ht]; rintro e w' ⟨rfl, hp, hk⟩
    exact ⟨rfl, hp, hk⟩
  | opn hc =>
    obtain rfl := bytes_of ht
    exact put_open hx hn hoc
  | close hc ho =>
    obtain rfl := bytes_of ht
    exact put_close ⟨vo, vp, es, hx⟩ hi hc hn ho hoc
  | bin _ hc hm =>
    obtain ⟨a, b, _⟩ := ops_no hm
    refine (put_bin ⟨vo, vp, es, hx⟩ hi hc hn (by rw [ht]; exact hm)).mono ?_
    rw [ht]; rintro e w' ⟨rfl, hp, hk⟩
    refine ⟨rfl, ?_, hk⟩
    unfold St.put
    rw [if_neg (by decide), if_neg (by decide), if_neg (by decide), if_neg a, if_neg b, if_pos hc]
    exact hp
  | sign _ hc hm =>
    refine (put_sign hx hn hc (by rw [ht]; exact hm)).mono ?_
    rw [ht]; rintro e w' ⟨rfl, hp, hk⟩
    refine ⟨rfl, ?_, hk⟩
    unfold St.put
    rw [if_neg (by decide), if_neg (by decide), if_neg (by decide), if_neg (by rcases hm with rfl | rfl <;> decide), if_neg (by rcases hm with rfl | rfl <;> decide), if_neg (by simp [hc])]
    exact hp
end Go.Proofs.YtfoenfipefhpoaaGreatDoor.Ex
/-
  What one word leaves the machine with. Conditions: the machine keeps what it keeps; the word is allowed and not one too many.
-/
namespace Go.Proofs.YtfoenfipefhpoaaGreatDoor.Ex
open Go.RowKit
/-- The parts are counted. -/
def St.Bal (s : St) : Prop := s.parts = tot s.vals + nz s.waits
theorem count_eq (s : St) (k : Nat) (t : Bs) : s.count k t = { s with parts := s.parts + (if isPart k t then 1 else 0) } := by
  unfold St.count; split <;> simp
theorem Inv.parts {s : St} (h : s.Inv) (n : Nat) : ({ s with parts := n } : St).Inv := ⟨h.wf, h.ws, h.len, h.opn, h.few⟩
theorem join_parts (s : St) (n l : Nat) : ({ s with parts := n } : St).join l = { s.join l with parts := n } := rfl
theorem part_num {t : Bs} (h0 : t ≠ []) (h : ∀ c ∈ t, isDig c = true) : isPart 2 t = true := by
  obtain ⟨_, b, c⟩ := dig_level h0 h
  simp [isPart, b, c]
theorem part_name {t : Bs} (h : isNm t = true) : isPart 3 t = true := by
  obtain ⟨_, b, c, _⟩ := nm_level h
  simp [isPart, b, c]
theorem put_inv {s : St} {k : Nat} {t : Bs} (hi : s.Inv) (hb : s.Bal) (hw : Way s k t) (hp : isPart k t = true → s.parts < 64) :
    ((s.count k t).put k t).Inv ∧ ((s.count k t).put k t).Bal ∧ ((s.count k t).put k t).waits.length ≤ s.waits.length + 1 := by
  rw [count_eq]
  unfold St.Bal at *
  cases hw with
  | fin h1 h2 =>
    obtain ⟨a, b, c, d⟩ := joinL_inv (level := 1) (by omega) (by omega) s.waits s rfl hi h1
    have e : ({ s with parts := s.parts + (if isPart 1 [] then 1 else 0) } : St).put 1 [] = s.join 1 := by
      simp [isPart, St.put]
    rw [e]
    exact ⟨a, by rw [b]; exact hb, by omega⟩
  | num _ h0 hl hd hc =>
    have hq := part_num h0 hd
    have := hp hq
    rw [if_pos hq]
    have e : ({ s with parts := s.parts + 1 } : St).put 2 t = { s with parts := s.parts + 1, vals := .num (numVal t) :: s.vals, complete := true } := by simp [St.put]
    rw [e]
    refine ⟨⟨?_, hi.ws, ?_, hi.opn, ?_⟩, ?_, by simp⟩
    · intro T hT
      simp only [List.mem_cons] at hT
      rcases hT with rfl | hT
      · exact numVal_small hl hd
      · exact hi.wf T hT
    · have := hi.len
      rw [hc] at this
      simp at this ⊢; omega
    · simp only [tot, Tree.size]; omega
    · simp only [tot, Tree.size]; omega
  | name _ hn hc =>
    have hq := part_name hn
    have := hp hq
    rw [if_pos hq]
    have e : ({ s with parts := s.parts + 1 } : St).put 3 t = { s with parts := s.parts + 1, vals := .name (t.headD 0) :: s.vals, complete := true } := by simp [St.put]
    rw [e]
    refine ⟨⟨?_, hi.ws, ?_, hi.opn, ?_⟩, ?_, by simp⟩
    · intro T hT
      simp only [List.mem_cons] at hT
      rcases hT with rfl | hT
      · obtain ⟨_, _, _, c, rfl, h⟩ := nm_level hn
        exact h
      · exact hi.wf T hT
    · have := hi.len
      rw [hc] at this
      simp at this ⊢; omega
    · simp only [tot, Tree.size]; omega
    · simp only [tot, Tree.size]; omega
  | opn hc =>
    have e : ({ s with parts := s.parts + (if isPart 4 [40] then 1 else 0) } : St).put 4 [40] = { s with waits := ([40], 0) :: s.waits, opn := s.opn + 1 } := by simp [isPart, St.put]
    rw [e]
    refine ⟨⟨hi.wf, ?_, ?_, ?_, ?_⟩, ?_, by simp⟩
    · intro q hq
      simp only [List.mem_cons] at hq
      rcases hq with rfl | hq
      · exact .inl ⟨rfl, rfl⟩
      · exact hi.ws q hq
    · have := hi.len
      simpa [nb] using this
    · have := hi.opn
      simp [no]; omega
    · have := hi.few
      simpa [nz] using this
    · simpa [nz] using hb
  | close hc ho =>
    obtain ⟨a, b, c, d⟩ := joinL_inv (level := 1) (by omega) (by omega) s.waits s rfl hi hc
    have e : ({ s with parts := s.parts + (if isPart 4 [41] then 1 else 0) } : St).put 4 [41] = { s.join 1 with waits := (s.join 1).waits.tail, opn := s.opn - 1 } := by simp [isPart, St.put]
    rw [e]
    have ho2 := a.opn
    have ho3 : (s.join 1).opn = s.opn := rfl
    rw [ho3] at ho2
    cases hv : (s.join 1).waits with
    | nil => rw [hv] at ho2; simp [no] at ho2; omega
    | cons q r =>
      have hq := d q r hv
      have hq0 : q.2 = 0 := by omega
      rw [hv] at ho2 b
      have a1 := a.ws
      have a2 := a.len
      have a3 := a.few
      rw [hv] at a1 a2 a3
      simp only [nb, nz, no, hq0] at *
      simp at *
      refine ⟨⟨a.wf, fun q hq => a1.2 q.1 q.2 hq, ?_, ?_, ?_⟩, ?_, ?_⟩
      · simpa using a2
      · simp; omega
      · simpa using a3
      · show s.parts = _; omega
      · rw [hv] at c; simp at c ⊢; omega
  | bin _ hc hm =>
    obtain ⟨n40, n41, l1, l5⟩ := ops_no hm
    have hq : isPart 4 t = true := by simp [isPart, n40, n41]
    have := hp hq
    rw [if_pos hq]
    obtain ⟨a, b, c, d⟩ := joinL_inv (level := levelOf t) (by omega) (by omega) s.waits s rfl hi hc
    have e : ({ s with parts := s.parts + 1 } : St).put 4 t = { s.join (levelOf t) with parts := s.parts + 1, waits := (t, levelOf t) :: (s.join (levelOf t)).waits, complete := false } := by
      unfold St.put
      rw [if_neg (by decide), if_neg (by decide), if_neg (by decide), if_neg n40, if_neg n41, if_pos hc]
      rfl
    rw [e]
    refine ⟨⟨a.wf, ?_, ?_, ?_, ?_⟩, ?_, ?_⟩
    · intro q hq
      simp only [List.mem_cons] at hq
      rcases hq with rfl | hq
      · exact .inr (.inr ⟨l1, l5, hm, rfl⟩)
      · exact a.ws q hq
    · have := a.len
      have hcc : (s.join (levelOf t)).complete = true := hc
      rw [hcc, if_pos rfl] at this
      simp only [nb]
      rw [if_neg (by omega)]
      simp; omega
    · have := a.opn
      simp only [no]
      rw [if_neg (by omega)]
      simpa using this
    · simp only [nz]
      rw [if_neg (by omega)]
      omega
    · simp only [nz]
      rw [if_neg (by omega)]
      omega
    · simp; omega
  | sign _ hc hm =>
    have n40 : t ≠ [40] := by rcases hm with rfl | rfl <;> decide
    have n41 : t ≠ [41] := by rcases hm with rfl | rfl <;> decide
    have hq : isPart 4 t = true := by simp [isPart, n40, n41]
    have := hp hq
    rw [if_pos hq]
    have e : ({ s with parts := s.parts + 1 } : St).put 4 t = { s with parts := s.parts + 1, waits := (t, 6) :: s.waits } := by
      unfold St.put
      rw [if_neg (by decide), if_neg (by decide), if_neg (by decide), if_neg n40, if_neg n41, if_neg (by simp [hc])]
    rw [e]
    refine ⟨⟨hi.wf, ?_, ?_, ?_, ?_⟩, ?_, by simp⟩
    · intro q hq
      simp only [List.mem_cons] at hq
      rcases hq with rfl | hq
      · exact .inr (.inl ⟨rfl, hm⟩)
      · exact hi.ws q hq
    · have := hi.len
      simpa [nb] using this
    · have := hi.opn
      simpa [no] using this
    · simp [nz]; omega
    · simp [nz]; omega
/-- At the end one tree is left. -/
theorem fin_one {s : St} (hi : s.Inv) (hc : s.complete = true) (ho : s.opn = 0) : ∃ T, (s.join 1).vals = [T] ∧ T.WF ∧ T.size = tot s.vals + nz s.waits ∧ T.size ≤ 64 := by
  obtain ⟨a, b, c, d⟩ := joinL_inv (level := 1) (by omega) (by omega) s.waits s rfl hi hc
  have hw : (s.join 1).waits = [] := by
    cases hv : (s.join 1).waits with
    | nil => rfl
    | cons q r =>
      have h0 := d q r hv
      have h1 := a.opn
      have h2 : (s.join 1).opn = 0 := ho
      rw [hv, h2] at h1
      simp only [no] at h1
      rw [if_pos (by omega)] at h1
      omega
  have hl := a.len
  have hcc : (s.join 1).complete = true := hc
  rw [hw, hcc] at hl
  simp [nb] at hl
  obtain ⟨T, hT⟩ := List.length_eq_one_iff.1 hl
  have hf := a.few
  rw [hT, hw] at b hf
  simp [tot, nz] at b hf
  exact ⟨T, hT, a.wf T (by rw [hT]; simp), b, hf⟩
end Go.Proofs.YtfoenfipefhpoaaGreatDoor.Ex
/-
  take: a word is taken, or the error at it. whole: the expression at the end. Conditions: the parser keeps what it keeps.
-/
namespace Go.Proofs.YtfoenfipefhpoaaGreatDoor.Ex
open Go.RowKit
theorem allows_at {w : World} {p k at_ : Nat} {s : St} {t : ByteArray} {b : Bool} (hp : p < w.heap.size) (c2 : w.cell? ⟨p, 2, none⟩ = some (.int .i64 s.opn)) (c4 : w.cell? ⟨p, 4, none⟩ = some (.bool s.complete)) (hb : s.allows k t.data.toList = b) :
    Calls Tryz.prog 98 #[ptr p, .agg #[.int .i64 k, .int .i64 at_, .string t]] w fun e w' => e = .returned (.bool b) ∧ Below w.heap.size w w' := by subst hb; exact allows_cells hp c2 c4
theorem isPart_at {w : World} {k at_ : Nat} {t : ByteArray} {b : Bool} (hb : isPart k t.data.toList = b) :
    Calls Tryz.prog 99 #[.agg #[.int .i64 k, .int .i64 at_, .string t]] w fun e w' => e = .returned (.bool b) ∧ Below w.heap.size w w' := by subst hb; exact isPart_any
theorem PS.tab {w0 w : World} {p : Nat} {s : St} (h : PS w0 p s w) (hT : Tab w0) : Tab w := by
  obtain ⟨_, _, _, hx⟩ := h; exact hT.below hx.below
theorem Way.parts {s : St} {k : Nat} {t : Bs} (h : Way s k t) (n : Nat) : Way { s with parts := n } k t := by
  cases h with
  | fin a b => exact .fin a b
  | num _ a b c d => exact .num _ a b c d
  | name _ a b => exact .name _ a b
  | opn a => exact .opn a
  | close a b => exact .close a b
  | bin _ a b => exact .bin _ a b
  | sign _ a b => exact .sign _ a b
/-- A token's block and the parser, told again in a later world. -/
structure TakeS (w0 wS : World) (p b : Nat) (s : St) (k at_ : Nat) (t : ByteArray) (w : World) : Prop where
  ps : PS w0 p s w
  keep : Keep wS w
  tok : w.heap[b]? = some (.cells #[.int .i64 k, .int .i64 at_, .string t] 133 (0, 0))
theorem TakeS.grow {w0 wS w w' : World} {p b k at_ : Nat} {s : St} {t : ByteArray} (h : TakeS w0 wS p b s k at_ t w) (hb : Below w.heap.size w w') : TakeS w0 wS p b s k at_ t w' :=
  ⟨h.ps.grow hb, h.keep.trans (Keep.of_below hb), by rw [hb.block b (lt_of_heap h.tok)]; exact h.tok⟩
theorem TakeS.facts {w0 wS w : World} {p b k at_ : Nat} {s : St} {t : ByteArray} (h : TakeS w0 wS p b s k at_ t w) :
    w.cell? ⟨p, 2, none⟩ = some (.int .i64 s.opn) ∧ w.cell? ⟨p, 3, none⟩ = some (.int .i64 s.parts) ∧ w.cell? ⟨p, 4, none⟩ = some (.bool s.complete) ∧ w.frozen? ⟨p, 3, none⟩ = false ∧ p < w.heap.size ∧
    w.cell? ⟨b, 0, none⟩ = some (.int .i64 k) ∧ w.cell? ⟨b, 1, none⟩ = some (.int .i64 at_) ∧ w.cell? ⟨b, 2, none⟩ = some (.string t) ∧ b < w.heap.size := by
  obtain ⟨vo, vp, es, hx⟩ := h.ps
  obtain ⟨d0, d1, d2, d3, d4, f0, f1, f2, f3, f4⟩ := p_cells hx.blk
  refine ⟨d2, d3, d4, f3, hx.lt, ?_, ?_, ?_, lt_of_heap h.tok⟩ <;> rw [cell_of_heap h.tok] <;> rfl
theorem TakeS.counted {w0 wS w : World} {p b k at_ : Nat} {s : St} {t : ByteArray} (h : TakeS w0 wS p b s k at_ t w) : TakeS w0 wS p b { s with parts := s.parts + 1 } k at_ t (w.setCell ⟨p, 3, none⟩ (.int .i64 ((s.parts : Int) + 1))) := by
  obtain ⟨vo, vp, es, hx⟩ := h.ps
  have ne : p ≠ b := fun e => by subst e; have := hx.blk; rw [h.tok] at this; injection this with this; injection this with _ this; cases this
  exact ⟨⟨vo, vp, es, hx.setField (s' := { s with parts := s.parts + 1 }) 3 _ (by rfl) rfl rfl⟩, h.keep.trans (keep_setCell hx.blk (.inl rfl) _), heap_setCell h.tok ne _⟩
set_option maxRecDepth 20000 in
set_option maxHeartbeats 2000000 in
theorem take_any {w0 w : World} {p at_ k : Nat} {s : St} {t : ByteArray} (h : PS w0 p s w) (hi : s.Inv) (hb : s.Bal) (hk : TokOK k t.data.toList) (hn : s.waits.length ≤ 900) (hT : Tab w0) :
    Calls Tryz.prog 89 #[ptr p, .agg #[.int .i64 k, .int .i64 at_, .string t]] w fun e w' => e = .returned (.int .i64 (s.errOf k t.data.toList)) ∧ Keep w w' ∧ (∃ s', PS w0 p s' w' ∧ (s.errOf k t.data.toList = 0 → s' = (s.count k t.data.toList).put k t.data.toList)) := by
  have hS : TakeS w0 w p w.heap.size s k at_ t (w.alloc (.cells #[.int .i64 k, .int .i64 at_, .string t] 133)) := ⟨h.grow ((Below.refl _ _).alloc (Nat.le_refl _) _), Keep.of_below ((Below.refl _ _).alloc (Nat.le_refl _) _), heap_alloc_new w _⟩
  obtain ⟨f2, f3, f4, f3f, fp, g0, g1, g2, gb⟩ := hS.facts
  have hpw : p < w.heap.size := by obtain ⟨_, _, _, hx⟩ := h; exact hx.lt
  obtain ⟨a, hal⟩ : ∃ a, s.allows k t.data.toList = a := ⟨_, rfl⟩
  obtain ⟨r, hr⟩ : ∃ r, s.errOf k t.data.toList = r := ⟨_, rfl⟩
  have hfew : s.parts ≤ 64 := by have := hi.few; unfold St.Bal at hb; omega
  rw [hr]
  unfold St.errOf at hr
  have HA := Lib.hid hal
  rw [hal] at hr
  have HS := Lib.hid hS
  clear hS h
  cases a
  · rw [if_pos rfl] at hr
    by_cases h1 : k = 1
    · subst h1
      rw [if_pos rfl] at hr
      subst hr
      clear hal
      go_enter Tryz.func89, Tryz.ntmps89
      go_wp2_with (go_at_call 98; refine (allows_at (s := s) (by simp; omega) (by first | exact f2 | simpa using f2) (by first | exact f4 | simpa using f4) HA.out).mono ?_; rintro e w1 ⟨rfl, hb1⟩; obtain ⟨z2, z3, z4, z3f, zp, y0, y1, y2, yb⟩ := (HS.out.grow hb1).facts; have HS1 := Lib.hid (HS.out.grow hb1); clear hb1)
      go_ret
      exact ⟨rfl, HS1.out.keep, s, HS1.out.ps, fun e => by cases e⟩
    · rw [if_neg h1] at hr
      subst hr
      have e1 : ((k : Int) == 1) = false := ne_beq (n := 1) h1
      clear hal
      go_enter Tryz.func89, Tryz.ntmps89
      go_wp2_with (go_at_call 98; refine (allows_at (s := s) (by simp; omega) (by first | exact f2 | simpa using f2) (by first | exact f4 | simpa using f4) HA.out).mono ?_; rintro e w1 ⟨rfl, hb1⟩; obtain ⟨z2, z3, z4, z3f, zp, y0, y1, y2, yb⟩ := (HS.out.grow hb1).facts; have HS1 := Lib.hid (HS.out.grow hb1); clear hb1)
      go_ret
      exact ⟨rfl, HS1.out.keep, s, HS1.out.ps, fun e => by cases e⟩
  · rw [if_neg (by simp)] at hr
    have hway := way_of hk hal
    have hI1 : ({ s with parts := s.parts + 1 } : St).Inv := Inv.parts hi _
    obtain ⟨q, hq⟩ : ∃ q, isPart k t.data.toList = q := ⟨_, rfl⟩
    have HQ := Lib.hid hq
    have hce := count_eq s k t.data.toList
    rw [hq] at hr hce
    have HT := Lib.hid hT
    have HI := Lib.hid hi
    have HI1 := Lib.hid hI1
    have HW := Lib.hid hway
    cases q
    · rw [if_neg (by simp)] at hr
      subst hr
      have HC : Hid (s.count k t.data.toList = s) := Lib.hid (by rw [hce]; simp)
      clear hal hq hce hi hI1 hway hT hb hk
      go_enter Tryz.func89, Tryz.ntmps89
      go_wp2_with (first
        | (go_at_call 98; refine (allows_at (s := s) (by simp; omega) (by first | exact f2 | simpa using f2) (by first | exact f4 | simpa using f4) HA.out).mono ?_; rintro e w1 ⟨rfl, hb1⟩; obtain ⟨z2, z3, z4, z3f, zp, y0, y1, y2, yb⟩ := (HS.out.grow hb1).facts; have HS1 := Lib.hid (HS.out.grow hb1); clear hb1)
        | (go_at_call 99; refine (isPart_at HQ.out).mono ?_; rintro e w2 ⟨rfl, hb2⟩; obtain ⟨x2, x3, x4, x3f, xp, u0, u1, u2, ub⟩ := (HS1.out.grow hb2).facts; have HS2 := Lib.hid (HS1.out.grow hb2); clear hb2)
        | (go_at_call 100; refine (put_any HS2.out.ps HI.out HW.out (by omega) (HS2.out.ps.tab HT.out)).mono ?_; rintro e w3 ⟨rfl, hp3, hk3⟩; have HP3 := Lib.hid hp3; have HK3 := Lib.hid (HS2.out.keep.trans hk3); clear hp3 hk3))
      go_ret
      exact ⟨rfl, HK3.out, _, HP3.out, fun _ => by rw [HC.out]⟩
    · by_cases h64 : s.parts = 64
      · rw [if_pos ⟨rfl, h64⟩] at hr
        subst hr
        rw [h64] at f3
        clear hal hq hce hi hI1 hway hT hb hk
        go_enter Tryz.func89, Tryz.ntmps89
        go_wp2_with (first
          | (go_at_call 98; refine (allows_at (s := s) (by simp; omega) (by first | exact f2 | simpa using f2) (by first | exact f4 | simpa using f4) HA.out).mono ?_; rintro e w1 ⟨rfl, hb1⟩; obtain ⟨z2, z3, z4, z3f, zp, y0, y1, y2, yb⟩ := (HS.out.grow hb1).facts; have HS1 := Lib.hid (HS.out.grow hb1); clear hb1)
          | (go_at_call 99; refine (isPart_at HQ.out).mono ?_; rintro e w2 ⟨rfl, hb2⟩; obtain ⟨x2, x3, x4, x3f, xp, u0, u1, u2, ub⟩ := (HS1.out.grow hb2).facts; rw [h64] at x3; have HS2 := Lib.hid (HS1.out.grow hb2); clear hb2))
        go_ret
        exact ⟨rfl, HS2.out.keep, s, HS2.out.ps, fun e => by cases e⟩
      · rw [if_neg (by simp [h64])] at hr
        subst hr
        have HC : Hid (s.count k t.data.toList = { s with parts := s.parts + 1 }) := Lib.hid (by rw [hce]; simp)
        have e64 : ((s.parts : Int) == 64) = false := ne_beq (n := 64) h64
        have HW1 := Lib.hid (hway.parts (s.parts + 1))
        clear hal hq hce hi hI1 hway hT hb hk HW
        go_enter Tryz.func89, Tryz.ntmps89
        go_wp2_with (first
          | (go_at_call 98; refine (allows_at (s := s) (by simp; omega) (by first | exact f2 | simpa using f2) (by first | exact f4 | simpa using f4) HA.out).mono ?_; rintro e w1 ⟨rfl, hb1⟩; obtain ⟨z2, z3, z4, z3f, zp, y0, y1, y2, yb⟩ := (HS.out.grow hb1).facts; have HS1 := Lib.hid (HS.out.grow hb1); clear hb1)
          | (go_at_call 99; refine (isPart_at HQ.out).mono ?_; rintro e w2 ⟨rfl, hb2⟩; obtain ⟨x2, x3, x4, x3f, xp, u0, u1, u2, ub⟩ := (HS1.out.grow hb2).facts; have HS2 := Lib.hid (HS1.out.grow hb2); have HS3 := Lib.hid HS2.out.counted; clear hb2)
          | (go_at_call 100; refine (put_any HS3.out.ps HI1.out HW1.out (by show s.waits.length ≤ 1000; omega) (HS3.out.ps.tab HT.out)).mono ?_; rintro e w3 ⟨rfl, hp3, hk3⟩; have HP3 := Lib.hid hp3; have HK3 := Lib.hid (HS3.out.keep.trans hk3); clear hp3 hk3))
        go_ret
        exact ⟨rfl, HK3.out, _, HP3.out, fun _ => by rw [HC.out]⟩
end Go.Proofs.YtfoenfipefhpoaaGreatDoor.Ex
