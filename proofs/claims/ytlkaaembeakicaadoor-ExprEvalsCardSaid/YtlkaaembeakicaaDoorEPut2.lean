/-
  put of a number and of a name. Conditions: the parser keeps what it keeps.
-/
import Derived.Test.YtlkaaembeakicaaDoorEPut
namespace Go.Proofs.YtlkaaembeakicaaDoor.Ex
open Go.RowKit
theorem number_at {s : ByteArray} {w : World} (h0 : s.data.toList ≠ []) (hl : s.size ≤ 18) (h : ∀ c ∈ s.data.toList, isDig c = true) (hT : Tab w) :
    Calls Tryd.prog 44 #[.string s] w fun e w' => ∃ f c, e = .returned (.agg #[.func (.func f) #[] c, .string ⟨(Tree.num (numVal s.data.toList)).text.toArray⟩, .int .i64 (Tree.num (numVal s.data.toList)).size]) ∧ Clos w' (.num (numVal s.data.toList)) (.func (.func f) #[] c) ∧ Below w.heap.size w w' := by
  refine (number_any h0 hl h hT).mono ?_
  rintro e w' ⟨v', rfl, hC, hb⟩
  obtain ⟨f', c', rfl⟩ := hC.form
  exact ⟨f', c', rfl, hC, hb⟩
theorem name_at {s : ByteArray} {w : World} (h : isNm s.data.toList = true) :
    Calls Tryd.prog 45 #[.string s] w fun e w' => ∃ f c, e = .returned (.agg #[.func (.func f) #[] c, .string ⟨(Tree.name (s.data.toList.headD 0)).text.toArray⟩, .int .i64 (Tree.name (s.data.toList.headD 0)).size]) ∧ Clos w' (.name (s.data.toList.headD 0)) (.func (.func f) #[] c) ∧ Below w.heap.size w w' := by
  refine (name_any h).mono ?_
  rintro e w' ⟨v', rfl, hC, hb⟩
  obtain ⟨f', c', rfl⟩ := hC.form
  exact ⟨f', c', rfl, hC, hb⟩
set_option maxRecDepth 20000 in
set_option maxHeartbeats 2000000 in
theorem put_num {w0 w : World} {p at_ : Nat} {s : St} {vo vp : Value} {es : List Ent} {t : ByteArray} (hx : PX w0 p s vo vp es w) (hn : es.length ≤ 1000) (h0 : t.data.toList ≠ []) (hl : t.size ≤ 18) (hd : ∀ c ∈ t.data.toList, isDig c = true) (hT : Tab w) :
    Calls Tryd.prog 33 #[ptr p, .agg #[.int .i64 2, .int .i64 at_, .string t]] w fun e w' => e = .returned (.tuple #[]) ∧ PS w0 p { s with vals := Tree.num (numVal t.data.toList) :: s.vals, complete := true } w' ∧ Keep w w' := by
  obtain ⟨i0, hi0, hz0, hz1, hz2⟩ := info_parts info63
  obtain ⟨c0, c1, c2, c3, c4⟩ := hx.cell
  have hp := hx.lt
  have hbt : Below w.heap.size w ((w.alloc (.cells #[.int .i64 2, .int .i64 at_, .string t] 46)).drew) := ((Below.refl _ _).alloc (Nat.le_refl _) _).drew
  have hx' := hx.grow hbt
  have HKt := Lib.hid (Keep.of_below hbt)
  have HT := Lib.hid (hT.below hbt)
  have HD := Lib.hid (And.intro h0 (And.intro hl hd))
  clear hT h0 hl hd
  have HX := Lib.hid hx'
  have hB : w0.heap.size ≤ w.heap.size := hx.below.size
  obtain ⟨T, hTT⟩ : ∃ T, T = Tree.num (numVal t.data.toList) := ⟨_, rfl⟩
  have HTT := Lib.hid hTT
  rw [← hTT]
  clear hx hx' hbt hTT
  go_enter Tryd.func33, Tryd.ntmps33
  go_wp2
  go_region_law (first | (refine step_append_lies _ (by rfl) (.tmp 31) (.tmp 35) 41 (by rfl) w0.heap.size 63 i0 (.agg #[.nilFunc, .string ⟨#[]⟩, .int .i64 0]) 3 32 Tryd.underlying41 hi0 hz0 hz1 hz2 rfl (by decide) vo es.length (exCells es) (by rfl) HO.out ⟨w2.heap.size, 0, none⟩ 1 1 [.func (.func f2) #[] cc2, .string ⟨T.text.toArray⟩, .int .i64 T.size] (by rfl) rfl (news3 _ _ _ 63 (.inl rfl) rfl) (one3 _ _ _ _) (by decide) (by unfold maxLen; omega) (by omega) (by simp; omega) _ rfl ?_; intro g2 cap2 w1 hown2 hgrow2 hat2 hlt2; obtain ⟨hp1, hx2, hk2⟩ := HX2.out.pushV (q := (.func (.func f2) #[] cc2, T)) hgrow2 hown2 (HC2.out.keep (Keep.of_below ((Below.refl _ _).alloc (Nat.le_refl _) _))); obtain ⟨d0, d1, d2, d3, d4, f0, f1, f2, f3, f4⟩ := p_cells hp1; have HX3 := Lib.hid hx2; have HK3 : Hid (Keep w _) := Lib.hid (HKa.out.trans hk2); clear hown2 hgrow2 hat2 hlt2 hp1 hx2 hk2) | (go_simp; go_at_call 44; refine (number_at HD.out.1 HD.out.2.1 HD.out.2.2 HT.out).mono ?_; rw [← HTT.out]; rintro e w2 ⟨f2, cc2, rfl, hC2, hb2⟩; have hx2 := HX.out.grow hb2; obtain ⟨d0, d1, d2, d3, d4, f0, f1, f2', f3, f4⟩ := p_cells hx2.blk; have hp2 := hx2.lt; have hB2 := Nat.le_trans hB (Nat.le_trans (Nat.le_of_lt (Nat.lt_succ_self _)) (by simpa using hb2.size)); have HC2 := Lib.hid hC2; have HX2 := Lib.hid (hx2.grow ((Below.refl _ _).alloc (Nat.le_refl _) (.cells #[.func (.func f2) #[] cc2, .string ⟨T.text.toArray⟩, .int .i64 T.size] 63))); have HO := Lib.hid HX2.out.row1; have HKa : Hid (Keep w (w2.alloc (.cells #[.func (.func f2) #[] cc2, .string ⟨T.text.toArray⟩, .int .i64 T.size] 63))) := Lib.hid ((HKt.out.trans (Keep.of_below hb2)).trans (Keep.of_below ((Below.refl _ _).alloc (Nat.le_refl _) _))); clear hx2 hb2 hC2))
  all_goals go_wp2
  all_goals go_end0
  all_goals exact ⟨rfl, ⟨_, _, _, HX3.out.setField (s' := { s with vals := T :: s.vals, complete := true }) 4 _ (by rfl) rfl rfl⟩, HK3.out.trans (keep_setCell HX3.out.blk (.inl rfl) _)⟩
set_option maxRecDepth 20000 in
set_option maxHeartbeats 2000000 in
theorem put_name {w0 w : World} {p at_ : Nat} {s : St} {vo vp : Value} {es : List Ent} {t : ByteArray} (hx : PX w0 p s vo vp es w) (hn : es.length ≤ 1000) (hd : isNm t.data.toList = true) :
    Calls Tryd.prog 33 #[ptr p, .agg #[.int .i64 3, .int .i64 at_, .string t]] w fun e w' => e = .returned (.tuple #[]) ∧ PS w0 p { s with vals := Tree.name (t.data.toList.headD 0) :: s.vals, complete := true } w' ∧ Keep w w' := by
  obtain ⟨i0, hi0, hz0, hz1, hz2⟩ := info_parts info63
  obtain ⟨c0, c1, c2, c3, c4⟩ := hx.cell
  have hp := hx.lt
  have hbt : Below w.heap.size w ((w.alloc (.cells #[.int .i64 3, .int .i64 at_, .string t] 46)).drew) := ((Below.refl _ _).alloc (Nat.le_refl _) _).drew
  have hx' := hx.grow hbt
  have HKt := Lib.hid (Keep.of_below hbt)
  have HD := Lib.hid hd
  clear hd
  have HX := Lib.hid hx'
  have hB : w0.heap.size ≤ w.heap.size := hx.below.size
  obtain ⟨T, hTT⟩ : ∃ T, T = Tree.name (t.data.toList.headD 0) := ⟨_, rfl⟩
  have HTT := Lib.hid hTT
  rw [← hTT]
  clear hx hx' hbt hTT
  go_enter Tryd.func33, Tryd.ntmps33
  go_wp2
  go_region_law (first | (refine step_append_lies _ (by rfl) (.tmp 50) (.tmp 54) 41 (by rfl) w0.heap.size 63 i0 (.agg #[.nilFunc, .string ⟨#[]⟩, .int .i64 0]) 3 32 Tryd.underlying41 hi0 hz0 hz1 hz2 rfl (by decide) vo es.length (exCells es) (by rfl) HO.out ⟨w2.heap.size, 0, none⟩ 1 1 [.func (.func f2) #[] cc2, .string ⟨T.text.toArray⟩, .int .i64 T.size] (by rfl) rfl (news3 _ _ _ 63 (.inl rfl) rfl) (one3 _ _ _ _) (by decide) (by unfold maxLen; omega) (by omega) (by simp; omega) _ rfl ?_; intro g2 cap2 w1 hown2 hgrow2 hat2 hlt2; obtain ⟨hp1, hx2, hk2⟩ := HX2.out.pushV (q := (.func (.func f2) #[] cc2, T)) hgrow2 hown2 (HC2.out.keep (Keep.of_below ((Below.refl _ _).alloc (Nat.le_refl _) _))); obtain ⟨d0, d1, d2, d3, d4, f0, f1, f2, f3, f4⟩ := p_cells hp1; have HX3 := Lib.hid hx2; have HK3 : Hid (Keep w _) := Lib.hid (HKa.out.trans hk2); clear hown2 hgrow2 hat2 hlt2 hp1 hx2 hk2) | (go_simp; go_at_call 45; refine (name_at HD.out).mono ?_; rw [← HTT.out]; rintro e w2 ⟨f2, cc2, rfl, hC2, hb2⟩; have hx2 := HX.out.grow hb2; obtain ⟨d0, d1, d2, d3, d4, f0, f1, f2', f3, f4⟩ := p_cells hx2.blk; have hp2 := hx2.lt; have hB2 := Nat.le_trans hB (Nat.le_trans (Nat.le_of_lt (Nat.lt_succ_self _)) (by simpa using hb2.size)); have HC2 := Lib.hid hC2; have HX2 := Lib.hid (hx2.grow ((Below.refl _ _).alloc (Nat.le_refl _) (.cells #[.func (.func f2) #[] cc2, .string ⟨T.text.toArray⟩, .int .i64 T.size] 63))); have HO := Lib.hid HX2.out.row1; have HKa : Hid (Keep w (w2.alloc (.cells #[.func (.func f2) #[] cc2, .string ⟨T.text.toArray⟩, .int .i64 T.size] 63))) := Lib.hid ((HKt.out.trans (Keep.of_below hb2)).trans (Keep.of_below ((Below.refl _ _).alloc (Nat.le_refl _) _))); clear hx2 hb2 hC2))
  all_goals go_wp2
  all_goals go_end0
  all_goals exact ⟨rfl, ⟨_, _, _, HX3.out.setField (s' := { s with vals := T :: s.vals, complete := true }) 4 _ (by rfl) rfl rfl⟩, HK3.out.trans (keep_setCell HX3.out.blk (.inl rfl) _)⟩
end Go.Proofs.YtlkaaembeakicaaDoor.Ex
