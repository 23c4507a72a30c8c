/-
  put: what a word that is allowed does to the parser. Conditions: the parser keeps what it keeps.
-/
import Derived.Test.YtlkaaembeakicaaDoorEPush
namespace Go.Proofs.YtlkaaembeakicaaDoor.Ex
open Go.RowKit
theorem PS.grow {w0 : World} {p : Nat} {s : St} {w w' : World} (h : PS w0 p s w) (hb : Below w.heap.size w w') : PS w0 p s w' := by
  obtain ⟨vo, vp, es, hx⟩ := h; exact ⟨vo, vp, es, hx.grow hb⟩
theorem one2 (a : ByteArray) (b : Int) : ∀ u ∈ [Value.string a, Value.int .i64 b], u.oneCell' = true := by intro u hu; simp only [List.mem_cons, List.not_mem_nil, or_false] at hu; rcases hu with rfl | rfl <;> rfl
theorem one3 (f : Nat) (c : Array Value) (a : ByteArray) (b : Int) : ∀ u ∈ [Value.func (.func f) #[] c, Value.string a, Value.int .i64 b], u.oneCell' = true := by intro u hu; simp only [List.mem_cons, List.not_mem_nil, or_false] at hu; rcases hu with rfl | rfl | rfl <;> rfl
set_option maxRecDepth 20000 in
set_option maxHeartbeats 2000000 in
theorem put_open {w0 w : World} {p at_ : Nat} {s : St} {vo vp : Value} {es : List Ent} (hx : PX w0 p s vo vp es w) (hn : s.waits.length ≤ 1000) (ho : s.opn ≤ 1000) :
    Calls Tryd.prog 33 #[ptr p, .agg #[.int .i64 4, .int .i64 at_, .string ⟨#[40]⟩]] w fun e w' => e = .returned (.tuple #[]) ∧ PS w0 p { s with waits := ([40], 0) :: s.waits, opn := s.opn + 1 } w' ∧ Keep w w' := by
  obtain ⟨i0, hi0, hz0, hz1, hz2⟩ := info_parts info78
  obtain ⟨c0, c1, c2, c3, c4⟩ := hx.cell
  have hp := hx.lt
  have hx' : PX w0 p s vo vp es (((w.alloc (.cells #[.int .i64 4, .int .i64 at_, .string ⟨#[40]⟩] 46)).alloc (.cells #[.string ⟨#[40]⟩, .int .i64 0] 78)).drew) := hx.grow (((Below.refl _ _).alloc (Nat.le_refl _) _).alloc (by simp) _).drew
  have HX := Lib.hid hx'
  have HO := Lib.hid hx'.row2
  have HK0 : Hid (Keep w (((w.alloc (.cells #[.int .i64 4, .int .i64 at_, .string ⟨#[40]⟩] 46)).alloc (.cells #[.string ⟨#[40]⟩, .int .i64 0] 78)).drew)) := Lib.hid (Keep.of_below (((Below.refl _ _).alloc (Nat.le_refl _) _).alloc (by simp) _).drew)
  have hB : w0.heap.size ≤ w.heap.size := hx.below.size
  clear hx hx'
  go_enter Tryd.func33, Tryd.ntmps33
  go_wp2
  go_region_law (first | (refine step_append_lies _ (by rfl) (.tmp 69) (.tmp 73) 42 (by rfl) w0.heap.size 78 i0 (.agg #[.string ⟨#[]⟩, .int .i64 0]) 2 24 Tryd.underlying42 hi0 hz0 hz1 hz2 rfl (by decide) vp s.waits.length (opCells s.waits) (by rfl) HO.out ⟨w.heap.size + 1, 0, none⟩ 1 1 [.string ⟨#[40]⟩, .int .i64 0] (by rfl) rfl (news2 _ _ 78 rfl (by simp)) (one2 _ _) (by decide) (by unfold maxLen; omega) (by omega) (by simp; omega) _ rfl ?_; intro g2 cap2 w1 hown2 hgrow2 hat2 hlt2; obtain ⟨hp1, hx2, hk2⟩ := HX.out.pushW (q := ([40], 0)) hgrow2 hown2; have HK2 : Hid (Keep w _) := Lib.hid (HK0.out.trans hk2); obtain ⟨d0, d1, d2, d3, d4, f0, f1, f2, f3, f4⟩ := p_cells hp1; have HX2 := Lib.hid hx2; clear hown2 hgrow2 hat2 hlt2 hp1 hx2 hk2))
  all_goals go_wp2
  all_goals go_end0
  all_goals exact ⟨rfl, ⟨_, _, _, HX2.out.setField (s' := { s with waits := ([40], 0) :: s.waits, opn := s.opn + 1 }) 2 _ (by rfl) rfl rfl⟩, HK2.out.trans (keep_setCell HX2.out.blk (.inl rfl) _)⟩
set_option maxRecDepth 20000 in
set_option maxHeartbeats 2000000 in
theorem put_sign {w0 w : World} {p at_ : Nat} {s : St} {vo vp : Value} {es : List Ent} {t : ByteArray} (hx : PX w0 p s vo vp es w) (hn : s.waits.length ≤ 1000) (hc : s.complete = false) (ht : t.data.toList = [45] ∨ t.data.toList = [33]) :
    Calls Tryd.prog 33 #[ptr p, .agg #[.int .i64 4, .int .i64 at_, .string t]] w fun e w' => e = .returned (.tuple #[]) ∧ PS w0 p { s with waits := (t.data.toList, 6) :: s.waits } w' ∧ Keep w w' := by
  have ht' : t = ⟨#[45]⟩ ∨ t = ⟨#[33]⟩ := by rcases ht with h | h <;> have e := bytes_of h <;> simp [e]
  clear ht
  obtain ⟨i0, hi0, hz0, hz1, hz2⟩ := info_parts info78
  obtain ⟨c0, c1, c2, c3, c4⟩ := hx.cell
  rw [hc] at c4
  have hp := hx.lt
  have hx' : PX w0 p s vo vp es (((w.alloc (.cells #[.int .i64 4, .int .i64 at_, .string t] 46)).alloc (.cells #[.string t, .int .i64 6] 78)).drew) := hx.grow (((Below.refl _ _).alloc (Nat.le_refl _) _).alloc (by simp) _).drew
  have HX := Lib.hid hx'
  have HO := Lib.hid hx'.row2
  have HK0 : Hid (Keep w (((w.alloc (.cells #[.int .i64 4, .int .i64 at_, .string t] 46)).alloc (.cells #[.string t, .int .i64 6] 78)).drew)) := Lib.hid (Keep.of_below (((Below.refl _ _).alloc (Nat.le_refl _) _).alloc (by simp) _).drew)
  have hB : w0.heap.size ≤ w.heap.size := hx.below.size
  clear hx hx'
  rcases ht' with rfl | rfl
  · go_enter Tryd.func33, Tryd.ntmps33
    go_wp2
    go_region_law (first | (refine step_append_lies _ (by rfl) (.tmp 9) (.tmp 13) 42 (by rfl) w0.heap.size 78 i0 (.agg #[.string ⟨#[]⟩, .int .i64 0]) 2 24 Tryd.underlying42 hi0 hz0 hz1 hz2 rfl (by decide) vp s.waits.length (opCells s.waits) (by rfl) HO.out ⟨w.heap.size + 1, 0, none⟩ 1 1 [.string ⟨#[45]⟩, .int .i64 6] (by rfl) rfl (news2 _ _ 78 rfl (by simp)) (one2 _ _) (by decide) (by unfold maxLen; omega) (by omega) (by simp; omega) _ rfl ?_; intro g2 cap2 w1 hown2 hgrow2 hat2 hlt2; obtain ⟨hp1, hx2, hk2⟩ := HX.out.pushW (q := ([45], 6)) hgrow2 hown2; have HK2 : Hid (Keep w _) := Lib.hid (HK0.out.trans hk2); obtain ⟨d0, d1, d2, d3, d4, f0, f1, f2, f3, f4⟩ := p_cells hp1; have HX2 := Lib.hid hx2; clear hown2 hgrow2 hat2 hlt2 hp1 hx2 hk2))
    all_goals go_wp2
    all_goals go_end0
    all_goals exact ⟨rfl, ⟨_, _, _, HX2.out⟩, HK2.out⟩
  · go_enter Tryd.func33, Tryd.ntmps33
    go_wp2
    go_region_law (first | (refine step_append_lies _ (by rfl) (.tmp 9) (.tmp 13) 42 (by rfl) w0.heap.size 78 i0 (.agg #[.string ⟨#[]⟩, .int .i64 0]) 2 24 Tryd.underlying42 hi0 hz0 hz1 hz2 rfl (by decide) vp s.waits.length (opCells s.waits) (by rfl) HO.out ⟨w.heap.size + 1, 0, none⟩ 1 1 [.string ⟨#[33]⟩, .int .i64 6] (by rfl) rfl (news2 _ _ 78 rfl (by simp)) (one2 _ _) (by decide) (by unfold maxLen; omega) (by omega) (by simp; omega) _ rfl ?_; intro g2 cap2 w1 hown2 hgrow2 hat2 hlt2; obtain ⟨hp1, hx2, hk2⟩ := HX.out.pushW (q := ([33], 6)) hgrow2 hown2; have HK2 : Hid (Keep w _) := Lib.hid (HK0.out.trans hk2); obtain ⟨d0, d1, d2, d3, d4, f0, f1, f2, f3, f4⟩ := p_cells hp1; have HX2 := Lib.hid hx2; clear hown2 hgrow2 hat2 hlt2 hp1 hx2 hk2))
    all_goals go_wp2
    all_goals go_end0
    all_goals exact ⟨rfl, ⟨_, _, _, HX2.out⟩, HK2.out⟩
end Go.Proofs.YtlkaaembeakicaaDoor.Ex
