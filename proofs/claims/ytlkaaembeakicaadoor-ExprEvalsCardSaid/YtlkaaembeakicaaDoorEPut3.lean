/-
  put at the end, of a parenthesis that closes, of an operator. Conditions: the parser keeps what it keeps.
-/
import Derived.Test.YtlkaaembeakicaaDoorEPut
namespace Go.Proofs.YtlkaaembeakicaaDoor.Ex
open Go.RowKit
set_option maxRecDepth 20000 in
set_option maxHeartbeats 2000000 in
theorem put_end {w0 w : World} {p at_ : Nat} {s : St} (h : PS w0 p s w) (hi : s.Inv) (hc : s.complete = true) (hn : s.waits.length ≤ 1000) :
    Calls Tryd.prog 33 #[ptr p, .agg #[.int .i64 1, .int .i64 at_, .string ⟨#[]⟩]] w fun e w' => e = .returned (.tuple #[]) ∧ PS w0 p (s.join 1) w' ∧ Keep w w' := by
  have HP := Lib.hid (h.grow ((Below.refl _ _).alloc (Nat.le_refl _) (.cells #[.int .i64 1, .int .i64 at_, .string ⟨#[]⟩] 46)))
  have HI := Lib.hid hi
  have HC := Lib.hid hc
  clear h hi hc
  go_enter Tryd.func33, Tryd.ntmps33
  go_wp2_with (go_at_call 43; refine (join_any (level := 1) HP.out HI.out HC.out (by omega) (by omega) hn).mono ?_; rintro e w1 ⟨rfl, hp1, hk1⟩; have HP1 := Lib.hid hp1; have HK1 : Hid (Keep w w1) := Lib.hid ((Keep.of_below ((Below.refl _ _).alloc (Nat.le_refl _) _)).trans hk1); clear hp1 hk1)
  go_end0
  exact ⟨rfl, HP1.out, HK1.out⟩
set_option maxRecDepth 20000 in
set_option maxHeartbeats 2000000 in
theorem put_close {w0 w : World} {p at_ : Nat} {s : St} (h : PS w0 p s w) (hi : s.Inv) (hc : s.complete = true) (hn : s.waits.length ≤ 1000) (ho : 0 < s.opn) (ho2 : s.opn ≤ 1000) :
    Calls Tryd.prog 33 #[ptr p, .agg #[.int .i64 4, .int .i64 at_, .string ⟨#[41]⟩]] w fun e w' => e = .returned (.tuple #[]) ∧ PS w0 p { s.join 1 with waits := (s.join 1).waits.tail, opn := s.opn - 1 } w' ∧ Keep w w' := by
  have HP := Lib.hid (h.grow ((Below.refl _ _).alloc (Nat.le_refl _) (.cells #[.int .i64 4, .int .i64 at_, .string ⟨#[41]⟩] 46)))
  have HI := Lib.hid hi
  have HC := Lib.hid hc
  obtain ⟨hi1, -, hl1, htop⟩ := joinL_inv (level := 1) (by omega) (by omega) s.waits s rfl hi hc
  obtain ⟨q, ws, hq⟩ : ∃ q ws, (s.join 1).waits = q :: ws := by
    cases hw : (s.join 1).waits with
    | nil =>
      have := hi1.opn
      rw [hw] at this
      have e : (s.join 1).opn = s.opn := rfl
      rw [e] at this
      simp [no] at this
      omega
    | cons q ws => exact ⟨q, ws, rfl⟩
  have hlw : ws.length ≤ 1000 := by rw [hq] at hl1; simp at hl1; omega
  have HQ : Hid ((s.join 1).waits = (q.1, q.2) :: ws) := Lib.hid hq
  clear h hi hc hi1 hl1 htop hq
  go_enter Tryd.func33, Tryd.ntmps33
  go_wp2_with (first
    | (go_at_call 43; refine (join_any (level := 1) HP.out HI.out HC.out (by omega) (by omega) hn).mono ?_; rintro e w1 ⟨rfl, hp1, hk1⟩; obtain ⟨vo, vp, es, hx1⟩ := hp1; have HX1 := Lib.hid hx1; have HK1 : Hid (Keep w w1) := Lib.hid ((Keep.of_below ((Below.refl _ _).alloc (Nat.le_refl _) _)).trans hk1); clear hx1 hk1)
    | (go_at_call 46; refine (pop_any HX1.out HQ.out hlw).mono ?_; rintro e w2 ⟨rfl, ⟨vp', hx2⟩, hk2⟩; have HK2 : Hid (Keep w w2) := Lib.hid (HK1.out.trans hk2); clear hk2; obtain ⟨d0, d1, d2, d3, d4, f0, f1, f2, f3, f4⟩ := p_cells hx2.blk; have d2' : w2.cell? ⟨p, 2, none⟩ = some (.int .i64 s.opn) := d2; have hp2 := hx2.lt; have HX2 := Lib.hid hx2; clear hx2 d2))
  go_end0
  refine ⟨rfl, ⟨_, _, _, HX2.out.setField (s' := { s.join 1 with waits := (s.join 1).waits.tail, opn := s.opn - 1 }) 2 _ ?_ rfl (by rw [HQ.out]; rfl)⟩, HK2.out.trans (keep_setCell HX2.out.blk (.inl rfl) _)⟩
  have e : ((s.opn - 1 : Nat) : Int) = (s.opn : Int) - 1 := by omega
  simp only [pCells, List.setIfInBounds_toArray, List.set_cons_succ, List.set_cons_zero, e]
  try rfl
theorem tok_kept {w w1 : World} {k a : Int} {t : ByteArray} (h : Keep (w.alloc (.cells #[.int .i64 k, .int .i64 a, .string t] 46)) w1) : w1.cell? ⟨w.heap.size, 2, none⟩ = some (.string t) ∧ w.heap.size < w1.heap.size := by
  have := h _ _ _ _ (heap_alloc_new w _) (by decide) (by decide) (by decide)
  exact ⟨by rw [cell_of_heap this]; rfl, lt_of_heap this⟩
set_option maxRecDepth 20000 in
set_option maxHeartbeats 2000000 in
theorem put_bin {w0 w : World} {p at_ : Nat} {s : St} {t : ByteArray} (h : PS w0 p s w) (hi : s.Inv) (hc : s.complete = true) (hn : s.waits.length ≤ 1000) (ht : t.data.toList ∈ ops) :
    Calls Tryd.prog 33 #[ptr p, .agg #[.int .i64 4, .int .i64 at_, .string t]] w fun e w' => e = .returned (.tuple #[]) ∧ PS w0 p { s.join (levelOf t.data.toList) with waits := (t.data.toList, levelOf t.data.toList) :: (s.join (levelOf t.data.toList)).waits, complete := false } w' ∧ Keep w w' := by
  obtain ⟨i0, hi0, hz0, hz1, hz2⟩ := info_parts info78
  have hp := Lib.hid (h.grow ((Below.refl _ _).alloc (Nat.le_refl _) (.cells #[.int .i64 4, .int .i64 at_, .string t] 46)))
  obtain ⟨vo, vp, es, hx⟩ := h
  obtain ⟨c0, c1, c2, c3, c4⟩ := hx.cell
  rw [hc] at c4
  have hpl := hx.lt
  have hB : w0.heap.size ≤ w.heap.size := hx.below.size
  have n40 := str_ne (t := t) (l := [40]) (fun e => by rw [e] at ht; simp [ops] at ht)
  have n41 := str_ne (t := t) (l := [41]) (fun e => by rw [e] at ht; simp [ops] at ht)
  obtain ⟨tl, htl⟩ : ∃ tl, tl = t.data.toList := ⟨_, rfl⟩
  obtain ⟨lv, hlv⟩ : ∃ lv, levelOf tl = lv := ⟨_, rfl⟩
  have hl15 : 1 ≤ lv ∧ lv ≤ 5 := by
    rw [← hlv, htl]
    simp only [ops, List.mem_cons, List.not_mem_nil, or_false] at ht
    rcases ht with h | h | h | h | h | h | h | h | h | h | h | h | h <;> rw [h] <;> decide
  obtain ⟨-, -, hl1, -⟩ := joinL_inv (level := lv) (by omega) (by omega) s.waits s rfl hi hc
  have hl2 : (s.join lv).waits.length ≤ 1000 := by omega
  have HLV : Hid (levelOf t.data.toList = lv) := Lib.hid (by rw [← htl]; exact hlv)
  have HTL := Lib.hid htl
  rw [← htl, hlv]
  have HI := Lib.hid hi
  have HC := Lib.hid hc
  clear hx hi hc htl hlv hl1 ht
  go_enter Tryd.func33, Tryd.ntmps33
  go_wp2_with (first
    | (go_at_call 42; refine (levelOf_at _ _ HLV.out).mono ?_; rintro e w' ⟨rfl, rfl⟩)
    | (go_at_call 43; refine (join_any (level := lv) hp.out HI.out HC.out (by omega) (by omega) hn).mono ?_; rintro e w1 ⟨rfl, hp1, hk1⟩; obtain ⟨vo1, vp1, es1, hx1⟩ := hp1; obtain ⟨d0, d1, d2, d3, d4, f0, f1, f2, f3, f4⟩ := p_cells hx1.blk; have hp2 := hx1.lt; have htok := tok_kept (w := w) hk1; have htl := htok.2; have htk := htok.1; have hB1 := hx1.below.size; have HX1 := Lib.hid hx1; have HK1 : Hid (Keep w w1) := Lib.hid ((Keep.of_below ((Below.refl _ _).alloc (Nat.le_refl _) _)).trans hk1); clear hx1 hk1 htok))
  have hx' : PX w0 p (s.join lv) vo1 vp1 es1 ((w1.alloc (.cells #[.string t, .int .i64 (lv : Int)] 78)).drew) := HX1.out.grow ((Below.refl _ _).alloc (Nat.le_refl _) _).drew
  have HX := Lib.hid hx'
  have HO := Lib.hid hx'.row2
  have HKb : Hid (Keep w ((w1.alloc (.cells #[.string t, .int .i64 (lv : Int)] 78)).drew)) := Lib.hid (HK1.out.trans (Keep.of_below ((Below.refl _ _).alloc (Nat.le_refl _) _).drew))
  clear hx'
  have HTT : Hid (t = ⟨tl.toArray⟩) := Lib.hid (bytes_of HTL.out.symm)
  go_region_law (first | (refine step_append_lies _ (by rfl) (.tmp 114) (.tmp 119) 42 (by rfl) w0.heap.size 78 i0 (.agg #[.string ⟨#[]⟩, .int .i64 0]) 2 24 Tryd.underlying42 hi0 hz0 hz1 hz2 rfl (by decide) vp1 (s.join lv).waits.length (opCells (s.join lv).waits) (by rfl) HO.out ⟨w1.heap.size, 0, none⟩ 1 1 [.string t, .int .i64 (lv : Int)] (by rfl) rfl (news2 _ _ 78 rfl rfl) (one2 _ _) (by decide) (by unfold maxLen; omega) (by omega) (by simp; omega) _ rfl ?_; intro g2 cap2 w2 hown2 hgrow2 hat2 hlt2; obtain ⟨hp1, hx2, hk2⟩ := HX.out.pushW (q := (tl, lv)) hgrow2 (HTT.out ▸ hown2); have HK2 : Hid (Keep w _) := Lib.hid (HKb.out.trans hk2); obtain ⟨d0, d1, d2, d3, d4, f0, f1, f2, f3, f4⟩ := p_cells hp1; have HX2 := Lib.hid hx2; clear hown2 hgrow2 hat2 hlt2 hp1 hx2 hk2))
  all_goals go_wp2
  all_goals go_end0
  all_goals exact ⟨rfl, ⟨_, _, _, HX2.out.setField (s' := { s.join lv with waits := (tl, lv) :: (s.join lv).waits, complete := false }) 4 _ (by rfl) rfl rfl⟩, HK2.out.trans (keep_setCell HX2.out.blk (.inl rfl) _)⟩
end Go.Proofs.YtlkaaembeakicaaDoor.Ex
