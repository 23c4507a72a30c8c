/-
  ExprPuts' walk: two expressions with an operator between. Conditions: the library's table of powers holds what it was laid with; the operator's number is an int.
-/
import Derived.Test.YtlkaaembeakicaaDoorETwo
import Derived.Test.YtlkaaembeakicaaDoorEPutsM
namespace Go.Proofs.YtlkaaembeakicaaDoor.Ex
open Go.RowKit
def opRow : Obj := .cells #[.string ⟨#[124, 124]⟩, .string ⟨#[38, 38]⟩, .string ⟨#[61, 61]⟩, .string ⟨#[33, 61]⟩, .string ⟨#[60, 61]⟩, .string ⟨#[62, 61]⟩, .string ⟨#[60]⟩, .string ⟨#[62]⟩, .string ⟨#[43]⟩, .string ⟨#[45]⟩, .string ⟨#[42]⟩, .string ⟨#[47]⟩, .string ⟨#[37]⟩] 9 (0, 0)
theorem ix13 {j : Int} (h : 0 ≤ j) : j.tmod 13 = 0 ∨ j.tmod 13 = 1 ∨ j.tmod 13 = 2 ∨ j.tmod 13 = 3 ∨ j.tmod 13 = 4 ∨ j.tmod 13 = 5 ∨ j.tmod 13 = 6 ∨ j.tmod 13 = 7 ∨ j.tmod 13 = 8 ∨ j.tmod 13 = 9 ∨ j.tmod 13 = 10 ∨ j.tmod 13 = 11 ∨ j.tmod 13 = 12 := by
  rw [Int.tmod_eq_emod_of_nonneg h]; omega
theorem size_int {w : World} {b : Nat} {T : Tree} {z : Int} (h : ExAt w b T) (hz : (T.size : Int) = z) : Calls Tryd.prog 15 #[ptr b] w fun e w' => e = .returned (.int .i64 z) ∧ w = w' := by subst hz; exact size_any h
theorem rtwo_at {s : ByteArray} (hs : s.data.toList ∈ ops) {a b z : Int} (hz : two s.data.toList a b = z) (w : World) : Calls Tryd.prog 19 #[.string s, .int .i64 a, .int .i64 b] w fun e w' => e = .returned (.int .i64 z) ∧ w = w' := by subst hz; exact rtwo_any hs a b w
theorem op_size {o : ByteArray} (hs : o.data.toList ∈ ops) : o.size ≤ 2 := by
  have : o.data.toList.length ≤ 2 := by
    simp only [ops, List.mem_cons, List.not_mem_nil, or_false] at hs
    rcases hs with h | h | h | h | h | h | h | h | h | h | h | h | h <;> rw [h] <;> simp
  simpa using this
theorem cat_puts (l o r : ByteArray) : ((⟨#[40]⟩ : ByteArray) ++ l ++ ⟨#[41]⟩ ++ o ++ ⟨#[40, 32]⟩ ++ r ++ ⟨#[32, 41]⟩).data.toList = putsOf l.data.toList o.data.toList r.data.toList := by simp [putsOf]
theorem cat_bin (A B : Tree) (o : ByteArray) : (⟨(Tree.bin o.data.toList A B).text.toArray⟩ : ByteArray) = ⟨#[40]⟩ ++ ⟨A.text.toArray⟩ ++ ⟨#[32]⟩ ++ o ++ ⟨#[32]⟩ ++ ⟨B.text.toArray⟩ ++ ⟨#[41]⟩ := Go.WideShapes.bytes_inj (by simp [Tree.text])
set_option maxRecDepth 20000 in
set_option maxHeartbeats 4000000 in
theorem puts_ok (l r : ByteArray) (op n t v : Int) (w : World) (hT : Tab w) (hl : l.size ≤ maxLen) (hr : r.size ≤ maxLen) (lo : -9223372036854775808 ≤ op) (hi : op ≤ 9223372036854775807) {A B : Tree} (hA : parse l.data.toList = .ok A) (hB : parse r.data.toList = .ok B) :
    Calls Tryd.prog 6 #[.string l, .string r, .int .i64 op, .int .i64 n, .int .i64 t, .int .i64 v] w fun e w' => e = .returned (.bool true) ∧ Below w.heap.size w w' := by
  have HT := Lib.hid hT
  have HL := Lib.hid hl
  have HR := Lib.hid hr
  have HA := Lib.hid hA
  have HB := Lib.hid hB
  clear hT hl hr hA hB
  go_enter Tryd.func6, Tryd.ntmps6
  go_wp2_with (go_at_call 10; refine (parse_ok HL.out HT.out HA.out).mono ?_; rintro e w1 ⟨ba, rfl, hx1, hb1⟩; have HB1 := Lib.hid hb1; have HT1 := Lib.hid (HT.out.below hb1); have HX1 := Lib.hid hx1; clear hb1 hx1; refine Hid.out ?_)
  refine Lib.hid ?_
  go_upto_if 45 with (go_at_call 10; refine (parse_ok HR.out HT1.out HB.out).mono ?_; rintro e w2 ⟨bb, rfl, hx2, hb2⟩; have HB2 := Lib.hid (HB1.out.trans (hb2.mono HB1.out.size)); have HT2 := Lib.hid (HT1.out.below hb2); have HX2 := Lib.hid (And.intro (HX1.out.grow hb2) hx2); clear hb2 hx2)
  go_cut [2] (fun s2 wx => ∃ j : Int, s2 = .int .i64 j ∧ 0 ≤ j ∧ j ≤ 9223372036854775807 ∧ wx.heap[w2.heap.size]? = some opRow ∧ Below w2.heap.size w2 wx)
  case first =>
    by_cases hneg : op < 0
    · go_wp2_with fail
      go_meet
      exact ⟨_, rfl, by omega, by omega, heap_alloc_at _ rfl _, (Below.refl _ _).alloc (Nat.le_refl _) _⟩
    · go_wp2_with fail
      go_meet
      exact ⟨_, rfl, by omega, by omega, heap_alloc_at _ rfl _, (Below.refl _ _).alloc (Nat.le_refl _) _⟩
  case rest =>
    obtain ⟨j, rfl, j0, j1, hrow, hbw⟩ := hcut
    rename World => wx
    have HROW := Lib.hid hrow
    have HBW := Lib.hid hbw
    clear hrow hbw lo hi
    go_upto_region 8 with fail
    go_cut [20] (fun s20 wy => ∃ o : ByteArray, s20 = .string o ∧ o.data.toList ∈ ops ∧ wy = wx)
    case first =>
      have hcell := cell_of_heap HROW.out
      rcases ix13 j0 with h | h | h | h | h | h | h | h | h | h | h | h | h
      · have hc := hcell 0
        simp at hc
        clear hcell
        go_wp2_with fail
        go_meet
        exact ⟨_, rfl, by decide, rfl⟩
      · have hc := hcell 1
        simp at hc
        clear hcell
        go_wp2_with fail
        go_meet
        exact ⟨_, rfl, by decide, rfl⟩
      · have hc := hcell 2
        simp at hc
        clear hcell
        go_wp2_with fail
        go_meet
        exact ⟨_, rfl, by decide, rfl⟩
      · have hc := hcell 3
        simp at hc
        clear hcell
        go_wp2_with fail
        go_meet
        exact ⟨_, rfl, by decide, rfl⟩
      · have hc := hcell 4
        simp at hc
        clear hcell
        go_wp2_with fail
        go_meet
        exact ⟨_, rfl, by decide, rfl⟩
      · have hc := hcell 5
        simp at hc
        clear hcell
        go_wp2_with fail
        go_meet
        exact ⟨_, rfl, by decide, rfl⟩
      · have hc := hcell 6
        simp at hc
        clear hcell
        go_wp2_with fail
        go_meet
        exact ⟨_, rfl, by decide, rfl⟩
      · have hc := hcell 7
        simp at hc
        clear hcell
        go_wp2_with fail
        go_meet
        exact ⟨_, rfl, by decide, rfl⟩
      · have hc := hcell 8
        simp at hc
        clear hcell
        go_wp2_with fail
        go_meet
        exact ⟨_, rfl, by decide, rfl⟩
      · have hc := hcell 9
        simp at hc
        clear hcell
        go_wp2_with fail
        go_meet
        exact ⟨_, rfl, by decide, rfl⟩
      · have hc := hcell 10
        simp at hc
        clear hcell
        go_wp2_with fail
        go_meet
        exact ⟨_, rfl, by decide, rfl⟩
      · have hc := hcell 11
        simp at hc
        clear hcell
        go_wp2_with fail
        go_meet
        exact ⟨_, rfl, by decide, rfl⟩
      · have hc := hcell 12
        simp at hc
        clear hcell
        go_wp2_with fail
        go_meet
        exact ⟨_, rfl, by decide, rfl⟩
    case rest =>
      obtain ⟨o, rfl, ho, rfl⟩ := hcut
      have HT3 := Lib.hid (HT2.out.below HBW.out)
      have HX3 := Lib.hid (And.intro (HX2.out.1.grow HBW.out) (HX2.out.2.grow HBW.out))
      have HB3 := Lib.hid (HB2.out.trans (HBW.out.mono HB2.out.size))
      have HO := Lib.hid ho
      have o2 := op_size ho
      have l200 : l.size ≤ 200 := by simpa using (parse_run HA.out).1
      have r200 : r.size ≤ 200 := by simpa using (parse_run HB.out).1
      clear j0 j1 ho
      have c1 := cat_puts l o r
      obtain ⟨q, hq⟩ : ∃ q, (⟨#[40]⟩ : ByteArray) ++ l ++ ⟨#[41]⟩ ++ o ++ ⟨#[40, 32]⟩ ++ r ++ ⟨#[32, 41]⟩ = q := ⟨_, rfl⟩
      have hqs : q.size = 1 + l.size + 1 + o.size + 2 + r.size + 2 := by rw [← hq]; simp [ByteArray.size_append]; rfl
      rw [hq] at c1
      have Z : Hid (q.size ≤ maxLen) := Lib.hid (by unfold maxLen; omega)
      have PP : Hid _ := Lib.hid (parse_puts HA.out HB.out HO.out)
      rw [← c1] at PP
      clear c1 hqs
      rcases PP.out with ⟨_, hp⟩ | ⟨pos, k, hp, hk⟩
      · obtain ⟨qa, hqa⟩ : ∃ q, (⟨A.text.toArray⟩ : ByteArray) = q := ⟨_, rfl⟩
        obtain ⟨qb, hqb⟩ : ∃ q, (⟨B.text.toArray⟩ : ByteArray) = q := ⟨_, rfl⟩
        have sa := text_size A (parse_wf HA.out).1 (parse_wf HA.out).2
        have sb := text_size B (parse_wf HB.out).1 (parse_wf HB.out).2
        have hc := cat_bin A B o
        rw [hqa] at sa hc
        rw [hqb] at sb hc
        obtain ⟨qc, hqc⟩ : ∃ q, (⟨#[40]⟩ : ByteArray) ++ qa ++ ⟨#[32]⟩ ++ o ++ ⟨#[32]⟩ ++ qb ++ ⟨#[41]⟩ = q := ⟨_, rfl⟩
        rw [hqc] at hc
        have HQ := Lib.hid (And.intro hqa (And.intro hqb hc))
        obtain ⟨ya, hya⟩ : ∃ y, A.eval n t v = y := ⟨_, rfl⟩
        obtain ⟨yb, hyb⟩ : ∃ y, B.eval n t v = y := ⟨_, rfl⟩
        obtain ⟨x, hx⟩ : ∃ x, two o.data.toList ya yb = x := ⟨_, rfl⟩
        have hx2 : (Tree.bin o.data.toList A B).eval n t v = x := by rw [← hx, ← hya, ← hyb]; rfl
        have HE := Lib.hid (And.intro hya (And.intro hyb (And.intro hx hx2)))
        obtain ⟨za, hza⟩ : ∃ z : Int, (A.size : Int) = z := ⟨_, rfl⟩
        obtain ⟨zb, hzb⟩ : ∃ z : Int, (B.size : Int) = z := ⟨_, rfl⟩
        have a64 := (parse_wf HA.out).2
        have b64 := (parse_wf HB.out).2
        have za0 : 0 ≤ za := by omega
        have za1 : za ≤ 64 := by omega
        have zb0 : 0 ≤ zb := by omega
        have zb1 : zb ≤ 64 := by omega
        have hzc : ((Tree.bin o.data.toList A B).size : Int) = za + zb + 1 := by simp only [Tree.size]; omega
        have HZ := Lib.hid (And.intro hza (And.intro hzb hzc))
        have HP := Lib.hid hp
        clear hp PP hqa hqb hc hya hyb hx hx2 hza hzb hzc a64 b64
        go_wp2_with (go_at_call 10; refine (parse_ok Z.out HT3.out HP.out).mono ?_; rintro e w4 ⟨bc, rfl, hx4, hb4⟩; have HB4 := Lib.hid (HB3.out.trans (hb4.mono HB3.out.size)); have HT4 := Lib.hid (HT3.out.below hb4); have HX4 := Lib.hid (And.intro (HX3.out.1.grow hb4) (And.intro (HX3.out.2.grow hb4) hx4)); clear hb4 hx4; refine Hid.out ?_)
        refine Lib.hid ?_
        clear hq l200 r200
        go_wp2_with (first
          | (go_at_call 12; refine (awake_any HT4.out).mono ?_; rintro e w5 ⟨rfl, hb5⟩; have HB5 := Lib.hid (HB4.out.trans (hb5.mono HB4.out.size)); have HXA := Lib.hid (HX4.out.1.grow hb5); have HXB := Lib.hid (HX4.out.2.1.grow hb5); have HXC := Lib.hid (HX4.out.2.2.grow hb5); clear hb5)
          | (go_at_call 17; (with_reducible refine (eval_at HXC.out HE.out.2.2.2).mono ?_); rintro e w' ⟨rfl, m1, rfl⟩)
          | (go_at_call 17; (with_reducible refine (eval_at (HXA.out.drewN _) HE.out.1).mono ?_); rintro e w' ⟨rfl, m2, rfl⟩)
          | (go_at_call 17; (with_reducible refine (eval_at (HXB.out.drewN _) HE.out.2.1).mono ?_); rintro e w' ⟨rfl, m3, rfl⟩)
          | (go_at_call 19; refine (rtwo_at HO.out HE.out.2.2.1 _).mono ?_; rintro e w' ⟨rfl, rfl⟩)
          | (go_at_call 13; (with_reducible refine (text_at (HXC.out.drewN _) HQ.out.2.2).mono ?_); rintro e w' ⟨rfl, rfl⟩)
          | (go_at_call 13; (with_reducible refine (text_at (HXA.out.drewN _) HQ.out.1).mono ?_); rintro e w' ⟨rfl, rfl⟩)
          | (go_at_call 13; (with_reducible refine (text_at (HXB.out.drewN _) HQ.out.2.1).mono ?_); rintro e w' ⟨rfl, rfl⟩)
          | (go_at_call 15; (with_reducible refine (size_int (HXC.out.drewN _) HZ.out.2.2).mono ?_); rintro e w' ⟨rfl, rfl⟩)
          | (go_at_call 15; (with_reducible refine (size_int (HXA.out.drewN _) HZ.out.1).mono ?_); rintro e w' ⟨rfl, rfl⟩)
          | (go_at_call 15; (with_reducible refine (size_int (HXB.out.drewN _) HZ.out.2.1).mono ?_); rintro e w' ⟨rfl, rfl⟩))
        go_ret
        exact ⟨rfl, below_drewN HB5.out _⟩
      · have HP := Lib.hid hp
        clear hp PP
        rcases hk with rfl | rfl
        · go_wp2_with (first
            | (go_at_call 10; refine (parse_err Z.out HT3.out HP.out).mono ?_; rintro e w4 ⟨rfl, hb4⟩; have HB4 := Lib.hid (HB3.out.trans (hb4.mono HB3.out.size)); have HT4 := Lib.hid (HT3.out.below hb4); clear hb4)
            | (go_at_call 12; refine (awake_any HT4.out).mono ?_; rintro e w5 ⟨rfl, hb5⟩; have HB5 := Lib.hid (HB4.out.trans (hb5.mono HB4.out.size)); clear hb5))
          go_ret
          exact ⟨rfl, HB5.out⟩
        · go_wp2_with (first
            | (go_at_call 10; refine (parse_err Z.out HT3.out HP.out).mono ?_; rintro e w4 ⟨rfl, hb4⟩; have HB4 := Lib.hid (HB3.out.trans (hb4.mono HB3.out.size)); have HT4 := Lib.hid (HT3.out.below hb4); clear hb4)
            | (go_at_call 12; refine (awake_any HT4.out).mono ?_; rintro e w5 ⟨rfl, hb5⟩; have HB5 := Lib.hid (HB4.out.trans (hb5.mono HB4.out.size)); clear hb5))
          go_ret
          exact ⟨rfl, HB5.out⟩
set_option maxRecDepth 20000 in
set_option maxHeartbeats 2000000 in
theorem exprPuts_walk (l r : ByteArray) (op n t v : Int) (w : World) (hT : Tab w) (hl : l.size ≤ maxLen) (hr : r.size ≤ maxLen) (lo : -9223372036854775808 ≤ op) (hi : op ≤ 9223372036854775807) :
    Calls Tryd.prog 6 #[.string l, .string r, .int .i64 op, .int .i64 n, .int .i64 t, .int .i64 v] w fun e w' => e = .returned (.bool true) ∧ Below w.heap.size w w' := by
  cases hA : parse l.data.toList with
  | ok A =>
    cases hB : parse r.data.toList with
    | ok B => exact puts_ok l r op n t v w hT hl hr lo hi hA hB
    | err pos k =>
      obtain ⟨h1, h2⟩ := parse_errs hB
      have hk : k ≠ 0 := by omega
      have e1 : ((k : Int) == 0) = false := ne_beq (n := 0) hk
      have e2 : ((k : Int) != 0) = true := by simp [bne, e1]
      have HT := Lib.hid hT
      have HL := Lib.hid hl
      have HR := Lib.hid hr
      have HA := Lib.hid hA
      have HB := Lib.hid hB
      clear hT hl hr hA hB h1 h2
      go_enter Tryd.func6, Tryd.ntmps6
      go_wp2_with (first
        | (go_at_call 10; (with_reducible refine (parse_ok HL.out HT.out HA.out).mono ?_); rintro e w1 ⟨ba, rfl, hx1, hb1⟩; have HB1 := Lib.hid hb1; have HT1 := Lib.hid (HT.out.below hb1); clear hb1 hx1)
        | (go_at_call 10; (with_reducible refine (parse_err HR.out HT1.out HB.out).mono ?_); rintro e w2 ⟨rfl, hb2⟩; have HB2 := Lib.hid (HB1.out.trans (hb2.mono HB1.out.size)); have HT2 := Lib.hid (HT1.out.below hb2); clear hb2)
        | (go_at_call 12; refine (awake_any HT2.out).mono ?_; rintro e w3 ⟨rfl, hb3⟩; have HB3 := Lib.hid (HB2.out.trans (hb3.mono HB2.out.size)); clear hb3))
      go_ret
      exact ⟨rfl, HB3.out⟩
  | err pos k =>
    obtain ⟨h1, h2⟩ := parse_errs hA
    have hk : k ≠ 0 := by omega
    have e1 : ((k : Int) == 0) = false := ne_beq (n := 0) hk
    have e2 : ((k : Int) != 0) = true := by simp [bne, e1]
    have HT := Lib.hid hT
    have HL := Lib.hid hl
    have HR := Lib.hid hr
    have HA := Lib.hid hA
    clear hT hl hr hA h1 h2
    cases hB : parse r.data.toList with
    | ok B =>
      have HB := Lib.hid hB
      clear hB
      go_enter Tryd.func6, Tryd.ntmps6
      go_wp2_with (first
        | (go_at_call 10; (with_reducible refine (parse_err HL.out HT.out HA.out).mono ?_); rintro e w1 ⟨rfl, hb1⟩; have HB1 := Lib.hid hb1; have HT1 := Lib.hid (HT.out.below hb1); clear hb1)
        | (go_at_call 10; (with_reducible refine (parse_ok HR.out HT1.out HB.out).mono ?_); rintro e w2 ⟨bb, rfl, hx2, hb2⟩; have HB2 := Lib.hid (HB1.out.trans (hb2.mono HB1.out.size)); have HT2 := Lib.hid (HT1.out.below hb2); clear hb2 hx2)
        | (go_at_call 12; refine (awake_any HT2.out).mono ?_; rintro e w3 ⟨rfl, hb3⟩; have HB3 := Lib.hid (HB2.out.trans (hb3.mono HB2.out.size)); clear hb3))
      go_ret
      exact ⟨rfl, HB3.out⟩
    | err pos2 k2 =>
      have HB := Lib.hid hB
      clear hB
      go_enter Tryd.func6, Tryd.ntmps6
      go_wp2_with (first
        | (go_at_call 10; (with_reducible refine (parse_err HL.out HT.out HA.out).mono ?_); rintro e w1 ⟨rfl, hb1⟩; have HB1 := Lib.hid hb1; have HT1 := Lib.hid (HT.out.below hb1); clear hb1)
        | (go_at_call 10; (with_reducible refine (parse_err HR.out HT1.out HB.out).mono ?_); rintro e w2 ⟨rfl, hb2⟩; have HB2 := Lib.hid (HB1.out.trans (hb2.mono HB1.out.size)); have HT2 := Lib.hid (HT1.out.below hb2); clear hb2)
        | (go_at_call 12; refine (awake_any HT2.out).mono ?_; rintro e w3 ⟨rfl, hb3⟩; have HB3 := Lib.hid (HB2.out.trans (hb3.mono HB2.out.size)); clear hb3))
      go_ret
      exact ⟨rfl, HB3.out⟩
end Go.Proofs.YtlkaaembeakicaaDoor.Ex
