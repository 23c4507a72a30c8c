/-
  ExprSigns' walk: signs bind most; doubled they turn back. Conditions: the library's table of powers holds what it was laid with; the numbers are ints.
-/
import Derived.Test.YtlkaaembeakicaaDoorESign
namespace Go.Proofs.YtlkaaembeakicaaDoor.Ex
open Go.RowKit
theorem cat3 (a : Bs) (s : ByteArray) : ((⟨a.toArray⟩ : ByteArray) ++ s ++ ⟨#[41]⟩).data.toList = a ++ (s.data.toList ++ [41]) := by simp
set_option maxRecDepth 20000 in
set_option maxHeartbeats 2000000 in
theorem exprSigns_walk (s : ByteArray) (n t v : Int) (w : World) (hT : Tab w) (hs : s.size ≤ maxLen) (ln : -9223372036854775808 ≤ n) (un : n ≤ 9223372036854775807) (lt : -9223372036854775808 ≤ t) (ut : t ≤ 9223372036854775807) (lv : -9223372036854775808 ≤ v) (uv : v ≤ 9223372036854775807) :
    Calls Tryd.prog 9 #[.string s, .int .i64 n, .int .i64 t, .int .i64 v] w fun e w' => e = .returned (.bool true) ∧ Below w.heap.size w w' := by
  have HT := Lib.hid hT
  have HS := Lib.hid hs
  unfold maxLen at hs
  have HF : Hid (Fits n ∧ Fits t ∧ Fits v) := Lib.hid ⟨⟨ln, un⟩, ⟨lt, ut⟩, ⟨lv, uv⟩⟩
  clear hT ln un lt ut lv uv
  cases hp : parse s.data.toList with
  | err pos k =>
    obtain ⟨h1, h2⟩ := parse_errs hp
    have hk : k ≠ 0 := by omega
    have e1 : ((k : Int) == 0) = false := ne_beq (n := 0) hk
    have e2 : ((k : Int) != 0) = true := by simp [bne, e1]
    have HP := Lib.hid hp
    clear hp h2 h1
    go_enter Tryd.func9, Tryd.ntmps9
    go_wp2_with (first
      | (go_at_call 10; refine (parse_err HS.out HT.out HP.out).mono ?_; rintro e w1 ⟨rfl, hb1⟩; have HB1 := Lib.hid hb1; have HT1 := Lib.hid (HT.out.below hb1); clear hb1)
      | (go_at_call 12; refine (awake_any HT1.out).mono ?_; rintro e w2 ⟨rfl, hb2⟩; have HB2 := Lib.hid (HB1.out.trans (hb2.mono HB1.out.size)); clear hb2))
    go_ret
    exact ⟨rfl, HB2.out⟩
  | ok T =>
    have HP := Lib.hid hp
    by_cases h190 : 190 < s.size
    · clear hp
      go_enter Tryd.func9, Tryd.ntmps9
      go_wp2_with (first
        | (go_at_call 10; refine (parse_ok HS.out HT.out HP.out).mono ?_; rintro e w1 ⟨b, rfl, hx1, hb1⟩; have HB1 := Lib.hid hb1; have HT1 := Lib.hid (HT.out.below hb1); clear hb1 hx1)
        | (go_at_call 12; refine (awake_any HT1.out).mono ?_; rintro e w2 ⟨rfl, hb2⟩; have HB2 := Lib.hid (HB1.out.trans (hb2.mono HB1.out.size)); clear hb2))
      go_ret
      exact ⟨rfl, HB2.out⟩
    · have hl : s.data.toList.length ≤ 190 := by simp; omega
      obtain ⟨a1, a2⟩ := parse_signs hp hl (t := [45]) (.inl rfl)
      obtain ⟨b1, b2⟩ := parse_signs hp hl (t := [33]) (.inr rfl)
      have c1 := cat3 [45, 45, 40] s
      have c2 := cat3 [33, 33, 40] s
      obtain ⟨q1, hq1⟩ : ∃ q, (⟨#[45, 45, 40]⟩ : ByteArray) ++ s ++ ⟨#[41]⟩ = q := ⟨_, rfl⟩
      obtain ⟨q2, hq2⟩ : ∃ q, (⟨#[33, 33, 40]⟩ : ByteArray) ++ s ++ ⟨#[41]⟩ = q := ⟨_, rfl⟩
      rw [hq1] at c1
      rw [hq2] at c2
      have z1 : q1.size ≤ 200 := by have := congrArg List.length c1; simp at this; omega
      have z2 : q2.size ≤ 200 := by have := congrArg List.length c2; simp at this; omega
      have Z1 : Hid (q1.size ≤ maxLen) := Lib.hid (by unfold maxLen; omega)
      have Z2 : Hid (q2.size ≤ maxLen) := Lib.hid (by unfold maxLen; omega)
      by_cases h64 : T.size + 2 ≤ 64
      · have P1 : Hid (parse q1.data.toList = _) := Lib.hid ((congrArg parse c1).trans (a1 h64))
        have P2 : Hid (parse q2.data.toList = _) := Lib.hid ((congrArg parse c2).trans (b1 h64))
        have hf := fits_eval HF.out.1 HF.out.2.1 HF.out.2.2 (parse_wf hp).1
        have hn1 : (Tree.pre [45] (.pre [45] T)).eval n t v = T.eval n t v := by
          simp only [Tree.eval]
          rw [if_neg (by decide), if_neg (by decide)]
          exact neg_neg hf
        have hn2 : (Tree.pre [33] (.pre [33] T)).eval n t v = if T.eval n t v = 0 then 0 else 1 := by
          simp only [Tree.eval, if_true]
          exact not_not _
        by_cases hx0 : T.eval n t v = 0
        · rw [hx0, if_pos rfl] at hn2
          rw [hx0] at hn1
          have HE := Lib.hid (And.intro hx0 (And.intro hn1 hn2))
          clear hp hl a1 a2 b1 b2 c1 c2 h64 hf hn1 hn2 hx0
          go_enter Tryd.func9, Tryd.ntmps9
          go_wp2_with (go_at_call 10; refine (parse_ok HS.out HT.out HP.out).mono ?_; rintro e w1 ⟨b, rfl, hx1, hb1⟩; have HB1 := Lib.hid hb1; have HT1 := Lib.hid (HT.out.below hb1); have HX1 := Lib.hid hx1; clear hb1 hx1; refine Hid.out ?_)
          refine Lib.hid ?_
          go_wp2_with (go_at_call 10; refine (parse_ok Z1.out HT1.out P1.out).mono ?_; rintro e w2 ⟨ba, rfl, hx2, hb2⟩; have HB2 := Lib.hid (HB1.out.trans (hb2.mono HB1.out.size)); have HT2 := Lib.hid (HT1.out.below hb2); have HX2 := Lib.hid (And.intro (HX1.out.grow hb2) hx2); clear hb2 hx2; refine Hid.out ?_)
          refine Lib.hid ?_
          go_wp2_with (go_at_call 10; refine (parse_ok Z2.out HT2.out P2.out).mono ?_; rintro e w3 ⟨bb, rfl, hx3, hb3⟩; have HB3 := Lib.hid (HB2.out.trans (hb3.mono HB2.out.size)); have HT3 := Lib.hid (HT2.out.below hb3); have HX3 := Lib.hid (And.intro (HX2.out.1.grow hb3) (And.intro (HX2.out.2.grow hb3) hx3)); clear hb3 hx3; refine Hid.out ?_)
          refine Lib.hid ?_
          go_wp2_with (go_at_call 17; refine (eval_at HX3.out.1 HE.out.1).mono ?_; rintro e w' ⟨rfl, m1, rfl⟩; refine Hid.out ?_)
          refine Lib.hid ?_
          go_wp2_with (go_at_call 17; refine (eval_at (HX3.out.2.2.drewN m1) HE.out.2.2).mono ?_; rintro e w' ⟨rfl, m2, rfl⟩; refine Hid.out ?_)
          refine Lib.hid ?_
          have hbd : Below w3.heap.size w3 ((w3.drewN m1).drewN m2) := below_drewN (below_drewN (Below.refl _ _) _) _
          have HT4 := Lib.hid (HT3.out.below hbd)
          have HX4 := Lib.hid (HX3.out.2.1.grow hbd)
          have HB4 := Lib.hid (HB3.out.trans (hbd.mono HB3.out.size))
          clear hbd
          simp only [World.drewN_drewN] at HT4 HX4 HB4
          go_wp2_with (first
            | (go_at_call 12; refine (awake_any HT4.out).mono ?_; rintro e w5 ⟨rfl, hb5⟩; have HB5 := Lib.hid (HB4.out.trans (hb5.mono HB4.out.size)); have HX5 := Lib.hid (HX4.out.grow hb5); clear hb5)
            | (go_at_call 17; refine (eval_at HX5.out HE.out.2.1).mono ?_; rintro e w' ⟨rfl, m3, rfl⟩))
          go_ret
          exact ⟨rfl, below_drewN HB5.out _⟩
        · rw [if_neg hx0] at hn2
          obtain ⟨x, hx⟩ : ∃ x, T.eval n t v = x := ⟨_, rfl⟩
          rw [hx] at hn1 hx0
          have e0 : (x == 0) = false := by simpa using hx0
          have e1 : (x != 0) = true := by simp [bne, e0]
          have HE := Lib.hid (And.intro hx (And.intro hn1 hn2))
          clear hp hl a1 a2 b1 b2 c1 c2 h64 hf hn1 hn2 hx hx0
          go_enter Tryd.func9, Tryd.ntmps9
          go_wp2_with (go_at_call 10; refine (parse_ok HS.out HT.out HP.out).mono ?_; rintro e w1 ⟨b, rfl, hx1, hb1⟩; have HB1 := Lib.hid hb1; have HT1 := Lib.hid (HT.out.below hb1); have HX1 := Lib.hid hx1; clear hb1 hx1; refine Hid.out ?_)
          refine Lib.hid ?_
          go_wp2_with (go_at_call 10; refine (parse_ok Z1.out HT1.out P1.out).mono ?_; rintro e w2 ⟨ba, rfl, hx2, hb2⟩; have HB2 := Lib.hid (HB1.out.trans (hb2.mono HB1.out.size)); have HT2 := Lib.hid (HT1.out.below hb2); have HX2 := Lib.hid (And.intro (HX1.out.grow hb2) hx2); clear hb2 hx2; refine Hid.out ?_)
          refine Lib.hid ?_
          go_wp2_with (go_at_call 10; refine (parse_ok Z2.out HT2.out P2.out).mono ?_; rintro e w3 ⟨bb, rfl, hx3, hb3⟩; have HB3 := Lib.hid (HB2.out.trans (hb3.mono HB2.out.size)); have HT3 := Lib.hid (HT2.out.below hb3); have HX3 := Lib.hid (And.intro (HX2.out.1.grow hb3) (And.intro (HX2.out.2.grow hb3) hx3)); clear hb3 hx3; refine Hid.out ?_)
          refine Lib.hid ?_
          go_wp2_with (go_at_call 17; refine (eval_at HX3.out.1 HE.out.1).mono ?_; rintro e w' ⟨rfl, m1, rfl⟩; refine Hid.out ?_)
          refine Lib.hid ?_
          go_wp2_with (go_at_call 17; refine (eval_at (HX3.out.2.2.drewN m1) HE.out.2.2).mono ?_; rintro e w' ⟨rfl, m2, rfl⟩; refine Hid.out ?_)
          refine Lib.hid ?_
          have hbd : Below w3.heap.size w3 ((w3.drewN m1).drewN m2) := below_drewN (below_drewN (Below.refl _ _) _) _
          have HT4 := Lib.hid (HT3.out.below hbd)
          have HX4 := Lib.hid (HX3.out.2.1.grow hbd)
          have HB4 := Lib.hid (HB3.out.trans (hbd.mono HB3.out.size))
          clear hbd
          simp only [World.drewN_drewN] at HT4 HX4 HB4
          go_wp2_with (first
            | (go_at_call 12; refine (awake_any HT4.out).mono ?_; rintro e w5 ⟨rfl, hb5⟩; have HB5 := Lib.hid (HB4.out.trans (hb5.mono HB4.out.size)); have HX5 := Lib.hid (HX4.out.grow hb5); clear hb5)
            | (go_at_call 17; refine (eval_at HX5.out HE.out.2.1).mono ?_; rintro e w' ⟨rfl, m3, rfl⟩))
          go_ret
          exact ⟨rfl, below_drewN HB5.out _⟩
      · obtain ⟨p1, a3⟩ := a2 (by omega)
        obtain ⟨p2, b3⟩ := b2 (by omega)
        have P1 : Hid (parse q1.data.toList = .err p1 5) := Lib.hid ((congrArg parse c1).trans a3)
        have P2 : Hid (parse q2.data.toList = .err p2 5) := Lib.hid ((congrArg parse c2).trans b3)
        clear hp hl a1 a2 b1 b2 c1 c2 h64 a3 b3
        go_enter Tryd.func9, Tryd.ntmps9
        go_wp2_with (go_at_call 10; refine (parse_ok HS.out HT.out HP.out).mono ?_; rintro e w1 ⟨b, rfl, hx1, hb1⟩; have HB1 := Lib.hid hb1; have HT1 := Lib.hid (HT.out.below hb1); clear hb1 hx1; refine Hid.out ?_)
        refine Lib.hid ?_
        go_wp2_with (go_at_call 10; refine (parse_err Z1.out HT1.out P1.out).mono ?_; rintro e w2 ⟨rfl, hb2⟩; have HB2 := Lib.hid (HB1.out.trans (hb2.mono HB1.out.size)); have HT2 := Lib.hid (HT1.out.below hb2); clear hb2; refine Hid.out ?_)
        refine Lib.hid ?_
        go_wp2_with (first
          | (go_at_call 10; refine (parse_err Z2.out HT2.out P2.out).mono ?_; rintro e w3 ⟨rfl, hb3⟩; have HB3 := Lib.hid (HB2.out.trans (hb3.mono HB2.out.size)); have HT3 := Lib.hid (HT2.out.below hb3); clear hb3)
          | (go_at_call 12; refine (awake_any HT3.out).mono ?_; rintro e w4 ⟨rfl, hb4⟩; have HB4 := Lib.hid (HB3.out.trans (hb4.mono HB3.out.size)); clear hb4))
        go_ret
        exact ⟨rfl, HB4.out⟩
end Go.Proofs.YtlkaaembeakicaaDoor.Ex
