/-
  ExprBack's walk: an expression's text is read as it. Conditions: the library's table of powers holds what it was laid with.
-/
import Derived.Test.YtlkaaembeakicaaDoorELaid
import Derived.Test.YtlkaaembeakicaaDoorEText
namespace Go.Proofs.YtlkaaembeakicaaDoor.Ex
open Go.RowKit
theorem parse_wf {l : Bs} {T : Tree} (h : parse l = .ok T) : T.WF ∧ T.size ≤ 64 := by
  obtain ⟨-, s', r', hR, hE⟩ := parse_run h
  obtain ⟨i1, i2, -⟩ := run_inv hR init_inv.1 init_inv.2
  obtain ⟨e1, e2, e3⟩ := hE
  have hz := (err_zero e2).1
  simp [St.allows] at hz
  obtain ⟨T', hv, hwf, -, h64⟩ := fin_one i1 hz.1 hz.2
  rw [e3] at hv
  injection hv with hv _
  subst hv
  exact ⟨hwf, h64⟩
theorem text_size (T : Tree) (hw : T.WF) (hs : T.size ≤ 64) : (⟨T.text.toArray⟩ : ByteArray).size ≤ 1920 := by
  have := text_le hw
  have e : (⟨T.text.toArray⟩ : ByteArray).size = T.text.length := by simp [ByteArray.size]
  omega
theorem text_at {w : World} {b : Nat} {T : Tree} {q : ByteArray} (h : ExAt w b T) (hq : (⟨T.text.toArray⟩ : ByteArray) = q) : Calls Tryd.prog 13 #[ptr b] w fun e w' => e = .returned (.string q) ∧ w = w' := by subst hq; exact text_any h
theorem size_at {w : World} {b : Nat} {T : Tree} {z : Nat} (h : ExAt w b T) (hz : T.size = z) : Calls Tryd.prog 15 #[ptr b] w fun e w' => e = .returned (.int .i64 z) ∧ w = w' := by subst hz; exact size_any h
theorem eval_at {w : World} {b : Nat} {T : Tree} {n t v z : Int} (h : ExAt w b T) (hz : T.eval n t v = z) : Calls Tryd.prog 17 #[ptr b, .int .i64 n, .int .i64 t, .int .i64 v] w fun e w' => e = .returned (.int .i64 z) ∧ ∃ m, w' = w.drewN m := by subst hz; exact eval_any n t v h
theorem ExAt.drewN {w : World} {b : Nat} {T : Tree} (h : ExAt w b T) (m : Nat) : ExAt (w.drewN m) b T := h.grow ⟨rfl, rfl, rfl, Nat.le_refl _, fun _ _ => rfl⟩
set_option maxHeartbeats 2000000 in
theorem exprBack_walk (s : ByteArray) (n t v : Int) (w : World) (hT : Tab w) (hs : s.size ≤ maxLen) : Calls Tryd.prog 5 #[.string s, .int .i64 n, .int .i64 t, .int .i64 v] w fun e w' => e = .returned (.bool true) ∧ Below w.heap.size w w' := by
  have HT := Lib.hid hT
  have HS := Lib.hid hs
  unfold maxLen at hs
  clear hT
  cases hp : parse s.data.toList with
  | err pos k =>
    obtain ⟨h1, h2⟩ := parse_errs hp
    have hl : s.data.toList.length = s.size := by simp
    rw [hl] at h1
    have hk : k ≠ 0 := by omega
    have e1 : ((k : Int) == 0) = false := ne_beq (n := 0) hk
    have e2 : ((k : Int) != 0) = true := by simp [bne, e1]
    have HP := Lib.hid hp
    clear hp hl h2
    go_enter Tryd.func5, Tryd.ntmps5
    go_wp2_with (first
      | (go_at_call 10; refine (parse_err HS.out HT.out HP.out).mono ?_; rintro e w1 ⟨rfl, hb1⟩; have HB1 := Lib.hid hb1; have HT1 := Lib.hid (HT.out.below hb1); clear hb1)
      | (go_at_call 12; refine (awake_any HT1.out).mono ?_; rintro e w2 ⟨rfl, hb2⟩; have HB2 := Lib.hid (HB1.out.trans (hb2.mono HB1.out.size)); clear hb2))
    go_ret
    exact ⟨rfl, HB2.out⟩
  | ok T =>
    obtain ⟨hw, h64⟩ := parse_wf hp
    obtain ⟨q, hq⟩ : ∃ q, (⟨T.text.toArray⟩ : ByteArray) = q := ⟨_, rfl⟩
    have hz := text_size T hw h64
    rw [hq] at hz
    have hql : q.data.toList = T.text := by rw [← hq]
    have hqs : q.size = T.text.length := by rw [← hql]; simp
    have HP := Lib.hid hp
    have HQ := Lib.hid hq
    have HZM : Hid (q.size ≤ maxLen) := Lib.hid (by unfold maxLen; omega)
    obtain ⟨z, hzz⟩ : ∃ z, T.size = z := ⟨_, rfl⟩
    obtain ⟨y, hy⟩ : ∃ y, T.eval n t v = y := ⟨_, rfl⟩
    have HZZ := Lib.hid hzz
    have HY := Lib.hid hy
    by_cases h200 : 200 < T.text.length
    · have HP2 : Hid (parse q.data.toList = .err 0 2) := Lib.hid (by
        rw [hql]
        unfold parse; rw [if_pos h200])
      have h2 : 200 < q.size := by omega
      clear hp hw hql hqs hq hzz hy h200 h64
      go_enter Tryd.func5, Tryd.ntmps5
      go_wp2_with (go_at_call 10; refine (parse_ok HS.out HT.out HP.out).mono ?_; rintro e w1 ⟨b, rfl, hx1, hb1⟩; have HB1 := Lib.hid hb1; have HT1 := Lib.hid (HT.out.below hb1); have HX1 := Lib.hid hx1; clear hb1 hx1; refine Hid.out ?_)
      refine Lib.hid ?_
      go_wp2_with (first
        | (go_at_call 13; refine (text_at HX1.out HQ.out).mono ?_; rintro e w' ⟨rfl, rfl⟩)
        | (go_at_call 10; refine (parse_err HZM.out HT1.out HP2.out).mono ?_; rintro e w2 ⟨rfl, hb2⟩; have HB2 := Lib.hid (HB1.out.trans (hb2.mono HB1.out.size)); have HT2 := Lib.hid (HT1.out.below hb2); clear hb2)
        | (go_at_call 12; refine (awake_any HT2.out).mono ?_; rintro e w3 ⟨rfl, hb3⟩; have HB3 := Lib.hid (HB2.out.trans (hb3.mono HB2.out.size)); clear hb3))
      go_ret
      exact ⟨rfl, HB3.out⟩
    · have HP2 : Hid (parse q.data.toList = .ok T) := Lib.hid (by rw [hql]; exact parse_text hw h64 (by omega))
      have h2 : q.size ≤ 200 := by omega
      clear hp hw hql hqs hq hzz hy h200 h64
      go_enter Tryd.func5, Tryd.ntmps5
      go_wp2_with (go_at_call 10; refine (parse_ok HS.out HT.out HP.out).mono ?_; rintro e w1 ⟨b, rfl, hx1, hb1⟩; have HB1 := Lib.hid hb1; have HT1 := Lib.hid (HT.out.below hb1); have HX1 := Lib.hid hx1; clear hb1 hx1; refine Hid.out ?_)
      refine Lib.hid ?_
      go_wp2_with (first
        | (go_at_call 13; refine (text_at HX1.out HQ.out).mono ?_; rintro e w' ⟨rfl, rfl⟩)
        | (go_at_call 10; refine (parse_ok HZM.out HT1.out HP2.out).mono ?_; rintro e w2 ⟨b2, rfl, hx2, hb2⟩; have HB2 := Lib.hid (HB1.out.trans (hb2.mono HB1.out.size)); have HT2 := Lib.hid (HT1.out.below hb2); have HX2 := Lib.hid hx2; have HX12 := Lib.hid (HX1.out.grow hb2); clear hb2 hx2; refine Hid.out ?_))
      refine Lib.hid ?_
      go_wp2_with (first
        | (go_at_call 12; refine (awake_any HT2.out).mono ?_; rintro e w3 ⟨rfl, hb3⟩; have HB3 := Lib.hid (HB2.out.trans (hb3.mono HB2.out.size)); have HX3 := Lib.hid (HX2.out.grow hb3); have HX13 := Lib.hid (HX12.out.grow hb3); clear hb3)
        | (go_at_call 13; refine (text_at HX3.out HQ.out).mono ?_; rintro e w' ⟨rfl, rfl⟩)
        | (go_at_call 15; (with_reducible refine (size_at HX3.out HZZ.out).mono ?_); rintro e w' ⟨rfl, rfl⟩)
        | (go_at_call 15; refine (size_at HX13.out HZZ.out).mono ?_; rintro e w' ⟨rfl, rfl⟩)
        | (go_at_call 17; (with_reducible refine (eval_at HX3.out HY.out).mono ?_); rintro e w' ⟨rfl, m, rfl⟩)
        | (go_at_call 17; refine (eval_at (HX13.out.drewN m) HY.out).mono ?_; rintro e w' ⟨rfl, m', rfl⟩))
      go_ret
      exact ⟨rfl, below_drewN HB3.out _⟩
end Go.Proofs.YtlkaaembeakicaaDoor.Ex
