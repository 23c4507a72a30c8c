/-
  PlanBlanks's walk: a text with blanks put in is parsed as the same plan. Conditions: the library's tables hold what they were laid with; a variable of bytealg is a number.
-/
import Derived.Test.YtogcickcodlepaaGreatDoorJP9
import Derived.Test.YtogcickcodlepaaGreatDoorJP10
namespace Go.Proofs.YtogcickcodlepaaGreatDoor.Pl
open Go.RowKit Go.Proofs.YtogcickcodlepaaGreatDoor.Ex

theorem PlnAt.empty (w : World) : PlnAt w (.agg #[.slice none 0 0, .slice none 0 0]) ⟨[], []⟩ := by
  refine ⟨_, _, [], rfl, ⟨none, 0, rfl, Nat.le_refl _, Nat.zero_le _, Nat.zero_le _, fun h => absurd rfl h⟩, ⟨⟨none, 0, rfl, Nat.le_refl _, Nat.zero_le _, Nat.zero_le _, fun h => absurd rfl h⟩, fun q hq => by cases hq⟩, rfl⟩
/-- A plan's value, its rows named. -/
theorem PlnAt.two {w : World} {v : Value} {p : Pln} (h : PlnAt w v p) : ∃ a n c b m d, v = .agg #[.slice a n c, .slice b m d] := by
  obtain ⟨vt, vf, es, rfl, ht, hf, _⟩ := h
  obtain ⟨a, c, rfl⟩ := ht.val
  obtain ⟨b, d, rfl⟩ := hf.1.val
  exact ⟨_, _, _, _, _, _, rfl⟩
theorem str_app (x y : Bs) : ((⟨x.toArray⟩ : ByteArray) ++ (⟨y.toArray⟩ : ByteArray)) = ⟨(x ++ y).toArray⟩ := by
  apply ByteArray.ext
  simp [ByteArray.data_append]
theorem ext_one (s : ByteArray) (k : Nat) (h : k < s.size) : s.extract k (k + 1) = ⟨[s[k]].toArray⟩ := by
  apply ByteArray.ext
  rw [ByteArray.data_extract]
  have h2 : k < s.data.size := h
  apply Array.ext'
  simp only [Array.toList_extract]
  rw [List.extract_eq_take_drop, show k + 1 - k = 1 by omega, List.drop_eq_getElem_cons (by simpa using h2)]
  rfl
def PRes.line : PRes → Nat
  | .ok _ => 0
  | .err l _ => l
def PRes.num : PRes → Int
  | .ok _ => 0
  | .err _ e => e
def PRes.plan : PRes → Pln
  | .ok p => p
  | .err _ _ => ⟨[], []⟩
theorem pparse_any {s : ByteArray} {w : World} {R : PRes} (h : Lb w) (hp : parsePlan s.data.toList = R) : Calls Tryz.prog 13 #[.string s] w fun e w' => ∃ v, e = .returned (.tuple #[v, .int .i64 R.line, .int .i64 R.num]) ∧ PlnAt w' v R.plan ∧ Below w.heap.size w w' := by
  cases R with
  | ok p => exact pparse_ok h hp
  | err l e =>
    refine (pparse_err h hp).mono ?_
    rintro x w' ⟨he, hb⟩
    exact ⟨_, he, PlnAt.empty w', hb⟩
set_option maxRecDepth 20000 in
set_option maxHeartbeats 4000000 in
theorem planBlanks_walk (s : ByteArray) (at_ : Int) (w : World) (hL : Lb w) (hs : s.size ≤ maxLen) : Calls Tryz.prog 6 #[.string s, .int .i64 at_] w fun e w' => e = .returned (.bool true) ∧ Below w.heap.size w w' := by
  by_cases hbig : 2000 < s.size
  · have hb : (2000 : Int) < (s.size : Int) := by omega
    go_enter Tryz.func6, Tryz.ntmps6
    go_wp2
    go_ret
    exact ⟨rfl, Below.refl _ _⟩
  have hb : ¬ (2000 : Int) < (s.size : Int) := by omega
  obtain ⟨t, ht⟩ : ∃ t, s.data.toList = t := ⟨_, rfl⟩
  have htl : t.length = s.size := by rw [← ht]; simp
  obtain ⟨wf, hwf⟩ : ∃ x, wfin at_ 0 0 t = x := ⟨_, rfl⟩
  obtain ⟨wh, hwh⟩ : ∃ x, 32 :: 32 :: mtail at_ 0 t = x := ⟨_, rfl⟩
  have hpb := parse_blanks at_ t (by omega)
  rw [hwh, hwf] at hpb
  have hwl : wh.length ≤ 4007 := by
    have := mtail_len at_ t 0
    rw [← hwh]
    simp only [List.length_cons]
    split at this <;> omega
  have HWL := Lib.hid hwl
  have HTL := Lib.hid htl
  have HW0 : Hid ([32, 32] ++ mtail at_ 0 (t.drop 0) = wh) := Lib.hid (by simpa using hwh)
  have HF0 : Hid (wfin at_ 0 0 (t.drop 0) = wf) := Lib.hid (by simpa using hwf)
  have HL := Lib.hid hL
  clear hL hwl hwh hwf hs hbig
  obtain ⟨R, hR⟩ : ∃ R, parsePlan t = R := ⟨_, rfl⟩
  rw [hR] at hpb
  have hl1 : R.line ≤ 4097 := by
    cases R with
    | ok p => exact Nat.zero_le _
    | err l e => exact parse_line (by omega) hR
  obtain ⟨l, hl⟩ : ∃ l, R.line = l := ⟨_, rfl⟩
  obtain ⟨E, hE⟩ : ∃ E, R.num = E := ⟨_, rfl⟩
  obtain ⟨P, hP⟩ : ∃ P, R.plan = P := ⟨_, rfl⟩
  have hC1 : Calls Tryz.prog 13 #[.string s] w fun e w' => ∃ v, e = .returned (.tuple #[v, .int .i64 l, .int .i64 E]) ∧ PlnAt w' v P ∧ Below w.heap.size w w' := by
    rw [← hl, ← hE, ← hP]; exact pparse_any HL.out (by rw [ht]; exact hR)
  have hC2 : ∀ W, Lb W → Calls Tryz.prog 13 #[sv wh] W fun e w' => ∃ v, e = .returned (.tuple #[v, .int .i64 (rise wf l), .int .i64 E]) ∧ PlnAt w' v P ∧ Below W.heap.size W w' := fun W hW => by
    have e1 : (R.rise wf).line = rise wf l := by rw [← hl]; cases R <;> simp [PRes.rise, PRes.line, rise_zero]
    have e2 : (R.rise wf).num = E := by rw [← hE]; cases R <;> rfl
    have e3 : (R.rise wf).plan = P := by rw [← hP]; cases R <;> rfl
    have := pparse_any (s := ⟨wh.toArray⟩) hW hpb
    rw [e1, e2, e3] at this
    exact this
  have HC1 := Lib.hid hC1
  have HC2 := Lib.hid hC2
  have HT := Lib.hid ht
  rw [hl] at hl1
  clear hpb hC1 hC2 ht hR hl hE hP R
  go_enter Tryz.func6, Tryz.ntmps6
  go_wp2_with (go_at_call 13; refine HC1.out.mono ?_; rintro e w1 ⟨v, rfl, hp1, hb1⟩; obtain ⟨a, n1, c, b, m1, d, rfl⟩ := hp1.two; have HP1 := Lib.hid hp1; have HB1 := Lib.hid hb1; clear hp1 hb1)
  generalize hW1 : w1.alloc (.cells #[.slice a n1 c, .slice b m1 d] 25) = W1
  have hx : PBox W1 w1.heap.size (.slice a n1 c) (.slice b m1 d) := by rw [← hW1]; exact heap_alloc_new w1 _
  have hbw : Below w1.heap.size w1 W1 := by rw [← hW1]; exact (Below.refl _ _).alloc (Nat.le_refl _) _
  have HX := Lib.hid hx
  have HL1 := Lib.hid ((HL.out.below HB1.out).below hbw)
  have HP2 := Lib.hid (HP1.out.grow hbw)
  have HB2 := Lib.hid (HB1.out.trans (hbw.mono HB1.out.size))
  clear hx hbw hW1 HP1 HB1 HL HC1
  go_loopw [8, 9, 10, 11] (fun x y z i wr => ∃ (k n wh2 : Nat) (mo : Bs), k ≤ s.size ∧ x = sv mo ∧ y = .int .i64 wh2 ∧ z = .int .i64 n ∧ i = .int .i64 k ∧ n ≤ k ∧ Hid (mo ++ mtail at_ n (t.drop k) = wh) ∧ Hid (wfin at_ n wh2 (t.drop k) = wf) ∧ W1 = wr) (fun _ _ _ i _ => s.size - (intOf i).toNat)
  case atStart => exact ⟨0, 0, 0, [32, 32], Nat.zero_le _, rfl, rfl, rfl, rfl, Nat.le_refl _, HW0, HF0, rfl⟩
  case round =>
    obtain ⟨k, n, wh2, mo, hk, rfl, rfl, rfl, rfl, hnk, hr, hf, rfl⟩ := hrel
    by_cases hlt : k < s.size
    · have hkl : k < t.length := by rw [HTL.out]; exact hlt
      have hd : t.drop k = t[k] :: t.drop (k + 1) := List.drop_eq_getElem_cons hkl
      have g0 : (0 : Int) ≤ (k : Int) := by omega
      have g1 : (k : Int) < (s.size : Int) := by omega
      have ec : t[k] = s[k] := by
        have e := HT.out
        subst e
        rfl
      have hmo : mo.length ≤ 4007 := by
        have h1 := congrArg List.length hr.out
        rw [List.length_append] at h1
        have := HWL.out
        omega
      have z1 : ¬ 9223372036854775807 < mo.length + (min (k + 1) s.size - k) := by omega
      have z2 : ¬ 9223372036854775807 < mo.length + (min (k + 1) s.size - k) + 1 := by omega
      have z3 : ¬ 9223372036854775807 < mo.length + (min (k + 1) s.size - k) + 2 := by omega
      have z4 : ¬ 9223372036854775807 < mo.length + (min (k + 1) s.size - k) + 2 + 1 := by omega
      have e1 := ext_one s k hlt
      obtain ⟨ch, hch⟩ : ∃ ch, s[k] = ch := ⟨_, rfl⟩
      rw [hd, ec, hch] at hr hf
      rw [hch] at e1
      have HE1 := Lib.hid e1
      clear e1 hd ec hmo hkl
      by_cases h10 : ch = 10
      · have f1 : ((s[k].toNat : Int) == 10) = true := by rw [hch, h10]; rfl
        by_cases hat : ((n + 1 : Nat) : Int) = at_
        · have f2 : (((n : Int) + 1) == at_) = true := by simp; omega
          have hr2 : Hid ((mo ++ [10] ++ [32, 10] ++ [32]) ++ mtail at_ (n + 1) (t.drop (k + 1)) = wh) := Lib.hid (by
            have h := hr.out
            simp only [mtail, if_pos h10, if_pos hat] at h
            rw [← h]; simp)
          have hf2 : Hid (wfin at_ (n + 1) (n + 1) (t.drop (k + 1)) = wf) := Lib.hid (by
            have h := hf.out
            simp only [wfin, if_pos h10, if_pos hat] at h
            exact h)
          clear hr hf hat
          go_wp2
          go_roundw
          case rel => exact ⟨k + 1, n + 1, n + 1, mo ++ [10] ++ [32, 10] ++ [32], by omega, by rw [HE1.out, h10]; exact congrArg Value.string (by apply ByteArray.ext; simp [ByteArray.data_append]), by go_num, by go_num, by go_num, by omega, hr2, hf2, trivial⟩
          case measure => simp [intOf]; omega
        · have f2 : (((n : Int) + 1) == at_) = false := by simp; omega
          have hr2 : Hid ((mo ++ [10] ++ [32]) ++ mtail at_ (n + 1) (t.drop (k + 1)) = wh) := Lib.hid (by
            have h := hr.out
            simp only [mtail, if_pos h10, if_neg hat] at h
            rw [← h]; simp)
          have hf2 : Hid (wfin at_ (n + 1) wh2 (t.drop (k + 1)) = wf) := Lib.hid (by
            have h := hf.out
            simp only [wfin, if_pos h10, if_neg hat] at h
            exact h)
          clear hr hf hat
          go_wp2
          go_roundw
          case rel => exact ⟨k + 1, n + 1, wh2, mo ++ [10] ++ [32], by omega, by rw [HE1.out, h10]; exact congrArg Value.string (by apply ByteArray.ext; simp [ByteArray.data_append]), rfl, by go_num, by go_num, by omega, hr2, hf2, trivial⟩
          case measure => simp [intOf]; omega
      · have f1 : ((ch.toNat : Int) == 10) = false := by
          have : ch.toNat ≠ 10 := fun h => h10 (UInt8.toNat_inj.1 (by rw [h]; rfl))
          simp; omega
        have hr2 : Hid ((mo ++ [ch]) ++ mtail at_ n (t.drop (k + 1)) = wh) := Lib.hid (by
          have h := hr.out
          simp only [mtail, if_neg h10] at h
          rw [← h]; simp)
        have hf2 : Hid (wfin at_ n wh2 (t.drop (k + 1)) = wf) := Lib.hid (by
          have h := hf.out
          simp only [wfin, if_neg h10] at h
          exact h)
        clear hr hf
        go_wp2
        go_roundw
        case rel => exact ⟨k + 1, n, wh2, mo ++ [ch], by omega, by rw [HE1.out]; exact congrArg Value.string (by apply ByteArray.ext; simp [ByteArray.data_append]), rfl, rfl, by go_num, by omega, hr2, hf2, trivial⟩
        case measure => simp [intOf]; omega
    · have hkn : k = s.size := by omega
      have hdr : t.drop k = [] := by rw [List.drop_eq_nil_iff, HTL.out]; omega
      have e1 : mo ++ [32] = wh := by have h := hr.out; rw [hdr] at h; exact h
      have e2 : wh2 = wf := by have h := hf.out; rw [hdr] at h; exact h
      have z1 : ¬ 9223372036854775807 < mo.length + 1 := by
        have h1 := congrArg List.length e1
        rw [List.length_append] at h1
        have := HWL.out
        omega
      subst e2
      have HST : Hid ((⟨mo.toArray⟩ : ByteArray) ++ ⟨#[32]⟩ = ⟨wh.toArray⟩) := Lib.hid (by rw [show (⟨#[32]⟩ : ByteArray) = ⟨[32].toArray⟩ from rfl, str_app, e1])
      clear hr hf e1 hdr hkn
      by_cases hri : 0 < wh2 ∧ wh2 < l
      · have er : rise wh2 l = l + 1 := if_pos hri
        rw [er] at HC2
        obtain ⟨r1, r2⟩ := hri
        have i1 : (0 : Int) < (wh2 : Int) := by omega
        have i2 : (wh2 : Int) < (l : Int) := by omega
        go_wp2_with (first | (go_at_call 13; rw [HST.out]; refine (HC2.out _ HL1.out).mono ?_; rintro e w2 ⟨v2, rfl, hp2, hb2⟩; obtain ⟨a2, n2, c2, b2, m2, d2, rfl⟩ := hp2.two; have HX2 := Lib.hid (HX.out.grow hb2); have HP3 := Lib.hid (HP2.out.grow hb2); have HP4 := Lib.hid hp2; have HB3 := Lib.hid (HB2.out.trans (hb2.mono HB2.out.size)); have HL2 := Lib.hid (HL1.out.below hb2); clear hp2 hb2; refine Hid.out ?_))
        obtain ⟨W3, hW3⟩ : ∃ W3, w2.alloc (.cells #[.slice a2 n2 c2, .slice b2 m2 d2] 25) = W3 := ⟨_, rfl⟩
        have hx2 : PBox W3 w2.heap.size (.slice a2 n2 c2) (.slice b2 m2 d2) := by rw [← hW3]; exact heap_alloc_new w2 _
        have hbw : Below w2.heap.size w2 W3 := by rw [← hW3]; exact (Below.refl _ _).alloc (Nat.le_refl _) _
        have HY := Lib.hid hx2
        have HX3 := Lib.hid (HX2.out.grow hbw)
        have HL3 := Lib.hid (HL2.out.below hbw)
        have HQ1 := Lib.hid (HP3.out.grow hbw)
        have HQ2 := Lib.hid (HP4.out.grow hbw)
        have HB4 := Lib.hid (HB3.out.trans (hbw.mono HB3.out.size))
        clear hx2 hbw HX2 HL2 HP3 HP4 HB3
        refine Lib.hid ?_
        go_wp2_with (first
          | (go_at_call 11; refine (awake_any HL3.out).mono ?_; rintro e w4 ⟨rfl, hb4⟩; obtain ⟨x0, x1⟩ := (HX3.out.grow hb4).cells; obtain ⟨y0, y1⟩ := (HY.out.grow hb4).cells; have HR1 := Lib.hid (HQ1.out.grow hb4); have HR2 := Lib.hid (HQ2.out.grow hb4); have HB5 := Lib.hid (HB4.out.trans (hb4.mono HB4.out.size)); clear hb4)
          | (go_at_call 12; refine (same_yes HR1.out HR2.out).mono ?_; rintro e w5 ⟨rfl, hb5⟩; have HB6 := Lib.hid (HB5.out.trans (hb5.mono HB5.out.size)); clear hb5))
        go_ret
        exact ⟨rfl, HB6.out⟩
      · have er : rise wh2 l = l := if_neg hri
        rw [er] at HC2
        by_cases r1 : 0 < wh2
        · have i1 : (0 : Int) < (wh2 : Int) := by omega
          have i2 : ¬ (wh2 : Int) < (l : Int) := by omega
          clear hri
          go_wp2_with (first | (go_at_call 13; rw [HST.out]; refine (HC2.out _ HL1.out).mono ?_; rintro e w2 ⟨v2, rfl, hp2, hb2⟩; obtain ⟨a2, n2, c2, b2, m2, d2, rfl⟩ := hp2.two; have HX2 := Lib.hid (HX.out.grow hb2); have HP3 := Lib.hid (HP2.out.grow hb2); have HP4 := Lib.hid hp2; have HB3 := Lib.hid (HB2.out.trans (hb2.mono HB2.out.size)); have HL2 := Lib.hid (HL1.out.below hb2); clear hp2 hb2; refine Hid.out ?_))
          obtain ⟨W3, hW3⟩ : ∃ W3, w2.alloc (.cells #[.slice a2 n2 c2, .slice b2 m2 d2] 25) = W3 := ⟨_, rfl⟩
          have hx2 : PBox W3 w2.heap.size (.slice a2 n2 c2) (.slice b2 m2 d2) := by rw [← hW3]; exact heap_alloc_new w2 _
          have hbw : Below w2.heap.size w2 W3 := by rw [← hW3]; exact (Below.refl _ _).alloc (Nat.le_refl _) _
          have HY := Lib.hid hx2
          have HX3 := Lib.hid (HX2.out.grow hbw)
          have HL3 := Lib.hid (HL2.out.below hbw)
          have HQ1 := Lib.hid (HP3.out.grow hbw)
          have HQ2 := Lib.hid (HP4.out.grow hbw)
          have HB4 := Lib.hid (HB3.out.trans (hbw.mono HB3.out.size))
          clear hx2 hbw HX2 HL2 HP3 HP4 HB3
          refine Lib.hid ?_
          go_wp2_with (first
            | (go_at_call 11; refine (awake_any HL3.out).mono ?_; rintro e w4 ⟨rfl, hb4⟩; obtain ⟨x0, x1⟩ := (HX3.out.grow hb4).cells; obtain ⟨y0, y1⟩ := (HY.out.grow hb4).cells; have HR1 := Lib.hid (HQ1.out.grow hb4); have HR2 := Lib.hid (HQ2.out.grow hb4); have HB5 := Lib.hid (HB4.out.trans (hb4.mono HB4.out.size)); clear hb4)
            | (go_at_call 12; refine (same_yes HR1.out HR2.out).mono ?_; rintro e w5 ⟨rfl, hb5⟩; have HB6 := Lib.hid (HB5.out.trans (hb5.mono HB5.out.size)); clear hb5))
          go_ret
          exact ⟨rfl, HB6.out⟩
        · have i1 : ¬ (0 : Int) < (wh2 : Int) := by omega
          clear hri
          go_wp2_with (first | (go_at_call 13; rw [HST.out]; refine (HC2.out _ HL1.out).mono ?_; rintro e w2 ⟨v2, rfl, hp2, hb2⟩; obtain ⟨a2, n2, c2, b2, m2, d2, rfl⟩ := hp2.two; have HX2 := Lib.hid (HX.out.grow hb2); have HP3 := Lib.hid (HP2.out.grow hb2); have HP4 := Lib.hid hp2; have HB3 := Lib.hid (HB2.out.trans (hb2.mono HB2.out.size)); have HL2 := Lib.hid (HL1.out.below hb2); clear hp2 hb2; refine Hid.out ?_))
          obtain ⟨W3, hW3⟩ : ∃ W3, w2.alloc (.cells #[.slice a2 n2 c2, .slice b2 m2 d2] 25) = W3 := ⟨_, rfl⟩
          have hx2 : PBox W3 w2.heap.size (.slice a2 n2 c2) (.slice b2 m2 d2) := by rw [← hW3]; exact heap_alloc_new w2 _
          have hbw : Below w2.heap.size w2 W3 := by rw [← hW3]; exact (Below.refl _ _).alloc (Nat.le_refl _) _
          have HY := Lib.hid hx2
          have HX3 := Lib.hid (HX2.out.grow hbw)
          have HL3 := Lib.hid (HL2.out.below hbw)
          have HQ1 := Lib.hid (HP3.out.grow hbw)
          have HQ2 := Lib.hid (HP4.out.grow hbw)
          have HB4 := Lib.hid (HB3.out.trans (hbw.mono HB3.out.size))
          clear hx2 hbw HX2 HL2 HP3 HP4 HB3
          refine Lib.hid ?_
          go_wp2_with (first
            | (go_at_call 11; refine (awake_any HL3.out).mono ?_; rintro e w4 ⟨rfl, hb4⟩; obtain ⟨x0, x1⟩ := (HX3.out.grow hb4).cells; obtain ⟨y0, y1⟩ := (HY.out.grow hb4).cells; have HR1 := Lib.hid (HQ1.out.grow hb4); have HR2 := Lib.hid (HQ2.out.grow hb4); have HB5 := Lib.hid (HB4.out.trans (hb4.mono HB4.out.size)); clear hb4)
            | (go_at_call 12; refine (same_yes HR1.out HR2.out).mono ?_; rintro e w5 ⟨rfl, hb5⟩; have HB6 := Lib.hid (HB5.out.trans (hb5.mono HB5.out.size)); clear hb5))
          go_ret
          exact ⟨rfl, HB6.out⟩
end Go.Proofs.YtogcickcodlepaaGreatDoor.Pl
