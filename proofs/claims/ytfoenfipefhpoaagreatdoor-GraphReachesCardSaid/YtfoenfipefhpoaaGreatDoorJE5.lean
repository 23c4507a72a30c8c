/-
  Parse: of any text the expression that the machine says, or its first error and the place. Conditions: the library's table of powers holds what it was laid with.
-/
import Derived.Test.YtfoenfipefhpoaaGreatDoorJE4
import Derived.Deep.LoopGhost
set_option linter.unusedVariables false
set_option linter.unusedSimpArgs false
namespace Go.Proofs.YtfoenfipefhpoaaGreatDoor.Ex
open Go.RowKit
/-- An expression lies at block b. -/
def ExAt (w : World) (b : Nat) (T : Tree) : Prop := ∃ f c, w.heap[b]? = some (.cells #[.func (.func f) #[] c, .string ⟨T.text.toArray⟩, .int .i64 T.size] 151 (0, 0)) ∧ Clos w T (.func (.func f) #[] c)
theorem ExAt.grow {w w' : World} {b : Nat} {T : Tree} (h : ExAt w b T) (hb : Below w.heap.size w w') : ExAt w' b T := by
  obtain ⟨f, c, h1, h2⟩ := h
  exact ⟨f, c, by rw [hb.block b (lt_of_heap h1)]; exact h1, h2.keep (Keep.of_below hb)⟩
set_option maxHeartbeats 1000000 in
theorem whole_any {w0 w : World} {p : Nat} {s : St} {T : Tree} (h : PS w0 p s w) (hv : s.vals = [T]) :
    Calls Tryz.prog 90 #[ptr p] w fun e w' => ∃ b, e = .returned (ptr b) ∧ ExAt w' b T ∧ Below w.heap.size w w' := by
  obtain ⟨vo, vp, es, hx⟩ := h
  have hev := hx.vals
  rw [hv] at hev
  obtain ⟨⟨v, T'⟩, rfl⟩ : ∃ q, es = [q] := by
    match es, hev with
    | [q], _ => exact ⟨q, rfl⟩
    | [], h => simp at h
    | _ :: _ :: _, h => simp at h
  simp only [List.map_cons, List.map_nil, List.cons.injEq, and_true] at hev
  subst hev
  obtain ⟨g, cap, rfl, hg, hnc, hgb, hfr, hce⟩ := hx.row (by simp)
  have hC := hx.clos (v, T') (by simp)
  obtain ⟨f, c, rfl⟩ := hC.form
  have z0 := hce 0 (by simp)
  have z1 := hce 1 (by simp)
  have z2 := hce 2 (by simp)
  simp [exCells, exC] at z0 z1 z2
  obtain ⟨c0, -⟩ := hx.cell
  have hp := hx.lt
  simp only [List.length_cons, List.length_nil, Nat.zero_add] at c0
  have HC := Lib.hid hC
  clear hx hce hfr hC hnc hgb hv
  go_enter Tryz.func90, Tryz.ntmps90
  go_wp2
  go_ret
  exact ⟨w.heap.size, rfl, ⟨f, c, heap_alloc_new w _, HC.out.keep (Keep.of_below ((Below.refl _ _).alloc (Nat.le_refl _) _))⟩, (Below.refl _ _).alloc (Nat.le_refl _) _⟩
theorem tokenFrom_at (s : ByteArray) (rest : Bs) (a k ps : Nat) (w : World) (ha : a ≤ s.size) (hs : s.size ≤ 200) (hr : s.data.toList.drop a = rest) (hk : kindOf (skip rest) = k) (hp : s.size - (skip rest).length = ps) :
    Calls Tryz.prog 88 #[.string s, .int .i64 a] w fun e w' => ∃ t : ByteArray, t.data.toList = wordOf (skip rest) ∧ e = .returned (.agg #[.int .i64 k, .int .i64 ps, .string t]) ∧ Below w.heap.size w w' := by
  subst hr hk hp; exact tokenFrom_any s a w ha hs
theorem take_at {w0 w : World} {p at_ k n : Nat} {s : St} {t : ByteArray} {tl : Bs} (h : PS w0 p s w) (hi : s.Inv) (hb : s.Bal) (ht : t.data.toList = tl) (hk : TokOK k tl) (hn : s.waits.length ≤ 900) (hT : Tab w0) (he : s.errOf k tl = n) :
    Calls Tryz.prog 89 #[ptr p, .agg #[.int .i64 k, .int .i64 at_, .string t]] w fun e w' => e = .returned (.int .i64 n) ∧ Keep w w' ∧ (∃ s', PS w0 p s' w' ∧ (n = 0 → s' = (s.count k tl).put k tl)) := by
  subst he ht; exact take_any h hi hb hk hn hT
theorem tok_cells {w w1 : World} {k a : Int} {t : ByteArray} (h : Keep (w.alloc (.cells #[.int .i64 k, .int .i64 a, .string t] 133)) w1) : w1.cell? ⟨w.heap.size, 0, none⟩ = some (.int .i64 k) ∧ w1.cell? ⟨w.heap.size, 1, none⟩ = some (.int .i64 a) ∧ w1.cell? ⟨w.heap.size, 2, none⟩ = some (.string t) ∧ w.heap.size < w1.heap.size := by
  have := h _ _ _ _ (heap_alloc_new w _) (by decide) (by decide) (by decide)
  refine ⟨?_, ?_, ?_, lt_of_heap this⟩ <;> rw [cell_of_heap this] <;> rfl
/-- What Parse's loop keeps. -/
def PL (w : World) (N : Nat) (l : Bs) (R : Res) (k a : Nat) (wr : World) : Prop :=
  ∃ rest st f, a ≤ N ∧ l.drop a = rest ∧ rest.length = k ∧ PS w w.heap.size st wr ∧ st.Inv ∧ st.Bal ∧ st.waits.length + rest.length ≤ 200 ∧ rest.length < f ∧ go f N rest st = R
theorem err_zero {s : St} {k : Nat} {t : Bs} (h : s.errOf k t = 0) : s.allows k t = true ∧ (isPart k t = true → s.parts ≠ 64) := by
  unfold St.errOf at h
  cases ha : s.allows k t
  · rw [ha, if_pos rfl] at h; split at h <;> cases h
  · rw [ha, if_neg (by simp)] at h
    refine ⟨rfl, fun hp e => ?_⟩
    rw [if_pos ⟨hp, e⟩] at h; cases h
/-- The end of a text. -/
theorem fin_val {s s' : St} {k : Nat} {t : Bs} (hi : s.Inv) (hk : TokOK k t) (he : s.errOf k t = 0) (h1 : k = 1) (hs : (0 : Nat) = 0 → s' = (s.count k t).put k t) :
    ∃ T, s'.vals = [T] ∧ T.WF ∧ T.size ≤ 64 ∧ (((s.count 1 []).put 1 []).vals).headD (.num 0) = T := by
  subst h1
  have hw := way_of hk (err_zero he).1
  cases hw with
  | fin hc ho =>
    obtain ⟨T, h1, h2, _, h4⟩ := fin_one hi hc ho
    have e : (s.count 1 []).put 1 [] = s.join 1 := by simp [St.count, isPart, St.put]
    rw [hs rfl, e]
    exact ⟨T, h1, h2, h4, by rw [h1]; rfl⟩
/-- The next round of Parse's loop. -/
theorem next_round {w wr' : World} {N k a ps f : Nat} {l rest : Bs} {R : Res} {st s' : St} {kk : Nat} {tl : Bs} (hl : l.length = N) (hi : st.Inv) (hb : st.Bal) (hk : TokOK kk tl) (he : st.errOf kk tl = 0) (h1 : kk ≠ 1)
    (hkk : kindOf (skip rest) = kk) (htl : wordOf (skip rest) = tl) (hps : N - (skip rest).length = ps) (ha : a ≤ N) (hrest : l.drop a = rest) (hlen : rest.length = k) (hw : st.waits.length + rest.length ≤ 200) (hf : rest.length < f + 1)
    (hgo : go f N ((skip rest).drop tl.length) ((st.count kk tl).put kk tl) = R) (hp : PS w w.heap.size s' wr') (hs : (0 : Nat) = 0 → s' = (st.count kk tl).put kk tl) :
    ((skip rest).drop tl.length).length < k ∧ PL w N l R ((skip rest).drop tl.length).length (ps + tl.length) wr' := by
  have hz := err_zero he
  have hway := way_of hk hz.1
  have hpos : 0 < tl.length := by
    cases hway with
    | fin => exact absurd rfl h1
    | num _ h0 => cases tl with | nil => exact absurd rfl h0 | cons => simp
    | name _ hn => obtain ⟨_, _, _, c, rfl, _⟩ := nm_level hn; simp
    | opn => simp
    | close => simp
    | bin _ _ hm => exact (ops_len hm).2
    | sign _ _ hm => rcases hm with rfl | rfl <;> simp
  have hwl := wordOf_le (skip rest)
  rw [htl] at hwl
  have hsl := skip_le rest
  obtain ⟨j, hj, hje⟩ := skip_suffix rest
  have hsk : skip rest = l.drop (a + j) := by rw [hje, ← hrest, List.drop_drop]
  have hskl : (skip rest).length = N - (a + j) := by rw [hsk, List.length_drop, hl]
  have hrl : rest.length = N - a := by rw [← hrest, List.length_drop, hl]
  have hdl : ((skip rest).drop tl.length).length = (skip rest).length - tl.length := List.length_drop
  have hfew : st.parts ≤ 64 := by have := hi.few; unfold St.Bal at hb; omega
  obtain ⟨i1, i2, i3⟩ := put_inv hi hb hway (fun hp => by have := hz.2 hp; omega)
  refine ⟨by omega, (skip rest).drop tl.length, s', f, by omega, ?_, rfl, hp, by rw [hs rfl]; exact i1, by rw [hs rfl]; exact i2, by rw [hs rfl]; omega, by omega, by rw [hs rfl]; exact hgo⟩
  have e : ps = a + j := by omega
  rw [e, hsk, List.drop_drop]
def ParsedAs (w : World) (r : Res) (e : Ending) (w' : World) : Prop := Below w.heap.size w w' ∧
  match r with
  | .ok T => T.WF ∧ T.size ≤ 64 ∧ ∃ b, e = .returned (.tuple #[ptr b, .int .i64 0, .int .i64 0]) ∧ ExAt w' b T
  | .err pos n => e = .returned (.tuple #[.pointer none, .int .i64 pos, .int .i64 n])
theorem PS.init (w : World) : PS w w.heap.size St.init (w.alloc (.cells #[.slice none 0 0, .slice none 0 0, .int .i64 0, .int .i64 0, .bool false] 131)) :=
  ⟨_, _, [], (Below.refl _ _).alloc (Nat.le_refl _) _, Nat.le_refl _, heap_alloc_new w _, rfl, World.ownsRow_nil _ _ _ _, World.ownsRow_nil _ _ _ _, fun q hq => by cases hq⟩
theorem init_inv : St.init.Inv ∧ St.init.Bal := ⟨⟨(fun T h => by cases h), (fun q h => by cases h), rfl, rfl, by decide⟩, rfl⟩
set_option maxRecDepth 20000 in
set_option maxHeartbeats 2000000 in
theorem parse_any {s : ByteArray} {w : World} (hs : s.size ≤ maxLen) (hT : Tab w) : Calls Tryz.prog 74 #[.string s] w fun e w' => ParsedAs w (parse s.data.toList) e w' := by
  unfold maxLen at hs
  have hlen : s.data.toList.length = s.size := by simp
  by_cases h2 : 200 < s.size
  · have H : Hid (parse s.data.toList = .err 0 2) := Lib.hid (by unfold parse; rw [hlen, if_pos h2])
    rw [H.out]
    clear hlen
    go_enter Tryz.func74, Tryz.ntmps74
    go_wp2
    go_ret3
    exact ⟨Below.refl _ _, rfl⟩
  · obtain ⟨R, hR⟩ : ∃ R, parse s.data.toList = R := ⟨_, rfl⟩
    rw [hR]
    have hPL : PL w s.size s.data.toList R s.size 0 (w.alloc (.cells #[.slice none 0 0, .slice none 0 0, .int .i64 0, .int .i64 0, .bool false] 131)) := by
      unfold parse at hR
      rw [hlen, if_neg h2] at hR
      exact ⟨_, St.init, s.size + 1, Nat.zero_le _, rfl, by simp, PS.init w, init_inv.1, init_inv.2, by simp [St.init]; omega, by simp, hR⟩
    have HPL := Lib.hid hPL
    have HT := Lib.hid hT
    have hs2 : s.size ≤ 200 := by omega
    clear hPL hR hT hlen
    go_enter Tryz.func74, Tryz.ntmps74
    go_wp2
    go_loopg [6] s.size (fun k i wr => ∃ a : Nat, i = .int .i64 a ∧ PL w s.size s.data.toList R k a wr)
    case atStart => exact ⟨0, rfl, HPL.out⟩
    case round =>
      obtain ⟨a, rfl, rest, st, f, ha, hrest, hk, hps, hi, hb, hw, hf, hgo⟩ := hrel
      obtain ⟨kk, hkk⟩ : ∃ kk, kindOf (skip rest) = kk := ⟨_, rfl⟩
      obtain ⟨tl, htl⟩ : ∃ tl, wordOf (skip rest) = tl := ⟨_, rfl⟩
      obtain ⟨ps, hps0⟩ : ∃ ps, s.size - (skip rest).length = ps := ⟨_, rfl⟩
      obtain ⟨n, hn⟩ : ∃ n, st.errOf kk tl = n := ⟨_, rfl⟩
      obtain ⟨f, rfl⟩ : ∃ f', f = f' + 1 := ⟨f - 1, by omega⟩
      have hgo' := hgo
      simp only [go] at hgo
      rw [hkk, htl, hn, hps0] at hgo
      have htok : TokOK kk tl := by rw [← hkk, ← htl]; exact tok_ok _
      have HA := Lib.hid (And.intro hrest (And.intro hkk hps0))
      have HTL := Lib.hid htl
      have HK := Lib.hid htok
      have HE := Lib.hid hn
      have HP := Lib.hid hps
      have HI := Lib.hid hi
      have HB := Lib.hid hb
      have hw' : st.waits.length ≤ 900 := by omega
      have hps2 : ps ≤ 200 := by omega
      have HF := Lib.hid hf
      have HKK := Lib.hid hk
      have HW := Lib.hid hw
      clear hrest hkk hps hi hb hgo' hk hw hf htl htok
      by_cases h0 : n = 0
      · subst h0
        rw [if_neg (by simp)] at hgo
        by_cases h1 : kk = 1
        · rw [if_pos h1] at hgo
          have H1 := Lib.hid h1
          have e1 : ((kk : Int) == 1) = true := by rw [h1]; rfl
          have HG := Lib.hid hgo
          clear hgo hn hps0 h1
          go_wp2_with (first
            | (go_at_call 88; refine (tokenFrom_at s rest a kk ps _ ha hs2 HA.out.1 HA.out.2.1 HA.out.2.2).mono ?_; rintro e w1 ⟨t, ht, rfl, hb1⟩; have HT1 := Lib.hid ht; have HP1 := Lib.hid ((HP.out.grow hb1).grow ((Below.refl _ _).alloc (Nat.le_refl _) (.cells #[.int .i64 kk, .int .i64 ps, .string t] 133))); clear ht hb1)
            | (go_at_call 89; refine (take_at (tl := tl) HP1.out HI.out HB.out (HT1.out.trans HTL.out) HK.out hw' HT.out HE.out).mono ?_; rintro e w2 ⟨rfl, hk2, s', hp2, hs'⟩; obtain ⟨y0, y1, y2, yb⟩ := tok_cells hk2; have HP2 := Lib.hid (And.intro hp2 hs'); clear hk2 hp2 hs')
            | (go_at_call 90; obtain ⟨T, hv, hwf, hsz, hT⟩ := fin_val HI.out HK.out HE.out H1.out (fun _ => HP2.out.2 trivial); refine (whole_any HP2.out.1 hv).mono ?_; rintro e w3 ⟨b, rfl, hx3, hb3⟩; have HR := Lib.hid (And.intro hwf (And.intro hsz (And.intro hT (And.intro hx3 hb3)))); clear hv hwf hsz hT hx3 hb3))
          go_ret3
          obtain ⟨hwf, hsz, hT, hx3, hb3⟩ := HR.out
          have hbw : Below w.heap.size w w3 := by
            obtain ⟨⟨_, _, _, hx⟩, _⟩ := HP2.out
            exact hx.below.trans (hb3.mono hx.below.size)
          rw [← HG.out, hT]
          exact ⟨hbw, hwf, hsz, b, rfl, hx3⟩
        · rw [if_neg h1] at hgo
          have H1 := Lib.hid h1
          have e1 : ((kk : Int) == 1) = false := ne_beq (n := 1) h1
          have HG := Lib.hid (And.intro hgo hps0)
          have htl200 : tl.length ≤ 200 := by
            have := wordOf_le (skip rest)
            have h2 := skip_le rest
            have h3 := HW.out
            rw [HTL.out] at this
            omega
          clear hgo hn hps0 h1
          go_wp2_with (first
            | (go_at_call 88; refine (tokenFrom_at s rest a kk ps _ ha hs2 HA.out.1 HA.out.2.1 HA.out.2.2).mono ?_; rintro e w1 ⟨t, ht, rfl, hb1⟩; have HT1 := Lib.hid ht; have HP1 := Lib.hid ((HP.out.grow hb1).grow ((Below.refl _ _).alloc (Nat.le_refl _) (.cells #[.int .i64 kk, .int .i64 ps, .string t] 133))); clear ht hb1)
            | (go_at_call 89; refine (take_at (tl := tl) HP1.out HI.out HB.out (HT1.out.trans HTL.out) HK.out hw' HT.out HE.out).mono ?_; rintro e w2 ⟨rfl, hk2, s', hp2, hs'⟩; obtain ⟨y0, y1, y2, yb⟩ := tok_cells hk2; have HP2 := Lib.hid (And.intro hp2 hs'); clear hk2 hp2 hs'; have hts : t.size = tl.length := (by rw [← HTL.out, ← HT1.out]; simp); have HTS := Lib.hid hts; have hts2 : (t.size : Int) ≤ 200 := (by omega); clear hts))
          have R2 := next_round (by simp) HI.out HB.out HK.out HE.out H1.out HA.out.2.1 HTL.out HG.out.2 ha HA.out.1 HKK.out HW.out HF.out HG.out.1 HP2.out.1 (fun _ => HP2.out.2 trivial)
          go_roundg ((skip rest).drop tl.length).length
          case measure => exact R2.1
          case rel => exact ⟨ps + tl.length, by rw [HTS.out]; go_num, R2.2⟩
      · rw [if_pos h0] at hgo
        have en : ((n : Int) == 0) = false := ne_beq (n := 0) h0
        have en2 : ((n : Int) != 0) = true := by simp [bne, en]
        have HG := Lib.hid hgo
        clear hgo hn hps0
        go_wp2_with (first
          | (go_at_call 88; refine (tokenFrom_at s rest a kk ps _ ha hs2 HA.out.1 HA.out.2.1 HA.out.2.2).mono ?_; rintro e w1 ⟨t, ht, rfl, hb1⟩; have HT1 := Lib.hid ht; have HP1 := Lib.hid ((HP.out.grow hb1).grow ((Below.refl _ _).alloc (Nat.le_refl _) (.cells #[.int .i64 kk, .int .i64 ps, .string t] 133))); clear ht hb1)
          | (go_at_call 89; refine (take_at (tl := tl) HP1.out HI.out HB.out (HT1.out.trans HTL.out) HK.out hw' HT.out HE.out).mono ?_; rintro e w2 ⟨rfl, hk2, s', hp2, hs'⟩; obtain ⟨y0, y1, y2, yb⟩ := tok_cells hk2; have HP2 := Lib.hid (And.intro hp2 hs'); clear hk2 hp2 hs'))
        go_quiet (fail)
        go_wp2
        go_ret3
        obtain ⟨⟨_, _, _, hx⟩, _⟩ := HP2.out
        rw [← HG.out]
        exact ⟨below_drewN hx.below _, rfl⟩
end Go.Proofs.YtfoenfipefhpoaaGreatDoor.Ex
