/-
  Texts joined into one file. Each part says in its own head what is proved there, and under which conditions.
-/
import Derived.Test.YtfoenfipefhpoaaGreatDoorJR2
import Derived.Test.YtfoenfipefhpoaaGreatDoorJE5
import Derived.Deep.LoopGhost
import Derived.Laws.IdiomStrings
import Derived.Deep.CutBlock
import Derived.Deep.DeepCutAuto
set_option linter.unusedVariables false
set_option linter.unusedSimpArgs false
/-
  The document's reader takes any word that may stand there, as the machine does. Conditions: the reader keeps what it keeps.
-/
namespace Go.Proofs.YtfoenfipefhpoaaGreatDoor.Ex
open Go.RowKit
section
variable {w0 w : World} {p x : Nat} {t : ByteArray} {s : St}
theorem RM.of {L : List Nd} {is : List Nat} {ws : List Bs} {vL vV vW : Value} {Ts : List Tree} (hx : RX w0 p x L is ws 0 vL vV vW w) (hw : s.waits.map wtx = ws) (hg : Good L Ts) (ha : At Ts is s.vals) (hl : L.length = tot s.vals) : RM w0 p x s w := by
  subst hw; exact ⟨L, Ts, is, vL, vV, vW, hx, hg, ha, hl⟩
theorem join_waits (hi : s.Inv) (hc : s.complete = true) (ho : 0 < s.opn) : ∃ q r, (s.join 1).waits = q :: r ∧ r.length + 1 ≤ s.waits.length := by
  obtain ⟨a, b, c, d⟩ := joinL_inv (level := 1) (by omega) (by omega) s.waits s rfl hi hc
  have h1 := a.opn
  have h2 : (s.join 1).opn = s.opn := rfl
  rw [h2] at h1
  cases hv : (s.join 1).waits with
  | nil => rw [hv] at h1; simp [no] at h1; omega
  | cons q r => rw [hv] at c; exact ⟨q, r, rfl, by simpa using c⟩
set_option maxRecDepth 20000 in
set_option maxHeartbeats 4000000 in
theorem take_close (h : RM w0 p x s w) (hi : s.Inv) (hc : s.complete = true) (ho : 0 < s.opn) (hn : s.waits.length ≤ 900) (h0 : 0 < t.size) (hd : isDig t[0] = false) (hl : isLet t[0] = false) (q40 : (t.toList == [40]) = false) (q41 : (t.toList == [41]) = true) (b : Bool) :
    Calls Tryz.prog 60 #[ptr p, .string t, .bool b] w fun e w' => e = .returned (.tuple #[]) ∧ RM w0 p x { s.join 1 with waits := (s.join 1).waits.tail, opn := s.opn - 1 } w' := by
  obtain ⟨q, r, hv, hr⟩ := join_waits hi hc ho
  have HF := Lib.hid (And.intro h (And.intro hi hc))
  have HV := Lib.hid hv
  clear h hi hc hv
  go_enter Tryz.func60, Tryz.ntmps60
  go_upto_region 15 with (first
    | (go_at_call 58; (with_reducible refine (rdigit_any _ _).mono ?_); rintro e w' ⟨rfl, rfl⟩)
    | (go_at_call 69; (with_reducible refine (rletter_any _ _).mono ?_); rintro e w' ⟨rfl, rfl⟩)
    | (go_at_call 61; refine (down_any (level := 1) HF.out.1 HF.out.2.1 HF.out.2.2 (by omega) (by omega) (by omega)).mono ?_; rintro e w1 ⟨rfl, hm1⟩; have HM1 := Lib.hid hm1; clear hm1))
  obtain ⟨L, Ts, is, vL, vV, vW, hx, hg, ha, hl'⟩ := HM1.out
  rw [HV.out, List.map_cons] at hx
  obtain ⟨ws, hws⟩ : ∃ ws, r.map wtx = ws := ⟨_, rfl⟩
  have hwl : ws.length ≤ 1000 := by rw [← hws, List.length_map]; omega
  rw [hws] at hx
  obtain ⟨g, cap, rfl, hgw, hnc, -⟩ := hx.topW
  obtain ⟨c0, c1, c2, f0, f1, f2⟩ := rx_cells hx.blk
  have hp := lt_of_heap hx.blk
  have k1 : (ws.length : Int) + 1 ≤ (cap : Int) := by omega
  have k2 : IntKind.i64.wrap (ws.length : Int) = (ws.length : Int) := IntWalk.i64_in _ (by omega)
  have HX := Lib.hid hx
  have HG := Lib.hid (And.intro hg (And.intro ha (And.intro hl' hws)))
  clear hx hg ha hl' hws
  go_region
  all_goals go_wp2
  all_goals go_end0
  all_goals exact ⟨rfl, RM.of ((HX.out.grow ((Below.refl _ _).drew)).popW) (by show (s.join 1).waits.tail.map wtx = ws; rw [HV.out, List.tail_cons, HG.out.2.2.2]) HG.out.1 HG.out.2.1 HG.out.2.2.1⟩
set_option maxRecDepth 20000 in
set_option maxHeartbeats 4000000 in
theorem take_bin {lv : Nat} (h : RM w0 p x s w) (hi : s.Inv) (hc : s.complete = true) (hn : s.waits.length ≤ 900) (h0 : 0 < t.size) (hd : isDig t[0] = false) (hl : isLet t[0] = false) (q40 : (t.toList == [40]) = false) (q41 : (t.toList == [41]) = false) (hrk : rankOf t.data.toList = lv) (l1 : 1 ≤ lv) (l5 : lv ≤ 5) :
    Calls Tryz.prog 60 #[ptr p, .string t, .bool false] w fun e w' => e = .returned (.tuple #[]) ∧ RM w0 p x { s.join lv with waits := (t.data.toList, lv) :: (s.join lv).waits, complete := false } w' := by
  obtain ⟨i9, hi9, hy0, hy1, hy2⟩ := info_parts info9
  have hwl := (joinL_inv (level := lv) (by omega) (by omega) s.waits s rfl hi hc).2.2.1
  obtain ⟨ws, hws⟩ : ∃ ws, (s.join lv).waits.map wtx = ws := ⟨_, rfl⟩
  have hw1 : ws.length ≤ 1000 := by rw [← hws, List.length_map]; omega
  have HF := Lib.hid (And.intro h (And.intro hi hc))
  have HWS := Lib.hid hws
  have HRK := Lib.hid hrk
  clear h hi hc hws hrk hwl
  go_enter Tryz.func60, Tryz.ntmps60
  go_wp2_with (first
    | (go_at_call 58; (with_reducible refine (rdigit_any _ _).mono ?_); rintro e w' ⟨rfl, rfl⟩)
    | (go_at_call 69; (with_reducible refine (rletter_any _ _).mono ?_); rintro e w' ⟨rfl, rfl⟩)
    | (go_at_call 59; (with_reducible refine (rank_at _ _ HRK.out).mono ?_); rintro e w' ⟨rfl, rfl⟩)
    | (go_at_call 61; refine (down_any (level := lv) HF.out.1 HF.out.2.1 HF.out.2.2 (by omega) (by omega) (by omega)).mono ?_; rintro e wz ⟨rfl, hm1⟩; obtain ⟨L, Ts, is, vL, vV, vW, hx, hg, ha, hl'⟩ := hm1; rw [HWS.out] at hx; obtain ⟨c0, c1, c2, f0, f1, f2⟩ := rx_cells hx.blk; have hp := lt_of_heap hx.blk; have hB : w0.heap.size ≤ wz.heap.size := hx.below.size; have HX := Lib.hid hx; have HG := Lib.hid (And.intro hg (And.intro ha hl')); clear hx hg ha hl')
    | (refine wpList_append_lies _ (by rfl) (.tmp 16) (.tmp 18) 39 (by rfl) w0.heap.size 9 i9 (.string ⟨#[]⟩) 1 16 Tryz.underlying39 hi9 hy0 hy1 hy2 rfl (by decide) vW ws.length (wdCells ws) (by rfl) (ownsRow_below HX.out.rowW ((Below.refl _ _).alloc (Nat.le_refl _) _)) ⟨wz.heap.size, 0, none⟩ 1 1 [.string t] (by rfl) rfl (news1p _ 9 rfl (by simp)) (one1s _) (by decide) (by unfold maxLen; omega) (by omega) (by simp; omega) _ rfl ?_; intro g2 cap2 w1 hown2 hgrow2 hat2 hlt2; obtain ⟨hp1, hx1, hx2⟩ := (HX.out.grow ((Below.refl _ _).alloc (Nat.le_refl _) _)).pushW (t := t.data.toList) hgrow2 (by simpa [wdC] using hown2); obtain ⟨a0, a1, a2, b0, b1, b2⟩ := rx_cells hp1; have hpz := lt_of_heap hp1; have HX2 := Lib.hid hx2; clear hown2 hgrow2 hat2 hlt2 hp1 hx1 hx2))
  go_end0
  have e : wtx (t.data.toList, lv) = t.data.toList := by unfold wtx; rw [if_neg (fun e => by simp only at e; omega)]
  exact ⟨rfl, RM.of HX2.out (by show ((t.data.toList, lv) :: (s.join lv).waits).map wtx = t.data.toList :: ws; rw [List.map_cons, e, HWS.out]) HG.out.1 HG.out.2.1 HG.out.2.2⟩
theorem head_at {c : UInt8} {r : Bs} (h : t.data.toList = c :: r) : ∃ h0 : 0 < t.size, t[0] = c := by
  have hl : t.data.toList.length = t.size := by simp
  have h0 : 0 < t.size := by rw [← hl, h]; simp
  refine ⟨h0, ?_⟩
  have : t.data.toList[0]'(by rw [hl]; exact h0) = c := by simp [h]
  exact this
theorem str_eq {l : Bs} (h : t.data.toList = l) : (t.toList == l) = true := by rw [Lib.toList_data, h]; simp
/-- A word that may stand there is taken. -/
theorem rtake_any {k : Nat} {tl : Bs} (h : RM w0 p x s w) (hi : s.Inv) (hw : Way s k tl) (ht : t.data.toList = tl) (hk : k ≠ 1) (hn : s.waits.length ≤ 900) {b : Bool} (hb : (!s.complete) = b) :
    Calls Tryz.prog 60 #[ptr p, .string t, .bool b] w fun e w' => e = .returned (.tuple #[]) ∧ RM w0 p x ((s.count k tl).put k tl) w' := by
  rw [count_eq]
  have hlen := hi.few
  cases hw with
  | fin => exact absurd rfl hk
  | num _ h0 h18 hd hc =>
    obtain ⟨L, Ts, is, vL, vV, vW, hx, hg, ha, hl⟩ := h
    have his := ha.len
    have := tot_len s.vals
    subst ht
    refine (take_num hx (by omega) (by omega) (by have hz : t.data.toList.length = t.size := (by simp); cases hq : t.data.toList with | nil => exact absurd hq h0 | cons => rw [hq] at hz; simp at hz; omega) (by simpa using h18) hd b).mono ?_
    rintro e w' ⟨rfl, vL', vV', hx'⟩
    refine ⟨rfl, RM.of hx' (Ts := Ts ++ [.num (numVal t.data.toList)]) rfl (hg.push (T := .num (numVal t.data.toList)) (numVal_small h18 hd) (by simp [Tree.size]) ⟨rfl, rfl⟩) ⟨get_new _ _ hg.len, ha.more _⟩ ?_⟩
    show _ = tot (.num (numVal t.data.toList) :: s.vals)
    simp only [List.length_append, List.length_singleton, tot, Tree.size]; omega
  | name _ hnm hc =>
    obtain ⟨L, Ts, is, vL, vV, vW, hx, hg, ha, hl⟩ := h
    have his := ha.len
    have := tot_len s.vals
    obtain ⟨_, _, _, c, rfl, hcc⟩ := nm_level hnm
    obtain ⟨h0, hc0⟩ := head_at ht
    refine (take_name hx (by omega) (by omega) h0 (by rw [hc0]; rcases hcc with rfl | rfl | rfl <;> rfl) (by rw [hc0]; rcases hcc with rfl | rfl | rfl <;> rfl) b).mono ?_
    rintro e w' ⟨rfl, vL', vV', hx'⟩
    rw [ht] at hx'
    refine ⟨rfl, RM.of hx' (Ts := Ts ++ [.name c]) rfl (hg.push (nd := ⟨[c], 0, 0, 0⟩) (T := .name c) hcc (by simp [Tree.size]) (by exact (rfl : ([c] : Bs) = [c]))) ⟨get_new _ _ hg.len, ha.more _⟩ ?_⟩
    show _ = tot (.name c :: s.vals)
    simp only [List.length_append, List.length_singleton, tot, Tree.size]; omega
  | opn hc =>
    obtain ⟨L, Ts, is, vL, vV, vW, hx, hg, ha, hl⟩ := h
    obtain ⟨h0, hc0⟩ := head_at ht
    refine (take_open hx (by rw [List.length_map]; omega) h0 (by rw [hc0]; rfl) (by rw [hc0]; rfl) (str_eq ht) b).mono ?_
    rintro e w' ⟨rfl, vW', hx'⟩
    exact ⟨rfl, RM.of hx' rfl hg ha hl⟩
  | close hc ho =>
    obtain ⟨h0, hc0⟩ := head_at ht
    refine (take_close h hi hc ho hn h0 (by rw [hc0]; rfl) (by rw [hc0]; rfl) (str_ne (by rw [ht]; decide)) (str_eq ht) b).mono ?_
    rintro e w' ⟨rfl, hm⟩
    exact ⟨rfl, hm⟩
  | bin _ hc hm =>
    obtain ⟨n40, n41, l1, l5⟩ := ops_no hm
    obtain ⟨c, r, hcr⟩ : ∃ c r, tl = c :: r := by
      cases tl with
      | nil => exact absurd hm (by decide)
      | cons c r => exact ⟨c, r, rfl⟩
    have hcc : isDig c = false ∧ isLet c = false := by
      rw [hcr] at hm
      simp only [ops, List.mem_cons, List.not_mem_nil, or_false] at hm
      rcases hm with h | h | h | h | h | h | h | h | h | h | h | h | h <;> (injection h with h1 h2; subst h1; decide)
    obtain ⟨h0, hc0⟩ := head_at (ht.trans hcr)
    have hrk : rankOf t.data.toList = levelOf tl := by
      rw [ht]; unfold rankOf
      rw [if_neg]
      rintro (e | e) <;> (rw [e] at hm; revert hm; decide)
    rw [hc] at hb
    subst hb
    refine (take_bin h hi hc hn h0 (by rw [hc0]; exact hcc.1) (by rw [hc0]; exact hcc.2) (str_ne (by rw [ht]; exact n40)) (str_ne (by rw [ht]; exact n41)) hrk l1 l5).mono ?_
    rintro e w' ⟨rfl, hm'⟩
    rw [ht] at hm'
    refine ⟨rfl, hm'.same ?_ ?_⟩
    all_goals
      unfold St.put
      rw [if_neg (by decide), if_neg (by decide), if_neg (by decide), if_neg n40, if_neg n41, if_pos hc]
      rfl
  | sign _ hc hm =>
    obtain ⟨L, Ts, is, vL, vV, vW, hx, hg, ha, hl⟩ := h
    rw [hc] at hb
    subst hb
    rcases hm with rfl | rfl
    · obtain ⟨h0, hc0⟩ := head_at ht
      refine (take_minus hx (by rw [List.length_map]; omega) h0 (by rw [hc0]; rfl) (by rw [hc0]; rfl) (str_ne (by rw [ht]; decide)) (str_ne (by rw [ht]; decide)) (str_eq ht)).mono ?_
      rintro e w' ⟨rfl, vW', hx'⟩
      refine ⟨rfl, RM.same (s := { s with waits := ([45], 6) :: s.waits }) (RM.of hx' rfl hg ha hl) ?_ ?_⟩
      all_goals simp [St.put, hc]
    · obtain ⟨h0, hc0⟩ := head_at ht
      refine (take_not hx (by rw [List.length_map]; omega) h0 (by rw [hc0]; rfl) (by rw [hc0]; rfl) (str_ne (by rw [ht]; decide)) (str_ne (by rw [ht]; decide)) (str_ne (by rw [ht]; decide))).mono ?_
      rintro e w' ⟨rfl, vW', hx'⟩
      rw [ht] at hx'
      refine ⟨rfl, RM.same (s := { s with waits := ([33], 6) :: s.waits }) (RM.of hx' rfl hg ha hl) ?_ ?_⟩
      all_goals simp [St.put, hc]
end
end Go.Proofs.YtfoenfipefhpoaaGreatDoor.Ex
/-
  The document's reader: which word may stand where, and what a word leaves. Conditions: none; states of memory as the statements say.
-/
namespace Go.Proofs.YtfoenfipefhpoaaGreatDoor.Ex
open Go.RowKit
def sgn (t : Bs) : Bool := t == [45] || t == [33]
theorem ops_case {P : Bs → Prop} (h : ∀ t ∈ ops, P t) {t : Bs} (ht : t ∈ ops) : P t := h t ht
theorem ops_lev {t : Bs} (h : t ∈ ops) : levelOf t ≠ 0 := by have := ops_no h; omega
theorem fits_eq {s : St} {k : Nat} {t : Bs} (h : TokOK k t) (hk : k ≠ 1) :
    s.allows k t = ((!s.complete && (decide (k = 2) || isNm t || sgn t || t == [40])) || (s.complete && (decide (levelOf t ≠ 0) || (t == [41] && decide (0 < s.opn))))) := by
  unfold St.allows
  rw [if_neg hk]
  rcases h with ⟨rfl, rfl⟩ | ⟨rfl, rfl⟩ | ⟨rfl, h0, hl, hd⟩ | ⟨rfl, hn⟩ | ⟨rfl, h⟩
  · cases s.complete <;> simp [levelOf, isNm, sgn]
  · exact absurd rfl hk
  · obtain ⟨a, b, c⟩ := dig_level h0 hd
    rw [if_neg c, levelOf_not a]
    cases s.complete <;> simp [c]
  · obtain ⟨a, b, c, _⟩ := nm_level hn
    rw [if_neg c, levelOf_not a]
    cases s.complete <;> simp [c, hn]
  · by_cases h41 : t = [41]
    · subst h41; cases s.complete <;> simp [levelOf, isNm, sgn]
    · rw [if_neg h41]
      cases s.complete
      · have hnm : isNm t = false := by
          rcases h with h | rfl | rfl | rfl
          · cases hq : isNm t
            · rfl
            · exact absurd h (nm_level hq).1
          · rfl
          · rfl
          · rfl
        rw [hnm]
        rw [Bool.eq_iff_iff]
        simp [sgn]
      · simp [h41]
theorem nb_of {k : Nat} {c : UInt8} {r : Bs} (h : TokOK k (c :: r)) : isDig c = decide (k = 2) := by
  rcases h with ⟨rfl, h⟩ | ⟨rfl, h⟩ | ⟨rfl, h0, hl, hd⟩ | ⟨rfl, hn⟩ | ⟨rfl, h⟩
  · cases h
  · cases h
  · rw [hd c (by simp)]; rfl
  · obtain ⟨_, _, _, d, hd, hc⟩ := nm_level hn
    injection hd with hd _
    subst hd
    rcases hc with rfl | rfl | rfl <;> rfl
  · simp only [ops, List.mem_cons, List.not_mem_nil, or_false] at h
    rcases h with (h | h | h | h | h | h | h | h | h | h | h | h | h) | h | h | h <;> (injection h with h1 h2; subst h1; rfl)
theorem nm_of {k : Nat} {t : Bs} (h : TokOK k t) : isNm t = decide (k = 3) := by
  rcases h with ⟨rfl, rfl⟩ | ⟨rfl, rfl⟩ | ⟨rfl, h0, hl, hd⟩ | ⟨rfl, hn⟩ | ⟨rfl, h⟩
  · rfl
  · rfl
  · cases hq : isNm t
    · rfl
    · obtain ⟨_, _, _, c, rfl, hc⟩ := nm_level hq
      have := hd c (by simp)
      rcases hc with rfl | rfl | rfl <;> cases this
  · rw [hn]; rfl
  · cases hq : isNm t
    · rfl
    · obtain ⟨a, b, c, d, rfl, hc⟩ := nm_level hq
      rcases h with h | h | h | h
      · exact absurd h a
      · injection h with h; subst h; rcases hc with h | h | h <;> cases h
      · exact absurd h b
      · exact absurd h c
theorem bn_of {k : Nat} {t : Bs} (h : TokOK k t) : (decide (0 < rankOf t) && decide (rankOf t < 6)) = decide (levelOf t ≠ 0) := by
  have h126 : t ≠ [126] := by
    rintro rfl
    rcases h with ⟨rfl, h⟩ | ⟨rfl, h⟩ | ⟨rfl, h0, hl, hd⟩ | ⟨rfl, hn⟩ | ⟨rfl, h⟩
    · cases h
    · cases h
    · have := hd 126 (by simp); cases this
    · cases hn
    · revert h; decide
  unfold rankOf
  by_cases h33 : t = [33]
  · subst h33; decide
  · rw [if_neg (by simp [h126, h33])]
    by_cases hm : t ∈ ops
    · have := ops_no hm
      rw [Bool.eq_iff_iff]
      simp only [Bool.and_eq_true, decide_eq_true_eq, ne_eq]
      omega
    · rw [levelOf_not hm]; rfl
/-- What a word leaves of the flags. -/
theorem put_flags {s : St} {k : Nat} {t : Bs} (hw : Way s k t) (hk : k ≠ 1) :
    ((s.count k t).put k t).parts = s.parts + (if t = [40] ∨ t = [41] then 0 else 1) ∧ ((s.count k t).put k t).opn = (if t = [40] then s.opn + 1 else if t = [41] then s.opn - 1 else s.opn) ∧
    ((s.count k t).put k t).complete = (if t = [40] ∨ t = [41] then s.complete else decide (k = 2) || decide (k = 3)) := by
  rw [count_eq]
  cases hw with
  | fin => exact absurd rfl hk
  | num _ h0 hl hd hc =>
    obtain ⟨a, b, c⟩ := dig_level h0 hd
    simp [isPart, St.put, b, c]
  | name _ hn hc =>
    obtain ⟨a, b, c, _⟩ := nm_level hn
    simp [isPart, St.put, b, c]
  | opn hc => simp [isPart, St.put]
  | close hc ho => simp [isPart, St.put, St.join]
  | bin _ hc hm =>
    obtain ⟨n40, n41, _, _⟩ := ops_no hm
    simp [isPart, St.put, n40, n41, hc, St.join]
  | sign _ hc hm => rcases hm with rfl | rfl <;> simp [isPart, St.put, hc]
theorem word_at {u : ByteArray} {l tl : Bs} (w : World) (hu : u.data.toList = l) (hne : l ≠ []) (hl : l.length ≤ 200) (htl : wordOf l = tl) :
    Calls Tryz.prog 57 #[.string u] w fun e w' => ∃ t : ByteArray, t.data.toList = tl ∧ e = .returned (.string t) ∧ w = w' := by
  subst hu htl
  have h : u.data.toList.length = u.size := by simp
  refine rword_any u w ?_ (by omega)
  cases hq : u.data.toList with
  | nil => exact absurd hq hne
  | cons c r => rw [hq] at h; simp at h; omega
/-- The expression that the document's reader has made. -/
def RAt (w0 : World) (x : Nat) (T : Tree) (w : World) : Prop :=
  ∃ L Ts i vL, w.heap[x]? = some (.cells #[vL, .int .i64 ((i : Nat) : Int)] 96 (0, 0)) ∧ w.ownsRow w0.heap.size 110 4 vL L.length (ndCells L) ∧ Good L Ts ∧ Ts[i]? = some T ∧ L.length = T.size
theorem RAt.grow {w0 w w' : World} {x : Nat} {T : Tree} (h : RAt w0 x T w) (hb : Below w.heap.size w w') : RAt w0 x T w' := by
  obtain ⟨L, Ts, i, vL, h1, h2, h3⟩ := h
  exact ⟨L, Ts, i, vL, by rw [hb.block x (lt_of_heap h1)]; exact h1, ownsRow_below h2 hb, h3⟩
def RParsed (w : World) (r : Res) (e : Ending) (w' : World) : Prop := Below w.heap.size w w' ∧
  match r with
  | .ok T => T.WF ∧ T.size ≤ 64 ∧ ∃ x, e = .returned (.tuple #[ptr x, .int .i64 0, .int .i64 0]) ∧ RAt w x T w'
  | .err pos n => e = .returned (.tuple #[.pointer none, .int .i64 pos, .int .i64 n])
theorem RX.root {w0 w : World} {p x : Nat} {L : List Nd} {is : List Nat} {ws : List Bs} {root : Int} {vL vV vW : Value} (h : RX w0 p x L is ws root vL vV vW w) (r : Int) :
    RX w0 p x L is ws r vL vV vW (w.setCell ⟨x, 1, none⟩ (.int .i64 r)) := by
  refine ⟨h.below.setCell h.hx _, h.hp, h.hx, heap_setCell h.blk h.px.symm _, ?_, ownsRow_setCell_other h.rowL (row_ne h.rowL h.xblk (by decide)) _, ownsRow_setCell_other h.rowV (row_ne h.rowV h.xblk (by decide)) _, ownsRow_setCell_other h.rowW (row_ne h.rowW h.xblk (by decide)) _⟩
  rw [heap_setCell_same w x 1 _ _ _ h.xblk]; rfl
theorem RM.init (w : World) : RM w (w.heap.size + 1) w.heap.size St.init ((w.alloc (.cells #[.slice none 0 0, .int .i64 0] 96)).alloc (.cells #[ptr w.heap.size, .slice none 0 0, .slice none 0 0] 98)) := by
  have b1 : Below w.heap.size w (w.alloc (.cells #[.slice none 0 0, .int .i64 0] 96)) := (Below.refl _ _).alloc (Nat.le_refl _) _
  refine ⟨[], [], [], .slice none 0 0, .slice none 0 0, .slice none 0 0, ⟨b1.alloc (by simp) _, by omega, Nat.le_refl _, ?_, ?_, World.ownsRow_nil _ _ _ _, World.ownsRow_nil _ _ _ _, World.ownsRow_nil _ _ _ _⟩, ⟨rfl, (fun T h => by cases h), (fun i nd T h => by cases h), (fun T h => by cases h)⟩, trivial, rfl⟩
  · have := heap_alloc_new (w.alloc (.cells #[.slice none 0 0, .int .i64 0] 96)) (.cells #[ptr w.heap.size, .slice none 0 0, .slice none 0 0] 98)
    rwa [World.size_alloc] at this
  · exact heap_alloc_old (heap_alloc_new w _) _
/-- What the loop keeps. -/
def RL (w : World) (N : Nat) (l : Bs) (R : Res) (k a : Nat) (st : St) (wr : World) : Prop :=
  ∃ rest f, a ≤ N ∧ l.drop a = rest ∧ rest.length = k ∧ RM w (w.heap.size + 1) w.heap.size st wr ∧ st.Inv ∧ st.Bal ∧ st.waits.length + rest.length ≤ 200 ∧ rest.length < f ∧ go f N rest st = R
theorem rnext {w wr' : World} {N k a ps f : Nat} {l rest : Bs} {R : Res} {st : St} {kk : Nat} {tl : Bs} (hl : l.length = N) (hi : st.Inv) (hb : st.Bal) (hk : TokOK kk tl) (he : st.errOf kk tl = 0) (h1 : kk ≠ 1)
    (hkk : kindOf (skip rest) = kk) (htl : wordOf (skip rest) = tl) (hps : N - (skip rest).length = ps) (ha : a ≤ N) (hrest : l.drop a = rest) (hlen : rest.length = k) (hw : st.waits.length + rest.length ≤ 200) (hf : rest.length < f + 1)
    (hgo : go f N ((skip rest).drop tl.length) ((st.count kk tl).put kk tl) = R) (hp : RM w (w.heap.size + 1) w.heap.size ((st.count kk tl).put kk tl) wr') :
    ((skip rest).drop tl.length).length < k ∧ RL w N l R ((skip rest).drop tl.length).length (ps + tl.length) ((st.count kk tl).put kk tl) wr' := by
  have hz := err_zero he
  have hway := way_of hk hz.1
  have hpos : 0 < tl.length := by
    cases hway with
    | fin => exact absurd rfl h1
    | num _ h0 => cases tl with | nil => exact absurd rfl h0 | cons => simp
    | name _ hn => obtain ⟨_, _, _, c, rfl, _⟩ := nm_level hn; simp
    | opn => simp
    | close => simp
    | bin _ _ hm => exact (ops_len hm).2
    | sign _ _ hm => rcases hm with rfl | rfl <;> simp
  have hwl := wordOf_le (skip rest)
  rw [htl] at hwl
  have hsl := skip_le rest
  obtain ⟨j, hj, hje⟩ := skip_suffix rest
  have hsk : skip rest = l.drop (a + j) := by rw [hje, ← hrest, List.drop_drop]
  have hskl : (skip rest).length = N - (a + j) := by rw [hsk, List.length_drop, hl]
  have hrl : rest.length = N - a := by rw [← hrest, List.length_drop, hl]
  have hdl : ((skip rest).drop tl.length).length = (skip rest).length - tl.length := List.length_drop
  have hfew : st.parts ≤ 64 := by have := hi.few; unfold St.Bal at hb; omega
  obtain ⟨i1, i2, i3⟩ := put_inv hi hb hway (fun hp => by have := hz.2 hp; omega)
  refine ⟨by omega, (skip rest).drop tl.length, f, by omega, ?_, rfl, hp, i1, i2, by omega, by omega, hgo⟩
  have e : ps = a + j := by omega
  rw [e, hsk, List.drop_drop]
theorem skip_at {l : Bs} {k : Nat} (h : k < l.length) : skip (l.drop k) = if l[k] == 32 then skip (l.drop (k + 1)) else l.drop k := by
  rw [List.drop_eq_getElem_cons h]; simp only [skip]
theorem skip_end2 {l : Bs} {k : Nat} (h : l.length ≤ k) : skip (l.drop k) = [] := by rw [List.drop_of_length_le h]; rfl
theorem ext_drop (s : ByteArray) (a : Nat) : (s.extract a s.size).data.toList = s.data.toList.drop a := by
  simp only [ByteArray.data_extract, Array.toList_extract]
  rw [List.extract_eq_take_drop]
  exact List.take_of_length_le (by simp)
end Go.Proofs.YtfoenfipefhpoaaGreatDoor.Ex
/-
  Stands in the place of the document's decimal numbers at a seat that does not reach them: it only hands on what it imports. Conditions: none.
-/
/-
  The document's Parse: of any text the expression that the machine says, or its first error and the place. Conditions: none.
-/
namespace Go.Proofs.YtfoenfipefhpoaaGreatDoor.Ex
open Go.RowKit
theorem no_le : ∀ ws : List (Bs × Nat), no ws ≤ ws.length
  | [] => Nat.le_refl _
  | q :: r => by have := no_le r; simp only [no, List.length_cons]; split <;> omega
theorem err_40 {s : St} {k : Nat} {t : Bs} (h : s.allows k t = false) (hk : k ≠ 1) : s.errOf k t = 40 := by unfold St.errOf; rw [if_pos h, if_neg hk]
theorem err_5 {s : St} {k : Nat} {t : Bs} (h : s.allows k t = true) (hp : isPart k t = true) (h64 : s.parts = 64) : s.errOf k t = 5 := by unfold St.errOf; rw [if_neg (by simp [h]), if_pos ⟨hp, h64⟩]
theorem err_0 {s : St} {k : Nat} {t : Bs} (h : s.allows k t = true) (hp : ¬ (isPart k t = true ∧ s.parts = 64)) : s.errOf k t = 0 := by unfold St.errOf; rw [if_neg (by simp [h]), if_neg hp]
theorem way_open {s : St} {k : Nat} (h : Way s k [40]) : s.complete = false := by
  cases h with
  | num _ _ _ hd => have := hd 40 (by simp); cases this
  | name _ hn => cases hn
  | opn hc => exact hc
  | bin _ _ hm => exact absurd hm (by decide)
  | sign _ hc => exact hc
theorem way_close {s : St} {k : Nat} (h : Way s k [41]) : s.complete = true ∧ 0 < s.opn := by
  cases h with
  | num _ _ _ hd => have := hd 41 (by simp); cases this
  | name _ hn => cases hn
  | close hc ho => exact ⟨hc, ho⟩
  | bin _ _ hm => exact absurd hm (by decide)
  | sign _ hc hm => rcases hm with h | h <;> cases h
theorem way_val {s : St} {k : Nat} {t : Bs} (h : Way s k t) (hk : k = 2 ∨ k = 3) : s.complete = false := by
  cases h with
  | num _ _ _ _ hc => exact hc
  | name _ _ hc => exact hc
  | _ => rcases hk with h | h <;> cases h
theorem part_of {k : Nat} {t : Bs} (hk : k ≠ 1) : isPart k t = !(t == [40] || t == [41]) := by
  rw [Bool.eq_iff_iff]
  simp [isPart, hk]
theorem RM.below {w0 w : World} {p x : Nat} {s : St} (h : RM w0 p x s w) : Below w0.heap.size w0 w := by obtain ⟨_, _, _, _, _, _, hx, _⟩ := h; exact hx.below
theorem way_ne {s : St} {k : Nat} {t : Bs} (h : Way s k t) (hk : k ≠ 1) : t ≠ [] := by
  cases h with
  | fin => exact absurd rfl hk
  | num _ h0 => exact h0
  | name _ hn => rintro rfl; cases hn
  | opn => simp
  | close => simp
  | bin _ _ hm => rintro rfl; exact absurd hm (by decide)
  | sign _ _ hm => rcases hm with rfl | rfl <;> simp
set_option maxRecDepth 20000 in
set_option maxHeartbeats 8000000 in
theorem rparse_any {s : ByteArray} {w : World} (hs : s.size ≤ maxLen) : Calls Tryz.prog 42 #[.string s] w fun e w' => RParsed w (parse s.data.toList) e w' := by
  unfold maxLen at hs
  have hlen : s.data.toList.length = s.size := by simp
  by_cases h2 : 200 < s.size
  · have H : Hid (parse s.data.toList = .err 0 2) := Lib.hid (by unfold parse; rw [hlen, if_pos h2])
    rw [H.out]
    clear hlen
    go_enter Tryz.func42, Tryz.ntmps42
    go_wp2
    go_ret3
    exact ⟨Below.refl _ _, rfl⟩
  · obtain ⟨R, hR⟩ : ∃ R, parse s.data.toList = R := ⟨_, rfl⟩
    rw [hR]
    have hRL : RL w s.size s.data.toList R s.size 0 St.init ((w.alloc (.cells #[.slice none 0 0, .int .i64 0] 96)).alloc (.cells #[ptr w.heap.size, .slice none 0 0, .slice none 0 0] 98)) := by
      unfold parse at hR
      rw [hlen, if_neg h2] at hR
      exact ⟨_, s.size + 1, Nat.zero_le _, rfl, by simp, RM.init w, init_inv.1, init_inv.2, by simp [St.init]; omega, by simp, hR⟩
    have HRL := Lib.hid hRL
    have hs2 : s.size ≤ 200 := by omega
    clear hRL hR hlen
    go_enter Tryz.func42, Tryz.ntmps42
    go_wp2
    go_loopg [6, 7, 8, 9] s.size (fun k v6 v7 v8 v9 wr => ∃ (a : Nat) (st : St), v6 = .bool (!st.complete) ∧ v7 = .int .i64 st.opn ∧ v8 = .int .i64 st.parts ∧ v9 = .int .i64 a ∧ RL w s.size s.data.toList R k a st wr)
    case atStart => exact ⟨0, St.init, rfl, rfl, rfl, rfl, HRL.out⟩
    case round =>
      obtain ⟨a, st, rfl, rfl, rfl, rfl, rest, f, ha, hrest, hk, hrm, hi, hb, hw, hf, hgo⟩ := hrel
      obtain ⟨kk, hkk⟩ : ∃ kk, kindOf (skip rest) = kk := ⟨_, rfl⟩
      obtain ⟨tl, htl⟩ : ∃ tl, wordOf (skip rest) = tl := ⟨_, rfl⟩
      obtain ⟨ps, hps0⟩ : ∃ ps, s.size - (skip rest).length = ps := ⟨_, rfl⟩
      obtain ⟨n, hn⟩ : ∃ n, st.errOf kk tl = n := ⟨_, rfl⟩
      obtain ⟨f, rfl⟩ : ∃ f', f = f' + 1 := ⟨f - 1, by omega⟩
      simp only [go] at hgo
      rw [hkk, htl, hn, hps0] at hgo
      have htok : TokOK kk tl := by rw [← hkk, ← htl]; exact tok_ok _
      have hps2 : ps ≤ 200 := by omega
      have hsk : s.data.toList.drop ps = skip rest ∧ ps ≤ s.size ∧ (skip rest).length = s.size - ps := by
        obtain ⟨j, hj, hje⟩ := skip_suffix rest
        have hrl : rest.length = s.size - a := by rw [← hrest, List.length_drop]; simp
        have h1 : skip rest = s.data.toList.drop (a + j) := by rw [hje, ← hrest, List.drop_drop]
        have h3 : (skip rest).length = s.size - (a + j) := by rw [h1, List.length_drop]; simp
        have e : ps = a + j := by omega
        refine ⟨by rw [e, h1], by omega, by omega⟩
      have hop : st.opn ≤ 200 ∧ st.parts ≤ 64 ∧ st.waits.length ≤ 900 := by
        have h1 := hi.opn
        have h3 := no_le st.waits
        have h4 := hi.few
        unfold St.Bal at hb
        omega
      obtain ⟨o200, p64, w900⟩ := hop
      have hps1 := hsk.2.1
      have HA := Lib.hid (And.intro hrest (And.intro hkk (And.intro hps0 hsk)))
      have HTL := Lib.hid htl
      have HK := Lib.hid htok
      have HE := Lib.hid hn
      have HP := Lib.hid hrm
      have HI := Lib.hid (And.intro hi hb)
      have HF := Lib.hid (And.intro hf (And.intro hk hw))
      have HG := Lib.hid hgo
      clear hrest hkk hrm hi hb hgo hk hw hf htl htok hn hps0 hsk
      go_upto_block 2 with fail
      go_cut [9] (fun v9 wx => v9 = .int .i64 ps ∧ wr = wx)
      case first =>
        go_wp2_with fail
        go_loop [9] (fun i => ∃ k : Nat, k ≤ s.size ∧ i = .int .i64 k ∧ skip (s.data.toList.drop k) = skip rest) (fun i => s.size - (intOf i).toNat)
        case atStart => exact ⟨a, ha, rfl, by rw [HA.out.1]⟩
        case round =>
          obtain ⟨k, hk, rfl, hr⟩ := hrel
          by_cases hlt : k < s.size
          · have hst := skip_cons (l := s.data.toList) (k := k) (by simpa using hlt)
            by_cases hp : s[k] = 32
            · have HR : Hid (skip (s.data.toList.drop (k + 1)) = skip rest) := Lib.hid (by
                have : s.data.toList[k] = 32 := hp
                rw [if_pos (by rw [this]; rfl)] at hst; rw [← hr, hst])
              have hb : ((s[k].toNat : Int) == 32) = true := by rw [hp]; rfl
              clear hr hst hp
              go_wp2_with fail
              go_round
              case rel => exact ⟨k + 1, by omega, by go_num, HR.out⟩
              case measure => simp [intOf]; omega
            · have hq : k = ps := by
                have : ¬ s.data.toList[k] = 32 := hp
                rw [if_neg (by simpa using this)] at hst
                have h3 := HA.out.2.2.2.2.2
                rw [← hr, hst, List.length_drop] at h3
                simp at h3
                omega
              have hb : ((s[k].toNat : Int) == 32) = false := by
                have := beq_u8 s[k] 32 (by omega)
                refine Eq.trans this ?_
                simpa using hp
              subst hq
              clear hr hst hp
              go_wp2_with fail
              go_meet
              exact ⟨rfl, rfl⟩
          · have hq : k = ps := by
              have h3 := HA.out.2.2.2.2.2
              rw [← hr, skip_nil (by simpa using hlt)] at h3
              simp at h3
              omega
            subst hq
            clear hr
            go_wp2_with fail
            go_meet
            exact ⟨rfl, rfl⟩
      case rest =>
        obtain ⟨rfl, rfl⟩ := hcut
        by_cases hend : ps = s.size
        · have hrest0 : skip rest = [] := by
            have h3 := HA.out.2.2.2.2.2
            rw [hend] at h3
            exact List.eq_nil_of_length_eq_zero (by omega)
          obtain rfl : kk = 1 := by rw [← HA.out.2.1, hrest0]; rfl
          obtain rfl : tl = [] := by rw [← HTL.out, hrest0]; rfl
          have e1 : ((ps : Int) == (s.size : Int)) = true := by rw [hend]; simp
          have hal : st.allows 1 [] = (st.complete && decide (st.opn = 0)) := by unfold St.allows; rw [if_pos rfl]
          obtain ⟨cp, hcp⟩ : ∃ b, st.complete = b := ⟨_, rfl⟩
          rw [hcp] at hal ⊢
          have HCP := Lib.hid hcp
          clear hcp hrest0
          have h41 : st.allows 1 [] = false → R = .err s.size 41 := by
            intro h
            have h1 : n = 41 := by rw [← HE.out]; unfold St.errOf; rw [if_pos h]; rfl
            have := HG.out
            rw [h1, if_pos (by decide), hend] at this
            exact this.symm
          have H41 := Lib.hid h41
          clear h41
          cases cp
          · have HR : Hid (R = .err s.size 41) := Lib.hid (H41.out hal)
            clear hal
            go_wp2_with fail
            go_ret3
            rw [HR.out]
            exact ⟨HP.out.below, rfl⟩
          · by_cases ho : st.opn = 0
            · have hoi : (st.opn : Int) = 0 := by omega
              have hn0 : n = 0 := by rw [← HE.out]; exact err_0 (by rw [hal, ho]; rfl) (fun h => by have := h.1; simp [isPart] at this)
              obtain ⟨T, hT, hwf, hsz, hT64⟩ := fin_one HI.out.1 HCP.out ho
              have hR : R = .ok T := by
                have := HG.out
                rw [if_neg (by simpa using hn0), if_pos rfl] at this
                rw [← this]
                have e : (st.count 1 []).put 1 [] = st.join 1 := by simp [St.count, isPart, St.put]
                rw [e, hT]; rfl
              have HR := Lib.hid (And.intro hR (And.intro hT (And.intro hwf hT64)))
              rw [hoi]
              clear hal hn0 hT hwf hsz hT64 hR hoi
              go_upto_region 36 with (go_at_call 61; refine (down_any (level := 1) HP.out HI.out.1 HCP.out (by omega) (by omega) (by omega)).mono ?_; rintro e w1 ⟨rfl, hm1⟩; have HM1 := Lib.hid hm1; clear hm1)
              obtain ⟨L, Ts, is, vL, vV, vW, hx, hg, hat, hl'⟩ := HM1.out
              rw [HR.out.2.1] at hat hl'
              obtain ⟨i, rfl⟩ : ∃ i, is = [i] := by
                match is, hat with
                | [i], _ => exact ⟨i, rfl⟩
                | _ :: _ :: _, h => exact h.2.elim
              obtain ⟨g, cap, rfl, h1, h2', h3⟩ := hx.topV
              obtain ⟨c0, c1, c2, f0, f1, f2⟩ := rx_cells hx.blk
              obtain ⟨d0, d1, g0, g1⟩ := xx_cells hx.xblk
              simp only [List.length_nil, Nat.zero_add] at c1 h2' h3
              have hp := lt_of_heap hx.blk
              have hxl := lt_of_heap hx.xblk
              have HX := Lib.hid hx
              have HAT := Lib.hid (And.intro hg (And.intro hat hl'))
              clear hx hg hat hl'
              go_region
              all_goals go_wp2
              all_goals go_ret3
              all_goals
                have hx2 := (HX.out.root (i : Int)).grow ((Below.refl _ _).drew)
                rw [HR.out.1]
                refine ⟨hx2.below, HR.out.2.2.1, HR.out.2.2.2, w.heap.size, rfl, L, Ts, i, vL, hx2.xblk, hx2.rowL, HAT.out.1, HAT.out.2.1.1, ?_⟩
                rw [HAT.out.2.2]; simp [tot]
            · have HR : Hid (R = .err s.size 41) := Lib.hid (H41.out (by rw [hal]; simp [ho]))
              have hoi : (0 : Int) < (st.opn : Int) := by omega
              clear hal
              go_wp2_with fail
              go_ret3
              rw [HR.out]
              exact ⟨HP.out.below, rfl⟩
        · have hlt : ps < s.size := by omega
          have e1 : ((ps : Int) == (s.size : Int)) = false := ne_beq hend
          have hne : skip rest ≠ [] := by
            intro e
            have h3 := HA.out.2.2.2.2.2
            rw [e] at h3; simp at h3; omega
          have hk1 : kk ≠ 1 := by
            intro e
            have h3 := HA.out.2.1
            rw [e] at h3
            unfold kindOf at h3
            rw [if_neg hne] at h3
            have := meas_kind (skip rest)
            omega
          have hl200 : (skip rest).length ≤ 200 := by have := HA.out.2.2.2.2.2; omega
          have HNE := Lib.hid hne
          clear hne hend
          go_upto_region 12 with (go_at_call 57; refine (word_at (l := skip rest) (tl := tl) _ ((ext_drop _ _).trans HA.out.2.2.2.1) HNE.out hl200 HTL.out).mono ?_; rintro e w' ⟨t, ht, rfl, rfl⟩; have HT := Lib.hid ht; clear ht)
          obtain ⟨nb, hnb⟩ : ∃ b, decide (kk = 2) = b := ⟨_, rfl⟩
          obtain ⟨nm, hnm⟩ : ∃ b, isNm tl = b := ⟨_, rfl⟩
          obtain ⟨sg, hsg⟩ : ∃ b, sgn tl = b := ⟨_, rfl⟩
          obtain ⟨bn, hbn⟩ : ∃ b, decide (levelOf tl ≠ 0) = b := ⟨_, rfl⟩
          obtain ⟨o1, ho1⟩ : ∃ b, (t.toList == [40]) = b := ⟨_, rfl⟩
          obtain ⟨c1, hc1⟩ : ∃ b, (t.toList == [41]) = b := ⟨_, rfl⟩
          obtain ⟨ft, hft⟩ : ∃ b, st.allows kk tl = b := ⟨_, rfl⟩
          have HNB := Lib.hid hnb
          have HNM := Lib.hid hnm
          have HSG := Lib.hid hsg
          have HBN := Lib.hid hbn
          have HFT := Lib.hid hft
          clear hnb hnm hsg hbn hft
          have htt : t.toList = tl := by rw [Lib.toList_data, HT.out]
          have HTT := Lib.hid htt
          clear htt
          go_cut [11] (fun v wx => v = .bool nb ∧ wr = wx)
          case first =>
            by_cases he : tl = []
            · have z1 : (t.toList == []) = true := by rw [HTT.out, he]; rfl
              have z2 : (t.toList != []) = false := by rw [bne, z1]; rfl
              have hnb0 : nb = false := by
                rw [← HNB.out]
                rcases HK.out with ⟨h, _⟩ | ⟨h, _⟩ | ⟨_, h, _⟩ | ⟨_, h⟩ | ⟨h, _⟩
                · rw [h]; rfl
                · rw [h]; rfl
                · exact absurd he h
                · rw [he] at h; cases h
                · rw [h]; rfl
              subst hnb0
              clear he
              go_wp2_with fail
              go_meet
              exact ⟨rfl, rfl⟩
            · obtain ⟨c, r, hcr⟩ : ∃ c r, tl = c :: r := by
                cases htl0 : tl with
                | nil => exact absurd htl0 he
                | cons c r => exact ⟨c, r, rfl⟩
              have z1 : (t.toList == []) = false := by rw [HTT.out, hcr]; rfl
              have z2 : (t.toList != []) = true := by rw [bne, z1]; rfl
              obtain ⟨h0, hc0⟩ := head_at (HT.out.trans hcr)
              have hd : isDig t[0] = nb := by
                rw [hc0, ← HNB.out]
                have := HK.out
                rw [hcr] at this
                exact nb_of this
              clear he hcr hc0
              go_wp2_with (go_at_call 58; (with_reducible refine (rdigit_any _ _).mono ?_); rintro e w' ⟨rfl, rfl⟩)
              go_meet
              exact ⟨rfl, rfl⟩
          case rest =>
            obtain ⟨rfl, rfl⟩ := hcut
            go_upto_region 13 with fail
            go_cut [12] (fun v wx => v = .bool nm ∧ wr = wx)
            case first =>
              have hnm : (t.toList == [110] || t.toList == [116] || t.toList == [118]) = nm := by rw [HTT.out]; exact HNM.out
              cases h1 : (t.toList == [110])
              · cases h2 : (t.toList == [116])
                · rw [h1, h2] at hnm
                  simp only [Bool.false_or] at hnm
                  go_wp2_with fail
                  go_meet
                  exact ⟨rfl, rfl⟩
                · rw [h1, h2] at hnm
                  simp only [Bool.false_or, Bool.true_or] at hnm
                  subst hnm
                  go_wp2_with fail
                  go_meet
                  exact ⟨rfl, rfl⟩
              · rw [h1] at hnm
                simp only [Bool.true_or] at hnm
                subst hnm
                go_wp2_with fail
                go_meet
                exact ⟨rfl, rfl⟩
            case rest =>
              obtain ⟨rfl, rfl⟩ := hcut
              go_upto_region 14 with fail
              go_cut [13] (fun v wx => v = .bool sg ∧ wr = wx)
              case first =>
                have hsg : (t.toList == [45] || t.toList == [33]) = sg := by rw [HTT.out]; exact HSG.out
                cases h1 : (t.toList == [45])
                · rw [h1] at hsg
                  simp only [Bool.false_or] at hsg
                  go_wp2_with fail
                  go_meet
                  exact ⟨rfl, rfl⟩
                · rw [h1] at hsg
                  simp only [Bool.true_or] at hsg
                  subst hsg
                  go_wp2_with fail
                  go_meet
                  exact ⟨rfl, rfl⟩
              case rest =>
                obtain ⟨rfl, rfl⟩ := hcut
                go_upto_region 15 with fail
                go_cut [14] (fun v wx => v = .bool bn ∧ wr = wx)
                case first =>
                  have hbn := (bn_of HK.out).trans HBN.out
                  obtain ⟨rk, hrk⟩ : ∃ r, rankOf tl = r := ⟨_, rfl⟩
                  rw [hrk] at hbn
                  have HRK : Hid (rankOf t.data.toList = rk) := Lib.hid (by rw [HT.out, hrk])
                  clear hrk
                  by_cases r0 : 0 < rk
                  · have r0i : (0 : Int) < (rk : Int) := by omega
                    by_cases r6 : rk < 6
                    · have r6i : (rk : Int) < 6 := by omega
                      have : bn = true := by rw [← hbn]; simp [r0, r6]
                      subst this
                      clear hbn
                      go_wp2_with (go_at_call 59; (with_reducible refine (rank_at _ _ HRK.out).mono ?_); rintro e w' ⟨rfl, rfl⟩)
                      go_meet
                      exact ⟨rfl, rfl⟩
                    · have r6i : ¬ (rk : Int) < 6 := by omega
                      have : bn = false := by rw [← hbn]; simp [r6]
                      subst this
                      clear hbn
                      go_wp2_with (go_at_call 59; (with_reducible refine (rank_at _ _ HRK.out).mono ?_); rintro e w' ⟨rfl, rfl⟩)
                      go_meet
                      exact ⟨congrArg Value.bool (decide_eq_false (by omega)), rfl⟩
                  · obtain rfl : rk = 0 := by omega
                    have : bn = false := by rw [← hbn]; rfl
                    subst this
                    clear hbn
                    go_wp2_with (go_at_call 59; (with_reducible refine (rank_at _ _ HRK.out).mono ?_); rintro e w' ⟨rfl, rfl⟩)
                    go_meet
                    exact ⟨rfl, rfl⟩
                case rest =>
                  obtain ⟨rfl, rfl⟩ := hcut
                  go_upto_region 16 with fail
                  have hfit : ft = ((!st.complete && (nb || nm || sg || o1)) || (st.complete && (bn || (c1 && decide (0 < st.opn))))) := by
                    rw [← HFT.out, fits_eq HK.out hk1, HNB.out, HNM.out, HSG.out, HBN.out, ← ho1, ← hc1, HTT.out]
                  have HFIT := Lib.hid hfit
                  clear hfit
                  obtain ⟨cp, hcp⟩ : ∃ b, st.complete = b := ⟨_, rfl⟩
                  rw [hcp]
                  have HCP := Lib.hid hcp
                  clear hcp
                  go_cut [15] (fun v wx => v = .bool ft ∧ wr = wx)
                  case first =>
                    have hfit := HFIT.out
                    rw [HCP.out] at hfit
                    cases cp
                    · simp only [Bool.not_false, Bool.true_and, Bool.false_and, Bool.or_false] at hfit
                      cases nb
                      · cases nm
                        · cases sg
                          · cases o1
                            · simp at hfit; subst hfit
                              go_wp2_with fail
                              go_meet
                              exact ⟨rfl, rfl⟩
                            · simp at hfit; subst hfit
                              go_wp2_with fail
                              go_meet
                              exact ⟨rfl, rfl⟩
                          · simp at hfit; subst hfit
                            go_wp2_with fail
                            go_meet
                            exact ⟨rfl, rfl⟩
                        · simp at hfit; subst hfit
                          go_wp2_with fail
                          go_meet
                          exact ⟨rfl, rfl⟩
                      · simp at hfit; subst hfit
                        go_wp2_with fail
                        go_meet
                        exact ⟨rfl, rfl⟩
                    · simp only [Bool.not_true, Bool.true_and, Bool.false_and, Bool.false_or] at hfit
                      cases bn
                      · cases c1
                        · simp at hfit; subst hfit
                          go_wp2_with fail
                          go_meet
                          exact ⟨rfl, rfl⟩
                        · by_cases hop : 0 < st.opn
                          · have hopi : (0 : Int) < (st.opn : Int) := by omega
                            simp [hop] at hfit; subst hfit
                            go_wp2_with fail
                            go_meet
                            exact ⟨rfl, rfl⟩
                          · have hopi : ¬ (0 : Int) < (st.opn : Int) := by omega
                            simp [hop] at hfit; subst hfit
                            go_wp2_with fail
                            go_meet
                            exact ⟨rfl, rfl⟩
                      · simp at hfit; subst hfit
                        go_wp2_with fail
                        go_meet
                        exact ⟨rfl, rfl⟩
                  case rest =>
                    obtain ⟨rfl, rfl⟩ := hcut
                    cases ft
                    · have h40 := err_40 HFT.out hk1
                      obtain rfl : n = 40 := by rw [← HE.out, h40]
                      have hR : R = .err ps 40 := by have := HG.out; rw [if_pos (by decide)] at this; exact this.symm
                      have HR := Lib.hid hR
                      clear hR h40
                      by_cases he : tl = []
                      · have z1 : (t.toList == []) = true := by rw [HTT.out, he]; rfl
                        clear he
                        go_wp2_with fail
                        go_ret3
                        rw [HR.out]
                        exact ⟨HP.out.below, rfl⟩
                      · have z1 : (t.toList == []) = false := by rw [HTT.out, beq_eq_false_iff_ne]; exact he
                        clear he
                        go_wp2_with fail
                        go_ret3
                        rw [HR.out]
                        exact ⟨HP.out.below, rfl⟩
                    · have hway := way_of HK.out HFT.out
                      have z1 : (t.toList == []) = false := by rw [HTT.out, beq_eq_false_iff_ne]; exact way_ne hway hk1
                      have hpt := part_of (t := tl) hk1
                      have hts : t.size = tl.length := by rw [← HT.out]; simp
                      have ht200 : (t.size : Int) ≤ 200 := by
                        have h1 := wordOf_le (skip rest)
                        rw [HTL.out] at h1
                        omega
                      have HTS := Lib.hid hts
                      have HWAY := Lib.hid hway
                      have PF := put_flags hway hk1
                      obtain ⟨s', hs'⟩ : ∃ s', (st.count kk tl).put kk tl = s' := ⟨_, rfl⟩
                      rw [hs'] at PF
                      have HS' := Lib.hid hs'
                      clear hts hway hs'
                      have hne0 : n = 0 → go f s.size ((skip rest).drop tl.length) s' = R := by
                        intro h
                        have := HG.out
                        rw [if_neg (by simpa using h), if_neg hk1, HS'.out] at this
                        exact this
                      have HN0 := Lib.hid hne0
                      clear hne0
                      cases o1
                      · cases c1
                        · rw [← HTT.out, ho1, hc1] at hpt
                          have n40 : tl ≠ [40] := by rw [← HTT.out]; intro e; rw [e] at ho1; cases ho1
                          have n41 : tl ≠ [41] := by rw [← HTT.out]; intro e; rw [e] at hc1; cases hc1
                          rw [if_neg (by simp [n40, n41]), if_neg n40, if_neg n41, if_neg (by simp [n40, n41]), HNB.out, ← nm_of HK.out, HNM.out] at PF
                          rw [HTT.out] at hpt
                          have q1 : (t.toList != [40]) = true := by rw [bne, ho1]; rfl
                          have q2 : (t.toList != [41]) = true := by rw [bne, hc1]; rfl
                          by_cases h64 : st.parts = 64
                          · have h5 := err_5 HFT.out hpt h64
                            obtain rfl : n = 5 := by rw [← HE.out, h5]
                            have hR : R = .err ps 5 := by have := HG.out; rw [if_pos (by decide)] at this; exact this.symm
                            have HR := Lib.hid hR
                            have h64i : (st.parts : Int) = 64 := by omega
                            rw [h64i]
                            clear hR h5 hpt n40 n41 PF h64 h64i
                            go_wp2_with fail
                            go_ret3
                            rw [HR.out]
                            exact ⟨HP.out.below, rfl⟩
                          · have h0 := err_0 HFT.out (fun h => h64 h.2)
                            obtain rfl : n = 0 := by rw [← HE.out, h0]
                            have h64i : (st.parts : Int) < 64 := by omega
                            have HPF := Lib.hid PF
                            clear h0 hpt n40 n41 PF h64
                            cases nb
                            · cases nm
                              · cases cp
                                · go_wp2_with (go_at_call 60; refine (rtake_any HP.out HI.out.1 HWAY.out HT.out hk1 w900 (b := true) (by rw [HCP.out]; rfl)).mono ?_; rintro e w1 ⟨rfl, hm1⟩; have HM1 := Lib.hid hm1; clear hm1)
                                  have R2 := rnext (R := R) (by simp) HI.out.1 HI.out.2 HK.out HE.out hk1 HA.out.2.1 HTL.out HA.out.2.2.1 ha HA.out.1 HF.out.2.1 HF.out.2.2 HF.out.1 (by rw [HS'.out]; exact HN0.out (by trivial)) HM1.out
                                  rw [HS'.out] at R2
                                  go_roundg ((skip rest).drop tl.length).length
                                  case measure => exact R2.1
                                  case rel => exact ⟨ps + tl.length, s', by rw [HPF.out.2.2]; rfl, by rw [HPF.out.2.1], by rw [HPF.out.1]; go_num, by rw [HTS.out]; go_num, R2.2⟩
                                · go_wp2_with (go_at_call 60; refine (rtake_any HP.out HI.out.1 HWAY.out HT.out hk1 w900 (b := false) (by rw [HCP.out]; rfl)).mono ?_; rintro e w1 ⟨rfl, hm1⟩; have HM1 := Lib.hid hm1; clear hm1)
                                  have R2 := rnext (R := R) (by simp) HI.out.1 HI.out.2 HK.out HE.out hk1 HA.out.2.1 HTL.out HA.out.2.2.1 ha HA.out.1 HF.out.2.1 HF.out.2.2 HF.out.1 (by rw [HS'.out]; exact HN0.out (by trivial)) HM1.out
                                  rw [HS'.out] at R2
                                  go_roundg ((skip rest).drop tl.length).length
                                  case measure => exact R2.1
                                  case rel => exact ⟨ps + tl.length, s', by rw [HPF.out.2.2]; rfl, by rw [HPF.out.2.1], by rw [HPF.out.1]; go_num, by rw [HTS.out]; go_num, R2.2⟩
                              · obtain rfl : cp = false := by rw [← HCP.out]; exact way_val HWAY.out (.inr (by have := nm_of HK.out; rw [HNM.out] at this; simpa using this.symm))
                                go_wp2_with (go_at_call 60; refine (rtake_any HP.out HI.out.1 HWAY.out HT.out hk1 w900 (b := true) (by rw [HCP.out]; rfl)).mono ?_; rintro e w1 ⟨rfl, hm1⟩; have HM1 := Lib.hid hm1; clear hm1)
                                have R2 := rnext (R := R) (by simp) HI.out.1 HI.out.2 HK.out HE.out hk1 HA.out.2.1 HTL.out HA.out.2.2.1 ha HA.out.1 HF.out.2.1 HF.out.2.2 HF.out.1 (by rw [HS'.out]; exact HN0.out (by trivial)) HM1.out
                                rw [HS'.out] at R2
                                go_roundg ((skip rest).drop tl.length).length
                                case measure => exact R2.1
                                case rel => exact ⟨ps + tl.length, s', by rw [HPF.out.2.2]; rfl, by rw [HPF.out.2.1], by rw [HPF.out.1]; go_num, by rw [HTS.out]; go_num, R2.2⟩
                            · obtain rfl : cp = false := by rw [← HCP.out]; exact way_val HWAY.out (.inl (by have := HNB.out; simpa using this))
                              go_wp2_with (go_at_call 60; refine (rtake_any HP.out HI.out.1 HWAY.out HT.out hk1 w900 (b := true) (by rw [HCP.out]; rfl)).mono ?_; rintro e w1 ⟨rfl, hm1⟩; have HM1 := Lib.hid hm1; clear hm1)
                              have R2 := rnext (R := R) (by simp) HI.out.1 HI.out.2 HK.out HE.out hk1 HA.out.2.1 HTL.out HA.out.2.2.1 ha HA.out.1 HF.out.2.1 HF.out.2.2 HF.out.1 (by rw [HS'.out]; exact HN0.out (by trivial)) HM1.out
                              rw [HS'.out] at R2
                              go_roundg ((skip rest).drop tl.length).length
                              case measure => exact R2.1
                              case rel => exact ⟨ps + tl.length, s', by rw [HPF.out.2.2]; rfl, by rw [HPF.out.2.1], by rw [HPF.out.1]; go_num, by rw [HTS.out]; go_num, R2.2⟩
                        · have e41 : tl = [41] := by rw [← HTT.out]; exact eq_of_beq hc1
                          have hcl := way_close (e41 ▸ HWAY.out)
                          obtain rfl : cp = true := by rw [← HCP.out]; exact hcl.1
                          have hop : (0 : Int) < (st.opn : Int) := by omega
                          rw [if_pos (.inr e41), if_neg (by rw [e41]; decide), if_pos e41, if_pos (.inr e41), HCP.out] at PF
                          have h0 := err_0 HFT.out (fun h => by rw [hpt, e41] at h; exact absurd h.1 (by decide))
                          obtain rfl : n = 0 := by rw [← HE.out, h0]
                          have HPF := Lib.hid PF
                          have q1 : (t.toList != [40]) = true := by rw [bne, ho1]; rfl
                          have q2 : (t.toList != [41]) = false := by rw [bne, hc1]; rfl
                          clear h0 hpt PF hcl e41
                          go_wp2_with (go_at_call 60; refine (rtake_any HP.out HI.out.1 HWAY.out HT.out hk1 w900 (b := false) (by rw [HCP.out]; rfl)).mono ?_; rintro e w1 ⟨rfl, hm1⟩; have HM1 := Lib.hid hm1; clear hm1)
                          have R2 := rnext (R := R) (by simp) HI.out.1 HI.out.2 HK.out HE.out hk1 HA.out.2.1 HTL.out HA.out.2.2.1 ha HA.out.1 HF.out.2.1 HF.out.2.2 HF.out.1 (by rw [HS'.out]; exact HN0.out (by trivial)) HM1.out
                          rw [HS'.out] at R2
                          go_roundg ((skip rest).drop tl.length).length
                          case measure => exact R2.1
                          case rel => exact ⟨ps + tl.length, s', by rw [HPF.out.2.2]; rfl, by rw [HPF.out.2.1]; go_num, by rw [HPF.out.1]; rfl, by rw [HTS.out]; go_num, R2.2⟩
                      · have e40 : tl = [40] := by rw [← HTT.out]; exact eq_of_beq ho1
                        obtain rfl : cp = false := by rw [← HCP.out]; exact way_open (e40 ▸ HWAY.out)
                        rw [if_pos (.inl e40), if_pos e40, if_pos (.inl e40), HCP.out] at PF
                        have h0 := err_0 HFT.out (fun h => by rw [hpt, e40] at h; exact absurd h.1 (by decide))
                        obtain rfl : n = 0 := by rw [← HE.out, h0]
                        have HPF := Lib.hid PF
                        have q1 : (t.toList != [40]) = false := by rw [bne, ho1]; rfl
                        clear h0 hpt PF e40
                        go_wp2_with (go_at_call 60; refine (rtake_any HP.out HI.out.1 HWAY.out HT.out hk1 w900 (b := true) (by rw [HCP.out]; rfl)).mono ?_; rintro e w1 ⟨rfl, hm1⟩; have HM1 := Lib.hid hm1; clear hm1)
                        have R2 := rnext (R := R) (by simp) HI.out.1 HI.out.2 HK.out HE.out hk1 HA.out.2.1 HTL.out HA.out.2.2.1 ha HA.out.1 HF.out.2.1 HF.out.2.2 HF.out.1 (by rw [HS'.out]; exact HN0.out (by trivial)) HM1.out
                        rw [HS'.out] at R2
                        go_roundg ((skip rest).drop tl.length).length
                        case measure => exact R2.1
                        case rel => exact ⟨ps + tl.length, s', by rw [HPF.out.2.2]; rfl, by rw [HPF.out.2.1]; go_num, by rw [HPF.out.1]; rfl, by rw [HTS.out]; go_num, R2.2⟩
end Go.Proofs.YtfoenfipefhpoaaGreatDoor.Ex
