/-
  The document's reader takes any word that may stand there, as the machine does. Conditions: the reader keeps what it keeps.
-/
import Derived.Test.YtlkaaembeakicaaDoorRTake
namespace Go.Proofs.YtlkaaembeakicaaDoor.Ex
open Go.RowKit
section
variable {w0 w : World} {p x : Nat} {t : ByteArray} {s : St}
theorem RM.of {L : List Nd} {is : List Nat} {ws : List Bs} {vL vV vW : Value} {Ts : List Tree} (hx : RX w0 p x L is ws 0 vL vV vW w) (hw : s.waits.map wtx = ws) (hg : Good L Ts) (ha : At Ts is s.vals) (hl : L.length = tot s.vals) : RM w0 p x s w := by
  subst hw; exact ⟨L, Ts, is, vL, vV, vW, hx, hg, ha, hl⟩
theorem join_waits (hi : s.Inv) (hc : s.complete = true) (ho : 0 < s.opn) : ∃ q r, (s.join 1).waits = q :: r ∧ r.length + 1 ≤ s.waits.length := by
  obtain ⟨a, b, c, d⟩ := joinL_inv (level := 1) (by omega) (by omega) s.waits s rfl hi hc
  have h1 := a.opn
  have h2 : (s.join 1).opn = s.opn := rfl
  rw [h2] at h1
  cases hv : (s.join 1).waits with
  | nil => rw [hv] at h1; simp [no] at h1; omega
  | cons q r => rw [hv] at c; exact ⟨q, r, rfl, by simpa using c⟩
set_option maxRecDepth 20000 in
set_option maxHeartbeats 4000000 in
theorem take_close (h : RM w0 p x s w) (hi : s.Inv) (hc : s.complete = true) (ho : 0 < s.opn) (hn : s.waits.length ≤ 900) (h0 : 0 < t.size) (hd : isDig t[0] = false) (hl : isLet t[0] = false) (q40 : (t.toList == [40]) = false) (q41 : (t.toList == [41]) = true) (b : Bool) :
    Calls Tryd.prog 26 #[ptr p, .string t, .bool b] w fun e w' => e = .returned (.tuple #[]) ∧ RM w0 p x { s.join 1 with waits := (s.join 1).waits.tail, opn := s.opn - 1 } w' := by
  obtain ⟨q, r, hv, hr⟩ := join_waits hi hc ho
  have HF := Lib.hid (And.intro h (And.intro hi hc))
  have HV := Lib.hid hv
  clear h hi hc hv
  go_enter Tryd.func26, Tryd.ntmps26
  go_upto_region 15 with (first
    | (go_at_call 24; (with_reducible refine (rdigit_any _ _).mono ?_); rintro e w' ⟨rfl, rfl⟩)
    | (go_at_call 34; (with_reducible refine (rletter_any _ _).mono ?_); rintro e w' ⟨rfl, rfl⟩)
    | (go_at_call 27; refine (down_any (level := 1) HF.out.1 HF.out.2.1 HF.out.2.2 (by omega) (by omega) (by omega)).mono ?_; rintro e w1 ⟨rfl, hm1⟩; have HM1 := Lib.hid hm1; clear hm1))
  obtain ⟨L, Ts, is, vL, vV, vW, hx, hg, ha, hl'⟩ := HM1.out
  rw [HV.out, List.map_cons] at hx
  obtain ⟨ws, hws⟩ : ∃ ws, r.map wtx = ws := ⟨_, rfl⟩
  have hwl : ws.length ≤ 1000 := by rw [← hws, List.length_map]; omega
  rw [hws] at hx
  obtain ⟨g, cap, rfl, hgw, hnc, -⟩ := hx.topW
  obtain ⟨c0, c1, c2, f0, f1, f2⟩ := rx_cells hx.blk
  have hp := lt_of_heap hx.blk
  have k1 : (ws.length : Int) + 1 ≤ (cap : Int) := by omega
  have k2 : IntKind.i64.wrap (ws.length : Int) = (ws.length : Int) := IntWalk.i64_in _ (by omega)
  have HX := Lib.hid hx
  have HG := Lib.hid (And.intro hg (And.intro ha (And.intro hl' hws)))
  clear hx hg ha hl' hws
  go_region
  all_goals go_wp2
  all_goals go_end0
  all_goals exact ⟨rfl, RM.of ((HX.out.grow ((Below.refl _ _).drew)).popW) (by show (s.join 1).waits.tail.map wtx = ws; rw [HV.out, List.tail_cons, HG.out.2.2.2]) HG.out.1 HG.out.2.1 HG.out.2.2.1⟩
set_option maxRecDepth 20000 in
set_option maxHeartbeats 4000000 in
theorem take_bin {lv : Nat} (h : RM w0 p x s w) (hi : s.Inv) (hc : s.complete = true) (hn : s.waits.length ≤ 900) (h0 : 0 < t.size) (hd : isDig t[0] = false) (hl : isLet t[0] = false) (q40 : (t.toList == [40]) = false) (q41 : (t.toList == [41]) = false) (hrk : rankOf t.data.toList = lv) (l1 : 1 ≤ lv) (l5 : lv ≤ 5) :
    Calls Tryd.prog 26 #[ptr p, .string t, .bool false] w fun e w' => e = .returned (.tuple #[]) ∧ RM w0 p x { s.join lv with waits := (t.data.toList, lv) :: (s.join lv).waits, complete := false } w' := by
  obtain ⟨i9, hi9, hy0, hy1, hy2⟩ := info_parts info9
  have hwl := (joinL_inv (level := lv) (by omega) (by omega) s.waits s rfl hi hc).2.2.1
  obtain ⟨ws, hws⟩ : ∃ ws, (s.join lv).waits.map wtx = ws := ⟨_, rfl⟩
  have hw1 : ws.length ≤ 1000 := by rw [← hws, List.length_map]; omega
  have HF := Lib.hid (And.intro h (And.intro hi hc))
  have HWS := Lib.hid hws
  have HRK := Lib.hid hrk
  clear h hi hc hws hrk hwl
  go_enter Tryd.func26, Tryd.ntmps26
  go_wp2_with (first
    | (go_at_call 24; (with_reducible refine (rdigit_any _ _).mono ?_); rintro e w' ⟨rfl, rfl⟩)
    | (go_at_call 34; (with_reducible refine (rletter_any _ _).mono ?_); rintro e w' ⟨rfl, rfl⟩)
    | (go_at_call 25; (with_reducible refine (rank_at _ _ HRK.out).mono ?_); rintro e w' ⟨rfl, rfl⟩)
    | (go_at_call 27; refine (down_any (level := lv) HF.out.1 HF.out.2.1 HF.out.2.2 (by omega) (by omega) (by omega)).mono ?_; rintro e wz ⟨rfl, hm1⟩; obtain ⟨L, Ts, is, vL, vV, vW, hx, hg, ha, hl'⟩ := hm1; rw [HWS.out] at hx; obtain ⟨c0, c1, c2, f0, f1, f2⟩ := rx_cells hx.blk; have hp := lt_of_heap hx.blk; have hB : w0.heap.size ≤ wz.heap.size := hx.below.size; have HX := Lib.hid hx; have HG := Lib.hid (And.intro hg (And.intro ha hl')); clear hx hg ha hl')
    | (refine wpList_append_lies _ (by rfl) (.tmp 16) (.tmp 18) 35 (by rfl) w0.heap.size 9 i9 (.string ⟨#[]⟩) 1 16 Tryd.underlying35 hi9 hy0 hy1 hy2 rfl (by decide) vW ws.length (wdCells ws) (by rfl) (ownsRow_below HX.out.rowW ((Below.refl _ _).alloc (Nat.le_refl _) _)) ⟨wz.heap.size, 0, none⟩ 1 1 [.string t] (by rfl) rfl (news1p _ 9 rfl (by simp)) (one1s _) (by decide) (by unfold maxLen; omega) (by omega) (by simp; omega) _ rfl ?_; intro g2 cap2 w1 hown2 hgrow2 hat2 hlt2; obtain ⟨hp1, hx1, hx2⟩ := (HX.out.grow ((Below.refl _ _).alloc (Nat.le_refl _) _)).pushW (t := t.data.toList) hgrow2 (by simpa [wdC] using hown2); obtain ⟨a0, a1, a2, b0, b1, b2⟩ := rx_cells hp1; have hpz := lt_of_heap hp1; have HX2 := Lib.hid hx2; clear hown2 hgrow2 hat2 hlt2 hp1 hx1 hx2))
  go_end0
  have e : wtx (t.data.toList, lv) = t.data.toList := by unfold wtx; rw [if_neg (fun e => by simp only at e; omega)]
  exact ⟨rfl, RM.of HX2.out (by show ((t.data.toList, lv) :: (s.join lv).waits).map wtx = t.data.toList :: ws; rw [List.map_cons, e, HWS.out]) HG.out.1 HG.out.2.1 HG.out.2.2⟩
theorem head_at {c : UInt8} {r : Bs} (h : t.data.toList = c :: r) : ∃ h0 : 0 < t.size, t[0] = c := by
  have hl : t.data.toList.length = t.size := by simp
  have h0 : 0 < t.size := by rw [← hl, h]; simp
  refine ⟨h0, ?_⟩
  have : t.data.toList[0]'(by rw [hl]; exact h0) = c := by simp [h]
  exact this
theorem str_eq {l : Bs} (h : t.data.toList = l) : (t.toList == l) = true := by rw [Lib.toList_data, h]; simp
/-- A word that may stand there is taken. -/
theorem rtake_any {k : Nat} {tl : Bs} (h : RM w0 p x s w) (hi : s.Inv) (hw : Way s k tl) (ht : t.data.toList = tl) (hk : k ≠ 1) (hn : s.waits.length ≤ 900) {b : Bool} (hb : (!s.complete) = b) :
    Calls Tryd.prog 26 #[ptr p, .string t, .bool b] w fun e w' => e = .returned (.tuple #[]) ∧ RM w0 p x ((s.count k tl).put k tl) w' := by
  rw [count_eq]
  have hlen := hi.few
  cases hw with
  | fin => exact absurd rfl hk
  | num _ h0 h18 hd hc =>
    obtain ⟨L, Ts, is, vL, vV, vW, hx, hg, ha, hl⟩ := h
    have his := ha.len
    have := tot_len s.vals
    subst ht
    refine (take_num hx (by omega) (by omega) (by have hz : t.data.toList.length = t.size := (by simp); cases hq : t.data.toList with | nil => exact absurd hq h0 | cons => rw [hq] at hz; simp at hz; omega) (by simpa using h18) hd b).mono ?_
    rintro e w' ⟨rfl, vL', vV', hx'⟩
    refine ⟨rfl, RM.of hx' (Ts := Ts ++ [.num (numVal t.data.toList)]) rfl (hg.push (T := .num (numVal t.data.toList)) (numVal_small h18 hd) (by simp [Tree.size]) ⟨rfl, rfl⟩) ⟨get_new _ _ hg.len, ha.more _⟩ ?_⟩
    show _ = tot (.num (numVal t.data.toList) :: s.vals)
    simp only [List.length_append, List.length_singleton, tot, Tree.size]; omega
  | name _ hnm hc =>
    obtain ⟨L, Ts, is, vL, vV, vW, hx, hg, ha, hl⟩ := h
    have his := ha.len
    have := tot_len s.vals
    obtain ⟨_, _, _, c, rfl, hcc⟩ := nm_level hnm
    obtain ⟨h0, hc0⟩ := head_at ht
    refine (take_name hx (by omega) (by omega) h0 (by rw [hc0]; rcases hcc with rfl | rfl | rfl <;> rfl) (by rw [hc0]; rcases hcc with rfl | rfl | rfl <;> rfl) b).mono ?_
    rintro e w' ⟨rfl, vL', vV', hx'⟩
    rw [ht] at hx'
    refine ⟨rfl, RM.of hx' (Ts := Ts ++ [.name c]) rfl (hg.push (nd := ⟨[c], 0, 0, 0⟩) (T := .name c) hcc (by simp [Tree.size]) (by exact (rfl : ([c] : Bs) = [c]))) ⟨get_new _ _ hg.len, ha.more _⟩ ?_⟩
    show _ = tot (.name c :: s.vals)
    simp only [List.length_append, List.length_singleton, tot, Tree.size]; omega
  | opn hc =>
    obtain ⟨L, Ts, is, vL, vV, vW, hx, hg, ha, hl⟩ := h
    obtain ⟨h0, hc0⟩ := head_at ht
    refine (take_open hx (by rw [List.length_map]; omega) h0 (by rw [hc0]; rfl) (by rw [hc0]; rfl) (str_eq ht) b).mono ?_
    rintro e w' ⟨rfl, vW', hx'⟩
    exact ⟨rfl, RM.of hx' rfl hg ha hl⟩
  | close hc ho =>
    obtain ⟨h0, hc0⟩ := head_at ht
    refine (take_close h hi hc ho hn h0 (by rw [hc0]; rfl) (by rw [hc0]; rfl) (str_ne (by rw [ht]; decide)) (str_eq ht) b).mono ?_
    rintro e w' ⟨rfl, hm⟩
    exact ⟨rfl, hm⟩
  | bin _ hc hm =>
    obtain ⟨n40, n41, l1, l5⟩ := ops_no hm
    obtain ⟨c, r, hcr⟩ : ∃ c r, tl = c :: r := by
      cases tl with
      | nil => exact absurd hm (by decide)
      | cons c r => exact ⟨c, r, rfl⟩
    have hcc : isDig c = false ∧ isLet c = false := by
      rw [hcr] at hm
      simp only [ops, List.mem_cons, List.not_mem_nil, or_false] at hm
      rcases hm with h | h | h | h | h | h | h | h | h | h | h | h | h <;> (injection h with h1 h2; subst h1; decide)
    obtain ⟨h0, hc0⟩ := head_at (ht.trans hcr)
    have hrk : rankOf t.data.toList = levelOf tl := by
      rw [ht]; unfold rankOf
      rw [if_neg]
      rintro (e | e) <;> (rw [e] at hm; revert hm; decide)
    rw [hc] at hb
    subst hb
    refine (take_bin h hi hc hn h0 (by rw [hc0]; exact hcc.1) (by rw [hc0]; exact hcc.2) (str_ne (by rw [ht]; exact n40)) (str_ne (by rw [ht]; exact n41)) hrk l1 l5).mono ?_
    rintro e w' ⟨rfl, hm'⟩
    rw [ht] at hm'
    refine ⟨rfl, hm'.same ?_ ?_⟩
    all_goals
      unfold St.put
      rw [if_neg (by decide), if_neg (by decide), if_neg (by decide), if_neg n40, if_neg n41, if_pos hc]
      rfl
  | sign _ hc hm =>
    obtain ⟨L, Ts, is, vL, vV, vW, hx, hg, ha, hl⟩ := h
    rw [hc] at hb
    subst hb
    rcases hm with rfl | rfl
    · obtain ⟨h0, hc0⟩ := head_at ht
      refine (take_minus hx (by rw [List.length_map]; omega) h0 (by rw [hc0]; rfl) (by rw [hc0]; rfl) (str_ne (by rw [ht]; decide)) (str_ne (by rw [ht]; decide)) (str_eq ht)).mono ?_
      rintro e w' ⟨rfl, vW', hx'⟩
      refine ⟨rfl, RM.same (s := { s with waits := ([45], 6) :: s.waits }) (RM.of hx' rfl hg ha hl) ?_ ?_⟩
      all_goals simp [St.put, hc]
    · obtain ⟨h0, hc0⟩ := head_at ht
      refine (take_not hx (by rw [List.length_map]; omega) h0 (by rw [hc0]; rfl) (by rw [hc0]; rfl) (str_ne (by rw [ht]; decide)) (str_ne (by rw [ht]; decide)) (str_ne (by rw [ht]; decide))).mono ?_
      rintro e w' ⟨rfl, vW', hx'⟩
      rw [ht] at hx'
      refine ⟨rfl, RM.same (s := { s with waits := ([33], 6) :: s.waits }) (RM.of hx' rfl hg ha hl) ?_ ?_⟩
      all_goals simp [St.put, hc]
end
end Go.Proofs.YtlkaaembeakicaaDoor.Ex
