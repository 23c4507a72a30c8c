/-
  ExprRanks' walk: of three values with two operators between, the one that binds more is done first. Conditions: the library's table of powers holds what it was laid with; the operators' numbers are ints.
-/
import Derived.Test.YtlkaaembeakicaaDoorERanksM
import Derived.BigQuiet
import Derived.Deep.RegionHeld3
namespace Go.Proofs.YtlkaaembeakicaaDoor.Ex
open Go.RowKit
theorem Tab.drewN {w : World} (h : Tab w) (m : Nat) : Tab (w.drewN m) := h.below (below_drewN (Below.refl _ _) m)
set_option maxRecDepth 20000 in
set_option maxHeartbeats 4000000 in
theorem exprRanks_walk (one two_ n t v : Int) (w : World) (hT : Tab w) (lo1 : -9223372036854775808 ≤ one) (hi1 : one ≤ 9223372036854775807) (lo2 : -9223372036854775808 ≤ two_) (hi2 : two_ ≤ 9223372036854775807) :
    Calls Tryd.prog 8 #[.int .i64 one, .int .i64 two_, .int .i64 n, .int .i64 t, .int .i64 v] w fun e w' => e = .returned (.bool true) ∧ Below w.heap.size w w' := by
  have HT := Lib.hid hT
  clear hT
  go_enter Tryd.func8, Tryd.ntmps8
  go_upto_if 21 with fail
  go_cut [0] (fun s0 wx => ∃ j : Int, s0 = .int .i64 j ∧ 0 ≤ j ∧ j ≤ 9223372036854775807 ∧ wx.heap[w.heap.size]? = some opRow ∧ wx.heap[w.heap.size + 1]? = some rankRow ∧ Below w.heap.size w wx)
  case first =>
    by_cases hneg : one < 0
    · go_wp2_with fail
      go_meet
      exact ⟨_, rfl, by omega, by omega, heap_alloc_old (heap_alloc_at _ rfl _) _, heap_alloc_at _ (by simp) _, ((Below.refl _ _).alloc (Nat.le_refl _) _).alloc (by simp) _⟩
    · go_wp2_with fail
      go_meet
      exact ⟨_, rfl, by omega, by omega, heap_alloc_old (heap_alloc_at _ rfl _) _, heap_alloc_at _ (by simp) _, ((Below.refl _ _).alloc (Nat.le_refl _) _).alloc (by simp) _⟩
  case rest =>
    obtain ⟨j, rfl, j0, j1, hrow, hrank, hbw⟩ := hcut
    rename World => wx
    have HROW := Lib.hid hrow
    have HRANK := Lib.hid hrank
    have HBW := Lib.hid hbw
    have HTX := Lib.hid (HT.out.below hbw)
    clear hrow hrank hbw lo1 hi1
    go_upto_if 26 with fail
    go_cut [1] (fun s1 wy => ∃ j : Int, s1 = .int .i64 j ∧ 0 ≤ j ∧ j ≤ 9223372036854775807 ∧ wy = wx)
    case first =>
      by_cases hneg : two_ < 0
      · go_wp2_with fail
        go_meet
        exact ⟨_, rfl, by omega, by omega, rfl⟩
      · go_wp2_with fail
        go_meet
        exact ⟨_, rfl, by omega, by omega, rfl⟩
    case rest =>
      obtain ⟨i, rfl, i0, i1, rfl⟩ := hcut
      rename World => wx
      obtain ⟨k1, hk1, h13⟩ := ix13n j0
      obtain ⟨k2, hk2, g13⟩ := ix13n i0
      have b1 : (k1 : Int) < 13 := by omega
      have b2 : (k2 : Int) < 13 := by omega
      obtain ⟨o1, ho1⟩ : ∃ o, opB k1 = o := ⟨_, rfl⟩
      obtain ⟨o2, ho2⟩ : ∃ o, opB k2 = o := ⟨_, rfl⟩
      have e1 : o1.data.toList = opL k1 := by rw [← ho1]; simp [opB]
      have e2 : o2.data.toList = opL k2 := by rw [← ho2]; simp [opB]
      have HO : Hid (o1.data.toList ∈ ops ∧ o2.data.toList ∈ ops) := Lib.hid ⟨e1 ▸ opL_mem h13, e2 ▸ opL_mem g13⟩
      have s1 := op_size HO.out.1
      have s2 := op_size HO.out.2
      have HC : ∀ W : World, W.heap[w.heap.size]? = some opRow → W.heap[w.heap.size + 1]? = some rankRow → W.cell? ⟨w.heap.size, k1, none⟩ = some (.string o1) ∧ W.cell? ⟨w.heap.size, k2, none⟩ = some (.string o2) ∧ W.cell? ⟨w.heap.size + 1, k1, none⟩ = some (.int .i64 (levelOf o1.data.toList : Nat)) ∧ W.cell? ⟨w.heap.size + 1, k2, none⟩ = some (.int .i64 (levelOf o2.data.toList : Nat)) := by
        intro W h1 h2
        rw [e1, e2, ← ho1, ← ho2]
        exact ⟨op_cell h1 h13, op_cell h1 g13, rank_cell h2 h13, rank_cell h2 g13⟩
      have HCH := Lib.hid HC
      have HP0 : parse ((⟨#[110, 32]⟩ : ByteArray) ++ o1 ++ ⟨#[32, 116, 32]⟩ ++ o2 ++ ⟨#[32, 118]⟩).data.toList = .ok (rankTree o1.data.toList o2.data.toList) := by
        rw [cat_ranks, e1, e2]; exact parse_ranks h13 g13
      have HP := Lib.hid HP0
      have HZ : Hid (((⟨#[110, 32]⟩ : ByteArray) ++ o1 ++ ⟨#[32, 116, 32]⟩ ++ o2 ++ ⟨#[32, 118]⟩).size ≤ maxLen) := Lib.hid (by
        have : ((⟨#[110, 32]⟩ : ByteArray) ++ o1 ++ ⟨#[32, 116, 32]⟩ ++ o2 ++ ⟨#[32, 118]⟩).size = 2 + o1.size + 3 + o2.size + 2 := by simp [ByteArray.size_append]; rfl
        unfold maxLen; omega)
      obtain ⟨r1, hr1⟩ : ∃ r : Nat, levelOf o1.data.toList = r := ⟨_, rfl⟩
      obtain ⟨r2, hr2⟩ : ∃ r : Nat, levelOf o2.data.toList = r := ⟨_, rfl⟩
      have HR := Lib.hid (And.intro hr1 hr2)
      clear HC HP0 e1 e2 ho1 ho2 hr1 hr2
      obtain ⟨c1, c2, -, -⟩ := HCH.out _ HROW.out HRANK.out
      go_upto_region 9 with fail
      go_cut [13, 14, 15] (fun s13 s14 s15 wy => ∃ b : Nat, s13 = ptr b ∧ s14 = .int .i64 0 ∧ s15 = .int .i64 0 ∧ ExAt wy b (rankTree o1.data.toList o2.data.toList) ∧ Below wx.heap.size wx wy)
      case first =>
        have n1 : ¬ 9223372036854775807 < 2 + o1.size := by omega
        have n2 : ¬ 9223372036854775807 < 2 + o1.size + 3 := by omega
        have n3 : ¬ 9223372036854775807 < 2 + o1.size + 3 + o2.size := by omega
        have n4 : ¬ 9223372036854775807 < 2 + o1.size + 3 + o2.size + 2 := by omega
        have m1 : ¬ 9223372036854775805 < o1.size := by omega
        have m2 : ¬ 9223372036854775804 < 2 + o1.size := by omega
        have m4 : ¬ 9223372036854775805 < 2 + o1.size + 3 + o2.size := by omega
        go_region_held3 (fun W => W.cell? ⟨w.heap.size, k1, none⟩ = some (.string o1) ∧ W.cell? ⟨w.heap.size, k2, none⟩ = some (.string o2)) (first | exact ⟨c1, c2⟩ | exact ⟨p1, p2⟩ | go_keep) (first | (go_at_call 10; refine (parse_ok HZ.out (HTX.out.below ((Below.refl _ _).drew)) HP.out).mono ?_; rintro e w4 ⟨b, rfl, hx4, hb4⟩; have HB4 : Hid (Below wx.heap.size wx w4) := Lib.hid (((Below.refl wx.heap.size wx).drew).trans hb4); have HX4 := Lib.hid hx4; clear hb4 hx4; obtain ⟨p1, p2, -, -⟩ := HCH.out w4 ((HB4.out.block _ (lt_of_heap HROW.out)).trans HROW.out) ((HB4.out.block _ (lt_of_heap HRANK.out)).trans HRANK.out)))
        all_goals
          go_wp2_with fail
          go_meet
          exact ⟨_, rfl, rfl, rfl, HX4.out, HB4.out⟩
      case rest =>
        obtain ⟨b, rfl, rfl, rfl, hx4, hb4⟩ := hcut
        rename World => w4
        clear c1 c2 hk1 hk2 i0 i1 j0 j1
        obtain ⟨d1, d2, d3, d4⟩ := HCH.out w4 ((hb4.block _ (lt_of_heap HROW.out)).trans HROW.out) ((hb4.block _ (lt_of_heap HRANK.out)).trans HRANK.out)
        rw [HR.out.1] at d3
        rw [HR.out.2] at d4
        have HB4 := Lib.hid (HBW.out.trans (hb4.mono HBW.out.size))
        have HT4 := Lib.hid (HTX.out.below hb4)
        clear hb4
        by_cases hr : r1 < r2
        · have hri : (r1 : Int) < (r2 : Int) := by omega
          have hT4 : rankTree o1.data.toList o2.data.toList = .bin o1.data.toList (.name 110) (.bin o2.data.toList (.name 116) (.name 118)) := by unfold rankTree; rw [HR.out.1, HR.out.2, if_pos hr]
          rw [hT4] at hx4
          have hc := cat_right o1 o2
          obtain ⟨qt, hqt⟩ : ∃ q, (⟨#[40, 110, 32]⟩ : ByteArray) ++ o1 ++ ⟨#[32, 40, 116, 32]⟩ ++ o2 ++ ⟨#[32, 118, 41, 41]⟩ = q := ⟨_, rfl⟩
          rw [hqt] at hc
          obtain ⟨y, hy⟩ : ∃ y, two o2.data.toList t v = y := ⟨_, rfl⟩
          obtain ⟨x, hx⟩ : ∃ x, two o1.data.toList n y = x := ⟨_, rfl⟩
          have hev : (.bin o1.data.toList (.name 110) (.bin o2.data.toList (.name 116) (.name 118)) : Tree).eval n t v = x := by rw [← hx, ← hy]; simp [Tree.eval]
          have hsz : ((.bin o1.data.toList (.name 110) (.bin o2.data.toList (.name 116) (.name 118)) : Tree).size : Int) = 5 := by simp [Tree.size]
          have HE := Lib.hid (And.intro hy (And.intro hx (And.intro hev (And.intro hc hsz))))
          have HX4 := Lib.hid hx4
          clear hx4 hT4 hc hy hx hev hsz hr
          go_upto_region 14 with fail
          go_quiet (fail)
          go_upto_region 15 with fail
          have HF6 := Lib.hid (And.intro (HT4.out.drewN nq) (And.intro (HX4.out.drewN nq) (below_drewN HB4.out nq)))
          have d5 : (w4.drewN nq).cell? ⟨w.heap.size, k1, none⟩ = some (.string o1) := d1
          have d6 : (w4.drewN nq).cell? ⟨w.heap.size, k2, none⟩ = some (.string o2) := d2
          clear HT4 HX4 HB4 d1 d2 d3 d4
          generalize w4.drewN nq = w6 at HF6 d5 d6 ⊢
          go_quiet (first | (with_reducible exact rtwo_q HO.out.2 HE.out.1 _ _) | (with_reducible exact rtwo_q HO.out.1 HE.out.2.1 _ _))
          go_upto_region 16 with fail
          go_quiet (fail)
          go_wp2_with (first
            | (go_at_call 12; refine (awake_any (HF6.out.1.drewN _)).mono ?_; rintro e w5 ⟨rfl, hb5⟩; have HB5 := Lib.hid ((below_drewN HF6.out.2.2 _).trans (hb5.mono (below_drewN HF6.out.2.2 _).size)); have HX5 := Lib.hid ((HF6.out.2.1.drewN _).grow hb5); clear hb5)
            | (go_at_call 17; refine (eval_at HX5.out HE.out.2.2.1).mono ?_; rintro e w' ⟨rfl, m1, rfl⟩)
            | (go_at_call 13; refine (text_at (HX5.out.drewN _) HE.out.2.2.2.1).mono ?_; rintro e w' ⟨rfl, rfl⟩)
            | (go_at_call 15; refine (size_int (HX5.out.drewN _) HE.out.2.2.2.2).mono ?_; rintro e w' ⟨rfl, rfl⟩))
          go_ret
          exact ⟨rfl, below_drewN HB5.out _⟩
        · have hri : ¬ (r1 : Int) < (r2 : Int) := by omega
          have hT4 : rankTree o1.data.toList o2.data.toList = .bin o2.data.toList (.bin o1.data.toList (.name 110) (.name 116)) (.name 118) := by unfold rankTree; rw [HR.out.1, HR.out.2, if_neg hr]
          rw [hT4] at hx4
          have hc := cat_left o1 o2
          obtain ⟨qt, hqt⟩ : ∃ q, (⟨#[40, 40, 110, 32]⟩ : ByteArray) ++ o1 ++ ⟨#[32, 116, 41, 32]⟩ ++ o2 ++ ⟨#[32, 118, 41]⟩ = q := ⟨_, rfl⟩
          rw [hqt] at hc
          obtain ⟨y, hy⟩ : ∃ y, two o1.data.toList n t = y := ⟨_, rfl⟩
          obtain ⟨x, hx⟩ : ∃ x, two o2.data.toList y v = x := ⟨_, rfl⟩
          have hev : (.bin o2.data.toList (.bin o1.data.toList (.name 110) (.name 116)) (.name 118) : Tree).eval n t v = x := by rw [← hx, ← hy]; simp [Tree.eval]
          have hsz : ((.bin o2.data.toList (.bin o1.data.toList (.name 110) (.name 116)) (.name 118) : Tree).size : Int) = 5 := by simp [Tree.size]
          have HE := Lib.hid (And.intro hy (And.intro hx (And.intro hev (And.intro hc hsz))))
          have HX4 := Lib.hid hx4
          clear hx4 hT4 hc hy hx hev hsz hr
          go_upto_region 14 with fail
          go_quiet (fail)
          go_upto_region 17 with fail
          have HF6 := Lib.hid (And.intro (HT4.out.drewN nq) (And.intro (HX4.out.drewN nq) (below_drewN HB4.out nq)))
          have d5 : (w4.drewN nq).cell? ⟨w.heap.size, k1, none⟩ = some (.string o1) := d1
          have d6 : (w4.drewN nq).cell? ⟨w.heap.size, k2, none⟩ = some (.string o2) := d2
          clear HT4 HX4 HB4 d1 d2 d3 d4
          generalize w4.drewN nq = w6 at HF6 d5 d6 ⊢
          go_quiet (first | (with_reducible exact rtwo_q HO.out.1 HE.out.1 _ _) | (with_reducible exact rtwo_q HO.out.2 HE.out.2.1 _ _))
          go_upto_region 18 with fail
          go_quiet (fail)
          go_wp2_with (first
            | (go_at_call 12; refine (awake_any (HF6.out.1.drewN _)).mono ?_; rintro e w5 ⟨rfl, hb5⟩; have HB5 := Lib.hid ((below_drewN HF6.out.2.2 _).trans (hb5.mono (below_drewN HF6.out.2.2 _).size)); have HX5 := Lib.hid ((HF6.out.2.1.drewN _).grow hb5); clear hb5)
            | (go_at_call 17; refine (eval_at HX5.out HE.out.2.2.1).mono ?_; rintro e w' ⟨rfl, m1, rfl⟩)
            | (go_at_call 13; refine (text_at (HX5.out.drewN _) HE.out.2.2.2.1).mono ?_; rintro e w' ⟨rfl, rfl⟩)
            | (go_at_call 15; refine (size_int (HX5.out.drewN _) HE.out.2.2.2.2).mono ?_; rintro e w' ⟨rfl, rfl⟩))
          go_ret
          exact ⟨rfl, below_drewN HB5.out _⟩
end Go.Proofs.YtlkaaembeakicaaDoor.Ex
