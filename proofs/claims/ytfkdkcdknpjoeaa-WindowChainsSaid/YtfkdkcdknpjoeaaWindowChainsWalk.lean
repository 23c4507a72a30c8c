/-
  WindowChains: the walk of the law. Conditions: the steps lie in memory.
-/
import Derived.Test.YtfkdkcdknpjoeaaWChain
import Derived.Test.YtfkdkcdknpjoeaaWindowTilesWalk
namespace Go.Proofs.Ytfkdkcdknpjoeaa.Wi
set_option linter.unusedVariables false
set_option linter.unusedSimpArgs false
open Go.RowKit

def InvC (g t : Int) (k : Nat) (A W : List Sp) : Prop := (k = 0 ∧ A = [] ∧ W = []) ∨ (1 ≤ k ∧ ∃ t0, Ch g t0 A W ∧ t0 ≤ t)
theorem WB.lt {w : World} {B : Nat} {k s l : Int} (h : WB w B k s l) : B < w.heap.size := lt_of_heap h.blk
theorem notbox {v : Value} {B b : Nat} {w : World} (h : ∀ g, v.ownBlock = some g → B ≤ g ∧ g < w.heap.size) (hb : b < B) : v.ownBlock ≠ some b := fun e => by
  have := (h b e).1
  omega
theorem ofS_ses {t s : Int} : ofS 3 s 0 t = [(t, t + s)] := rfl
theorem okW_ses {s : Int} (h1 : 1 ≤ s) (h2 : s ≤ 1000000) : okW 3 s 0 = true := by
  unfold okW
  rw [if_neg (by decide), if_neg (by omega), if_pos (.inr rfl)]; rfl
/-- One span more, put behind one of two rows of one's own. -/
theorem wpList_append_two {w : World} {ops : Array Oper} {rest : List Oper} {o : Oper} {a : Act} {Q : Exit → Act → World → Prop} (hgd : o.guard = none) (s x : Operand)
    (ho : o.op = .call { callee := .builtin .append, args := #[s, x], argTypes := #[24, 24] })
    (base : Nat) (v : Value) (M : List Sp) (hs : a.eval s = v) (w0 : World) (q : Sp) (hw : w = w0.alloc (.cells #[.int .i64 q.1, .int .i64 q.2] 34)) {u : Value} {W : List Sp} (hown : Two w0 base v u M W)
    (hx : a.eval x = .slice (some ⟨w0.heap.size, 0, none⟩) 1 1)
    (h63 : M.length ≤ 90000) (hbase : base ≤ w0.heap.size)
    (h : ∀ g cap w', Two w' base (.slice (some ⟨g, 0, none⟩) (M.length + 1) cap) u (M ++ [q]) W → w.grownBy w' v.ownBlock → wpList Try.prog ops Q rest (a.put o.dst (.slice (some ⟨g, 0, none⟩) (M.length + 1) cap)) w') : wpList Try.prog ops Q (o :: rest) a w := by
  have hb : w.heap[w0.heap.size]? = some (.cells #[.int .i64 q.1, .int .i64 q.2] 34 (0, 0)) := by rw [hw]; exact heap_alloc_new w0 _
  have ht := hown.grow (w' := w) (by rw [hw]; exact (Below.refl _ _).alloc (Nat.le_refl _) _)
  have hl : SpansAt w (.slice (some ⟨w0.heap.size, 0, none⟩) 1 1) [q] := spans_block hb rfl rfl (by decide)
  obtain ⟨i0, hi, hz0, hz1, hz2⟩ := info_parts infoS
  refine wpList_append_lies w hgd s x 24 ho base 34 i0 (.agg #[.int .i64 0, .int .i64 0]) 2 16 Try.underlying24 hi hz0 hz1 hz2 rfl (by decide) v M.length (scs M) hs ht.r1 ⟨w0.heap.size, 0, none⟩ 1 1 (scs [q]) hx rfl (hl.flat (by simp)) (one_scs [q]) (by omega) (by unfold maxLen; omega) (by omega) (by rw [hw]; simp; omega) _ rfl ?_
  intro g cap w' k1 k2 k3 k4
  refine h g cap w' ?_ k2
  rw [← scs_append] at k1
  have e : (M ++ [q]).length = M.length + 1 := by simp
  have k5 := ht.push (w' := w') (g := g) (cap := cap) (q := q) (by rw [e]; exact k1) k2 (by
    rcases k3 with k3 | k3
    · exact .inl k3
    · exact .inr (by omega))
  rw [e] at k5
  exact k5
theorem Two.some {w : World} {B : Nat} {v u : Value} {A W : List Sp} (h : Two w B v u A W) (hW : W ≠ []) : ∃ g cap, u = .slice (some ⟨g, 0, none⟩) W.length cap := by
  rcases h.r2.2 with ⟨-, e⟩ | ⟨g, cap, cur, e, -⟩
  · exact absurd (List.length_eq_zero_iff.1 e) hW
  · exact ⟨g, cap, e⟩
set_option maxRecDepth 20000 in
set_option maxHeartbeats 1000000 in
theorem wch_ok {w : World} {a : Option Addr} {n c : Nat} {Z : List Int} {gap first : Int} (h : IntsZ w (.slice a n c) Z) (h1 : 1 ≤ gap) (h2 : gap ≤ 1000000) (f1 : 0 ≤ first) (f2 : first ≤ 1000) (hn : n ≤ 200) : Calls Try.prog 8 #[.int .i64 gap, .int .i64 first, .slice a n c] w fun e w' => e = .returned (.bool true) ∧ Below w.heap.size w w' := by
  obtain ⟨hnl, k1, k2, k3⟩ := Lst.len h
  unfold maxLen at k2 k3
  have HI := Lib.hid h
  have HN := Lib.hid hnl
  have HW := Lib.hid (okW_ses h1 h2)
  have g1 : ¬ gap < 1 := by omega
  have g2 : ¬ 1000000 < gap := by omega
  have g3 : ¬ first < 0 := by omega
  have g4 : ¬ 1000 < first := by omega
  have HB0 : Hid (Below w.heap.size w (w.alloc (.cells #[.int .i64 3, .int .i64 gap, .int .i64 0] 23))) := Lib.hid ((Below.refl _ _).alloc (Nat.le_refl _) _)
  have HX0 := Lib.hid (wb_new w 3 gap 0)
  clear h hnl k2 k3
  go_enter Try.func8, Try.ntmps8
  go_wp2
  go_loopw [8, 9, 10, 11] (fun y z tv iv wr => ∃ (k : Nat) (A W : List Sp) (tt : Int), k ≤ n + 1 ∧ iv = .int .i64 k ∧ tv = .int .i64 tt ∧ 0 ≤ tt ∧ (tt ≤ 1000 + 4000000 * (k : Int) ∧ tt ≤ 1000 + 4000000 * (n : Int)) ∧ Hid (Two wr (w.heap.size + 1) y z A W) ∧ Hid (A.length = k) ∧ Hid (W.length ≤ k) ∧ Hid (InvC gap tt k A W) ∧ Hid (WB wr w.heap.size 3 gap 0) ∧ Hid (Below w.heap.size w wr)) (fun _ _ _ iv _ => n + 1 - (intOf iv).toNat)
  case atStart => exact ⟨0, [], [], first, by omega, rfl, rfl, f1, by omega, Lib.hid ⟨World.ownsRow_nil _ _ _ _, World.ownsRow_nil _ _ _ _, fun k e => by simp [Value.ownBlock] at e⟩, Lib.hid rfl, Lib.hid (Nat.le_refl _), Lib.hid (.inl ⟨rfl, rfl, rfl⟩), HX0, HB0⟩
  case round =>
    clear HX0 HB0 g3 g4
    obtain ⟨k, A, W, tt, hk, rfl, rfl, t0, ⟨t1, t2⟩, HT, HA, HWL, HC, HX, HB⟩ := hrel
    rename World => wr
    by_cases hkn0 : k ≤ n
    · have e0 : (k : Int) ≤ (n : Int) := by omega
      have t3 : tt ≤ 1000000000 := by omega
      have HTT := Lib.hid (okT_of t0 t3)
      obtain ⟨c0, c1, c2⟩ := HX.out.cells
      have hAl : A.length ≤ 201 := by rw [HA.out]; omega
      go_upto_region 14 with (first
        | (go_at_call 10; refine (of_ok HW.out HTT.out ofS_ses _).mono ?_; rintro e w3 ⟨v3, rfl, hi3, hb3⟩; obtain ⟨b3, o3, c3, rfl⟩ := one_span hi3; obtain ⟨d0, d1⟩ := one_cells hi3; have HT3 := Lib.hid (HT.out.grow hb3); have HX3 := Lib.hid (HX.out.grow hb3); have HB3 := Lib.hid (grow_below HB.out hb3); clear hb3 hi3 HT HX HB)
        | (refine wpList_append_two (by rfl) (.tmp 57) (.tmp 61) (by rfl) (w.heap.size + 1) _ A (by rfl) w3 (tt, tt + gap) (by rfl) HT3.out (by rfl) (by omega) (by have := HX3.out.lt; omega) ?_; intro g4 c4 w4 ht4 hg4; have HT4 := Lib.hid ht4; have hne4 := notbox (HT3.out.r1.lt) (Nat.lt_succ_self _); have HX4 := Lib.hid ((HX3.out.grow ((Below.refl _ _).alloc (Nat.le_refl _) _)).append hne4 hg4); have HB4 := Lib.hid ((grow_below HB3.out ((Below.refl _ _).alloc (Nat.le_refl _) _)).grown hg4 (by have := HB3.out.size; simp; omega) (fun q e => by have := (HT3.out.r1.lt q e).1; omega)); clear ht4 hg4 hne4))
      have HA5 : Hid ((A ++ [(tt, tt + gap)]).length = k + 1) := Lib.hid (by rw [List.length_append, HA.out]; rfl)
      clear c0 c1 c2 d0 d1 HT3 HX3 HB3 e0 HTT
      rcases HC.out with ⟨hk0, hA0, hW0⟩ | ⟨hk1, t0', hch, ht0⟩
      · have hz : ∃ az cz, u9 = .slice az 0 cz := by
          obtain ⟨az, cz, e, -⟩ := row_slice HT4.out.r2
          exact ⟨az, cz, by rw [e, hW0]; rfl⟩
        obtain ⟨az, cz, rfl⟩ := hz
        have HC5 : Hid (Ch gap tt (A ++ [(tt, tt + gap)]) (W ++ [(tt, tt + gap)])) := Lib.hid (by rw [hA0, hW0]; exact ch_start h1)
        have HW5 : Hid ((W ++ [(tt, tt + gap)]).length ≤ k + 1) := Lib.hid (by rw [hW0]; simp)
        have hWl : W.length = 0 := by rw [hW0]; rfl
        have HWl := Lib.hid hWl
        have hWl2 : W.length ≤ 90000 := by omega
        clear hA0 hW0 hWl HC hk0
        have HT4s := Lib.hid HT4.out.swap
        go_upto_region 16 with (fail)
        go_upto_region 17 with (first | (refine wpList_append_two (by rfl) (.tmp 86) (.tmp 92) (by rfl) (w.heap.size + 1) _ W (by rfl) w4 (tt, tt + gap) (by rfl) HT4s.out (by rfl) (by omega) (by have := HX4.out.lt; omega) ?_; intro g5 c5 w5 ht5 hg5; have HT5 := Lib.hid ht5.swap; have hne5 := notbox (HT4.out.r2.lt) (Nat.lt_succ_self _); have HX5 := Lib.hid ((HX4.out.grow ((Below.refl _ _).alloc (Nat.le_refl _) _)).append hne5 hg5); have HB5 := Lib.hid ((grow_below HB4.out ((Below.refl _ _).alloc (Nat.le_refl _) _)).grown hg5 (by have := HB4.out.size; simp; omega) (fun q e => by have := (HT4.out.r2.lt q e).1; omega)); clear ht5 hg5 hne5))
        clear HT4 HX4 HB4 HT4s
        have g5 : (0 : Int) ≤ (k : Int) := by omega
        by_cases hkn : k < n
        · have g6 : (k : Int) < (n : Int) := by omega
          have hkz : k < Z.length := by rw [← HN.out]; exact hkn
          obtain ⟨bz, oz, haz, hblz, yz⟩ := IntsZ.cell (HI.out.grow HB5.out) hkz
          subst haz
          obtain ⟨z, hz⟩ : ∃ z, Z[k] = z := ⟨_, rfl⟩
          rw [hz] at yz
          clear hz hkz
          by_cases z0 : z < 0
          · go_wp2
            go_ret
            exact ⟨rfl, HB5.out⟩
          · by_cases z1 : 4000000 < z
            · go_wp2
              go_ret
              exact ⟨rfl, HB5.out⟩
            · have HR : Hid (InvC gap (tt + z) (k + 1) (A ++ [(tt, tt + gap)]) (W ++ [(tt, tt + gap)])) := Lib.hid (.inr ⟨by omega, tt, HC5.out, by omega⟩)
              clear HC5
              go_wp2
              go_roundw
              case rel => exact ⟨k + 1, (A ++ [(tt, tt + gap)]), (W ++ [(tt, tt + gap)]), tt + z, by omega, by go_num, rfl, by omega, by omega, HT5, HA5, HW5, HR, HX5, HB5⟩
              case measure => simp [intOf]; omega
        · have g6 : ¬ (k : Int) < (n : Int) := by omega
          have HR : Hid (InvC gap tt (k + 1) (A ++ [(tt, tt + gap)]) (W ++ [(tt, tt + gap)])) := Lib.hid (.inr ⟨by omega, tt, HC5.out, Int.le_refl _⟩)
          clear HC5
          go_wp2
          go_roundw
          case rel => exact ⟨k + 1, (A ++ [(tt, tt + gap)]), (W ++ [(tt, tt + gap)]), tt, by omega, by go_num, rfl, by omega, by omega, HT5, HA5, HW5, HR, HX5, HB5⟩
          case measure => simp [intOf]; omega
      · obtain ⟨W0, f, hW, hf⟩ := hch.last
        subst hW
        obtain ⟨g, cp, hz⟩ := HT4.out.some (by simp)
        subst hz
        obtain ⟨m, hm⟩ : ∃ m, W0.length = m := ⟨_, rfl⟩
        have hlen : (W0 ++ [(f, t0' + gap)]).length = m + 1 := by rw [List.length_append, hm]; rfl
        rw [hlen] at HT4 ⊢
        obtain ⟨-, q1, q2, q3, q4⟩ := HT4.out.last
        rw [hm] at q2 q3
        have hWl2 : (W0 ++ [(f, t0' + gap)]).length ≤ 90000 := by have := HWL.out; omega
        have hmk : m + 1 ≤ k := by have := HWL.out; omega
        have HM := Lib.hid hm
        have HL := Lib.hid hlen
        have e1 : ((m + 1 : Nat) : Int) - 1 = (m : Int) := by omega
        have e2 : (0 : Int) ≤ (m : Int) := by omega
        have e3 : (m : Int) < ((m + 1 : Nat) : Int) := by omega
        have e4 : (0 : Int) < ((m + 1 : Nat) : Int) := by omega
        by_cases hq : tt < t0' + gap
        · have HC5 : Hid (Ch gap tt (A ++ [(tt, tt + gap)]) (W0 ++ [(f, tt + gap)])) := Lib.hid (hch.near h1 ht0 hq)
          have HW5 : Hid ((W0 ++ [(f, tt + gap)]).length ≤ k + 1) := Lib.hid (by rw [List.length_append, HM.out]; simp; omega)
          clear hch hm hlen HC
          go_upto_region 17 with (fail)
          have ht5 := HT4.out.turn (tt + gap)
          rw [HM.out] at ht5
          have HT5 := Lib.hid ht5
          have HX5 : Hid (WB (w4.setCell ⟨g, m * 2 + 1, none⟩ (.int .i64 (tt + gap))) w.heap.size 3 gap 0) := Lib.hid ⟨(Below.heap_setCell w4 _ _ _ (fun e => by simp only at e; omega)).trans HX4.out.blk⟩
          have HB5 : Hid (Below w.heap.size w (w4.setCell ⟨g, m * 2 + 1, none⟩ (.int .i64 (tt + gap)))) := Lib.hid (HB4.out.setCell (p := ⟨g, m * 2 + 1, none⟩) (by simp only; omega) _)
          clear ht5 HT4 HX4 HB4 q2 q3 e1 e2 e3 e4
          generalize w4.setCell ⟨g, m * 2 + 1, none⟩ (.int .i64 (tt + gap)) = w5 at HT5 HX5 HB5 ⊢
          have g5 : (0 : Int) ≤ (k : Int) := by omega
          by_cases hkn : k < n
          · have g6 : (k : Int) < (n : Int) := by omega
            have hkz : k < Z.length := by rw [← HN.out]; exact hkn
            obtain ⟨bz, oz, haz, hblz, yz⟩ := IntsZ.cell (HI.out.grow HB5.out) hkz
            subst haz
            obtain ⟨z, hz⟩ : ∃ z, Z[k] = z := ⟨_, rfl⟩
            rw [hz] at yz
            clear hz hkz
            by_cases z0 : z < 0
            · go_wp2
              go_ret
              exact ⟨rfl, HB5.out⟩
            · by_cases z1 : 4000000 < z
              · go_wp2
                go_ret
                exact ⟨rfl, HB5.out⟩
              · have HR : Hid (InvC gap (tt + z) (k + 1) (A ++ [(tt, tt + gap)]) (W0 ++ [(f, tt + gap)])) := Lib.hid (.inr ⟨by omega, tt, HC5.out, by omega⟩)
                clear HC5
                go_wp2
                go_roundw
                case rel => exact ⟨k + 1, (A ++ [(tt, tt + gap)]), (W0 ++ [(f, tt + gap)]), tt + z, by omega, by go_num, rfl, by omega, by omega, HT5, HA5, HW5, HR, HX5, HB5⟩
                case measure => simp [intOf]; omega
          · have g6 : ¬ (k : Int) < (n : Int) := by omega
            have HR : Hid (InvC gap tt (k + 1) (A ++ [(tt, tt + gap)]) (W0 ++ [(f, tt + gap)])) := Lib.hid (.inr ⟨by omega, tt, HC5.out, Int.le_refl _⟩)
            clear HC5
            go_wp2
            go_roundw
            case rel => exact ⟨k + 1, (A ++ [(tt, tt + gap)]), (W0 ++ [(f, tt + gap)]), tt, by omega, by go_num, rfl, by omega, by omega, HT5, HA5, HW5, HR, HX5, HB5⟩
            case measure => simp [intOf]; omega
        · have HC5 : Hid (Ch gap tt (A ++ [(tt, tt + gap)]) ((W0 ++ [(f, t0' + gap)]) ++ [(tt, tt + gap)])) := Lib.hid (hch.far h1 (by omega))
          have HW5 : Hid (((W0 ++ [(f, t0' + gap)]) ++ [(tt, tt + gap)]).length ≤ k + 1) := Lib.hid (by rw [List.length_append, HL.out]; simp; omega)
          clear hch hm hlen HC
          have HT4s := Lib.hid HT4.out.swap
          go_upto_region 16 with (fail)
          go_upto_region 17 with (first | (refine wpList_append_two (by rfl) (.tmp 86) (.tmp 92) (by rfl) (w.heap.size + 1) _ (W0 ++ [(f, t0' + gap)]) (by rfl) w4 (tt, tt + gap) (by rfl) HT4s.out (by rfl) (by omega) (by have := HX4.out.lt; omega) ?_; intro g5 c5 w5 ht5 hg5; have HT5 := Lib.hid ht5.swap; have hne5 := notbox (HT4.out.r2.lt) (Nat.lt_succ_self _); have HX5 := Lib.hid ((HX4.out.grow ((Below.refl _ _).alloc (Nat.le_refl _) _)).append hne5 hg5); have HB5 := Lib.hid ((grow_below HB4.out ((Below.refl _ _).alloc (Nat.le_refl _) _)).grown hg5 (by have := HB4.out.size; simp; omega) (fun q e => by have := (HT4.out.r2.lt q e).1; omega)); clear ht5 hg5 hne5))
          have hl2 : (W0 ++ [(f, t0' + gap)]).length + 1 = W0.length + 1 + 1 := by rw [List.length_append]; rfl
          rw [hl2] at HT5
          clear hl2
          clear HT4 HX4 HB4 HT4s q2 q3 e1 e2 e3 e4
          have g5 : (0 : Int) ≤ (k : Int) := by omega
          by_cases hkn : k < n
          · have g6 : (k : Int) < (n : Int) := by omega
            have hkz : k < Z.length := by rw [← HN.out]; exact hkn
            obtain ⟨bz, oz, haz, hblz, yz⟩ := IntsZ.cell (HI.out.grow HB5.out) hkz
            subst haz
            obtain ⟨z, hz⟩ : ∃ z, Z[k] = z := ⟨_, rfl⟩
            rw [hz] at yz
            clear hz hkz
            by_cases z0 : z < 0
            · go_wp2
              go_ret
              exact ⟨rfl, HB5.out⟩
            · by_cases z1 : 4000000 < z
              · go_wp2
                go_ret
                exact ⟨rfl, HB5.out⟩
              · have HR : Hid (InvC gap (tt + z) (k + 1) (A ++ [(tt, tt + gap)]) ((W0 ++ [(f, t0' + gap)]) ++ [(tt, tt + gap)])) := Lib.hid (.inr ⟨by omega, tt, HC5.out, by omega⟩)
                clear HC5
                go_wp2
                go_roundw
                case rel => exact ⟨k + 1, (A ++ [(tt, tt + gap)]), ((W0 ++ [(f, t0' + gap)]) ++ [(tt, tt + gap)]), tt + z, by omega, by go_num, rfl, by omega, by omega, HT5, HA5, HW5, HR, HX5, HB5⟩
                case measure => simp [intOf]; omega
          · have g6 : ¬ (k : Int) < (n : Int) := by omega
            have HR : Hid (InvC gap tt (k + 1) (A ++ [(tt, tt + gap)]) ((W0 ++ [(f, t0' + gap)]) ++ [(tt, tt + gap)])) := Lib.hid (.inr ⟨by omega, tt, HC5.out, Int.le_refl _⟩)
            clear HC5
            go_wp2
            go_roundw
            case rel => exact ⟨k + 1, (A ++ [(tt, tt + gap)]), ((W0 ++ [(f, t0' + gap)]) ++ [(tt, tt + gap)]), tt, by omega, by go_num, rfl, by omega, by omega, HT5, HA5, HW5, HR, HX5, HB5⟩
            case measure => simp [intOf]; omega
    · have e0 : ¬ (k : Int) ≤ (n : Int) := by omega
      have HMG : Hid (mg A = W ∧ ∀ s ∈ A, s.1 < s.2) := Lib.hid (by
        rcases HC.out with ⟨h0, -⟩ | ⟨-, t0', hch, -⟩
        · omega
        · exact ⟨hch.is, hch.ok⟩)
      have HLA : Hid (A.length ≤ 4096) := Lib.hid (by rw [HA.out]; omega)
      have HS := Lib.hid (spans_row HT.out.r1)
      have HS2 := Lib.hid (spans_row HT.out.r2)
      clear HT HC HX HA HWL t0 t1 t2
      go_wp2_with (first
        | (go_at_call 18; refine (merge_ok HS.out HLA.out HMG.out.2 HMG.out.1).mono ?_; rintro e w3 ⟨v3, rfl, hi3, hb3⟩; have HI3 := Lib.hid hi3; have HS3 := Lib.hid (HS2.out.grow hb3); have HB3 := Lib.hid (grow_below HB.out hb3); clear hb3 hi3 HS HS2 HB)
        | (go_at_call 16; refine (awake_any _).mono ?_; rintro e w4 ⟨rfl, hb4⟩; have HI4 := Lib.hid (HI3.out.grow hb4); have HS4 := Lib.hid (HS3.out.grow hb4); have HB4 := Lib.hid (grow_below HB3.out hb4); clear hb4 HI3 HS3 HB3)
        | (go_at_call 14; refine (same_at HI4.out HS4.out (decide_eq_true rfl)).mono ?_; rintro e w5 ⟨rfl, hb5⟩; have HB5 := Lib.hid (grow_below HB4.out hb5); clear hb5 HI4 HS4 HB4))
      go_ret
      exact ⟨rfl, HB5.out⟩
set_option maxRecDepth 20000 in
set_option maxHeartbeats 1000000 in
theorem windowChains_walk {w : World} {a : Option Addr} {n c : Nat} {Z : List Int} (gap first : Int) (h : IntsZ w (.slice a n c) Z) : Calls Try.prog 8 #[.int .i64 gap, .int .i64 first, .slice a n c] w fun e w' => e = .returned (.bool true) ∧ Below w.heap.size w w' := by
  have HB0 : Hid (Below w.heap.size w (w.alloc (.cells #[.int .i64 3, .int .i64 gap, .int .i64 0] 23))) := Lib.hid ((Below.refl _ _).alloc (Nat.le_refl _) _)
  by_cases h1 : gap < 1
  · clear h
    go_enter Try.func8, Try.ntmps8
    go_wp2
    go_ret
    exact ⟨rfl, HB0.out⟩
  · by_cases h2 : 1000000 < gap
    · clear h
      go_enter Try.func8, Try.ntmps8
      go_wp2
      go_ret
      exact ⟨rfl, HB0.out⟩
    · by_cases h3 : first < 0
      · clear h
        go_enter Try.func8, Try.ntmps8
        go_wp2
        go_ret
        exact ⟨rfl, HB0.out⟩
      · by_cases h4 : 1000 < first
        · clear h
          go_enter Try.func8, Try.ntmps8
          go_wp2
          go_ret
          exact ⟨rfl, HB0.out⟩
        · by_cases h5 : n ≤ 200
          · exact wch_ok h (by omega) (by omega) (by omega) (by omega) h5
          · clear h
            go_enter Try.func8, Try.ntmps8
            go_wp2
            go_ret
            exact ⟨rfl, HB0.out⟩
end Go.Proofs.Ytfkdkcdknpjoeaa.Wi
