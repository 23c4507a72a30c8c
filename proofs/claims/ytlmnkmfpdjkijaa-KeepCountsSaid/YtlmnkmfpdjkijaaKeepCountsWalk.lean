/-
  KeepCounts: the walk of the law. Conditions: the script lies in memory, its numbers are ints.
-/
import Derived.Test.YtlmnkmfpdjkijaaKDuo
import Derived.Test.YtlmnkmfpdjkijaaWOf
namespace Go.Proofs.Ytlmnkmfpdjkijaa.Ke
set_option linter.unusedVariables false
set_option linter.unusedSimpArgs false
open Go.RowKit
open Go.Proofs.Ytlmnkmfpdjkijaa.Ag (Ac jn vl wr wr_in wr_add wr_add2 ac_ext)
open Go.Proofs.Ytlmnkmfpdjkijaa.Wi (Sp ofS okW okT okT_is okW_cases cov_of Cov sl rof_ok SpansAt)

theorem okA_w3 {C : Cfg} (h : okA C = true) : okW C.k C.s C.l = true := by
  unfold okA at h
  simp only [Bool.and_eq_true] at h
  exact h.1
theorem sPut_kinds (C : Cfg) (l : List Pn) (m : Int) (r : Rc) (h0 : C.k ≠ 0) : sPut C l m r = (l, [], 1) ∨ (r.t < m ∧ sPut C l m r = (l, [], 7)) ∨ (okT r.t = true ∧ m ≤ r.t ∧ sPut C l m r = (kall (decide (C.k = 3)) l (raws C.k C.s C.l r.k r.t r.v), [], 0)) := by
  unfold sPut
  by_cases h1 : 16 < r.k.length ∨ okT r.t = false
  · rw [if_pos h1]; exact .inl rfl
  · rw [if_neg h1]
    by_cases h2 : r.t < m
    · rw [if_pos h2]; exact .inr (.inl ⟨h2, rfl⟩)
    · rw [if_neg h2, if_neg h0]
      refine .inr (.inr ⟨?_, by omega, rfl⟩)
      cases h : okT r.t with
      | true => rfl
      | false => exact absurd (.inr h) h1
theorem csum_le {l : List Pn} (h : Pos l) (j : Nat) : 0 ≤ csum (l.take j) ∧ csum (l.take j) ≤ csum l := by
  have h1 : csum l = csum (l.take j) + csum (l.drop j) := by rw [← csum_append, List.take_append_drop]
  have h2 : 0 ≤ csum (l.take j) := Pos.csum (fun x hx => h x (List.mem_of_mem_take hx))
  have h3 : 0 ≤ csum (l.drop j) := Pos.csum (fun x hx => h x (List.mem_of_mem_drop hx))
  omega
theorem vsum_nn : ∀ {T : List Rc}, (∀ r ∈ T, 0 ≤ r.v) → 0 ≤ vsum T
  | [], _ => Int.le_refl _
  | r :: T, h => by
    have h1 := h r (by simp)
    have h2 := vsum_nn (T := T) (fun x hx => h x (by simp [hx]))
    show 0 ≤ r.v + vsum T
    omega
theorem vsum_app (T U : List Rc) : vsum (T ++ U) = vsum T + vsum U := by
  induction T with
  | nil => show vsum U = 0 + vsum U; omega
  | cons x r ih => show x.v + vsum (r ++ U) = x.v + vsum r + vsum U; rw [ih]; omega
theorem vsum_le {T : List Rc} (h : ∀ r ∈ T, 0 ≤ r.v) (j : Nat) : 0 ≤ vsum (T.take j) ∧ vsum (T.take j) ≤ vsum T := by
  have h1 : vsum T = vsum (T.take j) + vsum (T.drop j) := by rw [← vsum_app, List.take_append_drop]
  have h2 := vsum_nn (T := T.take j) (fun x hx => h x (List.mem_of_mem_take hx))
  have h3 := vsum_nn (T := T.drop j) (fun x hx => h x (List.mem_of_mem_drop hx))
  omega
theorem told_nn {m : Int} {ps : List Pn} (h : Pos ps) : ∀ r ∈ told 1 m ps, 0 ≤ r.v := fun r hr => by
  obtain ⟨x, hx, -, rfl⟩ := told_mem hr
  have h1 := h x hx
  show 0 ≤ (vl 1 x.a).1
  have : (vl 1 x.a).1 = x.a.c := by
    unfold vl
    rw [if_neg (by omega), if_neg (by omega), if_pos rfl]
  omega
theorem sMark_cases2 (C : Cfg) (l : List Pn) (m x : Int) : (∃ e, (x ≤ m ∨ 1000000001 < x ∨ x < 0) ∧ sMark C l m x = (l, m, [], e)) ∨ (m < x ∧ x ≤ 1000000001 ∧ sMark C l m x = (rest x l, x, told C.agg x l, 0)) := by
  unfold sMark
  cases h1 : okM x with
  | false =>
    rw [if_pos rfl]
    refine .inl ⟨1, ?_, rfl⟩
    unfold okM at h1
    simp at h1
    omega
  | true =>
    rw [if_neg (by simp)]
    by_cases h2 : x ≤ m
    · rw [if_pos h2]; exact .inl ⟨0, .inl h2, rfl⟩
    · rw [if_neg h2]
      unfold okM at h1
      simp at h1
      exact .inr ⟨by omega, h1.2, rfl⟩
theorem mark_counts {C : Cfg} {l : List Pn} {m x H W : Int} (hag : C.agg = 1) (hI : Inv C.k C.s l m) (hE : H + csum l = W) :
    ∃ l' m' T e, sMark C l m x = (l', m', T, e) ∧ H + vsum T + csum l' = W ∧ (∀ r ∈ T, 0 ≤ r.v) ∧ (∀ j (hj : j < T.length), m ≤ T[j].t ∧ T[j].t < x) ∧ (T.Pairwise fun a b => a.t ≤ b.t) ∧ (x = 1000000001 → m' = 1000000001) := by
  have hhi := hI.hi
  rcases sMark_cases2 C l m x with ⟨e, h1, hs⟩ | ⟨h1, h2, hs⟩
  · exact ⟨_, _, _, _, hs, by show H + 0 + csum l = W; omega, fun r hr => (by cases hr), fun j hj => (by simp at hj), List.Pairwise.nil, fun e => by omega⟩
  · refine ⟨_, _, _, _, hs, ?_, ?_, fun j hj => told_time hI h1 (List.getElem_mem hj) h2, told_sorted hI.good.sd, fun e => e⟩
    · rw [hag, told_count hI.pos, ← hE, split_count x l]; omega
    · rw [hag]; exact told_nn hI.pos
theorem drew_more {w : World} {k : Nat} {W : World} (h : ∃ q, w = W.drewN q) : ∃ q, w.drewN k = W.drewN q := by
  obtain ⟨q, rfl⟩ := h
  exact ⟨q + k, by simp [World.drewN, Nat.add_assoc]⟩
set_option maxRecDepth 20000 in
set_option maxHeartbeats 4000000 in
theorem kc_at {w : World} {a : Option Addr} {n c : Nat} {L : List Ob} (C : Cfg) (hag : C.agg = 1) (h : ObsAt w (.slice a n c) L) (hs : smF L = true) (hk0 : C.k ≠ 0) : Calls Try.prog 3 #[winV C.k C.s C.l, .slice a n c] w fun e w' => e = .returned (.bool true) ∧ Below w.heap.size w w' := by
  obtain ⟨hnl, k1, k2, k3⟩ := Lst.len h.1
  unfold maxLen at k2 k3
  have hn := smF_le hs
  rw [← hnl] at hn
  have HI := Lib.hid h
  have HN := Lib.hid hnl
  have HS := Lib.hid hs
  have HK0 := Lib.hid hk0
  have HAG := Lib.hid hag
  have e0 : (C.k == 0) = false := ibne hk0
  clear h hnl k2 k3 hs hag hk0
  go_enter Try.func3, Try.ntmps3
  go_upto_region 3 with (go_at_call 10; refine (small_at (HI.out.grow ((Below.refl _ _).alloc (Nat.le_refl _) _)) HS.out).mono ?_; rintro e w1 ⟨rfl, rfl⟩)
  have hb0 : Below w.heap.size w (w.alloc (.cells #[.int .i64 C.k, .int .i64 C.s, .int .i64 C.l] 23)) := (Below.refl _ _).alloc (Nat.le_refl _) _
  have hB := heap_alloc_new w (.cells #[.int .i64 C.k, .int .i64 C.s, .int .i64 C.l] 23)
  generalize w.alloc (.cells #[.int .i64 C.k, .int .i64 C.s, .int .i64 C.l] 23) = W at hb0 hB ⊢
  have hBl := lt_of_heap hB
  have b0 := cell_of_heap hB 0
  have b1 := cell_of_heap hB 1
  have b2 := cell_of_heap hB 2
  simp only [List.getElem?_toArray, List.getElem?_cons_zero, List.getElem?_cons_succ] at b0 b1 b2
  have HBX := Lib.hid hB
  have HBL := Lib.hid hBl
  have HB0 := Lib.hid hb0
  have HIW := Lib.hid (HI.out.grow hb0)
  clear hB hBl hb0
  cases hok : okA C with
  | false =>
    have HO := Lib.hid hok
    clear hok
    go_wp2_with (first
      | (go_at_call 11; rw [← HAG.out]; refine (new_no HO.out _).mono ?_; rintro e w2 ⟨rfl, hb2⟩; have HB2 := Lib.hid (grow_below HB0.out hb2); clear hb2)
      | (go_at_call 12; refine (awake_any _).mono ?_; rintro e w3 ⟨rfl, hb3⟩; have HB3 := Lib.hid (grow_below HB2.out hb3); clear hb3))
    go_ret
    exact ⟨rfl, HB3.out⟩
  | true =>
    have HO := Lib.hid hok
    have HCW := Lib.hid (okA_w3 hok)
    clear hok
    go_upto_region 6 with (go_at_call 11; rw [← HAG.out]; refine (one_new (w0 := W) (Below.refl _ _) HO.out).mono ?_; rintro e w2 ⟨g, rfl, hf2⟩; have H2 := Lib.hid hf2; clear hf2)
    clear b0 b1 b2 e0
    go_wp2
    go_loopw [7, 8, 9] (fun v7 v8 v9 wL => ∃ (k : Nat) (Wn H : Int) (l : List Pn) (m : Int), k ≤ n + 1 ∧ v9 = .int .i64 k ∧ v7 = .int .i64 Wn ∧ v8 = .int .i64 H ∧ (0 ≤ H ∧ Wn ≤ 20 * (k : Int) ∧ H ≤ Wn) ∧ Hid (One W (fun _ => False) g C wL l m) ∧ Hid (H + csum l = Wn) ∧ Hid (k = n + 1 → m = 1000000001)) (fun _ _ v9 _ => n + 1 - (intOf v9).toNat)
    case atStart => exact ⟨0, 0, 0, [], 0, Nat.zero_le _, rfl, rfl, rfl, ⟨Int.le_refl _, Int.le_refl _, Int.le_refl _⟩, H2, Lib.hid rfl, Lib.hid (fun h => by omega)⟩
    case round =>
      clear H2
      obtain ⟨k, Wn, H, l, m, hk, rfl, rfl, rfl, ⟨h0, h1, h2⟩, HOne, HEq, HFin⟩ := hrel
      rename World => wr2
      by_cases hle : k ≤ n
      · by_cases hlt : k < n
        · have hkl : k < L.length := by rw [← HN.out]; exact hlt
          obtain ⟨b, o, ha, hbl, y0, y1, y2, y3, y4, y5⟩ := ObsAt.cells (HIW.out.grow HOne.out.below) hkl
          subst ha
          have hopk := HI.out.2 L[k] (List.getElem_mem hkl)
          obtain ⟨x, hx⟩ : ∃ x, L[k] = x := ⟨_, rfl⟩
          rw [hx] at y0 y1 y2 y3 y4 y5 hopk
          obtain ⟨kd, ⟨ky, rt, rv⟩, xat, xb⟩ := x
          obtain ⟨bx, nx, cx, hob, -⟩ := hopk.b
          simp only at hob
          subst hob
          have HRV := Lib.hid hopk.v
          have g0 : (0 : Int) ≤ (k : Int) := by omega
          have g1 : (k : Int) < (n : Int) := by omega
          simp only at y0 y1 y2 y3 y4 y5
          have hblk := HOne.out.block (.cells #[.int .i64 kd, kyV ky, .int .i64 rt, .int .i64 rv, .int .i64 xat, .slice bx nx cx] 35)
          have hcpy : Cpy (wr2.alloc (.cells #[.int .i64 kd, kyV ky, .int .i64 rt, .int .i64 rv, .int .i64 xat, .slice bx nx cx] 35)) wr2.heap.size ⟨kd, ⟨ky, rt, rv⟩, xat, .slice bx nx cx⟩ := ⟨heap_alloc_new wr2 _⟩
          clear hx hopk hkl
          go_upto_region 14 with (fail)
          obtain ⟨q, hq⟩ : ∃ q, wr2.heap.size = q := ⟨_, rfl⟩
          rw [hq] at hblk hcpy ⊢
          have HO3 := Lib.hid hblk
          have HC3 := Lib.hid hcpy
          clear y0 y1 y2 y3 y4 y5 hblk hcpy hq HOne hbl
          generalize wr2.alloc (.cells #[.int .i64 kd, kyV ky, .int .i64 rt, .int .i64 rv, .int .i64 xat, .slice bx nx cx] 35) = w3 at HO3 HC3 ⊢
          obtain ⟨c0, c1, c2, c3, c4⟩ := HC3.out.cells
          simp only at c0 c1 c2 c3 c4
          have hpc := HO3.out.inv.pos.csum
          have heq0 := HEq.out
          have HM1 : Hid (100 + csum l ≤ 1000000) := Lib.hid (by omega)
          have HFN : Hid (k + 1 = n + 1 → m = 1000000001) := Lib.hid (fun h => by omega)
          by_cases hk0 : kd = 0
          · subst hk0
            rcases sPut_kinds C l m ⟨ky, rt, rv⟩ HK0.out with hsp | ⟨hmt, hsp⟩ | ⟨ht, hmt, hsp⟩
            · have HSP := Lib.hid hsp
              clear hsp
              go_upto_region 16 with (go_at_call 13; refine (HO3.out.put (r := ⟨ky, rt, rv⟩) HRV.out HM1.out HSP.out).mono ?_; rintro e w4 ⟨v4, rfl, hr4, hf4, hk4⟩; obtain ⟨a4, c4', rfl⟩ := Lst.val hr4; have HO4 := Lib.hid (hf4.low (X' := fun x => False ∨ q = x) (fun _ h => .inl h)); have HC4 := Lib.hid (HC3.out.kept hk4 (.inr rfl)); clear hf4 hk4 hr4)
              clear c0 c1 c2 c3 c4
              obtain ⟨c0, c1, c2, c3, c4⟩ := HC4.out.cells
              simp only at c0 c1 c2 c3 c4
              clear heq0 hpc
              go_wp2
              go_quiet (first | (go_at_call 14; refine Calls.quiet_of_same ((HO4.out.grow (drewN_below w4 _)).1.at_same)))
              have HO5 := Lib.hid (HO4.out.grow (drewN_below w4 nq)).1
              have HC5 : Hid (Cpy (w4.drewN nq) q ⟨0, ⟨ky, rt, rv⟩, xat, .slice bx nx cx⟩) := Lib.hid ⟨HC4.out.blk⟩
              clear c0 c1 c2 c3 c4
              generalize w4.drewN nq = w5 at HO5 HC5 ⊢
              obtain ⟨c0, c1, c2, c3, c4⟩ := HC5.out.cells
              simp only at c0 c1 c2 c3 c4
              obtain ⟨pn, hpn⟩ : ∃ pn, l.length = pn := ⟨_, rfl⟩
              have HPN := Lib.hid hpn
              have HPos := Lib.hid HO5.out.inv.pos
              have hco := HEq.out
              have hcp := HPos.out.csum
              clear hpn
              go_upto_region 32 with (go_at_call 17; refine (HO5.out.open_).mono ?_; rintro e w6 ⟨v6, rfl, hp6, hf6, -⟩; obtain ⟨a6, c6, rfl⟩ := Lst.val hp6; rw [HPN.out] at hp6 ⊢; have hlen6 := (Lst.len hp6).2; have HO6 := Lib.hid hf6; have HP6 := Lib.hid hp6; clear hf6 hp6)
              obtain ⟨z1, z2, z3⟩ := hlen6
              unfold maxLen at z2 z3
              clear c0 c1 c2 c3 c4
              go_wp2
              go_loopw [19, 21] (fun v19 v21 wL => ∃ (j : Nat) (S : Int), j ≤ pn ∧ v21 = .int .i64 j ∧ v19 = .int .i64 S ∧ Hid (S = csum (l.take j)) ∧ wL = w6) (fun _ v21 _ => pn - (intOf v21).toNat)
              case atStart => exact ⟨0, 0, Nat.zero_le _, rfl, rfl, Lib.hid rfl, rfl⟩
              case round =>
                obtain ⟨j, S, hj, rfl, rfl, HJ, rfl⟩ := hrel
                by_cases hjt : j < pn
                · have hjl : j < l.length := by rw [HPN.out]; exact hjt
                  obtain ⟨b6, o6, ha6, -, r0, r1, r2, r3, r4, r5, r6⟩ := PnsAt.cells HP6.out hjl
                  subst ha6
                  have hS2 := csum_take hjl
                  have hS3 := csum_le HPos.out (j + 1)
                  have hS4 := csum_le HPos.out j
                  rw [← HJ.out] at hS2 hS4
                  obtain ⟨tv, htv⟩ : ∃ tv, l[j].a.c = tv := ⟨_, rfl⟩
                  rw [htv] at r3 hS2
                  have g2 : (0 : Int) ≤ (j : Int) := by omega
                  have g3 : (j : Int) < (pn : Int) := by omega
                  have hb1 : 0 ≤ S + tv := by omega
                  have hb2 : S + tv ≤ 1000000 := by omega
                  have HN2 : Hid (S + tv = csum (l.take (j + 1))) := Lib.hid hS2.symm
                  clear htv hjl HJ r0 r1 r2 r4 r5 r6 hS2 hS3 hS4
                  go_wp2
                  go_roundw
                  case rel => exact ⟨j + 1, S + tv, by omega, by go_num, rfl, HN2, trivial⟩
                  case measure => simp [intOf]; omega
                · have hS : S = csum l := by
                    have h1 := HJ.out
                    rwa [List.take_of_length_le (by rw [HPN.out]; omega)] at h1
                  have hWH : (Wn != H + S) = false := inebf (by omega)
                  have hb1 : 0 ≤ H + S := by omega
                  have hb2 : H + S ≤ 1000000 := by omega
                  clear HJ hS
                  go_wp2
                  go_roundw
                  case rel => exact ⟨k + 1, Wn, H, l, m, by omega, by go_num, rfl, rfl, ⟨by omega, by omega, by omega⟩, Lib.hid (HO6.out.low (fun _ h => h.elim)), HEq, HFN⟩
                  case measure => simp [intOf]; omega
            · have HSP := Lib.hid hsp
              clear hsp
              go_upto_region 16 with (go_at_call 13; refine (HO3.out.put (r := ⟨ky, rt, rv⟩) HRV.out HM1.out HSP.out).mono ?_; rintro e w4 ⟨v4, rfl, hr4, hf4, hk4⟩; obtain ⟨a4, c4', rfl⟩ := Lst.val hr4; have HO4 := Lib.hid (hf4.low (X' := fun x => False ∨ q = x) (fun _ h => .inl h)); have HC4 := Lib.hid (HC3.out.kept hk4 (.inr rfl)); clear hf4 hk4 hr4)
              clear c0 c1 c2 c3 c4
              obtain ⟨c0, c1, c2, c3, c4⟩ := HC4.out.cells
              simp only at c0 c1 c2 c3 c4
              have hd1 : decide (m ≤ rt) = false := decide_eq_false (by omega)
              clear heq0 hpc
              go_wp2
              go_quiet (first | (go_at_call 14; refine Calls.quiet_of_same ((HO4.out.grow (drewN_below w4 _)).1.at_same)))
              have HO5 := Lib.hid (HO4.out.grow (drewN_below w4 nq)).1
              have HC5 : Hid (Cpy (w4.drewN nq) q ⟨0, ⟨ky, rt, rv⟩, xat, .slice bx nx cx⟩) := Lib.hid ⟨HC4.out.blk⟩
              clear c0 c1 c2 c3 c4
              generalize w4.drewN nq = w5 at HO5 HC5 ⊢
              obtain ⟨c0, c1, c2, c3, c4⟩ := HC5.out.cells
              simp only at c0 c1 c2 c3 c4
              obtain ⟨pn, hpn⟩ : ∃ pn, l.length = pn := ⟨_, rfl⟩
              have HPN := Lib.hid hpn
              have HPos := Lib.hid HO5.out.inv.pos
              have hco := HEq.out
              have hcp := HPos.out.csum
              clear hpn
              go_upto_region 32 with (go_at_call 17; refine (HO5.out.open_).mono ?_; rintro e w6 ⟨v6, rfl, hp6, hf6, -⟩; obtain ⟨a6, c6, rfl⟩ := Lst.val hp6; rw [HPN.out] at hp6 ⊢; have hlen6 := (Lst.len hp6).2; have HO6 := Lib.hid hf6; have HP6 := Lib.hid hp6; clear hf6 hp6)
              obtain ⟨z1, z2, z3⟩ := hlen6
              unfold maxLen at z2 z3
              clear c0 c1 c2 c3 c4
              go_wp2
              go_loopw [19, 21] (fun v19 v21 wL => ∃ (j : Nat) (S : Int), j ≤ pn ∧ v21 = .int .i64 j ∧ v19 = .int .i64 S ∧ Hid (S = csum (l.take j)) ∧ wL = w6) (fun _ v21 _ => pn - (intOf v21).toNat)
              case atStart => exact ⟨0, 0, Nat.zero_le _, rfl, rfl, Lib.hid rfl, rfl⟩
              case round =>
                obtain ⟨j, S, hj, rfl, rfl, HJ, rfl⟩ := hrel
                by_cases hjt : j < pn
                · have hjl : j < l.length := by rw [HPN.out]; exact hjt
                  obtain ⟨b6, o6, ha6, -, r0, r1, r2, r3, r4, r5, r6⟩ := PnsAt.cells HP6.out hjl
                  subst ha6
                  have hS2 := csum_take hjl
                  have hS3 := csum_le HPos.out (j + 1)
                  have hS4 := csum_le HPos.out j
                  rw [← HJ.out] at hS2 hS4
                  obtain ⟨tv, htv⟩ : ∃ tv, l[j].a.c = tv := ⟨_, rfl⟩
                  rw [htv] at r3 hS2
                  have g2 : (0 : Int) ≤ (j : Int) := by omega
                  have g3 : (j : Int) < (pn : Int) := by omega
                  have hb1 : 0 ≤ S + tv := by omega
                  have hb2 : S + tv ≤ 1000000 := by omega
                  have HN2 : Hid (S + tv = csum (l.take (j + 1))) := Lib.hid hS2.symm
                  clear htv hjl HJ r0 r1 r2 r4 r5 r6 hS2 hS3 hS4
                  go_wp2
                  go_roundw
                  case rel => exact ⟨j + 1, S + tv, by omega, by go_num, rfl, HN2, trivial⟩
                  case measure => simp [intOf]; omega
                · have hS : S = csum l := by
                    have h1 := HJ.out
                    rwa [List.take_of_length_le (by rw [HPN.out]; omega)] at h1
                  have hWH : (Wn != H + S) = false := inebf (by omega)
                  have hb1 : 0 ≤ H + S := by omega
                  have hb2 : H + S ≤ 1000000 := by omega
                  clear HJ hS
                  go_wp2
                  go_roundw
                  case rel => exact ⟨k + 1, Wn, H, l, m, by omega, by go_num, rfl, rfl, ⟨by omega, by omega, by omega⟩, Lib.hid (HO6.out.low (fun _ h => h.elim)), HEq, HFN⟩
                  case measure => simp [intOf]; omega
            · simp only at ht hmt
              have hinv := HO3.out.inv.put (key := ky) (v := rv) HCW.out ht HRV.out hmt (by have := ofS_le C.k C.s C.l rt; omega)
              have hcs2 := hinv.2.1
              obtain ⟨l2, hl2⟩ : ∃ l2, kall (decide (C.k = 3)) l (raws C.k C.s C.l ky rt rv) = l2 := ⟨_, rfl⟩
              simp only at hsp
              rw [hl2] at hsp hcs2
              obtain ⟨sp, hsp2⟩ : ∃ sp, ofS C.k C.s C.l rt = sp := ⟨_, rfl⟩
              have HSQ := Lib.hid hsp2
              have hon := ofS_le C.k C.s C.l rt
              rw [hsp2] at hcs2 hon
              obtain ⟨on, hon2⟩ : ∃ on, sp.length = on := ⟨_, rfl⟩
              rw [hon2] at hcs2 hon
              have HON := Lib.hid hon2
              have HT := Lib.hid ht
              have HEQ2 : Hid (H + csum l2 = Wn + on) := Lib.hid (by omega)
              clear hinv hl2 hcs2 hsp2 hon2 ht
              have HSP := Lib.hid hsp
              clear hsp
              go_upto_region 16 with (go_at_call 13; refine (HO3.out.put (r := ⟨ky, rt, rv⟩) HRV.out HM1.out HSP.out).mono ?_; rintro e w4 ⟨v4, rfl, hr4, hf4, hk4⟩; obtain ⟨a4, c4', rfl⟩ := Lst.val hr4; have HO4 := Lib.hid (hf4.low (X' := fun x => False ∨ q = x) (fun _ h => .inl h)); have HC4 := Lib.hid (HC3.out.kept hk4 (.inr rfl)); clear hf4 hk4 hr4)
              clear c0 c1 c2 c3 c4
              obtain ⟨c0, c1, c2, c3, c4⟩ := HC4.out.cells
              simp only at c0 c1 c2 c3 c4
              have hd1 : decide (rt < m) = false := decide_eq_false (by omega)
              clear hpc hmt
              go_wp2
              go_quiet (first | (go_at_call 14; refine Calls.quiet_of_same ((HO4.out.grow (drewN_below w4 _)).1.at_same)))
              have HO5 := Lib.hid (HO4.out.grow (drewN_below w4 nq)).1
              have HC5 : Hid (Cpy (w4.drewN nq) q ⟨0, ⟨ky, rt, rv⟩, xat, .slice bx nx cx⟩) := Lib.hid ⟨HC4.out.blk⟩
              clear c0 c1 c2 c3 c4
              generalize w4.drewN nq = w5 at HO5 HC5 ⊢
              obtain ⟨c0, c1, c2, c3, c4⟩ := HC5.out.cells
              simp only at c0 c1 c2 c3 c4
              have hbx := (HO5.out.below.block _ HBL.out).trans HBX.out
              have b0 := cell_of_heap hbx 0
              have b1 := cell_of_heap hbx 1
              have b2 := cell_of_heap hbx 2
              simp only [List.getElem?_toArray, List.getElem?_cons_zero, List.getElem?_cons_succ] at b0 b1 b2
              go_upto_region 20 with (go_at_call 15; refine (rof_ok HCW.out HT.out HSQ.out _).mono ?_; rintro e w6 ⟨v6, rfl, hi6, hb6⟩; obtain ⟨a6, c6, rfl⟩ := Lst.val hi6; have HO6 := Lib.hid (HO5.out.grow hb6).1; have HC6 := Lib.hid (HC5.out.kept (HO5.out.grow hb6).2 (.inr rfl)); have hl6 := (Lst.len hi6).2; rw [HON.out] at hl6 ⊢; clear hi6 hb6)
              unfold maxLen at hl6
              obtain ⟨z4, z5, z6⟩ := hl6
              clear c0 c1 c2 c3 c4 b0 b1 b2 hbx
              obtain ⟨c0, c1, c2, c3, c4⟩ := HC6.out.cells
              simp only at c0 c1 c2 c3 c4
              obtain ⟨pn, hpn⟩ : ∃ pn, l2.length = pn := ⟨_, rfl⟩
              have HPN := Lib.hid hpn
              have HPos := Lib.hid HO6.out.inv.pos
              have hco := HEQ2.out
              have hcp := HPos.out.csum
              clear hpn
              go_upto_region 32 with (go_at_call 17; refine (HO6.out.open_).mono ?_; rintro e w6 ⟨v6, rfl, hp6, hf6, -⟩; obtain ⟨a6, c6, rfl⟩ := Lst.val hp6; rw [HPN.out] at hp6 ⊢; have hlen6 := (Lst.len hp6).2; have HO6 := Lib.hid hf6; have HP6 := Lib.hid hp6; clear hf6 hp6)
              obtain ⟨z1, z2, z3⟩ := hlen6
              unfold maxLen at z2 z3
              clear c0 c1 c2 c3 c4
              go_wp2
              go_loopw [19, 21] (fun v19 v21 wL => ∃ (j : Nat) (S : Int), j ≤ pn ∧ v21 = .int .i64 j ∧ v19 = .int .i64 S ∧ Hid (S = csum (l2.take j)) ∧ wL = w6) (fun _ v21 _ => pn - (intOf v21).toNat)
              case atStart => exact ⟨0, 0, Nat.zero_le _, rfl, rfl, Lib.hid rfl, rfl⟩
              case round =>
                obtain ⟨j, S, hj, rfl, rfl, HJ, rfl⟩ := hrel
                by_cases hjt : j < pn
                · have hjl : j < l2.length := by rw [HPN.out]; exact hjt
                  obtain ⟨b6, o6, ha6, -, r0, r1, r2, r3, r4, r5, r6⟩ := PnsAt.cells HP6.out hjl
                  subst ha6
                  have hS2 := csum_take hjl
                  have hS3 := csum_le HPos.out (j + 1)
                  have hS4 := csum_le HPos.out j
                  rw [← HJ.out] at hS2 hS4
                  obtain ⟨tv, htv⟩ : ∃ tv, l2[j].a.c = tv := ⟨_, rfl⟩
                  rw [htv] at r3 hS2
                  have g2 : (0 : Int) ≤ (j : Int) := by omega
                  have g3 : (j : Int) < (pn : Int) := by omega
                  have hb1 : 0 ≤ S + tv := by omega
                  have hb2 : S + tv ≤ 1000000 := by omega
                  have HN2 : Hid (S + tv = csum (l2.take (j + 1))) := Lib.hid hS2.symm
                  clear htv hjl HJ r0 r1 r2 r4 r5 r6 hS2 hS3 hS4
                  go_wp2
                  go_roundw
                  case rel => exact ⟨j + 1, S + tv, by omega, by go_num, rfl, HN2, trivial⟩
                  case measure => simp [intOf]; omega
                · have hS : S = csum l2 := by
                    have h1 := HJ.out
                    rwa [List.take_of_length_le (by rw [HPN.out]; omega)] at h1
                  have hWH : ((Wn + on) != H + S) = false := inebf (by omega)
                  have hb1 : 0 ≤ H + S := by omega
                  have hb2 : H + S ≤ 1000000 := by omega
                  clear HJ hS
                  go_wp2
                  go_roundw
                  case rel => exact ⟨k + 1, (Wn + on), H, l2, m, by omega, by go_num, rfl, rfl, ⟨by omega, by omega, by omega⟩, Lib.hid (HO6.out.low (fun _ h => h.elim)), HEQ2, HFN⟩
                  case measure => simp [intOf]; omega
          · have e0 : (kd == 0) = false := ibne hk0
            by_cases hk1 : kd = 1
            · subst hk1
              have hmk : ∃ l' m' T e, sMark C l m xat = (l', m', T, e) ∧ H + vsum T + csum l' = Wn ∧ (∀ r ∈ T, 0 ≤ r.v) ∧ (∀ j (hj : j < T.length), m ≤ T[j].t ∧ T[j].t < xat) ∧ (T.Pairwise fun a b => a.t ≤ b.t) ∧ (xat = 1000000001 → m' = 1000000001) := @mark_counts C l m xat H Wn HAG.out HO3.out.inv HEq.out
              obtain ⟨l5, m5, T, e5, hsm, heq5, hv5, ht5, hst5, hf5⟩ := hmk
              have HSM := Lib.hid hsm
              have HE5 := Lib.hid heq5
              have HV5 := Lib.hid hv5
              have HT5 := Lib.hid ht5
              have HS5 := Lib.hid hst5
              have HF5 := Lib.hid hf5
              obtain ⟨tn, htn⟩ : ∃ tn, T.length = tn := ⟨_, rfl⟩
              have HTN := Lib.hid htn
              clear hsm heq5 hv5 ht5 hst5 hf5 htn
              go_upto_region 24 with (first
                | (go_at_call 14; refine (HO3.out.at_same).mono ?_; rintro e w4 ⟨rfl, rfl⟩)
                | (go_at_call 16; refine (HO3.out.mark (x := xat) HSM.out).mono ?_; rintro e w5 ⟨v5, rfl, hr5, hf5, hk5⟩; obtain ⟨a5, cp5, rfl⟩ := Lst.val hr5; rw [HTN.out] at hr5 ⊢; have hlen5 := (Lst.len hr5).2; have HO5 := Lib.hid (hf5.low (X' := fun _ => False) (fun _ h => h.elim)); have HC5 := Lib.hid (HC3.out.kept hk5 (.inr rfl)); have HR5 := Lib.hid hr5; clear hf5 hr5 hk5))
              clear c0 c1 c2 c3 c4
              obtain ⟨c0, c1, c2, c3, c4⟩ := HC5.out.cells
              simp only at c0 c1 c2 c3 c4
              obtain ⟨z1, z2, z3⟩ := hlen5
              unfold maxLen at z2 z3
              have hvt := vsum_le HV5.out tn
              rw [List.take_of_length_le (by rw [HTN.out]; exact Nat.le_refl _)] at hvt
              have hcl := HO5.out.inv.pos.csum
              have he5 := HE5.out
              go_wp2
              go_loopw [8, 18] (fun v8 v18 wL => ∃ (j : Nat) (Hj : Int), j ≤ tn ∧ v18 = .int .i64 j ∧ v8 = .int .i64 Hj ∧ Hid (Hj = H + vsum (T.take j)) ∧ Hid (∃ q, wL = w5.drewN q)) (fun _ v18 _ => tn - (intOf v18).toNat)
              case atStart => exact ⟨0, H, Nat.zero_le _, rfl, rfl, Lib.hid (by show H = H + 0; omega), Lib.hid ⟨0, rfl⟩⟩
              case round =>
                obtain ⟨j, Hj, hj, rfl, rfl, HJ, HQ⟩ := hrel
                obtain ⟨qq, hqq⟩ := HQ.out
                rename World => wz
                have hzb : Below w5.heap.size w5 wz := by rw [hqq]; exact ⟨rfl, rfl, rfl, Nat.le_refl _, fun _ _ => rfl⟩
                have HZB := Lib.hid hzb
                have hd4 := (fun (v : Value) (h : w5.cell? ⟨q, 4, none⟩ = some v) => (show wz.cell? ⟨q, 4, none⟩ = some v by rw [hqq]; exact h)) _ c4
                clear hqq hzb
                by_cases hjt : j < tn
                · have hjl : j < T.length := by rw [HTN.out]; exact hjt
                  obtain ⟨b5, o5, ha5, -, r0, r1, r2⟩ := RcsAt.cells (HR5.out.grow HZB.out) hjl
                  subst ha5
                  obtain ⟨ht1, ht2⟩ := HT5.out j hjl
                  have hv1 := HV5.out _ (List.getElem_mem hjl)
                  have hS2 := vsum_take hjl
                  have hS3 := vsum_le HV5.out (j + 1)
                  have hS4 := vsum_le HV5.out j
                  have hjj := HJ.out
                  have HPV : Hid (∀ h : 0 < j, ∃ y, T[j - 1]? = some y ∧ y.t ≤ T[j].t) := Lib.hid (fun h => ⟨T[j - 1], List.getElem?_eq_getElem (by omega), List.pairwise_iff_getElem.1 HS5.out (j - 1) j (by omega) hjl (by omega)⟩)
                  obtain ⟨x, hx⟩ : ∃ x, T[j] = x := ⟨_, rfl⟩
                  rw [hx] at r1 r2 ht1 ht2 hv1 hS2 HPV
                  obtain ⟨xk, xt, xv⟩ := x
                  simp only at r1 r2 ht1 ht2 hv1 hS2 HPV
                  have g2 : (0 : Int) ≤ (j : Int) := by omega
                  have g3 : (j : Int) < (tn : Int) := by omega
                  have hb1 : 0 ≤ Hj + xv := by omega
                  have hb2 : Hj + xv ≤ 1000000 := by omega
                  have HN2 : Hid (Hj + xv = H + vsum (T.take (j + 1))) := Lib.hid (by omega)
                  have hd1 : decide (xt < m) = false := decide_eq_false (by omega)
                  have hd2 : decide (xat ≤ xt) = false := decide_eq_false (by omega)
                  have HJL := Lib.hid hjl
                  clear hx hjl hS2 hS3 hS4 hjj ht1 ht2 hv1 r0
                  by_cases hj0 : j = 0
                  · subst hj0
                    clear HPV
                    go_wp2
                    go_quiet (fail)
                    go_wp2
                    go_roundw
                    case rel => exact ⟨0 + 1, Hj + xv, by omega, by go_num, rfl, HN2, Lib.hid (drew_more HQ.out)⟩
                    case measure => simp [intOf]; omega
                  · obtain ⟨y, hy, hyt⟩ := HPV.out (by omega)
                    have hj1l : j - 1 < T.length := by have := HJL.out; omega
                    obtain ⟨b7, o7, ha7, -, u0, u1, u2⟩ := RcsAt.cells (HR5.out.grow HZB.out) hj1l
                    injection ha7 with ha7
                    injection ha7 with hb7 ho7
                    subst hb7 ho7
                    rw [List.getElem?_eq_getElem hj1l] at hy
                    injection hy with hy
                    rw [hy] at u1
                    obtain ⟨jp, hjp⟩ : ∃ jp, j = jp + 1 := ⟨j - 1, by omega⟩
                    rw [show j - 1 = jp by omega] at u1
                    have hd3 : decide ((0 : Int) < (j : Int)) = true := decide_eq_true (by omega)
                    have hd4 : decide (xt < y.t) = false := decide_eq_false (by omega)
                    have g4 : (j : Int) - 1 = (jp : Int) := by omega
                    have g5 : (0 : Int) ≤ (jp : Int) := by omega
                    have g6 : (jp : Int) < (tn : Int) := by omega
                    have g7 : (0 : Int) < (j : Int) := by omega
                    have g8 : 0 < j := by omega
                    clear HPV hy hyt hj1l u0 u2 hj0 hjp
                    go_wp2
                    go_quiet (fail)
                    go_wp2
                    go_roundw
                    case rel => exact ⟨j + 1, Hj + xv, by omega, by go_num, rfl, HN2, Lib.hid (drew_more HQ.out)⟩
                    case measure => simp [intOf]; omega
                · have HH5 : Hid (Hj + csum l5 = Wn) := Lib.hid (by
                    have h1 := HJ.out
                    rw [List.take_of_length_le (by rw [HTN.out]; omega)] at h1
                    omega)
                  have hh5 : 0 ≤ Hj := by
                    have h1 := HJ.out
                    rw [List.take_of_length_le (by rw [HTN.out]; omega)] at h1
                    omega
                  have HO7 := Lib.hid (HO5.out.grow HZB.out).1
                  clear HJ
                  obtain ⟨pn, hpn⟩ : ∃ pn, l5.length = pn := ⟨_, rfl⟩
                  have HPN := Lib.hid hpn
                  have HPos := Lib.hid HO7.out.inv.pos
                  have hco := HH5.out
                  have hcp := HPos.out.csum
                  clear hpn
                  go_upto_region 32 with (go_at_call 17; refine (HO7.out.open_).mono ?_; rintro e w6 ⟨v6, rfl, hp6, hf6, -⟩; obtain ⟨a6, c6, rfl⟩ := Lst.val hp6; rw [HPN.out] at hp6 ⊢; have hlen6 := (Lst.len hp6).2; have HO6 := Lib.hid hf6; have HP6 := Lib.hid hp6; clear hf6 hp6)
                  obtain ⟨z1, z2, z3⟩ := hlen6
                  unfold maxLen at z2 z3
                  skip
                  go_wp2
                  go_loopw [19, 21] (fun v19 v21 wL => ∃ (j : Nat) (S : Int), j ≤ pn ∧ v21 = .int .i64 j ∧ v19 = .int .i64 S ∧ Hid (S = csum (l5.take j)) ∧ wL = w6) (fun _ v21 _ => pn - (intOf v21).toNat)
                  case atStart => exact ⟨0, 0, Nat.zero_le _, rfl, rfl, Lib.hid rfl, rfl⟩
                  case round =>
                    obtain ⟨j, S, hj, rfl, rfl, HJ, rfl⟩ := hrel
                    by_cases hjt : j < pn
                    · have hjl : j < l5.length := by rw [HPN.out]; exact hjt
                      obtain ⟨b6, o6, ha6, -, r0, r1, r2, r3, r4, r5, r6⟩ := PnsAt.cells HP6.out hjl
                      subst ha6
                      have hS2 := csum_take hjl
                      have hS3 := csum_le HPos.out (j + 1)
                      have hS4 := csum_le HPos.out j
                      rw [← HJ.out] at hS2 hS4
                      obtain ⟨tv, htv⟩ : ∃ tv, l5[j].a.c = tv := ⟨_, rfl⟩
                      rw [htv] at r3 hS2
                      have g2 : (0 : Int) ≤ (j : Int) := by omega
                      have g3 : (j : Int) < (pn : Int) := by omega
                      have hb1 : 0 ≤ S + tv := by omega
                      have hb2 : S + tv ≤ 1000000 := by omega
                      have HN2 : Hid (S + tv = csum (l5.take (j + 1))) := Lib.hid hS2.symm
                      clear htv hjl HJ r0 r1 r2 r4 r5 r6 hS2 hS3 hS4
                      go_wp2
                      go_roundw
                      case rel => exact ⟨j + 1, S + tv, by omega, by go_num, rfl, HN2, trivial⟩
                      case measure => simp [intOf]; omega
                    · have hS : S = csum l5 := by
                        have h1 := HJ.out
                        rwa [List.take_of_length_le (by rw [HPN.out]; omega)] at h1
                      have hWH : (Wn != Hj + S) = false := inebf (by omega)
                      have hb1 : 0 ≤ Hj + S := by omega
                      have hb2 : Hj + S ≤ 1000000 := by omega
                      clear HJ hS
                      go_wp2
                      go_roundw
                      case rel => exact ⟨k + 1, Wn, Hj, l5, m5, by omega, by go_num, rfl, rfl, ⟨by omega, by omega, by omega⟩, Lib.hid (HO6.out.low (fun _ h => h.elim)), HH5, Lib.hid (fun h => by omega)⟩
                      case measure => simp [intOf]; omega
            · have e1 : (kd == 1) = false := ibne hk1
              clear hk0 hk1 heq0 hpc
              obtain ⟨pn, hpn⟩ : ∃ pn, l.length = pn := ⟨_, rfl⟩
              have HPN := Lib.hid hpn
              have HPos := Lib.hid HO3.out.inv.pos
              have hco := HEq.out
              have hcp := HPos.out.csum
              clear hpn
              go_upto_region 32 with (go_at_call 17; refine (HO3.out.open_).mono ?_; rintro e w6 ⟨v6, rfl, hp6, hf6, -⟩; obtain ⟨a6, c6, rfl⟩ := Lst.val hp6; rw [HPN.out] at hp6 ⊢; have hlen6 := (Lst.len hp6).2; have HO6 := Lib.hid hf6; have HP6 := Lib.hid hp6; clear hf6 hp6)
              obtain ⟨z1, z2, z3⟩ := hlen6
              unfold maxLen at z2 z3
              clear c0 c1 c2 c3 c4
              go_wp2
              go_loopw [19, 21] (fun v19 v21 wL => ∃ (j : Nat) (S : Int), j ≤ pn ∧ v21 = .int .i64 j ∧ v19 = .int .i64 S ∧ Hid (S = csum (l.take j)) ∧ wL = w6) (fun _ v21 _ => pn - (intOf v21).toNat)
              case atStart => exact ⟨0, 0, Nat.zero_le _, rfl, rfl, Lib.hid rfl, rfl⟩
              case round =>
                obtain ⟨j, S, hj, rfl, rfl, HJ, rfl⟩ := hrel
                by_cases hjt : j < pn
                · have hjl : j < l.length := by rw [HPN.out]; exact hjt
                  obtain ⟨b6, o6, ha6, -, r0, r1, r2, r3, r4, r5, r6⟩ := PnsAt.cells HP6.out hjl
                  subst ha6
                  have hS2 := csum_take hjl
                  have hS3 := csum_le HPos.out (j + 1)
                  have hS4 := csum_le HPos.out j
                  rw [← HJ.out] at hS2 hS4
                  obtain ⟨tv, htv⟩ : ∃ tv, l[j].a.c = tv := ⟨_, rfl⟩
                  rw [htv] at r3 hS2
                  have g2 : (0 : Int) ≤ (j : Int) := by omega
                  have g3 : (j : Int) < (pn : Int) := by omega
                  have hb1 : 0 ≤ S + tv := by omega
                  have hb2 : S + tv ≤ 1000000 := by omega
                  have HN2 : Hid (S + tv = csum (l.take (j + 1))) := Lib.hid hS2.symm
                  clear htv hjl HJ r0 r1 r2 r4 r5 r6 hS2 hS3 hS4
                  go_wp2
                  go_roundw
                  case rel => exact ⟨j + 1, S + tv, by omega, by go_num, rfl, HN2, trivial⟩
                  case measure => simp [intOf]; omega
                · have hS : S = csum l := by
                    have h1 := HJ.out
                    rwa [List.take_of_length_le (by rw [HPN.out]; omega)] at h1
                  have hWH : (Wn != H + S) = false := inebf (by omega)
                  have hb1 : 0 ≤ H + S := by omega
                  have hb2 : H + S ≤ 1000000 := by omega
                  clear HJ hS
                  go_wp2
                  go_roundw
                  case rel => exact ⟨k + 1, Wn, H, l, m, by omega, by go_num, rfl, rfl, ⟨by omega, by omega, by omega⟩, Lib.hid (HO6.out.low (fun _ h => h.elim)), HEq, HFN⟩
                  case measure => simp [intOf]; omega
        · have g1 : ¬ (k : Int) < (n : Int) := by omega
          have g2 : (k : Int) ≤ (n : Int) := by omega
          have hblk := HOne.out.block (.cells #[.int .i64 1, kyV [], .int .i64 0, .int .i64 0, .int .i64 1000000001, .slice none 0 0] 35)
          have hcpy : Cpy (wr2.alloc (.cells #[.int .i64 1, kyV [], .int .i64 0, .int .i64 0, .int .i64 1000000001, .slice none 0 0] 35)) wr2.heap.size ⟨1, ⟨[], 0, 0⟩, 1000000001, .slice none 0 0⟩ := ⟨heap_alloc_new wr2 _⟩
          go_upto_region 14 with (fail)
          obtain ⟨q, hq⟩ : ∃ q, wr2.heap.size = q := ⟨_, rfl⟩
          rw [hq] at hblk hcpy ⊢
          have HO3 := Lib.hid hblk
          have HC3 := Lib.hid hcpy
          clear hblk hcpy hq HOne
          generalize wr2.alloc (.cells #[.int .i64 1, kyV [], .int .i64 0, .int .i64 0, .int .i64 1000000001, .slice none 0 0] 35) = w3 at HO3 HC3 ⊢
          obtain ⟨c0, c1, c2, c3, c4⟩ := HC3.out.cells
          simp only at c0 c1 c2 c3 c4
          have hpc := HO3.out.inv.pos.csum
          have heq0 := HEq.out
          have hmk : ∃ l' m' T e, sMark C l m 1000000001 = (l', m', T, e) ∧ H + vsum T + csum l' = Wn ∧ (∀ r ∈ T, 0 ≤ r.v) ∧ (∀ j (hj : j < T.length), m ≤ T[j].t ∧ T[j].t < 1000000001) ∧ (T.Pairwise fun a b => a.t ≤ b.t) ∧ ((1000000001 : Int) = 1000000001 → m' = 1000000001) := @mark_counts C l m 1000000001 H Wn HAG.out HO3.out.inv HEq.out
          obtain ⟨l5, m5, T, e5, hsm, heq5, hv5, ht5, hst5, hf5⟩ := hmk
          have HSM := Lib.hid hsm
          have HE5 := Lib.hid heq5
          have HV5 := Lib.hid hv5
          have HT5 := Lib.hid ht5
          have HS5 := Lib.hid hst5
          have HF5 := Lib.hid hf5
          obtain ⟨tn, htn⟩ : ∃ tn, T.length = tn := ⟨_, rfl⟩
          have HTN := Lib.hid htn
          clear hsm heq5 hv5 ht5 hst5 hf5 htn
          go_upto_region 24 with (first
            | (go_at_call 14; refine (HO3.out.at_same).mono ?_; rintro e w4 ⟨rfl, rfl⟩)
            | (go_at_call 16; refine (HO3.out.mark (x := 1000000001) HSM.out).mono ?_; rintro e w5 ⟨v5, rfl, hr5, hf5, hk5⟩; obtain ⟨a5, cp5, rfl⟩ := Lst.val hr5; rw [HTN.out] at hr5 ⊢; have hlen5 := (Lst.len hr5).2; have HO5 := Lib.hid (hf5.low (X' := fun _ => False) (fun _ h => h.elim)); have HC5 := Lib.hid (HC3.out.kept hk5 (.inr rfl)); have HR5 := Lib.hid hr5; clear hf5 hr5 hk5))
          clear c0 c1 c2 c3 c4
          obtain ⟨c0, c1, c2, c3, c4⟩ := HC5.out.cells
          simp only at c0 c1 c2 c3 c4
          obtain ⟨z1, z2, z3⟩ := hlen5
          unfold maxLen at z2 z3
          have hvt := vsum_le HV5.out tn
          rw [List.take_of_length_le (by rw [HTN.out]; exact Nat.le_refl _)] at hvt
          have hcl := HO5.out.inv.pos.csum
          have he5 := HE5.out
          go_wp2
          go_loopw [8, 18] (fun v8 v18 wL => ∃ (j : Nat) (Hj : Int), j ≤ tn ∧ v18 = .int .i64 j ∧ v8 = .int .i64 Hj ∧ Hid (Hj = H + vsum (T.take j)) ∧ Hid (∃ q, wL = w5.drewN q)) (fun _ v18 _ => tn - (intOf v18).toNat)
          case atStart => exact ⟨0, H, Nat.zero_le _, rfl, rfl, Lib.hid (by show H = H + 0; omega), Lib.hid ⟨0, rfl⟩⟩
          case round =>
            obtain ⟨j, Hj, hj, rfl, rfl, HJ, HQ⟩ := hrel
            obtain ⟨qq, hqq⟩ := HQ.out
            rename World => wz
            have hzb : Below w5.heap.size w5 wz := by rw [hqq]; exact ⟨rfl, rfl, rfl, Nat.le_refl _, fun _ _ => rfl⟩
            have HZB := Lib.hid hzb
            have hd4 := (fun (v : Value) (h : w5.cell? ⟨q, 4, none⟩ = some v) => (show wz.cell? ⟨q, 4, none⟩ = some v by rw [hqq]; exact h)) _ c4
            clear hqq hzb
            by_cases hjt : j < tn
            · have hjl : j < T.length := by rw [HTN.out]; exact hjt
              obtain ⟨b5, o5, ha5, -, r0, r1, r2⟩ := RcsAt.cells (HR5.out.grow HZB.out) hjl
              subst ha5
              obtain ⟨ht1, ht2⟩ := HT5.out j hjl
              have hv1 := HV5.out _ (List.getElem_mem hjl)
              have hS2 := vsum_take hjl
              have hS3 := vsum_le HV5.out (j + 1)
              have hS4 := vsum_le HV5.out j
              have hjj := HJ.out
              have HPV : Hid (∀ h : 0 < j, ∃ y, T[j - 1]? = some y ∧ y.t ≤ T[j].t) := Lib.hid (fun h => ⟨T[j - 1], List.getElem?_eq_getElem (by omega), List.pairwise_iff_getElem.1 HS5.out (j - 1) j (by omega) hjl (by omega)⟩)
              obtain ⟨x, hx⟩ : ∃ x, T[j] = x := ⟨_, rfl⟩
              rw [hx] at r1 r2 ht1 ht2 hv1 hS2 HPV
              obtain ⟨xk, xt, xv⟩ := x
              simp only at r1 r2 ht1 ht2 hv1 hS2 HPV
              have g2 : (0 : Int) ≤ (j : Int) := by omega
              have g3 : (j : Int) < (tn : Int) := by omega
              have hb1 : 0 ≤ Hj + xv := by omega
              have hb2 : Hj + xv ≤ 1000000 := by omega
              have HN2 : Hid (Hj + xv = H + vsum (T.take (j + 1))) := Lib.hid (by omega)
              have hd1 : decide (xt < m) = false := decide_eq_false (by omega)
              have hd2 : decide (1000000001 ≤ xt) = false := decide_eq_false (by omega)
              have HJL := Lib.hid hjl
              clear hx hjl hS2 hS3 hS4 hjj ht1 ht2 hv1 r0
              by_cases hj0 : j = 0
              · subst hj0
                clear HPV
                go_wp2
                go_quiet (fail)
                go_wp2
                go_roundw
                case rel => exact ⟨0 + 1, Hj + xv, by omega, by go_num, rfl, HN2, Lib.hid (drew_more HQ.out)⟩
                case measure => simp [intOf]; omega
              · obtain ⟨y, hy, hyt⟩ := HPV.out (by omega)
                have hj1l : j - 1 < T.length := by have := HJL.out; omega
                obtain ⟨b7, o7, ha7, -, u0, u1, u2⟩ := RcsAt.cells (HR5.out.grow HZB.out) hj1l
                injection ha7 with ha7
                injection ha7 with hb7 ho7
                subst hb7 ho7
                rw [List.getElem?_eq_getElem hj1l] at hy
                injection hy with hy
                rw [hy] at u1
                obtain ⟨jp, hjp⟩ : ∃ jp, j = jp + 1 := ⟨j - 1, by omega⟩
                rw [show j - 1 = jp by omega] at u1
                have hd3 : decide ((0 : Int) < (j : Int)) = true := decide_eq_true (by omega)
                have hd4 : decide (xt < y.t) = false := decide_eq_false (by omega)
                have g4 : (j : Int) - 1 = (jp : Int) := by omega
                have g5 : (0 : Int) ≤ (jp : Int) := by omega
                have g6 : (jp : Int) < (tn : Int) := by omega
                have g7 : (0 : Int) < (j : Int) := by omega
                have g8 : 0 < j := by omega
                clear HPV hy hyt hj1l u0 u2 hj0 hjp
                go_wp2
                go_quiet (fail)
                go_wp2
                go_roundw
                case rel => exact ⟨j + 1, Hj + xv, by omega, by go_num, rfl, HN2, Lib.hid (drew_more HQ.out)⟩
                case measure => simp [intOf]; omega
            · have HH5 : Hid (Hj + csum l5 = Wn) := Lib.hid (by
                have h1 := HJ.out
                rw [List.take_of_length_le (by rw [HTN.out]; omega)] at h1
                omega)
              have hh5 : 0 ≤ Hj := by
                have h1 := HJ.out
                rw [List.take_of_length_le (by rw [HTN.out]; omega)] at h1
                omega
              have HO7 := Lib.hid (HO5.out.grow HZB.out).1
              clear HJ
              obtain ⟨pn, hpn⟩ : ∃ pn, l5.length = pn := ⟨_, rfl⟩
              have HPN := Lib.hid hpn
              have HPos := Lib.hid HO7.out.inv.pos
              have hco := HH5.out
              have hcp := HPos.out.csum
              clear hpn
              go_upto_region 32 with (go_at_call 17; refine (HO7.out.open_).mono ?_; rintro e w6 ⟨v6, rfl, hp6, hf6, -⟩; obtain ⟨a6, c6, rfl⟩ := Lst.val hp6; rw [HPN.out] at hp6 ⊢; have hlen6 := (Lst.len hp6).2; have HO6 := Lib.hid hf6; have HP6 := Lib.hid hp6; clear hf6 hp6)
              obtain ⟨z1, z2, z3⟩ := hlen6
              unfold maxLen at z2 z3
              skip
              go_wp2
              go_loopw [19, 21] (fun v19 v21 wL => ∃ (j : Nat) (S : Int), j ≤ pn ∧ v21 = .int .i64 j ∧ v19 = .int .i64 S ∧ Hid (S = csum (l5.take j)) ∧ wL = w6) (fun _ v21 _ => pn - (intOf v21).toNat)
              case atStart => exact ⟨0, 0, Nat.zero_le _, rfl, rfl, Lib.hid rfl, rfl⟩
              case round =>
                obtain ⟨j, S, hj, rfl, rfl, HJ, rfl⟩ := hrel
                by_cases hjt : j < pn
                · have hjl : j < l5.length := by rw [HPN.out]; exact hjt
                  obtain ⟨b6, o6, ha6, -, r0, r1, r2, r3, r4, r5, r6⟩ := PnsAt.cells HP6.out hjl
                  subst ha6
                  have hS2 := csum_take hjl
                  have hS3 := csum_le HPos.out (j + 1)
                  have hS4 := csum_le HPos.out j
                  rw [← HJ.out] at hS2 hS4
                  obtain ⟨tv, htv⟩ : ∃ tv, l5[j].a.c = tv := ⟨_, rfl⟩
                  rw [htv] at r3 hS2
                  have g2 : (0 : Int) ≤ (j : Int) := by omega
                  have g3 : (j : Int) < (pn : Int) := by omega
                  have hb1 : 0 ≤ S + tv := by omega
                  have hb2 : S + tv ≤ 1000000 := by omega
                  have HN2 : Hid (S + tv = csum (l5.take (j + 1))) := Lib.hid hS2.symm
                  clear htv hjl HJ r0 r1 r2 r4 r5 r6 hS2 hS3 hS4
                  go_wp2
                  go_roundw
                  case rel => exact ⟨j + 1, S + tv, by omega, by go_num, rfl, HN2, trivial⟩
                  case measure => simp [intOf]; omega
                · have hS : S = csum l5 := by
                    have h1 := HJ.out
                    rwa [List.take_of_length_le (by rw [HPN.out]; omega)] at h1
                  have hWH : (Wn != Hj + S) = false := inebf (by omega)
                  have hb1 : 0 ≤ Hj + S := by omega
                  have hb2 : Hj + S ≤ 1000000 := by omega
                  clear HJ hS
                  go_wp2
                  go_roundw
                  case rel => exact ⟨k + 1, Wn, Hj, l5, m5, by omega, by go_num, rfl, rfl, ⟨by omega, by omega, by omega⟩, Lib.hid (HO6.out.low (fun _ h => h.elim)), HH5, Lib.hid (fun _ => HF5.out trivial)⟩
                  case measure => simp [intOf]; omega
      · have hm := HFin.out (by omega)
        subst hm
        have HL0 : Hid (l = []) := Lib.hid HOne.out.inv.over
        have g2 : ¬ (k : Int) ≤ (n : Int) := by omega
        go_wp2_with (first
          | (go_at_call 12; refine (awake_any _).mono ?_; rintro e w7 ⟨rfl, hb7⟩; have HO7 := Lib.hid (HOne.out.grow hb7).1; clear hb7)
          | (go_at_call 17; refine (HO7.out.open_).mono ?_; rintro e w8 ⟨v8, rfl, hp8, hf8, -⟩; rw [HL0.out] at hp8; obtain ⟨a8, c8, rfl⟩ := Lst.val hp8; have HB8 := Lib.hid (grow_below HB0.out hf8.below); clear hf8 hp8))
        go_ret
        exact ⟨rfl, HB8.out⟩
set_option maxRecDepth 20000 in
set_option maxHeartbeats 1000000 in
theorem keepCounts_walk {w : World} {a : Option Addr} {n c : Nat} {L : List Ob} (k s l : Int) (h : ObsAt w (.slice a n c) L) : Calls Try.prog 3 #[winV k s l, .slice a n c] w fun e w' => e = .returned (.bool true) ∧ Below w.heap.size w w' := by
  have HB0 : Hid (Below w.heap.size w (w.alloc (.cells #[.int .i64 k, .int .i64 s, .int .i64 l] 23))) := Lib.hid ((Below.refl _ _).alloc (Nat.le_refl _) _)
  cases hs : smF L with
  | true =>
    by_cases hk : k = 0
    · subst hk
      have HI := Lib.hid (h.grow ((Below.refl w.heap.size w).alloc (Nat.le_refl _) (.cells #[.int .i64 0, .int .i64 s, .int .i64 l] 23)))
      have HS := Lib.hid hs
      clear h hs
      go_enter Try.func3, Try.ntmps3
      go_wp2_with (go_at_call 10; refine (small_at HI.out HS.out).mono ?_; rintro e w1 ⟨rfl, rfl⟩)
      go_ret
      exact ⟨rfl, HB0.out⟩
    · exact kc_at ⟨k, s, l, 1⟩ rfl h hs hk
  | false =>
    have HI := Lib.hid (h.grow ((Below.refl w.heap.size w).alloc (Nat.le_refl _) (.cells #[.int .i64 k, .int .i64 s, .int .i64 l] 23)))
    have HS := Lib.hid hs
    clear h hs
    go_enter Try.func3, Try.ntmps3
    go_wp2_with (go_at_call 10; refine (small_at HI.out HS.out).mono ?_; rintro e w1 ⟨rfl, rfl⟩)
    go_ret
    exact ⟨rfl, HB0.out⟩
end Go.Proofs.Ytlmnkmfpdjkijaa.Ke
