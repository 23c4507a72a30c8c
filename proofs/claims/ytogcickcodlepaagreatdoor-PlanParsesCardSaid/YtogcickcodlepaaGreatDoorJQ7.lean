/-
  The document's Parse, line by line. Conditions: what the document's test of a flow says is handed in.
-/
import Derived.Test.YtogcickcodlepaaGreatDoorJQ6
set_option linter.unusedVariables false
set_option linter.unusedSimpArgs false
namespace Go.Proofs.YtogcickcodlepaaGreatDoor.Pl
open Go.RowKit Go.Proofs.YtogcickcodlepaaGreatDoor.Ex

theorem qx_init {W0 W1 W2 : World} {p : Nat} {KL : Nat × Array Value} (h1 : W1 = W0.alloc (.cells #[.slice none 0 0, .slice none 0 0] 25)) (hp : W0.heap.size = p) (hb : Below W1.heap.size W1 W2) (hk : KAt KL W2) : QX KL W0 p .init (.slice none 0 0) (.slice none 0 0) (.slice none 0 0) (.slice none 0 0) [] W2 := by
  subst hp h1
  exact {
    below := ((Below.refl _ _).alloc (Nat.le_refl _) _).trans (hb.mono (by simp))
    keep := hk
    hp := Nat.le_refl _
    blk := (hb.block _ (by simp)).trans (heap_alloc_new W0 _)
    flws := rfl
    rowT := World.ownsRow_nil _ _ _ _
    rowF := World.ownsRow_nil _ _ _ _
    rowA := World.ownsRow_nil _ _ _ _
    rowB := World.ownsRow_nil _ _ _ _
    apart := .inl rfl
    steps := fun q hq => by cases hq
    sapart := List.Pairwise.nil }
/-- The lines in their row. -/
theorem lines_row {w : World} {B : Nat} {v : Value} {L : List Bs} (h : w.ownsRow B 9 1 v L.length (wcs L)) (h0 : L ≠ []) : ∃ g cur cap, v = .slice (some ⟨g, 0, none⟩) L.length cap ∧ KAt (g, cur) w ∧ ∀ W, KAt (g, cur) W → ∀ k, (hk : k < L.length) → W.cell? ⟨g, k, none⟩ = some (sv L[k]) ∧ g < W.heap.size := by
  rcases h.2 with ⟨_, h1⟩ | ⟨g, cap, cur, rfl, hb, hg, hnc, -⟩
  · exact absurd (List.length_eq_zero_iff.1 h1) h0
  · refine ⟨g, cur, cap, rfl, hg, fun W hW k hk => ⟨?_, lt_of_heap hW⟩⟩
    have c := h.cellAt k (by omega)
    rw [cell_of_heap hg] at c
    rw [cell_of_heap hW]
    refine c.trans ?_
    have h2 := (flatMap_at L (C := fun x => [sv x]) (k := 1) (fun _ _ => rfl) k L[k] (List.getElem?_eq_getElem hk) 0 (sv L[k]) rfl).1
    rw [Nat.mul_one, Nat.add_zero] at h2
    exact h2
theorem row_val {w : World} {B n : Nat} {e : TypeId} {size : Nat} {v : Value} {xs : List Value} (h : w.ownsRow B e size v n xs) : ∃ a c, v = .slice a n c := by
  rcases h.2 with ⟨rfl, h0⟩ | ⟨g, cap, cur, rfl, -⟩
  · exact ⟨none, 0, by rw [h0]⟩
  · exact ⟨_, _, rfl⟩
theorem lines_ne (t : Bs) : linesOf t ≠ [] := by
  have : ∀ (l cur : Bs), linesGo cur l ≠ [] := by
    intro l
    induction l with
    | nil => intro cur; simp [linesGo]
    | cons c r ih => intro cur; simp only [linesGo]; split <;> simp [ih]
  exact this t []
theorem rline_sv {w : World} {t : Bs} {b o n c : Nat} {ws : List Bs} (h1 : t.length ≤ 4096) (h2 : wordsOf t = ws) (h3 : WdsAt w (.slice (some ⟨b, o, none⟩) n c) ws) (h4 : ws.length = n) (h5 : 0 < n) (h6 : b < w.heap.size) {x : LnX} (hx : lineX t ws = x) :
    Calls Tryz.prog 30 #[sv t, .slice (some ⟨b, o, none⟩) n c] w fun e w' => e = .returned (lnV x) ∧ Below w.heap.size w w' := by
  obtain ⟨s, hs⟩ : ∃ s : ByteArray, s.data.toList = t := ⟨⟨t.toArray⟩, rfl⟩
  have e : sv t = .string s := by rw [← hs]
  subst hs
  rw [e]
  exact rline_at ⟨by simpa using h1, h2, h3, h4, h5, h6⟩ hx
set_option maxRecDepth 20000 in
set_option maxHeartbeats 8000000 in
theorem rparse_short (HFD : FlowDoes) {w : World} (s : ByteArray) (hs : s.size ≤ 4096) {R : PRes} (hp : parsePlan s.data.toList = R) : Calls Tryz.prog 14 #[.string s] w (ParseR R w) := by
  have hsz : ¬ (4096 : Int) < (s.size : Int) := by omega
  have hs4 := hs
  have hlen : s.data.toList.length = s.size := by simp
  unfold parsePlan at hp
  rw [if_neg (by omega)] at hp
  obtain ⟨L, hL⟩ : ∃ L, linesOf s.data.toList = L := ⟨_, rfl⟩
  rw [hL] at hp
  obtain ⟨RR, hRR⟩ : ∃ RR, run .init 1 L = RR := ⟨_, rfl⟩
  rw [hRR] at hp
  obtain ⟨hll, hln⟩ := lines_len (t := s.data.toList)
  rw [hL, hlen] at hll hln
  have hne : L ≠ [] := by rw [← hL]; exact lines_ne _
  have HLL := Lib.hid hll
  have HP := Lib.hid hp
  have HRR := Lib.hid hRR
  have HNE := Lib.hid hne
  obtain ⟨N, hN⟩ : ∃ N, L.length = N := ⟨_, rfl⟩
  have HN := Lib.hid hN
  have HSP : Hid (∀ W, Calls Tryz.prog 28 #[.string s, .int .u8 10] W fun e w' => ∃ g cap cur, e = .returned (.slice (some ⟨g, 0, none⟩) N cap) ∧ KAt (g, cur) w' ∧ (∀ W', KAt (g, cur) W' → ∀ k, (hk : k < L.length) → W'.cell? ⟨g, k, none⟩ = some (sv L[k]) ∧ g < W'.heap.size) ∧ Below W.heap.size W w') := Lib.hid (fun W => by
    refine (rsplit_any s W hs hL).mono ?_
    rintro e w' ⟨v, rfl, hown, hb⟩
    obtain ⟨g, cur, cap, rfl, h1, h2⟩ := lines_row hown hne
    exact ⟨g, cap, cur, by rw [hN], h1, h2, hb⟩)
  rw [hN] at hln
  clear hlen hL hp hRR hll hs hne hN
  obtain ⟨W0, hW0⟩ : ∃ W, w.alloc (.cells #[.slice none 0 0, .slice none 0 0] 25) = W := ⟨_, rfl⟩
  obtain ⟨W1, hW1⟩ : ∃ W, W0.alloc (.cells #[.slice none 0 0, .slice none 0 0] 25) = W := ⟨_, rfl⟩
  have hr0 : W0.heap[w.heap.size]? = some (.cells #[.slice none 0 0, .slice none 0 0] 25 (0, 0)) := by rw [← hW0]; exact heap_alloc_new w _
  have hb0 : Below w.heap.size w W0 := by rw [← hW0]; exact (Below.refl _ _).alloc (Nat.le_refl _) _
  have hs0 : W0.heap.size = w.heap.size + 1 := by rw [← hW0]; simp
  obtain ⟨r, hr⟩ : ∃ r, w.heap.size = r := ⟨_, rfl⟩
  obtain ⟨p, hpp⟩ : ∃ p, W0.heap.size = p := ⟨_, rfl⟩
  have HR0 := Lib.hid hr0
  have HB0 := Lib.hid hb0
  have HS0 := Lib.hid hs0
  have HPP := Lib.hid hpp
  have HW1 := Lib.hid hW1
  have HRW := Lib.hid hr
  clear hr0 hb0 hs0
  go_enter Tryz.func14, Tryz.ntmps14
  go_wp2_with (first | (go_at_call 28; refine (HSP.out _).mono ?_; rintro e W2 ⟨g, cap, cur, rfl, hk2, hl2, hb2⟩; have HK2 := Lib.hid hk2; have HLC := Lib.hid hl2; have HB2 := Lib.hid hb2; clear hk2 hl2 hb2; refine Hid.out ?_))
  have HQ0 : Hid (RP (g, cur) W0 p L RR 0 .init (.slice none 0 0) (.slice none 0 0) (.slice none 0 0) (.slice none 0 0) [] W2) := Lib.hid ⟨qx_init HW1.out.symm HPP.out HB2.out HK2.out, Sz.init, by rw [List.drop_zero]; exact HRR.out⟩
  have HPR : Hid (r < W0.heap.size) := Lib.hid (by have := HS0.out; have := HRW.out; omega)
  rw [hr] at HR0
  clear HB2 HK2 HSP hW0 hW1 hpp HRR HS0 hr
  refine Lib.hid ?_
  go_wp2
  go_loopg [6, 7, 8, 9, 11, 12, 13, 14] N (fun q x6 x7 x8 x9 x11 _ _ _ wr => ∃ (k : Nat) (S : PSt) (vt vf va vb : Value) (es : List FE), k ≤ N ∧ k + q = N ∧ x11 = .int .i64 k ∧ x8 = .int .i64 (S.win : Nat) ∧ x9 = .bool (hadB S) ∧ va = x6 ∧ vb = x7 ∧ Hid (RP (g, cur) W0 p L RR k S vt vf va vb es wr))
  case atStart => exact ⟨0, .init, _, _, _, _, _, Nat.zero_le _, by omega, rfl, rfl, rfl, rfl, rfl, HQ0⟩
  case round =>
    obtain ⟨k, S, vt, vf, va, vb, es, hkN, hkq, rfl, rfl, rfl, rfl, rfl, hrp⟩ := hrel
    have hrr : wr.heap[r]? = some (.cells #[.slice none 0 0, .slice none 0 0] 25 (0, 0)) := (hrp.out.qx.below.block r HPR.out).trans HR0.out
    obtain ⟨r0, r1, rf0, rf1⟩ := qx_cells hrr
    obtain ⟨p0, p1, pf0, pf1⟩ := qx_cells hrp.out.qx.blk
    have hpl := hrp.out.qx.lt
    have hrl := lt_of_heap hrr
    have HRR2 := Lib.hid hrr
    clear hrr HQ0
    by_cases hlt : k < N
    · have hkl : k < L.length := by rw [HN.out]; exact hlt
      have hrd := run_drop S L k hkl
      rw [hrp.out.run] at hrd
      have htl := HLL.out _ (List.getElem_mem hkl)
      obtain ⟨lc, hgl⟩ := HLC.out wr hrp.out.qx.keep k hkl
      obtain ⟨t, ht⟩ : ∃ t, L[k] = t := ⟨_, rfl⟩
      rw [ht] at hrd htl lc
      obtain ⟨ws, hws⟩ : ∃ ws, wordsOf t = ws := ⟨_, rfl⟩
      obtain ⟨n, hn⟩ : ∃ n, ws.length = n := ⟨_, rfl⟩
      have HWD : Hid (∀ W, Calls Tryz.prog 29 #[sv t] W fun e w' => ∃ v, e = .returned v ∧ w'.ownsRow W.heap.size 9 1 v ws.length (wcs ws) ∧ Below W.heap.size W w') := Lib.hid (fun W => rwords_any ⟨t.toArray⟩ W (by show t.toArray.size ≤ 4096; rw [List.size_toArray]; omega) hws)
      have HRD := Lib.hid hrd
      have HWS := Lib.hid hws
      have HTL := Lib.hid (Nat.le_trans htl hs4)
      have HLT : Hid (∀ h : k < L.length, L[k]'h = t) := Lib.hid (fun _ => ht)
      have g0 : (0 : Int) ≤ (k : Int) := by omega
      have g1 : (k : Int) < (N : Int) := by omega
      have HKQ := Lib.hid hkq
      have HNW := Lib.hid hn
      clear hrd htl ht hws hkl hkq hn
      go_upto_region 12 with (go_at_call 29; refine (HWD.out _).mono ?_; rintro e w1 ⟨v, rfl, hown, hb1⟩; rw [HNW.out] at hown; obtain ⟨a, c, rfl⟩ : ∃ a c, v = .slice a n c := row_val hown; have HO := Lib.hid hown; have HRP1 := Lib.hid (hrp.out.grow hb1); have hr1 := (hb1.block r hrl).trans HRR2.out; have HR1 := Lib.hid hr1; have HB1 := Lib.hid hb1; clear hown hb1 hr1)
      clear r0 r1 rf0 rf1 p0 p1 pf0 pf1 lc hgl HRR2
      by_cases hid : idle ws = true
      · have hnx : RP (g, cur) W0 p L RR (k + 1) S vt vf va vb es w1 := by
          refine ⟨HRP1.out.qx, HRP1.out.sz.mono (by omega), ?_⟩
          have h1 := HRD.out
          have h2 : S.errOf t = 0 := by unfold PSt.errOf; rw [HWS.out, if_pos hid]
          have h3 : S.next (k + 1) t = S := by unfold PSt.next; rw [HWS.out, if_pos hid]
          rw [if_pos h2, h3] at h1
          exact h1.symm
        have HNX := Lib.hid hnx
        clear hnx
        by_cases h0 : n = 0
        · subst h0
          clear hid
          go_wp2
          go_roundg (N - (k + 1))
          case measure => have := HKQ.out; omega
          case rel => exact ⟨k + 1, S, vt, vf, va, vb, es, by omega, by omega, by go_num, rfl, rfl, rfl, rfl, HNX⟩
        · obtain ⟨ch, rest, hc, hci⟩ := first_word HWS.out (by rw [HNW.out]; omega)
          have hc35 : ch = 35 := hci.1 hid
          subst hc35
          obtain ⟨b, o, rfl, hbl, x0⟩ := WdsAt.wd (wds_row (by rw [HNW.out]; exact HO.out)) (i := 0) (by rw [HNW.out]; omega)
          rw [hc, Nat.add_zero] at x0
          have e0 : ((n : Int) == 0) = false := by simp; omega
          have e1 : (0 : Int) < (n : Int) := by omega
          clear hid hc hci
          go_wp2
          go_roundg (N - (k + 1))
          case measure => have := HKQ.out; omega
          case rel => exact ⟨k + 1, S, vt, vf, va, vb, es, by omega, by omega, by go_num, rfl, rfl, rfl, rfl, HNX⟩
      · have hpos : 0 < n := by
          have := idle_false hid
          rw [HNW.out] at this; exact this
        obtain ⟨ch, rest, hc, hci⟩ := first_word HWS.out (by rw [HNW.out]; omega)
        have hc35 : ¬ ch = 35 := fun e => hid (hci.2 e)
        have ec : ((ch.toNat : Int) == 35) = false := (u8_beq (c := ch) (k := 35) (by decide)).trans (decide_eq_false hc35)
        have ec2 : ((((⟨(ch :: rest).toArray⟩ : ByteArray)[0]'(by show 0 < (ch :: rest).toArray.size; simp)).toNat : Int) == 35) = false := ec
        have hwat := wds_row (L := ws) (by rw [HNW.out]; exact HO.out)
        obtain ⟨b, o, rfl, hbl, x0⟩ := WdsAt.wd hwat (i := 0) (by rw [HNW.out]; omega)
        rw [hc, Nat.add_zero] at x0
        have e0 : ((n : Int) == 0) = false := by simp; omega
        have e1 : (0 : Int) < (n : Int) := by omega
        have herr : S.errOf t = if hasForm ws = false then 50 else if S.allows (wd ws 0) = false then 54 else 0 := by unfold PSt.errOf; rw [HWS.out, if_neg hid]
        have hnext : S.next (k + 1) t = S.put (k + 1) ws t := by unfold PSt.next; rw [HWS.out, if_neg hid]
        have HERR := Lib.hid herr
        have HNXT := Lib.hid hnext
        obtain ⟨lc, hgl⟩ := HLC.out w1 HRP1.out.qx.keep k (by have := HN.out; omega)
        rw [HLT.out] at lc
        obtain ⟨x, hx⟩ : ∃ x, lineX t ws = x := ⟨_, rfl⟩
        have HXX := Lib.hid hx
        have HRL : Hid (Calls Tryz.prog 30 #[sv t, .slice (some ⟨b, o, none⟩) n c] w1 fun e w' => e = .returned (lnV x) ∧ Below w1.heap.size w1 w') := Lib.hid (rline_sv HTL.out HWS.out hwat HNW.out hpos hbl hx)
        clear hid hci hc35 hc hwat herr hnext hx
        go_upto_region 14 with (first
          | (go_at_call 30; refine HRL.out.mono ?_; rintro e w2 ⟨rfl, hb2⟩; have HB2 := Lib.hid hb2; clear hb2)
          | (refine wpList_store_rowG (by rfl) 65 (.tmp 13) (.tmp 50) (by rfl) w2.heap.size (lnCs x).toArray (by rfl) (by rfl) 65 _ (heap_alloc_new w2 _) info65 (by rfl) (one_ln _) ?_; intro w3 hl3 hb3; have hb23 := ((Below.refl _ _).alloc (Nat.le_refl _) _).trans hb3; have HM := Lib.hid (MX.mk ((HRP1.out.grow HB2.out).grow hb23) ((hb23.block r (lt_of_heap ((HB2.out.block r (lt_of_heap HR1.out)).trans HR1.out))).trans ((HB2.out.block r (lt_of_heap HR1.out)).trans HR1.out)) hl3); clear hl3 hb3 hb23))
        generalize w2.heap.size = y at HM ⊢
        clear HB2 HRL HWD HRP1 HR1 HO lc hgl x0 hbl ec ec2 e0 e1 HNW HB1 HLC
        have hsay := line_says t ws
        rw [HXX.out] at hsay
        have hrw : w.heap.size ≤ r := by have := HRW.out; omega
        have HBW : Hid (Below w.heap.size w w3) := Lib.hid (HB0.out.trans (HM.out.rp.qx.below.mono HB0.out.size))
        obtain ⟨r0, r1, rf0, rf1⟩ := qx_cells HM.out.ret
        have hrl3 := lt_of_heap HM.out.ret
        have hyl3 := lt_of_heap HM.out.ln
        obtain ⟨K, hK⟩ : ∃ K, x.kind = K := ⟨_, rfl⟩
        have k0 := ln_cell HM.out.ln 0 (v := .int .i64 K) (by rw [← hK]; rfl)
        rcases hsay with ⟨hform, hsay⟩ | ⟨hform, hx0⟩
        · have hkd := hsay.kind
          rw [hK] at hkd
          have hmay := may_kind (S := S) hform
          rw [← hkd] at hmay
          have hfive := kind_five hform
          rw [← hkd] at hfive
          have hK0 : ¬ K = 0 := by omega
          have ek := ibne hK0
          obtain ⟨fa, fc, hvf⟩ := (lst_row (C := flwC) HM.out.rp.qx.rowF (fun _ _ => rfl)).val
          obtain ⟨ne, hne⟩ : ∃ n, es.length = n := ⟨_, rfl⟩
          rw [hne] at hvf
          subst hvf
          obtain ⟨p0, p1, pf0, pf1⟩ := qx_cells HM.out.rp.qx.blk
          have hpl := HM.out.rp.qx.lt
          have HEL : Hid (ne = S.flws.length) := Lib.hid (by rw [← hne, ← HM.out.rp.qx.flws]; simp)
          have hsz1 := HM.out.rp.sz.flws
          have hsz2 := HM.out.rp.sz.tops
          have hsz3 : S.tl.length ≤ k := by have := HM.out.rp.sz.tle; omega
          have hsz4 : S.fl.length ≤ k := by have := HM.out.rp.sz.fle; omega
          have hswin := HM.out.rp.sz.win
          obtain ⟨m, hm⟩ : ∃ m : Int, (ne : Int) - 1 = m := ⟨_, rfl⟩
          have HMM := Lib.hid hm
          have hne1 : ne ≤ 4097 := by have := HEL.out; omega
          have hm0 : -1 ≤ m := by omega
          have hm1 : m ≤ 4097 := by omega
          clear hm
          obtain ⟨wi, hwi⟩ : ∃ i : Int, ((S.win : Nat) : Int) = i := ⟨_, rfl⟩
          rw [hwi]
          have HWI := Lib.hid hwi
          obtain ⟨hb, hhb⟩ : ∃ b, hadB S = b := ⟨_, rfl⟩
          rw [hhb]
          have HHB := Lib.hid hhb
          clear hwi hhb
          obtain ⟨ok, hok⟩ : ∃ b, mayK S K = b := ⟨_, rfl⟩
          have HSAY := Lib.hid hsay
          have HFORM := Lib.hid hform
          have HKD := Lib.hid hkd
          have HMAY := Lib.hid hmay
          have HSW := Lib.hid hswin
          have HNES := Lib.hid hne
          clear hsay hform hkd hmay hK hswin hK0 hne
          go_upto_region 16 with fail
          clear ek r0 r1 rf0 rf1
          go_cut [14] (fun v wx => v = .int .i64 m ∧ w3 = wx)
          case first =>
            go_wp2
            go_meet
            case rel => exact ⟨by rw [← HMM.out], rfl⟩
          case rest =>
            obtain ⟨rfl, rfl⟩ := hcut
            go_upto_region 17 with fail
            go_cut [88] (fun v wx => v = .bool (!ok) ∧ w3 = wx)
            case first =>
              by_cases hw : S.win = 0
              · have a1 : ¬ (0 : Int) < wi := by have := HWI.out; omega
                have HW0 := Lib.hid hw
                clear hw
                by_cases he : S.flws = []
                · have a2 : m < 0 := by have hel := HEL.out; rw [he] at hel; simp at hel; have := HMM.out; omega
                  rcases hfive with rfl | rfl | rfl | rfl | rfl
                  all_goals
                    as_aux_lemma =>
                      go_wp2
                      go_meet
                      case rel => exact ⟨congrArg Value.bool (by rw [← hok]; simp [mayK, HW0.out, he]), rfl⟩
                · have hpos1 : 0 < ne := by rw [HEL.out]; exact List.length_pos_iff.2 he
                  have a2 : ¬ m < 0 := by have := HMM.out; omega
                  rcases hfive with rfl | rfl | rfl | rfl | rfl
                  case inr.inr.inr.inl =>
                    cases hb with
                    | true =>
                      as_aux_lemma =>
                        have hl0 : lastKind S.flws ≠ 0 := by have := HHB.out; simpa [hadB] using this
                        go_wp2
                        go_meet
                        case rel => exact ⟨congrArg Value.bool (by rw [← hok]; simp [mayK, HW0.out, he, hl0]), rfl⟩
                    | false =>
                      as_aux_lemma =>
                        have hl0 : lastKind S.flws = 0 := by have := HHB.out; simpa [hadB] using this
                        go_wp2
                        go_meet
                        case rel => exact ⟨congrArg Value.bool (by rw [← hok]; simp [mayK, HW0.out, he, hl0]), rfl⟩
                  all_goals
                    as_aux_lemma =>
                      go_wp2
                      go_meet
                      case rel => exact ⟨congrArg Value.bool (by rw [← hok]; simp [mayK, HW0.out, he]), rfl⟩
              · have a1 : (0 : Int) < wi := by have := HWI.out; omega
                have he := HSW.out hw
                have HW0 := Lib.hid hw
                clear hw
                have hpos1 : 0 < ne := by rw [HEL.out]; exact List.length_pos_iff.2 he
                have a2 : ¬ m < 0 := by have := HMM.out; omega
                rcases hfive with rfl | rfl | rfl | rfl | rfl
                all_goals
                  as_aux_lemma =>
                    go_wp2
                    go_meet
                    case rel => exact ⟨congrArg Value.bool (by rw [← hok]; simp [mayK, HW0.out, he]), rfl⟩
            case rest =>
              obtain ⟨rfl, rfl⟩ := hcut
              obtain ⟨r0, r1, rf0, rf1⟩ := qx_cells HM.out.ret
              cases ok with
              | false =>
                have e5 : S.errOf t = 54 := by rw [HERR.out, if_neg (by rw [HFORM.out]; simp), if_pos (by rw [HMAY.out, hok])]
                have hbad := bad_is HP.out HRD.out e5 (by decide)
                subst hbad
                go_wp2
                refine bodyPost_ret (res_three rfl rfl rfl rfl (ret_set HM.out.ret _ _) Tryz.underlying25 info25) rfl ⟨_, rfl, PlnAt.empty _, ret_below HBW.out hrw _ _⟩
              | true =>
                have e5 : S.errOf t = 0 := by rw [HERR.out, if_neg (by rw [HFORM.out]; simp), if_neg (by rw [HMAY.out, hok]; simp)]
                have HNX : Hid (∀ {S' : PSt} {vt' vf' va' vb' : Value} {es' : List FE} {w' : World}, S.put (k + 1) ws t = S' → QX (g, cur) W0 p S' vt' vf' va' vb' es' w' → RP (g, cur) W0 p L RR (k + 1) S' vt' vf' va' vb' es' w') := Lib.hid (fun hput hq => rp_next HM.out.rp HRD.out e5 HTL.out (HNXT.out.trans hput) hq)
                clear r0 r1 rf0 rf1 e5
                go_upto_region 21 with fail
                rcases hfive with rfl | rfl | rfl | rfl | rfl
                · as_aux_lemma =>
                    have hw : S.win = 0 := by simpa [mayK] using hok
                    have hput := put_topic_eq (S := S) (n := k + 1) HSAY.out (kind_topic HFORM.out HKD.out.symm)
                    have t1 := ln_cell HM.out.ln 1 (v := sv x.top.name) rfl
                    have t2 := ln_cell HM.out.ln 2 (v := .int .i64 x.top.parts) rfl
                    obtain ⟨⟨nm, pt⟩, hxt⟩ : ∃ q, x.top = q := ⟨_, rfl⟩
                    rw [hxt] at hput t1 t2
                    have HPUT := Lib.hid hput
                    have HW := Lib.hid hw
                    obtain ⟨i0, hi0, hz0, hz1, hz2⟩ := info_parts info47
                    obtain ⟨j0, hj0, hy0, hy1, hy2⟩ := info_parts info3
                    have hB : W0.heap.size ≤ w3.heap.size := HM.out.rp.qx.below.size
                    have HX := Lib.hid (HM.out.rp.qx.grow ((Below.refl _ _).alloc (Nat.le_refl _) (.cells #[sv nm, .int .i64 pt] 47)))
                    clear hput hxt hw hok
                    go_upto_region 22 with fail
                    go_cut [] (fun wx => ∃ v2, Hid (QX (g, cur) W0 p { S with tops := S.tops ++ [⟨nm, pt⟩] } v2 (.slice fa ne fc) va vb es wx))
                    case first =>
                      go_wp2_with (refine wpList_append_lies _ (by rfl) (.tmp 97) (.tmp 100) 22 (by rfl) W0.heap.size 47 i0 (.agg #[.string ⟨#[]⟩, .int .i64 0]) 2 24 Tryz.underlying22 hi0 hz0 hz1 hz2 rfl (by decide) vt S.tops.length (topCs S.tops) (by rfl) HX.out.rowT ⟨w3.heap.size, 0, none⟩ 1 1 (topC ⟨nm, pt⟩) (by rfl) rfl (World.news_of_block (heap_alloc_new w3 _)) (one_top _) (by decide) (by unfold maxLen; omega) (by omega) (by simp; omega) _ rfl ?_; intro g2 cap2 w4 hown2 hgrow2 hat2 hlt2; obtain ⟨hp1, hx3⟩ := HX.out.pushTop hgrow2 hown2; obtain ⟨q0, -, s0, -⟩ := qx_cells hp1; have HX3 := Lib.hid hx3; clear hown2 hgrow2 hat2 hlt2 hp1 hx3)
                      go_meet
                      case rel => exact ⟨_, HX3⟩
                    case rest =>
                      obtain ⟨v2, hx⟩ := hcut
                      clear p0 p1 pf0 pf1 t1 t2 k0 hi0 hz0 hz1 hz2 HX hpl hyl3 hrl3 hB
                      rename World => w5
                      have hB5 : W0.heap.size ≤ w5.heap.size := hx.out.below.size
                      have HX := Lib.hid (hx.out.grow ((Below.refl _ _).alloc (Nat.le_refl _) (.cells #[.int .i64 ((k : Int) + 1)] 3)))
                      clear hx
                      go_wp2_with (refine wpList_append_lies _ (by rfl) (.tmp 103) (.tmp 106) 55 (by rfl) W0.heap.size 3 j0 (.int .i64 0) 1 8 Tryz.underlying55 hj0 hy0 hy1 hy2 rfl (by decide) va S.tl.length (ixs S.tl) (by rfl) HX.out.rowA ⟨w5.heap.size, 0, none⟩ 1 1 [.int .i64 ((k : Int) + 1)] (by rfl) rfl (World.news_of_block (heap_alloc_new w5 _)) (one_int _) (by decide) (by unfold maxLen; omega) (by omega) (by simp; omega) _ rfl ?_; intro g2 cap2 w6 hown2 hgrow2 hat2 hlt2; have hx3 := HX.out.pushA (i := k + 1) hgrow2 hown2 rfl hat2; have HX3 := Lib.hid hx3; clear hown2 hgrow2 hat2 hlt2 hx3)
                      go_roundg (N - (k + 1))
                      case measure => have := HKQ.out; omega
                      case rel => exact ⟨k + 1, { S with tops := S.tops ++ [⟨nm, pt⟩], tl := S.tl ++ [k + 1] }, v2, _, _, vb, es, by omega, by omega, by go_num, by show Value.int .i64 0 = Value.int .i64 ((S.win : Nat) : Int); rw [HW.out]; rfl, by rw [← HHB.out]; rfl, rfl, rfl, Lib.hid (HNX.out HPUT.out HX3.out)⟩
                · -- a flow
                  have hw : S.win = 0 := by simpa [mayK] using hok
                  obtain ⟨hput, hfo⟩ := put_flow_eq (S := S) (n := k + 1) HSAY.out (kind_flow HFORM.out HKD.out.symm)
                  obtain ⟨hf1, hf2⟩ := flowOf_lists ws
                  rw [← hfo] at hf1 hf2
                  have hhad : hadB { S with flws := S.flws ++ [x.flw], fl := S.fl ++ [k + 1] } = false := by rw [hfo]; exact hadB_flow
                  have c3 := ln_cell HM.out.ln 3 (v := sv x.flw.name) rfl
                  have c4 := ln_cell HM.out.ln 4 (v := sv x.flw.frm) rfl
                  have c5 := ln_cell HM.out.ln 5 (v := sv x.flw.dest) rfl
                  have c6 := ln_cell HM.out.ln 6 (v := .int .i64 x.flw.bound) rfl
                  have c7 := ln_cell HM.out.ln 7 (v := .int .i64 x.flw.readers) rfl
                  have c8 := ln_cell HM.out.ln 8 (v := .int .i64 x.flw.keepers) rfl
                  have c9 := ln_cell HM.out.ln 9 (v := .slice none 0 0) rfl
                  have c10 := ln_cell HM.out.ln 10 (v := .int .i64 x.flw.win.kind) rfl
                  have c11 := ln_cell HM.out.ln 11 (v := .int .i64 x.flw.win.size) rfl
                  have c12 := ln_cell HM.out.ln 12 (v := .int .i64 x.flw.win.slide) rfl
                  have c13 := ln_cell HM.out.ln 13 (v := .int .i64 x.flw.agg) rfl
                  have c14 := ln_cell HM.out.ln 14 (v := .slice none 0 0) rfl
                  obtain ⟨F, hF⟩ : ∃ q, x.flw = q := ⟨_, rfl⟩
                  rw [hF] at hput hf1 hf2 hhad c3 c4 c5 c6 c7 c8 c10 c11 c12 c13
                  have HPUT := Lib.hid hput
                  have HW := Lib.hid hw
                  have HHD := Lib.hid hhad
                  have HF12 := Lib.hid (And.intro hf1 hf2)
                  obtain ⟨i0, hi0, hz0, hz1, hz2⟩ := info_parts info43
                  obtain ⟨j0, hj0, hy0, hy1, hy2⟩ := info_parts info3
                  have hB : W0.heap.size ≤ w3.heap.size := HM.out.rp.qx.below.size
                  have HX := Lib.hid (HM.out.rp.qx.grow ((Below.refl _ _).alloc (Nat.le_refl _) (.cells (flwC ⟨F, .slice none 0 0, .slice none 0 0⟩).toArray 43)))
                  clear hput hfo hF hf1 hf2 hhad hw hok
                  go_upto_region 25 with fail
                  go_cut [] (fun wx => ∃ v2 es', Hid (QX (g, cur) W0 p { S with flws := S.flws ++ [F] } vt v2 va vb es' wx))
                  case first =>
                    go_wp2_with (refine wpList_append_lies _ (by rfl) (.tmp 111) (.tmp 114) 23 (by rfl) W0.heap.size 43 i0 (.agg #[.string ⟨#[]⟩, .string ⟨#[]⟩, .string ⟨#[]⟩, .int .i64 0, .int .i64 0, .int .i64 0, .slice none 0 0, .int .i64 0, .int .i64 0, .int .i64 0, .int .i64 0, .slice none 0 0]) 12 152 Tryz.underlying23 hi0 hz0 hz1 hz2 rfl (by decide) (.slice fa ne fc) es.length (flwCs es) (by rfl) HX.out.rowF ⟨w3.heap.size, 0, none⟩ 1 1 (flwC ⟨F, .slice none 0 0, .slice none 0 0⟩) (by rfl) rfl (World.news_of_block (heap_alloc_new w3 _)) (one_flw _) (by decide) (by have := HNES.out; unfold maxLen; omega) (by have := HNES.out; omega) (by simp; omega) _ rfl ?_; intro g2 cap2 w4 hown2 hgrow2 hat2 hlt2; obtain ⟨hp1, hx3⟩ := HX.out.pushFlow hgrow2 HF12.out.1 HF12.out.2 hown2; obtain ⟨-, q0, -, s0⟩ := qx_cells hp1; have HX3 := Lib.hid hx3; clear hown2 hgrow2 hat2 hlt2 hp1 hx3)
                    go_meet
                    case rel => exact ⟨_, _, HX3⟩
                  case rest =>
                    obtain ⟨v2, es', hx⟩ := hcut
                    clear p0 p1 pf0 pf1 c3 c4 c5 c6 c7 c8 c9 c10 c11 c12 c13 c14 k0 hi0 hz0 hz1 hz2 HX hpl hyl3 hrl3 hB
                    rename World => w5
                    have hB5 : W0.heap.size ≤ w5.heap.size := hx.out.below.size
                    have HX := Lib.hid (hx.out.grow ((Below.refl _ _).alloc (Nat.le_refl _) (.cells #[.int .i64 ((k : Int) + 1)] 3)))
                    clear hx
                    go_wp2_with (refine wpList_append_lies _ (by rfl) (.tmp 117) (.tmp 120) 55 (by rfl) W0.heap.size 3 j0 (.int .i64 0) 1 8 Tryz.underlying55 hj0 hy0 hy1 hy2 rfl (by decide) vb S.fl.length (ixs S.fl) (by rfl) HX.out.rowB ⟨w5.heap.size, 0, none⟩ 1 1 [.int .i64 ((k : Int) + 1)] (by rfl) rfl (World.news_of_block (heap_alloc_new w5 _)) (one_int _) (by decide) (by unfold maxLen; omega) (by omega) (by simp; omega) _ rfl ?_; intro g2 cap2 w6 hown2 hgrow2 hat2 hlt2; have hx3 := HX.out.pushB (i := k + 1) hgrow2 hown2 rfl hat2; have HX3 := Lib.hid hx3; clear hown2 hgrow2 hat2 hlt2 hx3)
                    go_roundg (N - (k + 1))
                    case measure => have := HKQ.out; omega
                    case rel => exact ⟨k + 1, { S with flws := S.flws ++ [F], fl := S.fl ++ [k + 1] }, vt, v2, va, _, es', by omega, by omega, by go_num, by show Value.int .i64 0 = Value.int .i64 ((S.win : Nat) : Int); rw [HW.out]; rfl, by rw [HHD.out], rfl, rfl, Lib.hid (HNX.out HPUT.out HX3.out)⟩
                · as_aux_lemma =>
                    obtain ⟨hw, hnel⟩ : S.win = 0 ∧ S.flws ≠ [] := by simpa [mayK] using hok
                    have hput := put_step_eq (S := S) (n := k + 1) HSAY.out HFORM.out HKD.out.symm
                    obtain ⟨es0, f, v1, v2, g', cap', hes, hv, hfl⟩ := HM.out.rp.qx.lastF hnel
                    subst hes
                    injection hv with e1 e2 e3
                    subst e1 e2 e3
                    have hm2 : m = (es0.length : Int) := by have := HMM.out; omega
                    subst hm2
                    have i0 : (0 : Int) ≤ (es0.length : Int) := by omega
                    have i1 : (es0.length : Int) < ((es0.length + 1 : Nat) : Int) := by omega
                    obtain ⟨hgl, hg0, hgp, hcell, hfr⟩ := HM.out.rp.qx.lastCells
                    have hgy : g' ≠ y := fun e => row_ne HM.out.rp.qx.rowF' HM.out.ln (by decide) (by rw [e]; rfl)
                    have c15 := ln_cell HM.out.ln 15 (v := .int .i64 x.stp.kind) rfl
                    have c16 := ln_cell HM.out.ln 16 (v := sv x.stp.text) rfl
                    have c17 := ln_cell HM.out.ln 17 (v := .int .i64 x.stp.n) rfl
                    obtain ⟨s0, hst⟩ : ∃ q, x.stp = q := ⟨_, rfl⟩
                    rw [hst] at hput c15 c16 c17
                    rw [hfl, onLast_snoc] at hput
                    have HST := Lib.hid hst
                    have HPUT := Lib.hid hput
                    have HW := Lib.hid hw
                    obtain ⟨i4, hi0, hz0, hz1, hz2⟩ := info_parts info50
                    have hB : W0.heap.size ≤ w3.heap.size := HM.out.rp.qx.below.size
                    clear hput hw hok hnel hst
                    by_cases h0 : f.win.kind = 0
                    · skip
                      have i2 : (es0.length : Int) < (es0.length : Int) + 1 := by omega
                      have hb0 : hb = false := by rw [← HHB.out]; unfold hadB; rw [hfl, lastKind_snoc]; simp [h0]
                      subst hb0
                      have HAS : Hid (addStep s0 f = { f with pre := f.pre ++ [s0] }) := Lib.hid (by unfold addStep; rw [if_pos h0])
                      have hq6 := hcell 6 _ rfl
                      simp only at hq6
                      have hrow := (HM.out.rp.qx.steps _ (List.mem_append_right _ (List.mem_singleton.2 rfl))).pre
                      simp only at hrow
                      have hb2 : Below w3.heap.size w3 ((w3.alloc (.cells #[.int .i64 s0.kind, sv s0.text, .int .i64 s0.n] 50)).drew) := ((Below.refl _ _).alloc (Nat.le_refl _) _).drew
                      have HO := Lib.hid (ownsRow_below hrow hb2)
                      have HX2 := Lib.hid (HM.out.rp.qx.grow hb2)
                      have HLA := Lib.hid ((hb2.block y hyl3).trans HM.out.ln)
                      have hSA := sl_mk HX2.out.blk HLA.out HST.out
                      have hS3 := sl_mk HM.out.rp.qx.blk HM.out.ln HST.out
                      have HSA := Lib.hid hSA
                      have HS3 := Lib.hid hS3
                      have hng : ¬ g' = w3.heap.size := by omega
                      have hlf := (HM.out.rp.sz.steps f (by rw [hfl]; exact List.mem_append_right _ (List.mem_singleton.2 rfl))).1
                      have HFL := Lib.hid hfl
                      clear hrow hb2 hcell hfr hSA hS3 h0 hfl
                      go_upto_region 31 with fail
                      refine wp_region_held_drew (S := (fun X => X.cell? ⟨p, 1, none⟩ = some (.slice (some ⟨g', 0, none⟩) (es0.length + 1) fc) ∧ X.cell? ⟨y, 15, none⟩ = some (.int .i64 s0.kind) ∧ X.cell? ⟨y, 16, none⟩ = some (sv s0.text) ∧ X.cell? ⟨y, 17, none⟩ = some (.int .i64 s0.n))) (by kernel_rfl) (by simpa using HS3.out) (fun hHeld => ?_)
                      refine wpAnyH_take (i := 0) (oi := ({ dst := some 140, op := Op.fieldAddr 25 (Operand.tmp 5) 1, type := 0, pos := "ref.go:320", after := #[], guard := none } : Oper)) (v := ?_) rfl (by kernel_rfl) (by kernel_rfl) (by kernel_rfl) (fun _ _ _ h => h) (Or.inl ⟨by rfl, ?hy31_1⟩) hHeld ?_
                      case hy31_1 => (intro W hSw; (try dsimp only at hSw); go_simp; (try with_reducible rfl))
                      try simp only [Act.put, List.setIfInBounds_toArray, List.set_cons_zero, List.set_cons_succ]
                      refine wpAnyH_take (i := 1) (oi := ({ dst := some 141, op := Op.load 23 (Operand.tmp 140), type := 23, pos := "ref.go:320", after := #[{ on := 0, ground := Ground.data }], guard := none } : Oper)) (v := ?_) rfl (by kernel_rfl) (by kernel_rfl) (by kernel_rfl) (fun _ _ _ h => h) (Or.inl ⟨by rfl, ?hy31_2⟩) hHeld ?_
                      case hy31_2 => (intro W hSw; (try dsimp only at hSw); go_simp; (try with_reducible rfl))
                      try simp only [Act.put, List.setIfInBounds_toArray, List.set_cons_zero, List.set_cons_succ]
                      refine wpAnyH_take (i := 2) (oi := ({ dst := some 142, op := Op.move (Operand.tmp 14), type := 3, pos := "ref.go:320", after := #[], guard := none } : Oper)) (v := ?_) rfl (by kernel_rfl) (by kernel_rfl) (by kernel_rfl) (fun _ _ _ h => h) (Or.inl ⟨by rfl, ?hy31_3⟩) hHeld ?_
                      case hy31_3 => (intro W hSw; (try dsimp only at hSw); go_simp; (try with_reducible rfl))
                      try simp only [Act.put, List.setIfInBounds_toArray, List.set_cons_zero, List.set_cons_succ]
                      refine wpAnyH_take (i := 3) (oi := ({ dst := some 143, op := Op.fieldAddr 25 (Operand.tmp 5) 1, type := 0, pos := "ref.go:320", after := #[], guard := none } : Oper)) (v := ?_) rfl (by kernel_rfl) (by kernel_rfl) (by kernel_rfl) (fun _ _ _ h => h) (Or.inl ⟨by rfl, ?hy31_4⟩) hHeld ?_
                      case hy31_4 => (intro W hSw; (try dsimp only at hSw); go_simp; (try with_reducible rfl))
                      try simp only [Act.put, List.setIfInBounds_toArray, List.set_cons_zero, List.set_cons_succ]
                      refine wpAnyH_take (i := 4) (oi := ({ dst := some 144, op := Op.load 23 (Operand.tmp 143), type := 23, pos := "ref.go:320", after := #[{ on := 3, ground := Ground.data }], guard := none } : Oper)) (v := ?_) rfl (by kernel_rfl) (by kernel_rfl) (by kernel_rfl) (fun _ _ _ h => h) (Or.inl ⟨by rfl, ?hy31_5⟩) hHeld ?_
                      case hy31_5 => (intro W hSw; (try dsimp only at hSw); go_simp; (try with_reducible rfl))
                      try simp only [Act.put, List.setIfInBounds_toArray, List.set_cons_zero, List.set_cons_succ]
                      refine wpAnyH_take (i := 5) (oi := ({ dst := some 145, op := Op.move (Operand.tmp 14), type := 3, pos := "ref.go:320", after := #[], guard := none } : Oper)) (v := ?_) rfl (by kernel_rfl) (by kernel_rfl) (by kernel_rfl) (fun _ _ _ h => h) (Or.inl ⟨by rfl, ?hy31_6⟩) hHeld ?_
                      case hy31_6 => (intro W hSw; (try dsimp only at hSw); go_simp; (try with_reducible rfl))
                      try simp only [Act.put, List.setIfInBounds_toArray, List.set_cons_zero, List.set_cons_succ]
                      refine wpAnyH_take (i := 6) (oi := ({ dst := some 146, op := Op.indexAddr 23 (Operand.tmp 144) (Operand.tmp 145), type := 0, pos := "ref.go:320", after := #[{ on := 4, ground := Ground.data }, { on := 5, ground := Ground.data }], guard := none } : Oper)) (v := ?_) rfl (by kernel_rfl) (by kernel_rfl) (by kernel_rfl) (fun _ _ _ h => h) (Or.inl ⟨by rfl, ?hy31_7⟩) hHeld ?_
                      case hy31_7 => (intro W hSw; (try dsimp only at hSw); go_simp; (try with_reducible rfl))
                      try simp only [Act.put, List.setIfInBounds_toArray, List.set_cons_zero, List.set_cons_succ]
                      refine wpAnyH_take (i := 7) (oi := ({ dst := some 147, op := Op.fieldAddr 43 (Operand.tmp 146) 6, type := 0, pos := "ref.go:320", after := #[{ on := 6, ground := Ground.data }], guard := none } : Oper)) (v := ?_) rfl (by kernel_rfl) (by kernel_rfl) (by kernel_rfl) (fun _ _ _ h => h) (Or.inl ⟨by rfl, ?hy31_8⟩) hHeld ?_
                      case hy31_8 => (intro W hSw; (try dsimp only at hSw); go_simp; (try with_reducible rfl))
                      try simp only [Act.put, List.setIfInBounds_toArray, List.set_cons_zero, List.set_cons_succ]
                      refine wpAnyH_take (i := 9) (oi := ({ dst := some 149, op := Op.fieldAddr 65 (Operand.tmp 13) 3, type := 0, pos := "ref.go:320", after := #[], guard := none } : Oper)) (v := ?_) rfl (by kernel_rfl) (by kernel_rfl) (by kernel_rfl) (fun _ _ _ h => h) (Or.inl ⟨by rfl, ?hy31_9⟩) hHeld ?_
                      case hy31_9 => (intro W hSw; (try dsimp only at hSw); go_simp; (try with_reducible rfl))
                      try simp only [Act.put, List.setIfInBounds_toArray, List.set_cons_zero, List.set_cons_succ]
                      refine wpAnyH_take (i := 10) (oi := ({ dst := some 150, op := Op.load 50 (Operand.tmp 149), type := 50, pos := "ref.go:320", after := #[{ on := 9, ground := Ground.data }], guard := none } : Oper)) (v := ?_) rfl (by kernel_rfl) (by kernel_rfl) (by kernel_rfl) (fun _ _ _ h => h) (Or.inl ⟨by rfl, ?hy31_10⟩) hHeld ?_
                      case hy31_10 => (intro W hSw; (try dsimp only at hSw); go_simp; (try with_reducible rfl))
                      try simp only [Act.put, List.setIfInBounds_toArray, List.set_cons_zero, List.set_cons_succ]
                      refine wpAnyH_ready (rs := [8, 11]) (by kernel_rfl) (by simp) ?_
                      refine (AllReadyH.cons (o := ({ dst := some 148, op := Op.load 39 (Operand.tmp 147), type := 39, pos := "ref.go:320", after := #[{ on := 7, ground := Ground.data }], guard := none } : Oper)) rfl (fun K hK => ?_) (AllReadyH.cons (o := ({ dst := some 151, op := Op.buildSlice 39 1 #[(0, Operand.tmp 150)], type := 39, pos := "ref.go:320", after := #[{ on := 10, ground := Ground.data }], guard := none } : Oper)) rfl (fun K hK => ?_) AllReadyH.nil))
                      · skip
                        go_simp
                        refine hK.out _ _ hHeld (fun hHeld' => ?_)
                        clear hK K hHeld
                        have hHeld := hHeld'
                        clear hHeld'
                        try simp only [Act.put, List.setIfInBounds_toArray, List.set_cons_zero, List.set_cons_succ]
                        refine wpAnyH_ready (rs := [11]) (by kernel_rfl) (by simp) ?_
                        refine AllReadyH.cons (o := ({ dst := some 151, op := Op.buildSlice 39 1 #[(0, Operand.tmp 150)], type := 39, pos := "ref.go:320", after := #[{ on := 10, ground := Ground.data }], guard := none } : Oper)) rfl (fun K hK => ?_) AllReadyH.nil
                        go_simp
                        refine hK.out _ _ HSA.out (fun hHeld' => ?_)
                        clear hK K hHeld
                        have hHeld := hHeld'
                        clear hHeld'
                        try simp only [Act.put, List.setIfInBounds_toArray, List.set_cons_zero, List.set_cons_succ]
                        refine wpAnyH_ready (rs := [12]) (by kernel_rfl) (by simp) ?_
                        refine AllReadyH.cons (o := ({ dst := some 152, op := Op.call { callee := Callee.builtin Builtin.append, args := #[Operand.tmp 148, Operand.tmp 151], argTypes := #[39, 39] }, type := 39, pos := "ref.go:320", after := #[{ on := 8, ground := Ground.data }, { on := 11, ground := Ground.data }], guard := none } : Oper)) rfl (fun K hK => ?_) AllReadyH.nil
                        refine step_append_lies _ (by rfl) (.tmp 148) (.tmp 151) 39 (by rfl) W0.heap.size 50 i4 (.agg #[.int .i64 0, .string ⟨#[]⟩, .int .i64 0]) 3 32 Tryz.underlying39 hi0 hz0 hz1 hz2 rfl (by decide) v1 f.pre.length (stpCs f.pre) (by rfl) HO.out ⟨w3.heap.size, 0, none⟩ 1 1 (stpC s0) (by rfl) rfl (news_stp s0 rfl (by simp)) (one_stp s0) (by decide) (by unfold maxLen; omega) (by omega) (by simp; omega) _ rfl ?_
                        intro g2 cap2 w4 hown2 hgrow2 hat2 hlt2
                        obtain ⟨k6, z6, hx3⟩ := QX.pushPre (s := s0) HX2.out hgrow2 hown2 (by rfl) hat2
                        have hp4 := (hgrow2.block p HX2.out.lt (fun e => row_ne HO.out HX2.out.blk (by decide) e.symm)).trans HX2.out.blk
                        have hy4 := (hgrow2.block y (lt_of_heap HLA.out) (fun e => row_ne HO.out HLA.out (by decide) e.symm)).trans HLA.out
                        have HX3 := Lib.hid hx3
                        have HY4 := Lib.hid hy4
                        have HS4 := Lib.hid (sl_mk hp4 hy4 HST.out)
                        clear hown2 hgrow2 hat2 hlt2 hx3 hp4 hy4
                        refine hK.out _ _ HS4.out (fun hHeld' => ?_)
                        clear hK K hHeld
                        have hHeld := hHeld'
                        clear hHeld'
                        try simp only [Act.put, List.setIfInBounds_toArray, List.set_cons_zero, List.set_cons_succ]
                        refine wpAnyH_take (i := 13) (oi := ({ dst := some 153, op := Op.indexAddr 23 (Operand.tmp 141) (Operand.tmp 142), type := 0, pos := "ref.go:320", after := #[{ on := 1, ground := Ground.data }, { on := 2, ground := Ground.data }, { on := 0, ground := Ground.phase }, { on := 1, ground := Ground.phase }, { on := 2, ground := Ground.phase }, { on := 3, ground := Ground.phase }, { on := 4, ground := Ground.phase }, { on := 5, ground := Ground.phase }, { on := 6, ground := Ground.phase }, { on := 7, ground := Ground.phase }, { on := 8, ground := Ground.phase }, { on := 9, ground := Ground.phase }, { on := 10, ground := Ground.phase }, { on := 11, ground := Ground.phase }, { on := 12, ground := Ground.phase }], guard := none } : Oper)) (v := ?_) rfl (by kernel_rfl) (by kernel_rfl) (by kernel_rfl) (fun _ _ _ h => h) (Or.inl ⟨by rfl, ?hy31_11⟩) hHeld ?_
                        case hy31_11 => (intro W hSw; (try dsimp only at hSw); go_simp; (try with_reducible rfl))
                        try simp only [Act.put, List.setIfInBounds_toArray, List.set_cons_zero, List.set_cons_succ]
                        refine wpAnyH_take (i := 14) (oi := ({ dst := some 154, op := Op.fieldAddr 43 (Operand.tmp 153) 6, type := 0, pos := "ref.go:320", after := #[{ on := 13, ground := Ground.data }, { on := 0, ground := Ground.phase }, { on := 1, ground := Ground.phase }, { on := 2, ground := Ground.phase }, { on := 3, ground := Ground.phase }, { on := 4, ground := Ground.phase }, { on := 5, ground := Ground.phase }, { on := 6, ground := Ground.phase }, { on := 7, ground := Ground.phase }, { on := 8, ground := Ground.phase }, { on := 9, ground := Ground.phase }, { on := 10, ground := Ground.phase }, { on := 11, ground := Ground.phase }, { on := 12, ground := Ground.phase }], guard := none } : Oper)) (v := ?_) rfl (by kernel_rfl) (by kernel_rfl) (by kernel_rfl) (fun _ _ _ h => h) (Or.inl ⟨by rfl, ?hy31_12⟩) hHeld ?_
                        case hy31_12 => (intro W hSw; (try dsimp only at hSw); go_simp; (try with_reducible rfl))
                        try simp only [Act.put, List.setIfInBounds_toArray, List.set_cons_zero, List.set_cons_succ]
                        refine wpAnyH_ready (rs := [15]) (by kernel_rfl) (by simp) ?_
                        refine AllReadyH.cons (o := ({ dst := none, op := Op.store 39 (Operand.tmp 154) (Operand.tmp 152), type := 0, pos := "ref.go:320", after := #[{ on := 14, ground := Ground.data }, { on := 12, ground := Ground.data }, { on := 12, ground := Ground.chain }, { on := 0, ground := Ground.phase }, { on := 1, ground := Ground.phase }, { on := 2, ground := Ground.phase }, { on := 3, ground := Ground.phase }, { on := 4, ground := Ground.phase }, { on := 5, ground := Ground.phase }, { on := 6, ground := Ground.phase }, { on := 7, ground := Ground.phase }, { on := 8, ground := Ground.phase }, { on := 9, ground := Ground.phase }, { on := 10, ground := Ground.phase }, { on := 11, ground := Ground.phase }, { on := 12, ground := Ground.phase }], guard := none } : Oper)) rfl (fun K hK => ?_) AllReadyH.nil
                        go_simp
                        refine hK.out _ _ (sl_mk HX3.out.blk (heap_setCell HY4.out hgy _) HST.out) (fun hHeld' => ?_)
                        clear hK K hHeld
                        have hHeld := hHeld'
                        clear hHeld'
                        try simp only [Act.put, List.setIfInBounds_toArray, List.set_cons_zero, List.set_cons_succ]
                        refine wpAnyH_done (by kernel_rfl) ?_ _
                        clear p0 p1 pf0 pf1 c15 c16 c17 k0 hi0 hz0 hz1 hz2 HX2 HO HLA HSA HS3 HS4 HY4 hpl hyl3 hrl3 hB hgl hg0 hgp hng hq6 hgy hHeld k6 z6
                        go_wp2
                        go_roundg (N - (k + 1))
                        case measure => have := HKQ.out; omega
                        case rel => exact ⟨k + 1, { S with flws := es0.map FE.f ++ [addStep s0 f] }, vt, _, va, vb, es0 ++ [_], by omega, by omega, by go_num, by show Value.int .i64 0 = Value.int .i64 ((S.win : Nat) : Int); rw [HW.out]; rfl, by rw [hadB_step HFL.out, HHB.out], rfl, rfl, Lib.hid (HNX.out HPUT.out (by rw [HAS.out]; exact HX3.out))⟩
                      · skip
                        go_simp
                        refine hK.out _ _ HSA.out (fun hHeld' => ?_)
                        clear hK K hHeld
                        have hHeld := hHeld'
                        clear hHeld'
                        try simp only [Act.put, List.setIfInBounds_toArray, List.set_cons_zero, List.set_cons_succ]
                        refine wpAnyH_ready (rs := [8]) (by kernel_rfl) (by simp) ?_
                        refine AllReadyH.cons (o := ({ dst := some 148, op := Op.load 39 (Operand.tmp 147), type := 39, pos := "ref.go:320", after := #[{ on := 7, ground := Ground.data }], guard := none } : Oper)) rfl (fun K hK => ?_) AllReadyH.nil
                        go_simp
                        refine hK.out _ _ hHeld (fun hHeld' => ?_)
                        clear hK K hHeld
                        have hHeld := hHeld'
                        clear hHeld'
                        try simp only [Act.put, List.setIfInBounds_toArray, List.set_cons_zero, List.set_cons_succ]
                        refine wpAnyH_ready (rs := [12]) (by kernel_rfl) (by simp) ?_
                        refine AllReadyH.cons (o := ({ dst := some 152, op := Op.call { callee := Callee.builtin Builtin.append, args := #[Operand.tmp 148, Operand.tmp 151], argTypes := #[39, 39] }, type := 39, pos := "ref.go:320", after := #[{ on := 8, ground := Ground.data }, { on := 11, ground := Ground.data }], guard := none } : Oper)) rfl (fun K hK => ?_) AllReadyH.nil
                        refine step_append_lies _ (by rfl) (.tmp 148) (.tmp 151) 39 (by rfl) W0.heap.size 50 i4 (.agg #[.int .i64 0, .string ⟨#[]⟩, .int .i64 0]) 3 32 Tryz.underlying39 hi0 hz0 hz1 hz2 rfl (by decide) v1 f.pre.length (stpCs f.pre) (by rfl) HO.out ⟨w3.heap.size, 0, none⟩ 1 1 (stpC s0) (by rfl) rfl (news_stp s0 rfl (by simp)) (one_stp s0) (by decide) (by unfold maxLen; omega) (by omega) (by simp; omega) _ rfl ?_
                        intro g2 cap2 w4 hown2 hgrow2 hat2 hlt2
                        obtain ⟨k6, z6, hx3⟩ := QX.pushPre (s := s0) HX2.out hgrow2 hown2 (by rfl) hat2
                        have hp4 := (hgrow2.block p HX2.out.lt (fun e => row_ne HO.out HX2.out.blk (by decide) e.symm)).trans HX2.out.blk
                        have hy4 := (hgrow2.block y (lt_of_heap HLA.out) (fun e => row_ne HO.out HLA.out (by decide) e.symm)).trans HLA.out
                        have HX3 := Lib.hid hx3
                        have HY4 := Lib.hid hy4
                        have HS4 := Lib.hid (sl_mk hp4 hy4 HST.out)
                        clear hown2 hgrow2 hat2 hlt2 hx3 hp4 hy4
                        refine hK.out _ _ HS4.out (fun hHeld' => ?_)
                        clear hK K hHeld
                        have hHeld := hHeld'
                        clear hHeld'
                        try simp only [Act.put, List.setIfInBounds_toArray, List.set_cons_zero, List.set_cons_succ]
                        refine wpAnyH_take (i := 13) (oi := ({ dst := some 153, op := Op.indexAddr 23 (Operand.tmp 141) (Operand.tmp 142), type := 0, pos := "ref.go:320", after := #[{ on := 1, ground := Ground.data }, { on := 2, ground := Ground.data }, { on := 0, ground := Ground.phase }, { on := 1, ground := Ground.phase }, { on := 2, ground := Ground.phase }, { on := 3, ground := Ground.phase }, { on := 4, ground := Ground.phase }, { on := 5, ground := Ground.phase }, { on := 6, ground := Ground.phase }, { on := 7, ground := Ground.phase }, { on := 8, ground := Ground.phase }, { on := 9, ground := Ground.phase }, { on := 10, ground := Ground.phase }, { on := 11, ground := Ground.phase }, { on := 12, ground := Ground.phase }], guard := none } : Oper)) (v := ?_) rfl (by kernel_rfl) (by kernel_rfl) (by kernel_rfl) (fun _ _ _ h => h) (Or.inl ⟨by rfl, ?hy31_13⟩) hHeld ?_
                        case hy31_13 => (intro W hSw; (try dsimp only at hSw); go_simp; (try with_reducible rfl))
                        try simp only [Act.put, List.setIfInBounds_toArray, List.set_cons_zero, List.set_cons_succ]
                        refine wpAnyH_take (i := 14) (oi := ({ dst := some 154, op := Op.fieldAddr 43 (Operand.tmp 153) 6, type := 0, pos := "ref.go:320", after := #[{ on := 13, ground := Ground.data }, { on := 0, ground := Ground.phase }, { on := 1, ground := Ground.phase }, { on := 2, ground := Ground.phase }, { on := 3, ground := Ground.phase }, { on := 4, ground := Ground.phase }, { on := 5, ground := Ground.phase }, { on := 6, ground := Ground.phase }, { on := 7, ground := Ground.phase }, { on := 8, ground := Ground.phase }, { on := 9, ground := Ground.phase }, { on := 10, ground := Ground.phase }, { on := 11, ground := Ground.phase }, { on := 12, ground := Ground.phase }], guard := none } : Oper)) (v := ?_) rfl (by kernel_rfl) (by kernel_rfl) (by kernel_rfl) (fun _ _ _ h => h) (Or.inl ⟨by rfl, ?hy31_14⟩) hHeld ?_
                        case hy31_14 => (intro W hSw; (try dsimp only at hSw); go_simp; (try with_reducible rfl))
                        try simp only [Act.put, List.setIfInBounds_toArray, List.set_cons_zero, List.set_cons_succ]
                        refine wpAnyH_ready (rs := [15]) (by kernel_rfl) (by simp) ?_
                        refine AllReadyH.cons (o := ({ dst := none, op := Op.store 39 (Operand.tmp 154) (Operand.tmp 152), type := 0, pos := "ref.go:320", after := #[{ on := 14, ground := Ground.data }, { on := 12, ground := Ground.data }, { on := 12, ground := Ground.chain }, { on := 0, ground := Ground.phase }, { on := 1, ground := Ground.phase }, { on := 2, ground := Ground.phase }, { on := 3, ground := Ground.phase }, { on := 4, ground := Ground.phase }, { on := 5, ground := Ground.phase }, { on := 6, ground := Ground.phase }, { on := 7, ground := Ground.phase }, { on := 8, ground := Ground.phase }, { on := 9, ground := Ground.phase }, { on := 10, ground := Ground.phase }, { on := 11, ground := Ground.phase }, { on := 12, ground := Ground.phase }], guard := none } : Oper)) rfl (fun K hK => ?_) AllReadyH.nil
                        go_simp
                        refine hK.out _ _ (sl_mk HX3.out.blk (heap_setCell HY4.out hgy _) HST.out) (fun hHeld' => ?_)
                        clear hK K hHeld
                        have hHeld := hHeld'
                        clear hHeld'
                        try simp only [Act.put, List.setIfInBounds_toArray, List.set_cons_zero, List.set_cons_succ]
                        refine wpAnyH_done (by kernel_rfl) ?_ _
                        clear p0 p1 pf0 pf1 c15 c16 c17 k0 hi0 hz0 hz1 hz2 HX2 HO HLA HSA HS3 HS4 HY4 hpl hyl3 hrl3 hB hgl hg0 hgp hng hq6 hgy hHeld k6 z6
                        go_wp2
                        go_roundg (N - (k + 1))
                        case measure => have := HKQ.out; omega
                        case rel => exact ⟨k + 1, { S with flws := es0.map FE.f ++ [addStep s0 f] }, vt, _, va, vb, es0 ++ [_], by omega, by omega, by go_num, by show Value.int .i64 0 = Value.int .i64 ((S.win : Nat) : Int); rw [HW.out]; rfl, by rw [hadB_step HFL.out, HHB.out], rfl, rfl, Lib.hid (HNX.out HPUT.out (by rw [HAS.out]; exact HX3.out))⟩
                    · skip
                      have i2 : (es0.length : Int) < (es0.length : Int) + 1 := by omega
                      have hb0 : hb = true := by rw [← HHB.out]; unfold hadB; rw [hfl, lastKind_snoc]; simp [h0]
                      subst hb0
                      have HAS : Hid (addStep s0 f = { f with post := f.post ++ [s0] }) := Lib.hid (by unfold addStep; rw [if_neg h0])
                      have hq6 := hcell 11 _ rfl
                      simp only at hq6
                      have hrow := (HM.out.rp.qx.steps _ (List.mem_append_right _ (List.mem_singleton.2 rfl))).post
                      simp only at hrow
                      have hb2 : Below w3.heap.size w3 ((w3.alloc (.cells #[.int .i64 s0.kind, sv s0.text, .int .i64 s0.n] 50)).drew) := ((Below.refl _ _).alloc (Nat.le_refl _) _).drew
                      have HO := Lib.hid (ownsRow_below hrow hb2)
                      have HX2 := Lib.hid (HM.out.rp.qx.grow hb2)
                      have HLA := Lib.hid ((hb2.block y hyl3).trans HM.out.ln)
                      have hSA := sl_mk HX2.out.blk HLA.out HST.out
                      have hS3 := sl_mk HM.out.rp.qx.blk HM.out.ln HST.out
                      have HSA := Lib.hid hSA
                      have HS3 := Lib.hid hS3
                      have hng : ¬ g' = w3.heap.size := by omega
                      have hlf := (HM.out.rp.sz.steps f (by rw [hfl]; exact List.mem_append_right _ (List.mem_singleton.2 rfl))).2.1
                      have HFL := Lib.hid hfl
                      clear hrow hb2 hcell hfr hSA hS3 h0 hfl
                      go_upto_region 30 with fail
                      refine wp_region_held_drew (S := (fun X => X.cell? ⟨p, 1, none⟩ = some (.slice (some ⟨g', 0, none⟩) (es0.length + 1) fc) ∧ X.cell? ⟨y, 15, none⟩ = some (.int .i64 s0.kind) ∧ X.cell? ⟨y, 16, none⟩ = some (sv s0.text) ∧ X.cell? ⟨y, 17, none⟩ = some (.int .i64 s0.n))) (by kernel_rfl) (by simpa using HS3.out) (fun hHeld => ?_)
                      refine wpAnyH_take (i := 0) (oi := ({ dst := some 125, op := Op.fieldAddr 25 (Operand.tmp 5) 1, type := 0, pos := "ref.go:318", after := #[], guard := none } : Oper)) (v := ?_) rfl (by kernel_rfl) (by kernel_rfl) (by kernel_rfl) (fun _ _ _ h => h) (Or.inl ⟨by rfl, ?hy30_1⟩) hHeld ?_
                      case hy30_1 => (intro W hSw; (try dsimp only at hSw); go_simp; (try with_reducible rfl))
                      try simp only [Act.put, List.setIfInBounds_toArray, List.set_cons_zero, List.set_cons_succ]
                      refine wpAnyH_take (i := 1) (oi := ({ dst := some 126, op := Op.load 23 (Operand.tmp 125), type := 23, pos := "ref.go:318", after := #[{ on := 0, ground := Ground.data }], guard := none } : Oper)) (v := ?_) rfl (by kernel_rfl) (by kernel_rfl) (by kernel_rfl) (fun _ _ _ h => h) (Or.inl ⟨by rfl, ?hy30_2⟩) hHeld ?_
                      case hy30_2 => (intro W hSw; (try dsimp only at hSw); go_simp; (try with_reducible rfl))
                      try simp only [Act.put, List.setIfInBounds_toArray, List.set_cons_zero, List.set_cons_succ]
                      refine wpAnyH_take (i := 2) (oi := ({ dst := some 127, op := Op.move (Operand.tmp 14), type := 3, pos := "ref.go:318", after := #[], guard := none } : Oper)) (v := ?_) rfl (by kernel_rfl) (by kernel_rfl) (by kernel_rfl) (fun _ _ _ h => h) (Or.inl ⟨by rfl, ?hy30_3⟩) hHeld ?_
                      case hy30_3 => (intro W hSw; (try dsimp only at hSw); go_simp; (try with_reducible rfl))
                      try simp only [Act.put, List.setIfInBounds_toArray, List.set_cons_zero, List.set_cons_succ]
                      refine wpAnyH_take (i := 3) (oi := ({ dst := some 128, op := Op.fieldAddr 25 (Operand.tmp 5) 1, type := 0, pos := "ref.go:318", after := #[], guard := none } : Oper)) (v := ?_) rfl (by kernel_rfl) (by kernel_rfl) (by kernel_rfl) (fun _ _ _ h => h) (Or.inl ⟨by rfl, ?hy30_4⟩) hHeld ?_
                      case hy30_4 => (intro W hSw; (try dsimp only at hSw); go_simp; (try with_reducible rfl))
                      try simp only [Act.put, List.setIfInBounds_toArray, List.set_cons_zero, List.set_cons_succ]
                      refine wpAnyH_take (i := 4) (oi := ({ dst := some 129, op := Op.load 23 (Operand.tmp 128), type := 23, pos := "ref.go:318", after := #[{ on := 3, ground := Ground.data }], guard := none } : Oper)) (v := ?_) rfl (by kernel_rfl) (by kernel_rfl) (by kernel_rfl) (fun _ _ _ h => h) (Or.inl ⟨by rfl, ?hy30_5⟩) hHeld ?_
                      case hy30_5 => (intro W hSw; (try dsimp only at hSw); go_simp; (try with_reducible rfl))
                      try simp only [Act.put, List.setIfInBounds_toArray, List.set_cons_zero, List.set_cons_succ]
                      refine wpAnyH_take (i := 5) (oi := ({ dst := some 130, op := Op.move (Operand.tmp 14), type := 3, pos := "ref.go:318", after := #[], guard := none } : Oper)) (v := ?_) rfl (by kernel_rfl) (by kernel_rfl) (by kernel_rfl) (fun _ _ _ h => h) (Or.inl ⟨by rfl, ?hy30_6⟩) hHeld ?_
                      case hy30_6 => (intro W hSw; (try dsimp only at hSw); go_simp; (try with_reducible rfl))
                      try simp only [Act.put, List.setIfInBounds_toArray, List.set_cons_zero, List.set_cons_succ]
                      refine wpAnyH_take (i := 6) (oi := ({ dst := some 131, op := Op.indexAddr 23 (Operand.tmp 129) (Operand.tmp 130), type := 0, pos := "ref.go:318", after := #[{ on := 4, ground := Ground.data }, { on := 5, ground := Ground.data }], guard := none } : Oper)) (v := ?_) rfl (by kernel_rfl) (by kernel_rfl) (by kernel_rfl) (fun _ _ _ h => h) (Or.inl ⟨by rfl, ?hy30_7⟩) hHeld ?_
                      case hy30_7 => (intro W hSw; (try dsimp only at hSw); go_simp; (try with_reducible rfl))
                      try simp only [Act.put, List.setIfInBounds_toArray, List.set_cons_zero, List.set_cons_succ]
                      refine wpAnyH_take (i := 7) (oi := ({ dst := some 132, op := Op.fieldAddr 43 (Operand.tmp 131) 9, type := 0, pos := "ref.go:318", after := #[{ on := 6, ground := Ground.data }], guard := none } : Oper)) (v := ?_) rfl (by kernel_rfl) (by kernel_rfl) (by kernel_rfl) (fun _ _ _ h => h) (Or.inl ⟨by rfl, ?hy30_8⟩) hHeld ?_
                      case hy30_8 => (intro W hSw; (try dsimp only at hSw); go_simp; (try with_reducible rfl))
                      try simp only [Act.put, List.setIfInBounds_toArray, List.set_cons_zero, List.set_cons_succ]
                      refine wpAnyH_take (i := 9) (oi := ({ dst := some 134, op := Op.fieldAddr 65 (Operand.tmp 13) 3, type := 0, pos := "ref.go:318", after := #[], guard := none } : Oper)) (v := ?_) rfl (by kernel_rfl) (by kernel_rfl) (by kernel_rfl) (fun _ _ _ h => h) (Or.inl ⟨by rfl, ?hy30_9⟩) hHeld ?_
                      case hy30_9 => (intro W hSw; (try dsimp only at hSw); go_simp; (try with_reducible rfl))
                      try simp only [Act.put, List.setIfInBounds_toArray, List.set_cons_zero, List.set_cons_succ]
                      refine wpAnyH_take (i := 10) (oi := ({ dst := some 135, op := Op.load 50 (Operand.tmp 134), type := 50, pos := "ref.go:318", after := #[{ on := 9, ground := Ground.data }], guard := none } : Oper)) (v := ?_) rfl (by kernel_rfl) (by kernel_rfl) (by kernel_rfl) (fun _ _ _ h => h) (Or.inl ⟨by rfl, ?hy30_10⟩) hHeld ?_
                      case hy30_10 => (intro W hSw; (try dsimp only at hSw); go_simp; (try with_reducible rfl))
                      try simp only [Act.put, List.setIfInBounds_toArray, List.set_cons_zero, List.set_cons_succ]
                      refine wpAnyH_ready (rs := [8, 11]) (by kernel_rfl) (by simp) ?_
                      refine (AllReadyH.cons (o := ({ dst := some 133, op := Op.load 39 (Operand.tmp 132), type := 39, pos := "ref.go:318", after := #[{ on := 7, ground := Ground.data }], guard := none } : Oper)) rfl (fun K hK => ?_) (AllReadyH.cons (o := ({ dst := some 136, op := Op.buildSlice 39 1 #[(0, Operand.tmp 135)], type := 39, pos := "ref.go:318", after := #[{ on := 10, ground := Ground.data }], guard := none } : Oper)) rfl (fun K hK => ?_) AllReadyH.nil))
                      · skip
                        go_simp
                        refine hK.out _ _ hHeld (fun hHeld' => ?_)
                        clear hK K hHeld
                        have hHeld := hHeld'
                        clear hHeld'
                        try simp only [Act.put, List.setIfInBounds_toArray, List.set_cons_zero, List.set_cons_succ]
                        refine wpAnyH_ready (rs := [11]) (by kernel_rfl) (by simp) ?_
                        refine AllReadyH.cons (o := ({ dst := some 136, op := Op.buildSlice 39 1 #[(0, Operand.tmp 135)], type := 39, pos := "ref.go:318", after := #[{ on := 10, ground := Ground.data }], guard := none } : Oper)) rfl (fun K hK => ?_) AllReadyH.nil
                        go_simp
                        refine hK.out _ _ HSA.out (fun hHeld' => ?_)
                        clear hK K hHeld
                        have hHeld := hHeld'
                        clear hHeld'
                        try simp only [Act.put, List.setIfInBounds_toArray, List.set_cons_zero, List.set_cons_succ]
                        refine wpAnyH_ready (rs := [12]) (by kernel_rfl) (by simp) ?_
                        refine AllReadyH.cons (o := ({ dst := some 137, op := Op.call { callee := Callee.builtin Builtin.append, args := #[Operand.tmp 133, Operand.tmp 136], argTypes := #[39, 39] }, type := 39, pos := "ref.go:318", after := #[{ on := 8, ground := Ground.data }, { on := 11, ground := Ground.data }], guard := none } : Oper)) rfl (fun K hK => ?_) AllReadyH.nil
                        refine step_append_lies _ (by rfl) (.tmp 133) (.tmp 136) 39 (by rfl) W0.heap.size 50 i4 (.agg #[.int .i64 0, .string ⟨#[]⟩, .int .i64 0]) 3 32 Tryz.underlying39 hi0 hz0 hz1 hz2 rfl (by decide) v2 f.post.length (stpCs f.post) (by rfl) HO.out ⟨w3.heap.size, 0, none⟩ 1 1 (stpC s0) (by rfl) rfl (news_stp s0 rfl (by simp)) (one_stp s0) (by decide) (by unfold maxLen; omega) (by omega) (by simp; omega) _ rfl ?_
                        intro g2 cap2 w4 hown2 hgrow2 hat2 hlt2
                        obtain ⟨k6, z6, hx3⟩ := QX.pushPost (s := s0) HX2.out hgrow2 hown2 (by rfl) hat2
                        have hp4 := (hgrow2.block p HX2.out.lt (fun e => row_ne HO.out HX2.out.blk (by decide) e.symm)).trans HX2.out.blk
                        have hy4 := (hgrow2.block y (lt_of_heap HLA.out) (fun e => row_ne HO.out HLA.out (by decide) e.symm)).trans HLA.out
                        have HX3 := Lib.hid hx3
                        have HY4 := Lib.hid hy4
                        have HS4 := Lib.hid (sl_mk hp4 hy4 HST.out)
                        clear hown2 hgrow2 hat2 hlt2 hx3 hp4 hy4
                        refine hK.out _ _ HS4.out (fun hHeld' => ?_)
                        clear hK K hHeld
                        have hHeld := hHeld'
                        clear hHeld'
                        try simp only [Act.put, List.setIfInBounds_toArray, List.set_cons_zero, List.set_cons_succ]
                        refine wpAnyH_take (i := 13) (oi := ({ dst := some 138, op := Op.indexAddr 23 (Operand.tmp 126) (Operand.tmp 127), type := 0, pos := "ref.go:318", after := #[{ on := 1, ground := Ground.data }, { on := 2, ground := Ground.data }, { on := 0, ground := Ground.phase }, { on := 1, ground := Ground.phase }, { on := 2, ground := Ground.phase }, { on := 3, ground := Ground.phase }, { on := 4, ground := Ground.phase }, { on := 5, ground := Ground.phase }, { on := 6, ground := Ground.phase }, { on := 7, ground := Ground.phase }, { on := 8, ground := Ground.phase }, { on := 9, ground := Ground.phase }, { on := 10, ground := Ground.phase }, { on := 11, ground := Ground.phase }, { on := 12, ground := Ground.phase }], guard := none } : Oper)) (v := ?_) rfl (by kernel_rfl) (by kernel_rfl) (by kernel_rfl) (fun _ _ _ h => h) (Or.inl ⟨by rfl, ?hy30_11⟩) hHeld ?_
                        case hy30_11 => (intro W hSw; (try dsimp only at hSw); go_simp; (try with_reducible rfl))
                        try simp only [Act.put, List.setIfInBounds_toArray, List.set_cons_zero, List.set_cons_succ]
                        refine wpAnyH_take (i := 14) (oi := ({ dst := some 139, op := Op.fieldAddr 43 (Operand.tmp 138) 9, type := 0, pos := "ref.go:318", after := #[{ on := 13, ground := Ground.data }, { on := 0, ground := Ground.phase }, { on := 1, ground := Ground.phase }, { on := 2, ground := Ground.phase }, { on := 3, ground := Ground.phase }, { on := 4, ground := Ground.phase }, { on := 5, ground := Ground.phase }, { on := 6, ground := Ground.phase }, { on := 7, ground := Ground.phase }, { on := 8, ground := Ground.phase }, { on := 9, ground := Ground.phase }, { on := 10, ground := Ground.phase }, { on := 11, ground := Ground.phase }, { on := 12, ground := Ground.phase }], guard := none } : Oper)) (v := ?_) rfl (by kernel_rfl) (by kernel_rfl) (by kernel_rfl) (fun _ _ _ h => h) (Or.inl ⟨by rfl, ?hy30_12⟩) hHeld ?_
                        case hy30_12 => (intro W hSw; (try dsimp only at hSw); go_simp; (try with_reducible rfl))
                        try simp only [Act.put, List.setIfInBounds_toArray, List.set_cons_zero, List.set_cons_succ]
                        refine wpAnyH_ready (rs := [15]) (by kernel_rfl) (by simp) ?_
                        refine AllReadyH.cons (o := ({ dst := none, op := Op.store 39 (Operand.tmp 139) (Operand.tmp 137), type := 0, pos := "ref.go:318", after := #[{ on := 14, ground := Ground.data }, { on := 12, ground := Ground.data }, { on := 12, ground := Ground.chain }, { on := 0, ground := Ground.phase }, { on := 1, ground := Ground.phase }, { on := 2, ground := Ground.phase }, { on := 3, ground := Ground.phase }, { on := 4, ground := Ground.phase }, { on := 5, ground := Ground.phase }, { on := 6, ground := Ground.phase }, { on := 7, ground := Ground.phase }, { on := 8, ground := Ground.phase }, { on := 9, ground := Ground.phase }, { on := 10, ground := Ground.phase }, { on := 11, ground := Ground.phase }, { on := 12, ground := Ground.phase }], guard := none } : Oper)) rfl (fun K hK => ?_) AllReadyH.nil
                        go_simp
                        refine hK.out _ _ (sl_mk HX3.out.blk (heap_setCell HY4.out hgy _) HST.out) (fun hHeld' => ?_)
                        clear hK K hHeld
                        have hHeld := hHeld'
                        clear hHeld'
                        try simp only [Act.put, List.setIfInBounds_toArray, List.set_cons_zero, List.set_cons_succ]
                        refine wpAnyH_done (by kernel_rfl) ?_ _
                        clear p0 p1 pf0 pf1 c15 c16 c17 k0 hi0 hz0 hz1 hz2 HX2 HO HLA HSA HS3 HS4 HY4 hpl hyl3 hrl3 hB hgl hg0 hgp hng hq6 hgy hHeld k6 z6
                        go_wp2
                        go_roundg (N - (k + 1))
                        case measure => have := HKQ.out; omega
                        case rel => exact ⟨k + 1, { S with flws := es0.map FE.f ++ [addStep s0 f] }, vt, _, va, vb, es0 ++ [_], by omega, by omega, by go_num, by show Value.int .i64 0 = Value.int .i64 ((S.win : Nat) : Int); rw [HW.out]; rfl, by rw [hadB_step HFL.out, HHB.out], rfl, rfl, Lib.hid (HNX.out HPUT.out (by rw [HAS.out]; exact HX3.out))⟩
                      · skip
                        go_simp
                        refine hK.out _ _ HSA.out (fun hHeld' => ?_)
                        clear hK K hHeld
                        have hHeld := hHeld'
                        clear hHeld'
                        try simp only [Act.put, List.setIfInBounds_toArray, List.set_cons_zero, List.set_cons_succ]
                        refine wpAnyH_ready (rs := [8]) (by kernel_rfl) (by simp) ?_
                        refine AllReadyH.cons (o := ({ dst := some 133, op := Op.load 39 (Operand.tmp 132), type := 39, pos := "ref.go:318", after := #[{ on := 7, ground := Ground.data }], guard := none } : Oper)) rfl (fun K hK => ?_) AllReadyH.nil
                        go_simp
                        refine hK.out _ _ hHeld (fun hHeld' => ?_)
                        clear hK K hHeld
                        have hHeld := hHeld'
                        clear hHeld'
                        try simp only [Act.put, List.setIfInBounds_toArray, List.set_cons_zero, List.set_cons_succ]
                        refine wpAnyH_ready (rs := [12]) (by kernel_rfl) (by simp) ?_
                        refine AllReadyH.cons (o := ({ dst := some 137, op := Op.call { callee := Callee.builtin Builtin.append, args := #[Operand.tmp 133, Operand.tmp 136], argTypes := #[39, 39] }, type := 39, pos := "ref.go:318", after := #[{ on := 8, ground := Ground.data }, { on := 11, ground := Ground.data }], guard := none } : Oper)) rfl (fun K hK => ?_) AllReadyH.nil
                        refine step_append_lies _ (by rfl) (.tmp 133) (.tmp 136) 39 (by rfl) W0.heap.size 50 i4 (.agg #[.int .i64 0, .string ⟨#[]⟩, .int .i64 0]) 3 32 Tryz.underlying39 hi0 hz0 hz1 hz2 rfl (by decide) v2 f.post.length (stpCs f.post) (by rfl) HO.out ⟨w3.heap.size, 0, none⟩ 1 1 (stpC s0) (by rfl) rfl (news_stp s0 rfl (by simp)) (one_stp s0) (by decide) (by unfold maxLen; omega) (by omega) (by simp; omega) _ rfl ?_
                        intro g2 cap2 w4 hown2 hgrow2 hat2 hlt2
                        obtain ⟨k6, z6, hx3⟩ := QX.pushPost (s := s0) HX2.out hgrow2 hown2 (by rfl) hat2
                        have hp4 := (hgrow2.block p HX2.out.lt (fun e => row_ne HO.out HX2.out.blk (by decide) e.symm)).trans HX2.out.blk
                        have hy4 := (hgrow2.block y (lt_of_heap HLA.out) (fun e => row_ne HO.out HLA.out (by decide) e.symm)).trans HLA.out
                        have HX3 := Lib.hid hx3
                        have HY4 := Lib.hid hy4
                        have HS4 := Lib.hid (sl_mk hp4 hy4 HST.out)
                        clear hown2 hgrow2 hat2 hlt2 hx3 hp4 hy4
                        refine hK.out _ _ HS4.out (fun hHeld' => ?_)
                        clear hK K hHeld
                        have hHeld := hHeld'
                        clear hHeld'
                        try simp only [Act.put, List.setIfInBounds_toArray, List.set_cons_zero, List.set_cons_succ]
                        refine wpAnyH_take (i := 13) (oi := ({ dst := some 138, op := Op.indexAddr 23 (Operand.tmp 126) (Operand.tmp 127), type := 0, pos := "ref.go:318", after := #[{ on := 1, ground := Ground.data }, { on := 2, ground := Ground.data }, { on := 0, ground := Ground.phase }, { on := 1, ground := Ground.phase }, { on := 2, ground := Ground.phase }, { on := 3, ground := Ground.phase }, { on := 4, ground := Ground.phase }, { on := 5, ground := Ground.phase }, { on := 6, ground := Ground.phase }, { on := 7, ground := Ground.phase }, { on := 8, ground := Ground.phase }, { on := 9, ground := Ground.phase }, { on := 10, ground := Ground.phase }, { on := 11, ground := Ground.phase }, { on := 12, ground := Ground.phase }], guard := none } : Oper)) (v := ?_) rfl (by kernel_rfl) (by kernel_rfl) (by kernel_rfl) (fun _ _ _ h => h) (Or.inl ⟨by rfl, ?hy30_13⟩) hHeld ?_
                        case hy30_13 => (intro W hSw; (try dsimp only at hSw); go_simp; (try with_reducible rfl))
                        try simp only [Act.put, List.setIfInBounds_toArray, List.set_cons_zero, List.set_cons_succ]
                        refine wpAnyH_take (i := 14) (oi := ({ dst := some 139, op := Op.fieldAddr 43 (Operand.tmp 138) 9, type := 0, pos := "ref.go:318", after := #[{ on := 13, ground := Ground.data }, { on := 0, ground := Ground.phase }, { on := 1, ground := Ground.phase }, { on := 2, ground := Ground.phase }, { on := 3, ground := Ground.phase }, { on := 4, ground := Ground.phase }, { on := 5, ground := Ground.phase }, { on := 6, ground := Ground.phase }, { on := 7, ground := Ground.phase }, { on := 8, ground := Ground.phase }, { on := 9, ground := Ground.phase }, { on := 10, ground := Ground.phase }, { on := 11, ground := Ground.phase }, { on := 12, ground := Ground.phase }], guard := none } : Oper)) (v := ?_) rfl (by kernel_rfl) (by kernel_rfl) (by kernel_rfl) (fun _ _ _ h => h) (Or.inl ⟨by rfl, ?hy30_14⟩) hHeld ?_
                        case hy30_14 => (intro W hSw; (try dsimp only at hSw); go_simp; (try with_reducible rfl))
                        try simp only [Act.put, List.setIfInBounds_toArray, List.set_cons_zero, List.set_cons_succ]
                        refine wpAnyH_ready (rs := [15]) (by kernel_rfl) (by simp) ?_
                        refine AllReadyH.cons (o := ({ dst := none, op := Op.store 39 (Operand.tmp 139) (Operand.tmp 137), type := 0, pos := "ref.go:318", after := #[{ on := 14, ground := Ground.data }, { on := 12, ground := Ground.data }, { on := 12, ground := Ground.chain }, { on := 0, ground := Ground.phase }, { on := 1, ground := Ground.phase }, { on := 2, ground := Ground.phase }, { on := 3, ground := Ground.phase }, { on := 4, ground := Ground.phase }, { on := 5, ground := Ground.phase }, { on := 6, ground := Ground.phase }, { on := 7, ground := Ground.phase }, { on := 8, ground := Ground.phase }, { on := 9, ground := Ground.phase }, { on := 10, ground := Ground.phase }, { on := 11, ground := Ground.phase }, { on := 12, ground := Ground.phase }], guard := none } : Oper)) rfl (fun K hK => ?_) AllReadyH.nil
                        go_simp
                        refine hK.out _ _ (sl_mk HX3.out.blk (heap_setCell HY4.out hgy _) HST.out) (fun hHeld' => ?_)
                        clear hK K hHeld
                        have hHeld := hHeld'
                        clear hHeld'
                        try simp only [Act.put, List.setIfInBounds_toArray, List.set_cons_zero, List.set_cons_succ]
                        refine wpAnyH_done (by kernel_rfl) ?_ _
                        clear p0 p1 pf0 pf1 c15 c16 c17 k0 hi0 hz0 hz1 hz2 HX2 HO HLA HSA HS3 HS4 HY4 hpl hyl3 hrl3 hB hgl hg0 hgp hng hq6 hgy hHeld k6 z6
                        go_wp2
                        go_roundg (N - (k + 1))
                        case measure => have := HKQ.out; omega
                        case rel => exact ⟨k + 1, { S with flws := es0.map FE.f ++ [addStep s0 f] }, vt, _, va, vb, es0 ++ [_], by omega, by omega, by go_num, by show Value.int .i64 0 = Value.int .i64 ((S.win : Nat) : Int); rw [HW.out]; rfl, by rw [hadB_step HFL.out, HHB.out], rfl, rfl, Lib.hid (HNX.out HPUT.out (by rw [HAS.out]; exact HX3.out))⟩
                · as_aux_lemma =>
                    obtain ⟨hw, hnel, hlk⟩ : S.win = 0 ∧ S.flws ≠ [] ∧ lastKind S.flws = 0 := by simpa [mayK] using hok
                    obtain ⟨hput, hwo⟩ := put_window_eq (S := S) (n := k + 1) HSAY.out (kind_window HFORM.out HKD.out.symm)
                    obtain ⟨es0, f, v1, v2, g', cap', hes, hv, hfl⟩ := HM.out.rp.qx.lastF hnel
                    subst hes
                    injection hv with e1 e2 e3
                    subst e1 e2 e3
                    have hm2 : m = (es0.length : Int) := by have := HMM.out; omega
                    subst hm2
                    have i0 : (0 : Int) ≤ (es0.length : Int) := by omega
                    have i1 : (es0.length : Int) < ((es0.length + 1 : Nat) : Int) := by omega
                    obtain ⟨hgl, hg0, hgp, hcell, hfr⟩ := HM.out.rp.qx.lastCells
                    have hgy : g' ≠ y := fun e => row_ne HM.out.rp.qx.rowF' HM.out.ln (by decide) (by rw [e]; rfl)
                    obtain ⟨⟨rk, rs, rl⟩, hr⟩ : ∃ q, x.win = q := ⟨_, rfl⟩
                    have c18 := ln_cell HM.out.ln 18 (v := .int .i64 rk) (by show some (Value.int .i64 x.win.kind) = _; rw [hr])
                    have c19 := ln_cell HM.out.ln 19 (v := .int .i64 rs) (by show some (Value.int .i64 x.win.size) = _; rw [hr])
                    have c20 := ln_cell HM.out.ln 20 (v := .int .i64 rl) (by show some (Value.int .i64 x.win.slide) = _; rw [hr])
                    rw [hr] at hput hwo
                    rw [hfl, onLast_snoc] at hput
                    have HPUT := Lib.hid hput
                    have HWO := Lib.hid hwo
                    have k7 := hcell 7 _ rfl
                    have k8 := hcell 8 _ rfl
                    have k9 := hcell 9 _ rfl
                    have z7 := hfr (es0.length * 12 + 7)
                    have z8 := hfr (es0.length * 12 + 8)
                    have z9 := hfr (es0.length * 12 + 9)
                    simp only at k7 k8 k9
                    have e1 := HM.out.rp.qx.setLast (f' := { f with win := ⟨rk, f.win.size, f.win.slide⟩ }) (fs := es0.map FE.f ++ [{ f with win := ⟨rk, f.win.size, f.win.slide⟩ }]) 7 (.int .i64 rk) rfl rfl rfl rfl
                    have e2 := e1.setLast (f' := { f with win := ⟨rk, rs, f.win.slide⟩ }) (fs := es0.map FE.f ++ [{ f with win := ⟨rk, rs, f.win.slide⟩ }]) 8 (.int .i64 rs) rfl rfl rfl rfl
                    have e3 := e2.setLast (f' := { f with win := ⟨rk, rs, rl⟩ }) (fs := es0.map FE.f ++ [{ f with win := ⟨rk, rs, rl⟩ }]) 9 (.int .i64 rl) rfl rfl rfl rfl
                    have HE := Lib.hid (e3.setWin (k + 1))
                    clear hput hwo hw hok hnel hlk hr hcell hfr e1 e2 e3 hfl
                    go_wp2
                    go_roundg (N - (k + 1))
                    case measure => have := HKQ.out; omega
                    case rel => exact ⟨k + 1, { S with flws := es0.map FE.f ++ [{ f with win := ⟨rk, rs, rl⟩ }], win := k + 1 }, vt, _, va, vb, es0 ++ [⟨{ f with win := ⟨rk, rs, rl⟩ }, v1, v2⟩], by omega, by omega, by go_num, by go_num, by rw [HWO.out, hadB_win], rfl, rfl, Lib.hid (HNX.out HPUT.out HE.out)⟩
                · as_aux_lemma =>
                    have hw : S.win ≠ 0 := by simpa [mayK] using hok
                    have hnel := HSW.out hw
                    have hput := put_agg_eq (S := S) (n := k + 1) HSAY.out (kind_agg HFORM.out HKD.out.symm)
                    obtain ⟨es0, f, v1, v2, g', cap', hes, hv, hfl⟩ := HM.out.rp.qx.lastF hnel
                    subst hes
                    injection hv with e1 e2 e3
                    subst e1 e2 e3
                    have hm2 : m = (es0.length : Int) := by have := HMM.out; omega
                    subst hm2
                    have i0 : (0 : Int) ≤ (es0.length : Int) := by omega
                    have i1 : (es0.length : Int) < ((es0.length + 1 : Nat) : Int) := by omega
                    obtain ⟨hgl, hg0, hgp, hcell, hfr⟩ := HM.out.rp.qx.lastCells
                    have hgy : g' ≠ y := fun e => row_ne HM.out.rp.qx.rowF' HM.out.ln (by decide) (by rw [e]; rfl)
                    have c21 := ln_cell HM.out.ln 21 (v := .int .i64 x.agg) rfl
                    obtain ⟨ag, hag⟩ : ∃ q, x.agg = q := ⟨_, rfl⟩
                    rw [hag] at hput c21
                    rw [hfl, onLast_snoc] at hput
                    have HPUT := Lib.hid hput
                    have k10 := hcell 10 _ rfl
                    have z10 := hfr (es0.length * 12 + 10)
                    simp only at k10
                    have HE := Lib.hid ((HM.out.rp.qx.setLast (f' := { f with agg := ag }) (fs := es0.map FE.f ++ [{ f with agg := ag }]) 10 (.int .i64 ag) rfl rfl rfl rfl).setWin 0)
                    have HFL := Lib.hid hfl
                    clear hput hw hok hnel hag hcell hfr hfl
                    go_wp2
                    go_roundg (N - (k + 1))
                    case measure => have := HKQ.out; omega
                    case rel => exact ⟨k + 1, { S with flws := es0.map FE.f ++ [{ f with agg := ag }], win := 0 }, vt, _, va, vb, es0 ++ [⟨{ f with agg := ag }, v1, v2⟩], by omega, by omega, by go_num, rfl, by rw [hadB_agg HFL.out, HHB.out], rfl, rfl, Lib.hid (HNX.out HPUT.out HE.out)⟩
        · have e5 : S.errOf t = 50 := by rw [HERR.out, if_pos hform]
          have hbad := bad_is HP.out HRD.out e5 (by decide)
          subst hbad
          have hk0 : K = 0 := by rw [← hK, hx0]; rfl
          subst hk0
          clear hK hx0 hform e5
          go_wp2
          refine bodyPost_ret (res_three rfl rfl rfl rfl (ret_set HM.out.ret _ _) Tryz.underlying25 info25) rfl ⟨_, rfl, PlnAt.empty _, ret_below HBW.out hrw _ _⟩
    · have hkn : k = N := by omega
      have hfin : S.finish = R := by
        have h1 := hrp.out.run
        rw [List.drop_eq_nil_of_le (by have := HN.out; omega)] at h1
        have h2 := HP.out
        rw [← h1] at h2
        exact h2
      have HBW : Hid (Below w.heap.size w wr) := Lib.hid (HB0.out.trans (hrp.out.qx.below.mono HB0.out.size))
      have hrw : w.heap.size ≤ r := by have := HRW.out; omega
      unfold PSt.finish at hfin
      by_cases hw : S.win = 0
      · rw [if_neg (by simp [hw])] at hfin
        obtain ⟨t1, t2, rfl⟩ := (lst_row (C := topC) hrp.out.qx.rowT (fun _ _ => rfl)).val
        obtain ⟨t3, t4, rfl⟩ := (lst_row (C := flwC) hrp.out.qx.rowF (fun _ _ => rfl)).val
        obtain ⟨⟨l, E⟩, hc⟩ : ∃ c, check ⟨S.tops, S.flws⟩ = c := ⟨_, rfl⟩
        rw [hc] at hfin
        have hcw := check_where hc
        have HC := Lib.hid (rcheck_of2 HFD (hrp.out.qx.pln hrp.out.sz) hc)
        have e0 : ¬ (0 : Int) < ((S.win : Nat) : Int) := by omega
        clear hc hw
        by_cases hE : E = 0
        · rw [if_pos hE] at hfin
          subst hfin
          have e1 := inebf hE
          clear hE hcw
          go_wp2_with (go_at_call 10; refine HC.out.mono ?_; rintro e w3 ⟨rfl, hb3⟩; obtain ⟨p0, p1, pf0, pf1⟩ := qx_cells (hrp.out.grow hb3).qx.blk; have hr3 := (hb3.block r hrl).trans HRR2.out; obtain ⟨r0, r1, rf0, rf1⟩ := qx_cells hr3; have HRP3 := Lib.hid (hrp.out.grow hb3); have HR3 := Lib.hid hr3; have HB3 := Lib.hid (HBW.out.trans (hb3.mono HBW.out.size)); clear hb3 hr3)
          refine bodyPost_ret (res_three rfl rfl rfl rfl (ret_set HR3.out _ _) Tryz.underlying25 info25) rfl ⟨_, rfl, HRP3.out.qx.pln_put HRP3.out.sz HPR.out _ _, ret_below HB3.out hrw _ _⟩
        · rw [if_neg hE] at hfin
          subst hfin
          have e1 := inebt hE
          obtain ⟨hl1, hl2, hl3⟩ := hcw
          have HLL2 := Lib.hid (And.intro hl2 hl3)
          obtain ⟨ln, hln2⟩ : ∃ ln, S.lineOf l = ln := ⟨_, rfl⟩
          have hln3 := hln2
          unfold PSt.lineOf at hln3
          by_cases h1 : 101 ≤ l
          · rw [if_pos h1] at hln3
            have h2 : l - 101 < S.flws.length := hl2 h1
            obtain ⟨g2, cap2, ev, hcell⟩ := ixs_cell hrp.out.qx.rowB (j := l - 101) (by rw [hrp.out.sz.fle]; exact h2)
            subst ev
            rw [hln3] at hcell
            have f1 : (100 : Int) < (l : Int) := by omega
            have f2 : (0 : Int) ≤ (l : Int) - 101 := by omega
            have f3 : (l : Int) - 101 < (S.fl.length : Int) := by have := hrp.out.sz.fle; omega
            have f4 : ((l : Int) - 101) = ((l - 101 : Nat) : Int) := by omega
            have hgl := World.block_lt_of_cell? wr _ hcell
            have HLN := Lib.hid hln2
            have HCL := Lib.hid hcell
            clear hln2 hl2 hl3 h1 h2 hE hcell hln3
            go_wp2_with (go_at_call 10; refine HC.out.mono ?_; rintro e w3 ⟨rfl, hb3⟩; have hr3 := (hb3.block r hrl).trans HRR2.out; obtain ⟨r0, r1, rf0, rf1⟩ := qx_cells hr3; have HR3 := Lib.hid hr3; have HB3 := Lib.hid (HBW.out.trans (hb3.mono HBW.out.size)); have c9 : w3.cell? ⟨g2, l - 101, none⟩ = some (.int .i64 (ln : Int)) := (hb3.cell (p := ⟨g2, l - 101, none⟩) hgl).trans HCL.out; clear hb3 hr3)
            refine bodyPost_ret (res_three rfl rfl rfl rfl (ret_set HR3.out _ _) Tryz.underlying25 info25) rfl ⟨_, by rw [HLN.out]; rfl, PlnAt.empty _, ret_below HB3.out hrw _ _⟩
          · rw [if_neg h1] at hln3
            by_cases h2 : 1 ≤ l
            · rw [if_pos h2] at hln3
              have h3 : l - 1 < S.tops.length := hl3 (by omega) h2
              obtain ⟨g2, cap2, ev, hcell⟩ := ixs_cell hrp.out.qx.rowA (j := l - 1) (by rw [hrp.out.sz.tle]; exact h3)
              subst ev
              rw [hln3] at hcell
              have f1 : ¬ (100 : Int) < (l : Int) := by omega
              have f0 : (0 : Int) < (l : Int) := by omega
              have f2 : (0 : Int) ≤ (l : Int) - 1 := by omega
              have f3 : (l : Int) - 1 < (S.tl.length : Int) := by have := hrp.out.sz.tle; omega
              have f4 : ((l : Int) - 1) = ((l - 1 : Nat) : Int) := by omega
              have hgl := World.block_lt_of_cell? wr _ hcell
              have HLN := Lib.hid hln2
              have HCL := Lib.hid hcell
              clear hln2 hl2 hl3 h1 h2 h3 hE hcell hln3
              go_wp2_with (go_at_call 10; refine HC.out.mono ?_; rintro e w3 ⟨rfl, hb3⟩; have hr3 := (hb3.block r hrl).trans HRR2.out; obtain ⟨r0, r1, rf0, rf1⟩ := qx_cells hr3; have HR3 := Lib.hid hr3; have HB3 := Lib.hid (HBW.out.trans (hb3.mono HBW.out.size)); have c9 : w3.cell? ⟨g2, l - 1, none⟩ = some (.int .i64 (ln : Int)) := (hb3.cell (p := ⟨g2, l - 1, none⟩) hgl).trans HCL.out; clear hb3 hr3)
              refine bodyPost_ret (res_three rfl rfl rfl rfl (ret_set HR3.out _ _) Tryz.underlying25 info25) rfl ⟨_, by rw [HLN.out]; rfl, PlnAt.empty _, ret_below HB3.out hrw _ _⟩
            · rw [if_neg h2] at hln3
              have f1 : ¬ (100 : Int) < (l : Int) := by omega
              have f2 : ¬ (0 : Int) < (l : Int) := by omega
              have HLN := Lib.hid (hln2.trans hln3.symm)
              subst hln3
              clear hln2 hl2 hl3 h1 h2 hE
              go_wp2_with (go_at_call 10; refine HC.out.mono ?_; rintro e w3 ⟨rfl, hb3⟩; have hr3 := (hb3.block r hrl).trans HRR2.out; obtain ⟨r0, r1, rf0, rf1⟩ := qx_cells hr3; have HR3 := Lib.hid hr3; have HB3 := Lib.hid (HBW.out.trans (hb3.mono HBW.out.size)); clear hb3 hr3)
              refine bodyPost_ret (res_three rfl rfl rfl rfl (ret_set HR3.out _ _) Tryz.underlying25 info25) rfl ⟨_, by rw [HLN.out]; rfl, PlnAt.empty _, ret_below HB3.out hrw _ _⟩
      · rw [if_pos hw] at hfin
        subst hfin
        have e0 : (0 : Int) < ((S.win : Nat) : Int) := by omega
        clear hw
        go_wp2
        refine bodyPost_ret (res_three rfl rfl rfl rfl (ret_set HRR2.out _ _) Tryz.underlying25 info25) rfl ⟨_, rfl, PlnAt.empty _, ret_below HBW.out hrw _ _⟩
end Go.Proofs.YtogcickcodlepaaGreatDoor.Pl
