/-
  The document's own All of journal: the records, and how many bytes they take. Conditions: the bytes lie in memory; lengths.
-/
import Derived.Test.YtkiombbdddbkfaaRefFirst
namespace Go.Proofs.Ytkiombbdddbkfaa.Jn
open Go.RowKit Go.Proofs.Ytkiombbdddbkfaa.Pk Go.Proofs.Ytkiombbdddbkfaa.Dk
set_option linter.unusedVariables false

theorem recs_step2 (w : World) {w1 w2 : World} {u v : Value} {L : List Bs} {xs : List Value} {r : Bs} {base : Nat} (ho : w1.ownsRow w.heap.size 23 1 u L.length xs) (he : Ents w1 w.heap.size L xs) (hB : Below w.heap.size w w1) (hbase : w.heap.size ≤ base)
    (h2 : w2.ownsRow base 5 1 v r.length (cells r)) (hb : Below w1.heap.size w1 w2) :
    (w2.alloc (.cells #[v] 23)).ownsRow w.heap.size 23 1 u L.length xs ∧ Ents (w2.alloc (.cells #[v] 23)) w.heap.size (L ++ [r]) (xs ++ [v]) ∧ Below w.heap.size w (w2.alloc (.cells #[v] 23)) := by
  have hB2 : Below w.heap.size w w2 := hB.trans (hb.mono hB.size)
  have hba := (Below.refl w2.heap.size w2).alloc (Nat.le_refl _) (.cells #[v] 23)
  have ho2 := own_keep ho (w' := w2) fun g hg => hb.block g (ho.lt g hg).2
  refine ⟨own_keep ho2 fun g hg => hba.block g (ho2.lt g hg).2, ?_, hB2.trans (hba.mono hB2.size)⟩
  exact ((he.below hb).snoc (own_base h2 hbase)).below hba
theorem own_one {w : World} {base : Nat} {L : List Bs} {xs : List Value} {v : Value} {r : Bs} (h : Ents w base (L ++ [r]) (xs ++ [v])) : v.oneCell' = true := by
  have hl : xs.length = L.length := by have := h.1; simp at this; exact this
  obtain ⟨u, hu, ho⟩ := h.2 L.length r (by simp)
  rw [← hl] at hu
  simp at hu
  subst hu
  obtain ⟨A, c, rfl, -⟩ := own_form ho
  rfl
/-- What All hands back. -/
def FoundAll (w : World) (l : Bs) (e : Ending) (w' : World) : Prop :=
  ∃ A c, e = .returned (.tuple #[.slice A (recs l).length c, .int .i64 (used l : Int)]) ∧ ((recs l).length ≤ c ∧ c ≤ maxLen) ∧ Recs w' (fun b => w.heap.size ≤ b ∧ b < w'.heap.size) A (recs l).length (recs l) ∧ Below w.heap.size w w'
theorem all_next {l r : Bs} {L : List Bs} {at_ : Nat} (h : recs l = L ++ recs (l.drop at_)) (hb : (bytesOf L).length = at_) (hf : first (l.drop at_) = some r) : recs l = (L ++ [r]) ++ recs (l.drop (at_ + 8 + r.length)) ∧ (bytesOf (L ++ [r])).length = at_ + 8 + r.length := by
  refine ⟨?_, by rw [bytesOf_snoc, List.length_append, frame_length, hb]; omega⟩
  rw [h, recs_some hf, List.append_assoc, List.drop_drop, Nat.add_assoc]; rfl

theorem rFirst_none {A : Option Addr} {n c : Nat} {l : Bs} {w : World} (h : Calls Try.prog 46 #[.slice A n c] w (RFirst w l)) (hf : first l = none) : Calls Try.prog 46 #[.slice A n c] w fun e w' => e = .returned (.tuple #[.slice none 0 0, .bool false]) ∧ Below w.heap.size w w' := by
  refine h.mono ?_
  rintro e w' ⟨hb, ⟨-, rfl⟩ | ⟨r, A, c, h1, -⟩⟩
  · exact ⟨rfl, hb⟩
  · rw [hf] at h1; cases h1
theorem rFirst_some {A : Option Addr} {n c q : Nat} {l r : Bs} {w : World} (h : Calls Try.prog 46 #[.slice A n c] w (RFirst w l)) (hf : first l = some r) (hq : r.length = q) : Calls Try.prog 46 #[.slice A n c] w fun e w' => ∃ A' c', e = .returned (.tuple #[.slice A' q c', .bool true]) ∧ Lies w' w.heap.size A' r ∧ Below w.heap.size w w' := by
  refine h.mono ?_
  rintro e w' ⟨hb, ⟨h1, rfl⟩ | ⟨r', A, c, h1, rfl, h2⟩⟩
  · rw [hf] at h1; cases h1
  · rw [hf] at h1; cases h1
    exact ⟨A, c, by rw [hq], h2, hb⟩

set_option maxRecDepth 20000 in
set_option maxHeartbeats 2000000 in
theorem rAll_any {ad : Addr} {n c : Nat} {l : Bs} {w : World} (hl : l.length = n) (hc : n ≤ c) (hcm : c ≤ maxLen) (hm : n ≤ 16777216) (h : Lies w w.heap.size (some ad) l) :
    Calls Try.prog 26 #[.slice (some ad) n c] w (FoundAll w l) := by
  obtain ⟨i0, hi, hz0, hz1, hz2⟩ := info_parts info23
  have hcm' := hcm
  unfold maxLen at hcm
  have HL := Lib.hid h
  have H := Lib.hid hl
  clear h hl
  go_enter Try.func26, Try.ntmps26
  go_wp2
  go_loopw [4, 5] (fun ov av wr => ∃ (t : Nat) (L : List Bs) (xs : List Value), av = .int .i64 t ∧ t ≤ n ∧ Hid (wr.ownsRow w.heap.size 23 1 ov L.length xs) ∧ Hid (Ents wr w.heap.size L xs) ∧ Hid (Below w.heap.size w wr) ∧ Hid (recs l = L ++ recs (l.drop t)) ∧ Hid ((bytesOf L).length = t)) (fun _ av _ => n - (intOf av).toNat)
  case atStart => exact ⟨0, [], [], rfl, Nat.zero_le _, World.ownsRow_nil _ _ _ _, ⟨rfl, fun i r hr => by simp at hr⟩, Below.refl _ _, rfl, rfl⟩
  case round =>
    obtain ⟨t, L, xs, rfl, ht, HO, HE, HB, HR, HT⟩ := hrel
    have hti : (t : Int) ≤ (n : Int) := by omega
    have htl : Hid ((l.drop t).length = n - t) := by show _ = _; rw [List.length_drop, H.out]
    obtain ⟨Ao, co, rfl⟩ := own_slice HO.out
    have hcut := HL.out.cut (k := t) (cap := c) (by rw [H.out]; exact hc)
    obtain ⟨At, hAt⟩ : ∃ At, At = (if c = t then some ad else (some ad).map (·.add t)) := ⟨_, rfl⟩
    rw [← hAt] at hcut
    have HF := Lib.hid (rFirst_any (c := c - t) htl.out (by omega) (by omega) (by omega) ((hcut.below HB.out).mono HB.out.size))
    clear hcut
    have hLn : L.length ≤ 16777216 := by
      have e1 := recs_length l
      have e2 := congrArg List.length HR.out
      rw [List.length_append] at e2
      have e3 := H.out
      omega
    cases hf : first (l.drop t) with
    | none =>
      have HN := Lib.hid (rFirst_none HF.out hf)
      have HF0 := Lib.hid hf
      clear hf
      by_cases hct : c = t
      · rw [if_pos hct] at hAt
        have hnt : n = t := by omega
        subst hAt
        subst hct
        subst hnt
        rw [Nat.sub_self] at HN
        go_wp2_with (go_at_call 46; with_reducible refine HN.out.mono ?_; rintro e w1 ⟨rfl, hb1⟩)
        go_ret2
        have e1 : L = recs l := by rw [HR.out, recs_none HF0.out, List.append_nil]
        have e2 : used l = _ := (congrArg (fun M => (bytesOf M).length) e1).symm.trans HT.out
        obtain ⟨A2, c2, e4, hcc, hrec⟩ := (HE.out.below hb1).to (own_keep HO.out fun g hg => hb1.block g (HO.out.lt g hg).2) e1
        refine ⟨A2, c2, ?_, hcc, hrec, HB.out.trans (hb1.mono HB.out.size)⟩
        rw [← e4, e2]; rfl
      · rw [if_neg hct] at hAt
        have hAt' : At = some (ad.add t) := hAt
        subst hAt'
        clear hAt
        go_wp2_with (go_at_call 46; with_reducible refine HN.out.mono ?_; rintro e w1 ⟨rfl, hb1⟩)
        go_ret2
        have e1 : L = recs l := by rw [HR.out, recs_none HF0.out, List.append_nil]
        have e2 : used l = _ := (congrArg (fun M => (bytesOf M).length) e1).symm.trans HT.out
        obtain ⟨A2, c2, e4, hcc, hrec⟩ := (HE.out.below hb1).to (own_keep HO.out fun g hg => hb1.block g (HO.out.lt g hg).2) e1
        refine ⟨A2, c2, ?_, hcc, hrec, HB.out.trans (hb1.mono HB.out.size)⟩
        rw [← e4, e2]; rfl
    | some r =>
      obtain ⟨f1, f2, -, -, -⟩ := first_some hf
      rw [htl.out] at f2
      obtain ⟨q, hq⟩ : ∃ q, r.length = q := ⟨_, rfl⟩
      have HQ := Lib.hid hq
      rw [hq] at f1 f2
      have HS := Lib.hid (rFirst_some HF.out hf hq)
      have HNx := Lib.hid (all_next HR.out HT.out hf)
      rw [hq] at HNx
      have hct : ¬ c = t := by omega
      rw [if_neg hct] at hAt
      have hAt' : At = some (ad.add t) := hAt
      subst hAt'
      clear hAt hf hq
      · go_wp2_with (first
          | (go_at_call 46; with_reducible refine HS.out.mono ?_; rintro e w1 ⟨A1, c1, rfl, hL1, hb1⟩; have HL1 := Lib.hid hL1; have HB1 := Lib.hid hb1; have HBw := Lib.hid (HB.out.trans (hb1.mono HB.out.size)); have HO1 := Lib.hid (own_keep HO.out fun g hg => hb1.block g (HO.out.lt g hg).2); have HE1 := Lib.hid (HE.out.below hb1); clear hL1 hb1)
          | (at_builtin; refine wpList_append_bytes_at rfl (.tmp 21) (.tmp 22) rfl w1.heap.size _ 0 [] rfl (own_empty w1 _ (Nat.le_refl _)) A1 q c1 r rfl HQ.out _ ((HL1.out.mono HB1.out.size).alloc (Nat.le_refl _) _) (by omega) (by simp) ?_; intro v3 w3 ho3 hg3 _; have hb3 := (((Below.refl w1.heap.size w1).alloc (Nat.le_refl _) (.cells #[] 5)).trans (grown_below hg3 (by simp) (fun k e => ((own_empty w1 _ (Nat.le_refl _)).lt k e).1))); rw [List.nil_append, show 0 + q = r.length by rw [HQ.out, Nat.zero_add]] at ho3; obtain ⟨A3, c3, rfl, -⟩ := own_form ho3; have HX3 := Lib.hid (recs_step2 w HO1.out HE1.out HBw.out HBw.out.size ho3 hb3); clear ho3 hg3 hb3)
          | (at_builtin; refine wpList_append_own _ rfl (.tmp 24) (.tmp 26) 33 rfl w.heap.size 23 i0 (.slice none 0 0) 1 24 Try.underlying33 hi hz0 hz1 hz2 rfl (by decide) _ _ _ rfl HX3.out.1 ⟨w3.heap.size, 0, none⟩ 1 1 [.slice A3 r.length c3] rfl rfl (cell_one_new _ _ _) (by simp [Value.oneCell']) (by unfold maxLen; omega) (by omega) HX3.out.2.2.size ?_; intro v4 w4 ho4 hg4 _; have he4 := Lib.hid (HX3.out.2.1.grown HX3.out.1 hg4); have hb4 := Lib.hid (HX3.out.2.2.grown hg4 HX3.out.2.2.size (fun k e => (HX3.out.1.lt k e).1)); have ho4 := Lib.hid ho4; clear hg4))
        go_roundw
        case rel => exact ⟨t + 8 + q, L ++ [r], xs ++ [Value.slice A3 r.length c3], by go_num, by omega, (show World.ownsRow _ _ _ _ _ _ _ by rw [List.length_append]; exact ho4.out), he4, hb4.out, HNx.out.1, HNx.out.2⟩
        case measure => simp [intOf]; omega
end Go.Proofs.Ytkiombbdddbkfaa.Jn
