/-
  The document's own First of journal. Conditions: the bytes lie in memory; lengths.
-/
import Derived.Test.YtkiombbdddbkfaaRefFrame
namespace Go.Proofs.Ytkiombbdddbkfaa.Jn
open Go.RowKit Go.Proofs.Ytkiombbdddbkfaa.Pk Go.Proofs.Ytkiombbdddbkfaa.Dk
set_option linter.unusedVariables false

/-- What First hands back. -/
def RFirst (w : World) (l : Bs) (e : Ending) (w' : World) : Prop :=
  Below w.heap.size w w' ∧ ((first l = none ∧ e = .returned (.tuple #[.slice none 0 0, .bool false])) ∨ ∃ r A c, first l = some r ∧ e = .returned (.tuple #[.slice A r.length c, .bool true]) ∧ Lies w' w.heap.size A r)
theorem below_drewN' (w : World) (k : Nat) : Below w.heap.size w (w.drewN k) := ⟨rfl, rfl, rfl, Nat.le_refl _, fun _ _ => rfl⟩
theorem below_drewN'' {w w' : World} {B : Nat} (h : Below B w w') (k : Nat) : Below B w (w'.drewN k) := ⟨h.os, h.tape, h.output, h.size, h.block⟩
theorem below_dd {w w' : World} {B : Nat} (h : Below B w w') (k j : Nat) : Below B w ((w'.drewN k).drewN j) := ⟨h.os, h.tape, h.output, h.size, h.block⟩
theorem byte_ne {x y : UInt8} (h : x ≠ y) : ((x.toNat : Int) != (y.toNat : Int)) = true := by
  simp only [bne_iff_ne, ne_eq]; intro q; exact h (UInt8.toNat_inj.mp (by omega))
theorem take_eq_of {l m : Bs} {k : Nat} (hl : k ≤ l.length) (hm : k ≤ m.length) (h : ∀ j, j < k → l[j]? = m[j]?) : l.take k = m.take k := by
  apply List.ext_getElem?
  intro i
  rw [List.getElem?_take, List.getElem?_take]
  split
  · exact h i (by assumption)
  · rfl

set_option maxRecDepth 20000 in
set_option maxHeartbeats 2000000 in
/-- The loop and what follows it, at the frame that was made. -/
theorem rFirst_any {A : Option Addr} {n c : Nat} {l : Bs} {w : World} (hl : l.length = n) (hc : n ≤ c) (hcm : c ≤ maxLen) (hm : n ≤ 16777216) (h : Lies w w.heap.size A l) :
    Calls Try.prog 46 #[.slice A n c] w (RFirst w l) := by
  unfold maxLen at hcm
  by_cases h8 : n < 8
  · have e := first_short (b := l) (by omega)
    have h8i : (n : Int) < 8 := by omega
    go_enter Try.func46, Try.ntmps46
    go_wp2
    go_ret2
    exact ⟨Below.refl _ _, .inl ⟨e, rfl⟩⟩
  have h8i : ¬ (n : Int) < 8 := by omega
  have HL := Lib.hid h
  have H := Lib.hid hl
  obtain ⟨b0, b1, b2, b3, r, rfl⟩ : ∃ b0 b1 b2 b3 r, l = b0 :: b1 :: b2 :: b3 :: r := by
    match l, hl with
    | b0 :: b1 :: b2 :: b3 :: r, _ => exact ⟨b0, b1, b2, b3, r, rfl⟩
    | [], hl => simp at hl; omega
    | [_], hl => simp at hl; omega
    | [_, _], hl => simp at hl; omega
    | [_, _, _], hl => simp at hl; omega
  obtain ⟨b, o, rfl, -, c0⟩ := h 0 b0 rfl
  obtain ⟨_, _, e1, -, c1⟩ := h 1 b1 rfl
  obtain ⟨_, _, e2, -, c2⟩ := h 2 b2 rfl
  obtain ⟨_, _, e3, -, c3⟩ := h 3 b3 rfl
  simp only [Option.some.injEq, Addr.mk.injEq, and_true] at e1 e2 e3
  obtain ⟨rfl, rfl⟩ := e1
  obtain ⟨rfl, rfl⟩ := e2
  obtain ⟨rfl, rfl⟩ := e3
  unfold bv at c0 c1 c2 c3
  rw [Nat.add_zero] at c0
  have i0 : (0 : Int) < (n : Int) := by omega
  have i1 : (1 : Int) < (n : Int) := by omega
  have i2 : (2 : Int) < (n : Int) := by omega
  have i3 : (3 : Int) < (n : Int) := by omega
  have x0 : b0.toNat < 256 := b0.toNat_lt
  have x1 : b1.toNat < 256 := b1.toNat_lt
  have x2 : b2.toNat < 256 := b2.toNat_lt
  have x3 : b3.toNat < 256 := b3.toNat_lt
  obtain ⟨q, hq⟩ : ∃ q, q = word (b0 :: b1 :: b2 :: b3 :: r) := ⟨_, rfl⟩
  have hqv : (b0.toNat : Int) + 256 * b1.toNat + 65536 * b2.toNat + 16777216 * b3.toNat = (q : Int) := by
    have : q = leVal [b0, b1, b2, b3] := hq
    rw [this]; simp only [leVal]; omega
  obtain ⟨l, hle⟩ : ∃ l, l = b0 :: b1 :: b2 :: b3 :: r := ⟨_, rfl⟩
  rw [← hle] at H HL hq ⊢
  have HQ := Lib.hid hq
  have hq32 : q < 4294967296 := by rw [hq]; exact word_lt l
  have hqb : (q : Int) ≤ 4294967296 := by omega
  obtain ⟨z0, z1, z2, z3, w1, w2, w3, w4, w5, w6⟩ : wrap64 (b0.toNat : Int) = (b0.toNat : Int) ∧ wrap64 (b1.toNat : Int) = (b1.toNat : Int) ∧ wrap64 (b2.toNat : Int) = (b2.toNat : Int) ∧ wrap64 (b3.toNat : Int) = (b3.toNat : Int) ∧
      wrap64 (256 * (b1.toNat : Int)) = 256 * (b1.toNat : Int) ∧ wrap64 ((b0.toNat : Int) + 256 * b1.toNat) = (b0.toNat : Int) + 256 * b1.toNat ∧ wrap64 (65536 * (b2.toNat : Int)) = 65536 * (b2.toNat : Int) ∧ wrap64 ((b0.toNat : Int) + 256 * b1.toNat + 65536 * b2.toNat) = (b0.toNat : Int) + 256 * b1.toNat + 65536 * b2.toNat ∧
      wrap64 (16777216 * (b3.toNat : Int)) = 16777216 * (b3.toNat : Int) ∧ wrap64 ((b0.toNat : Int) + 256 * b1.toNat + 65536 * b2.toNat + 16777216 * b3.toNat) = (q : Int) :=
    ⟨IntWalk.wrap64_in _ (by omega), IntWalk.wrap64_in _ (by omega), IntWalk.wrap64_in _ (by omega), IntWalk.wrap64_in _ (by omega), IntWalk.wrap64_in _ (by omega), IntWalk.wrap64_in _ (by omega), IntWalk.wrap64_in _ (by omega), IntWalk.wrap64_in _ (by omega), IntWalk.wrap64_in _ (by omega), (congrArg wrap64 hqv).trans (IntWalk.wrap64_in _ (by omega))⟩
  clear hqv hle hl hq x0 x1 x2 x3 h
  by_cases hbig : 1048576 < q
  · have e : first l = none := by unfold first; rw [if_neg (by rw [H.out]; exact h8), if_pos (.inl (by rw [← HQ.out]; exact hbig))]
    have hbi : (1048576 : Int) < (q : Int) := Int.ofNat_lt.2 hbig
    go_enter Try.func46, Try.ntmps46
    go_wp2
    go_quiet (fail)
    simp only [z0, z1, z2, z3, w1, w2, w3, w4, w5, w6]
    clear z0 z1 z2 z3 w1 w2 w3 w4 w5 w6
    go_wp2
    go_ret2
    exact ⟨below_drewN' _ _, .inl ⟨e, rfl⟩⟩
  have hbi : (q : Int) ≤ 1048576 := Int.ofNat_le.2 (Nat.le_of_not_lt hbig)
  by_cases hlong : n - 8 < q
  · have e : first l = none := by unfold first; rw [if_neg (by rw [H.out]; exact h8), if_pos (.inr (by rw [← HQ.out, H.out]; exact hlong))]
    have hlo : (n : Int) - 8 < (q : Int) := by clear z0 z1 z2 z3 w1 w2 w3 w4 w5 w6; omega
    go_enter Try.func46, Try.ntmps46
    go_wp2
    go_quiet (fail)
    simp only [z0, z1, z2, z3, w1, w2, w3, w4, w5, w6]
    clear z0 z1 z2 z3 w1 w2 w3 w4 w5 w6
    go_wp2
    go_ret2
    exact ⟨below_drewN' _ _, .inl ⟨e, rfl⟩⟩
  have hlo : (q : Int) ≤ (n : Int) - 8 := by clear z0 z1 z2 z3 w1 w2 w3 w4 w5 w6; omega
  have hqn : 8 + q ≤ n := by clear z0 z1 z2 z3 w1 w2 w3 w4 w5 w6; omega
  obtain ⟨rr, hrr⟩ : ∃ rr, rr = (l.drop 8).take q := ⟨_, rfl⟩
  have hrl : rr.length = q := by rw [hrr, List.length_take, List.length_drop, H.out]; clear z0 z1 z2 z3 w1 w2 w3 w4 w5 w6; omega
  have hfi : first l = if (frame rr).take 8 = l.take 8 then some rr else none := first_iff (by rw [H.out]; exact Nat.le_of_not_lt h8) (by rw [← HQ.out]; exact Nat.le_of_not_lt hbig) (by rw [← HQ.out, H.out]; exact Nat.le_of_not_lt hlong) (by rw [← HQ.out]; exact hrr)
  have HR := Lib.hid hrr
  have HRl := Lib.hid hrl
  have HFi := Lib.hid hfi
  have HFl : Hid ((frame rr).length = 8 + q) := by show _ = _; rw [frame_length, hrl]
  clear hrr hrl hfi hlong
  by_cases hc8 : c = 8
  · have hn8 : n = 8 := by clear z0 z1 z2 z3 w1 w2 w3 w4 w5 w6; omega
    have hq0 : q = 0 := by clear z0 z1 z2 z3 w1 w2 w3 w4 w5 w6; omega
    subst hc8 hn8 hq0
    have HA8 : Hid (Lies w w.heap.size (some ⟨b, o, none⟩) rr) := by show Lies _ _ _ _; rw [List.eq_nil_of_length_eq_zero HRl.out]; exact Lies.none_
    have HFr : Hid (∀ k, Calls Try.prog 37 #[.slice (some ⟨b, o, none⟩) 0 0] (w.drewN k) (Framed (w.drewN k) rr)) := fun k => rFrame_any HRl.out (Nat.zero_le _) (HA8.out.drewN k)
    have w7 : wrap64 ((b0.toNat : Int) + 256 * b1.toNat + 65536 * b2.toNat + 16777216 * b3.toNat) = 0 := w6
    clear w6
    go_enter Try.func46, Try.ntmps46
    go_wp2
    go_quiet (fail)
    simp only [z0, z1, z2, z3, w1, w2, w3, w4, w5, w7]
    clear z0 z1 z2 z3 w1 w2 w3 w4 w5 w7
    go_wp2_with (go_at_call 37; refine (HFr.out nq).mono ?_; unfold Framed; rw [HRl.out]; rintro e w2 ⟨A9, c9, rfl, ho9, hb9⟩; have HO9 := Lib.hid ho9; have HB9 := Lib.hid (show Below w.heap.size w w2 from ⟨hb9.os, hb9.tape, hb9.output, hb9.size, hb9.block⟩); clear ho9 hb9)
    go_loopw [6] (fun i wr => ∃ k d : Nat, k ≤ 8 ∧ i = .int .i64 k ∧ wr = w2.drewN d ∧ Hid (∀ j, j < k → (frame rr)[j]? = l[j]?)) (fun i _ => 8 - (intOf i).toNat)
    case atStart => exact ⟨0, 0, Nat.zero_le _, rfl, rfl, fun j hj => absurd hj (Nat.not_lt_zero _)⟩
    case round =>
      obtain ⟨k, d, hk, rfl, rfl, he⟩ := hrel
      by_cases hlt : k < 8
      · have hki : (k : Int) < 8 := by omega
        have hkf : k < (frame rr).length := by rw [HFl.out]; omega
        have hkl : k < l.length := by rw [H.out]; omega
        obtain ⟨g1, o1, rfl, hg1, hc1⟩ := (Lies.of_own HO9.out).at_ hkf
        obtain ⟨g2, o2, e2, hg2, hc2'⟩ := HL.out.at_ hkl
        simp only [Option.some.injEq, Addr.mk.injEq, and_true] at e2
        obtain ⟨rfl, rfl⟩ := e2
        have hc2 : w2.cell? ⟨b, o + k, none⟩ = some (bv l[k]) := (HB9.out.cell (p := ⟨b, o + k, none⟩) hg2).trans hc2'
        obtain ⟨x, hx⟩ : ∃ x, x = (frame rr)[k] := ⟨_, rfl⟩
        obtain ⟨y, hy⟩ : ∃ y, y = l[k] := ⟨_, rfl⟩
        rw [← hx] at hc1
        rw [← hy] at hc2
        have HX := Lib.hid hx
        have HY := Lib.hid hy
        clear hx hy hc2'
        unfold bv at hc1 hc2
        by_cases hxy : x = y
        · have ht : ((x.toNat : Int) != (y.toNat : Int)) = false := by simp [hxy]
          have E := Lib.hid hxy
          clear hxy
          go_wp2
          go_quiet (fail)
          go_wp2
          go_roundw
          case rel =>
            refine ⟨k + 1, _, by omega, by go_num, rfl, fun j hj => ?_⟩
            rcases Nat.lt_or_ge j k with h | h
            · exact he.out j h
            · obtain rfl : j = k := by omega
              rw [List.getElem?_eq_getElem hkf, List.getElem?_eq_getElem hkl, ← HX.out, ← HY.out, E.out]
          case measure => simp [intOf]; omega
        · have ht := byte_ne hxy
          have E := Lib.hid hxy
          clear hxy
          go_wp2
          go_quiet (fail)
          go_wp2
          go_ret2
          refine ⟨below_dd HB9.out _ _, .inl ⟨?_, rfl⟩⟩
          rw [HFi.out, if_neg]
          intro hh
          apply E.out
          have := congrArg (fun z => z[k]?) hh
          simp only [List.getElem?_take, if_pos hlt, List.getElem?_eq_getElem hkf, List.getElem?_eq_getElem hkl, Option.some.injEq] at this
          rw [HX.out, HY.out, this]
      · have hki : ¬ (k : Int) < 8 := by omega
        have e8 : k = 8 := by omega
        have HE := Lib.hid (show (frame rr).take 8 = l.take 8 from take_eq_of (by rw [HFl.out]; omega) (by rw [H.out]; omega) (fun j hj => he.out j (by omega)))
        clear he e8
        go_wp2
        go_ret2
        refine ⟨below_drewN'' HB9.out _, .inr ⟨rr, some ⟨b, o, none⟩, 0, by rw [HFi.out, if_pos HE.out], ?_, ((HA8.out.below HB9.out).drewN _)⟩⟩
        rw [HRl.out]; rfl
  · have HA8 : Hid (Lies w w.heap.size (some ⟨b, o + 8, none⟩) rr) := by
      show Lies _ _ _ _
      have := (HL.out.cut (k := 8) (cap := c) (by rw [H.out]; exact hc)).take q
      rw [if_neg hc8, ← HR.out] at this
      simpa [Addr.add] using this
    have HFr : Hid (∀ k, Calls Try.prog 37 #[.slice (some ⟨b, o + 8, none⟩) q (c - 8)] (w.drewN k) (Framed (w.drewN k) rr)) := fun k => rFrame_any HRl.out (Nat.le_trans (Nat.le_of_not_lt hbig) (by decide)) (HA8.out.drewN k)
    go_enter Try.func46, Try.ntmps46
    go_wp2
    go_quiet (fail)
    simp only [z0, z1, z2, z3, w1, w2, w3, w4, w5, w6]
    clear z0 z1 z2 z3 w1 w2 w3 w4 w5 w6
    go_wp2_with (go_at_call 37; refine (HFr.out nq).mono ?_; unfold Framed; rw [HRl.out]; rintro e w2 ⟨A9, c9, rfl, ho9, hb9⟩; have HO9 := Lib.hid ho9; have HB9 := Lib.hid (show Below w.heap.size w w2 from ⟨hb9.os, hb9.tape, hb9.output, hb9.size, hb9.block⟩); clear ho9 hb9)
    go_loopw [6] (fun i wr => ∃ k d : Nat, k ≤ 8 ∧ i = .int .i64 k ∧ wr = w2.drewN d ∧ Hid (∀ j, j < k → (frame rr)[j]? = l[j]?)) (fun i _ => 8 - (intOf i).toNat)
    case atStart => exact ⟨0, 0, Nat.zero_le _, rfl, rfl, fun j hj => absurd hj (Nat.not_lt_zero _)⟩
    case round =>
      obtain ⟨k, d, hk, rfl, rfl, he⟩ := hrel
      by_cases hlt : k < 8
      · have hki : (k : Int) < 8 := by omega
        have hkf : k < (frame rr).length := by rw [HFl.out]; omega
        have hkl : k < l.length := by rw [H.out]; omega
        obtain ⟨g1, o1, rfl, hg1, hc1⟩ := (Lies.of_own HO9.out).at_ hkf
        obtain ⟨g2, o2, e2, hg2, hc2'⟩ := HL.out.at_ hkl
        simp only [Option.some.injEq, Addr.mk.injEq, and_true] at e2
        obtain ⟨rfl, rfl⟩ := e2
        have hc2 : w2.cell? ⟨b, o + k, none⟩ = some (bv l[k]) := (HB9.out.cell (p := ⟨b, o + k, none⟩) hg2).trans hc2'
        have hk1 : (k : Int) < 8 + (q : Int) := by omega
        have hk2 : (k : Int) < (n : Int) := by omega
        have hkq : k < 8 + q := by omega
        obtain ⟨x, hx⟩ : ∃ x, x = (frame rr)[k] := ⟨_, rfl⟩
        obtain ⟨y, hy⟩ : ∃ y, y = l[k] := ⟨_, rfl⟩
        rw [← hx] at hc1
        rw [← hy] at hc2
        have HX := Lib.hid hx
        have HY := Lib.hid hy
        clear hx hy hc2'
        unfold bv at hc1 hc2
        by_cases hxy : x = y
        · have ht : ((x.toNat : Int) != (y.toNat : Int)) = false := by simp [hxy]
          have E := Lib.hid hxy
          clear hxy
          go_wp2
          go_quiet (fail)
          go_wp2
          go_roundw
          case rel =>
            refine ⟨k + 1, _, by omega, by go_num, rfl, fun j hj => ?_⟩
            rcases Nat.lt_or_ge j k with h | h
            · exact he.out j h
            · obtain rfl : j = k := by omega
              rw [List.getElem?_eq_getElem hkf, List.getElem?_eq_getElem hkl, ← HX.out, ← HY.out, E.out]
          case measure => simp [intOf]; omega
        · have ht := byte_ne hxy
          have E := Lib.hid hxy
          clear hxy
          go_wp2
          go_quiet (fail)
          go_wp2
          go_ret2
          refine ⟨below_dd HB9.out _ _, .inl ⟨?_, rfl⟩⟩
          rw [HFi.out, if_neg]
          intro hh
          apply E.out
          have := congrArg (fun z => z[k]?) hh
          simp only [List.getElem?_take, if_pos hlt, List.getElem?_eq_getElem hkf, List.getElem?_eq_getElem hkl, Option.some.injEq] at this
          rw [HX.out, HY.out, this]
      · have hki : ¬ (k : Int) < 8 := by omega
        have e8 : k = 8 := by omega
        have HE := Lib.hid (show (frame rr).take 8 = l.take 8 from take_eq_of (by rw [HFl.out]; omega) (by rw [H.out]; omega) (fun j hj => he.out j (by omega)))
        clear he e8
        go_wp2
        go_ret2
        refine ⟨below_drewN'' HB9.out _, .inr ⟨rr, some ⟨b, o + 8, none⟩, c - 8, by rw [HFi.out, if_pos HE.out], ?_, ((HA8.out.below HB9.out).drewN _)⟩⟩
        rw [HRl.out]; rfl
end Go.Proofs.Ytkiombbdddbkfaa.Jn
