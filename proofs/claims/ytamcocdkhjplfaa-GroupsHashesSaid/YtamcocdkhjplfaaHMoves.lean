/-
  Moves. Conditions: as each theorem names them.
-/
import Derived.Test.YtamcocdkhjplfaaHSmall
import Derived.Deep.DeepCutAuto
namespace Go.Proofs.Ytamcocdkhjplfaa.Gp
set_option linter.unusedVariables false
set_option linter.unusedSimpArgs false
open Go.RowKit

attribute [local go_sem] run_tri
abbrev trV (q : Tr) : Value := .agg #[.int .i64 (q.1 : Int), .int .i64 (q.2.1 : Int), .int .i64 (q.2.2 : Int)]
set_option maxHeartbeats 400000 in
theorem rowOf_at {g f t : Nat} (hg : g < 16) (hf : f ≤ 8) (ht : t ≤ 8) (w : World) : Calls Try.prog 24 #[.int .i64 g, .int .i64 f, .int .i64 t] w fun e w' => e = .returned (.agg #[.int .i64 g, .int .i64 (ow g f : Nat), .int .i64 (ow g t : Nat)]) ∧ Below w.heap.size w w' := by
  go_enter Try.func24, Try.ntmps24
  go_wp2_with (first
    | (go_at_call 22; with_reducible refine (ownerOf_at hg hf _).mono ?_; rintro e w2 ⟨rfl, rfl⟩)
    | (go_at_call 22; with_reducible refine (ownerOf_at hg ht _).mono ?_; rintro e w2 ⟨rfl, rfl⟩))
  have hh := heap_alloc_new w (.cells #[.int .i64 (g : Int), .int .i64 (ow g f : Nat), .int .i64 (ow g t : Nat)] 44)
  have s0 := cell_of_heap hh 0
  have s1 := cell_of_heap hh 1
  have s2 := cell_of_heap hh 2
  refine bodyPost_ret (v := .agg #[.int .i64 (g : Int), .int .i64 (ow g f : Nat), .int .i64 (ow g t : Nat)]) (by simp [results, Try.results24, go_sem, s0, s1, s2]) rfl ⟨rfl, (Below.refl _ _).alloc (Nat.le_refl _) _⟩
theorem stay3 {W X : World} {b : Nat} {u0 u1 u2 : Value} (hl : b < W.heap.size) (h0 : W.cell? ⟨b, 0, none⟩ = some u0) (h1 : W.cell? ⟨b, 1, none⟩ = some u1) (h2 : W.cell? ⟨b, 2, none⟩ = some u2) (hb : Below W.heap.size W X) :
    X.cell? ⟨b, 0, none⟩ = some u0 ∧ X.cell? ⟨b, 1, none⟩ = some u1 ∧ X.cell? ⟨b, 2, none⟩ = some u2 ∧ Hid (Below W.heap.size W X) :=
  ⟨(hb.cell (p := ⟨b, 0, none⟩) hl).trans h0, (hb.cell (p := ⟨b, 1, none⟩) hl).trans h1, (hb.cell (p := ⟨b, 2, none⟩) hl).trans h2, Lib.hid hb⟩
set_option maxRecDepth 20000 in
set_option maxHeartbeats 4000000 in
theorem moves_ok {f t : Nat} (hf1 : 1 ≤ f) (hf : f ≤ 8) (ht1 : 1 ≤ t) (ht : t ≤ 8) {L : List Tr} (hL : movs f t 16 = L) (w : World) : Calls Try.prog 19 #[.int .i64 f, .int .i64 t] w fun e w' => ∃ v, e = .returned (.tuple #[v, .int .i64 0]) ∧ TrsAt w' v L ∧ Below w.heap.size w w' := by
  have hc1 : okC f 8 = true := by unfold okC; simp; omega
  have hc2 : okC t 8 = true := by unfold okC; simp; omega
  have HL := Lib.hid hL
  clear hL
  obtain ⟨i0, hi0, hz0, hz1, hz2⟩ := info_parts infoT
  go_enter Try.func19, Try.ntmps19
  go_wp2_with (first
    | (go_at_call 21; with_reducible refine (isCount_at hc1 _).mono ?_; rintro e w2 ⟨rfl, rfl⟩)
    | (go_at_call 21; with_reducible refine (isCount_at hc2 _).mono ?_; rintro e w2 ⟨rfl, rfl⟩))
  clear hc1 hc2
  go_loopw [6, 17] (fun y z wr => ∃ (g : Nat) (acc : List Tr), g ≤ 16 ∧ acc.length ≤ g ∧ z = .int .i64 g ∧ Hid (acc = movs f t g) ∧ Hid (wr.ownsRow w.heap.size 44 3 y acc.length (tcs acc)) ∧ Hid (Below w.heap.size w wr)) (fun _ z _ => 16 - (intOf z).toNat)
  case atStart => exact ⟨0, [], Nat.zero_le _, Nat.zero_le _, rfl, Lib.hid rfl, Lib.hid (World.ownsRow_nil _ _ _ _), Lib.hid (Below.refl _ _)⟩
  case round =>
    obtain ⟨g, acc, hg, hal, rfl, hacc, hown, hb⟩ := hrel
    by_cases hlt : g < 16
    · have HBs : w.heap.size ≤ wr.heap.size := hb.out.size
      go_upto_region 8 with (go_at_call 24; with_reducible refine (rowOf_at hlt hf ht _).mono ?_; rintro e w2 ⟨rfl, hb2⟩; have HO := Lib.hid (ownsRow_below hown.out hb2); have HB2 := Lib.hid (hb.out.trans (hb2.mono HBs)); have HBs2 : w.heap.size ≤ w2.heap.size := Nat.le_trans HBs hb2.size; clear hb2)
      have hh := heap_alloc_new w2 (.cells #[.int .i64 (g : Int), .int .i64 (ow g f : Nat), .int .i64 (ow g t : Nat)] 44)
      obtain ⟨W, hW⟩ : ∃ W, w2.alloc (.cells #[.int .i64 (g : Int), .int .i64 (ow g f : Nat), .int .i64 (ow g t : Nat)] 44) = W := ⟨_, rfl⟩
      have hbW : Below w2.heap.size w2 W := by rw [← hW]; exact (Below.refl _ _).alloc (Nat.le_refl _) _
      rw [hW] at hh ⊢
      have c0 : W.cell? ⟨w2.heap.size, 0, none⟩ = some (.int .i64 (g : Int)) := cell_of_heap hh 0
      have c1 : W.cell? ⟨w2.heap.size, 1, none⟩ = some (.int .i64 (ow g f : Nat)) := cell_of_heap hh 1
      have c2 : W.cell? ⟨w2.heap.size, 2, none⟩ = some (.int .i64 (ow g t : Nat)) := cell_of_heap hh 2
      have hl : w2.heap.size < W.heap.size := lt_of_heap hh
      have HO1 := Lib.hid (ownsRow_below HO.out hbW)
      have HB1 := Lib.hid (HB2.out.trans (hbW.mono HBs2))
      clear hW hh hbW HO HB2
      by_cases how : ow g f = ow g t
      · have HN : Hid (acc = movs f t (g + 1)) := Lib.hid (by rw [movs_succ, if_pos how, List.append_nil, hacc.out])
        rw [← how] at c2
        clear hacc how
        go_region_held3 (fun X => X.cell? ⟨w2.heap.size, 0, none⟩ = some (.int .i64 (g : Int)) ∧ X.cell? ⟨w2.heap.size, 1, none⟩ = some (.int .i64 (ow g f : Nat)) ∧ X.cell? ⟨w2.heap.size, 2, none⟩ = some (.int .i64 (ow g f : Nat)) ∧ Hid (Below W.heap.size W X))
          (first | exact ⟨c0, c1, c2, Lib.hid (Below.refl _ _).drew⟩ | exact hS3)
          (first
            | (go_at_call 24; have hh := (‹_ ∧ _ ∧ _ ∧ Hid (Below W.heap.size W _)›).2.2.2; with_reducible refine (rowOf_at hlt hf hf _).mono ?_; rintro e w3 ⟨rfl, hb3⟩; have hh2 := hh.out.trans (hb3.mono hh.out.size); have hS3 := stay3 hl c0 c1 c2 hh2; clear hb3 hh hh2))
        obtain ⟨-, -, -, hh⟩ := ‹_ ∧ _ ∧ _ ∧ Hid (Below W.heap.size W _)›
        have HO3 := Lib.hid (ownsRow_below HO1.out hh.out)
        have HB3 := Lib.hid (HB1.out.trans (hh.out.mono HB1.out.size))
        clear hh HO1 HB1 c0 c1 c2
        go_wp2
        go_roundw
        case rel => exact ⟨g + 1, acc, by omega, by omega, by go_num, HN, HO3, HB3⟩
        case measure => simp [intOf]; omega
      · have HN : Hid (acc ++ [(g, ow g f, ow g t)] = movs f t (g + 1)) := Lib.hid (by rw [movs_succ, if_neg how, hacc.out]; rfl)
        have hq : (((ow g t : Nat) : Int) == ((ow g f : Nat) : Int)) = false := ibne (by omega)
        clear hacc how
        go_region_held3 (fun X => X.cell? ⟨w2.heap.size, 0, none⟩ = some (.int .i64 (g : Int)) ∧ X.cell? ⟨w2.heap.size, 1, none⟩ = some (.int .i64 (ow g f : Nat)) ∧ X.cell? ⟨w2.heap.size, 2, none⟩ = some (.int .i64 (ow g t : Nat)) ∧ Hid (Below W.heap.size W X))
          (first | exact ⟨c0, c1, c2, Lib.hid (Below.refl _ _).drew⟩ | exact hS3)
          (first
            | (go_at_call 24; have hh := (‹_ ∧ _ ∧ _ ∧ Hid (Below W.heap.size W _)›).2.2.2; with_reducible refine (rowOf_at hlt hf hf _).mono ?_; rintro e w3 ⟨rfl, hb3⟩; have hh2 := hh.out.trans (hb3.mono hh.out.size); have hS3 := stay3 hl c0 c1 c2 hh2; clear hb3 hh hh2))
        rename World => w3
        obtain ⟨z0, z1, z2, hh⟩ := ‹_ ∧ _ ∧ _ ∧ Hid (Below W.heap.size W _)›
        have HO3 := Lib.hid (ownsRow_below HO1.out hh.out)
        have HB3 := Lib.hid (HB1.out.trans (hh.out.mono HB1.out.size))
        have HBs3 : w.heap.size ≤ w3.heap.size := Nat.le_trans HB1.out.size hh.out.size
        have bA := (Below.refl w3.heap.size w3).alloc (Nat.le_refl _) (.cells #[.int .i64 (g : Int), .int .i64 (ow g f : Nat), .int .i64 (ow g t : Nat)] 44)
        have HO := Lib.hid (ownsRow_below HO3.out bA)
        have HB4 := Lib.hid (HB3.out.trans (bA.mono HBs3))
        clear hh HO1 HB1 c0 c1 c2 bA
        go_wp2_with (refine wpList_append_lies _ (by rfl) (.tmp 30) (.tmp 32) 41 (by rfl) w.heap.size 44 i0 (.agg #[.int .i64 0, .int .i64 0, .int .i64 0]) 3 24 Try.underlying41 hi0 hz0 hz1 hz2 rfl (by decide) _ acc.length (tcs acc) (by rfl) HO.out ⟨w3.heap.size, 0, none⟩ 1 1 (trC (g, ow g f, ow g t)) (by rfl) rfl (World.news_of_block (heap_alloc_new w3 _)) (one_tr _) (by decide) (by unfold maxLen; omega) (by omega) (by simp; omega) _ rfl ?_; intro g2 cap2 w5 hown2 hgrow2 hat2 hlt2; have HO5 := Lib.hid hown2; have HB5 := Lib.hid (HB4.out.grown hgrow2 HB4.out.size (fun k e => (HO.out.lt k e).1)); clear hown2 hgrow2 hat2 hlt2)
        go_roundw
        case rel => exact ⟨g + 1, acc ++ [(g, ow g f, ow g t)], by omega, by simp; omega, by go_num, HN, Lib.hid (by rw [tcs_snoc]; simpa using HO5.out), HB5⟩
        case measure => simp [intOf]; omega
    · obtain rfl : acc = L := by rw [hacc.out, ← HL.out, show g = 16 by omega]
      clear hacc
      go_wp2
      go_ret2
      exact ⟨_, rfl, trs_row hown.out, hb.out⟩
set_option maxHeartbeats 400000 in
theorem moves_no {f t : Int} (h : (okC f 8 && okC t 8) = false) (w : World) : Calls Try.prog 19 #[.int .i64 f, .int .i64 t] w fun e w' => e = .returned (.tuple #[.slice none 0 0, .int .i64 1]) ∧ w = w' := by
  obtain ⟨b1, hc⟩ : ∃ b, okC f 8 = b := ⟨_, rfl⟩
  obtain ⟨b2, hi⟩ : ∃ b, okC t 8 = b := ⟨_, rfl⟩
  rw [hi, hc] at h
  cases b1 with
  | false =>
    clear h hi
    go_enter Try.func19, Try.ntmps19
    go_wp2_with (go_at_call 21; with_reducible refine (isCount_at hc _).mono ?_; rintro e w2 ⟨rfl, rfl⟩)
    go_ret2
    exact ⟨rfl, rfl⟩
  | true =>
    obtain rfl : b2 = false := by simpa using h
    clear h
    go_enter Try.func19, Try.ntmps19
    go_wp2_with (first
      | (go_at_call 21; with_reducible refine (isCount_at hc _).mono ?_; rintro e w2 ⟨rfl, rfl⟩; clear hc)
      | (go_at_call 21; with_reducible refine (isCount_at hi _).mono ?_; rintro e w2 ⟨rfl, rfl⟩))
    go_ret2
    exact ⟨rfl, rfl⟩
end Go.Proofs.Ytamcocdkhjplfaa.Gp
