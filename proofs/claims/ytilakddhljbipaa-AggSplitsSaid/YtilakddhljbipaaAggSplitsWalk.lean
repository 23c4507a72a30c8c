/-
  AggSplits: the walk of the law. Conditions: the values lie in memory, each an int.
-/
import Derived.Test.YtilakddhljbipaaAggJoinsWalk
namespace Go.Proofs.Ytilakddhljbipaa.Ag
set_option linter.unusedVariables false
set_option linter.unusedSimpArgs false
open Go.RowKit

theorem drop_any {w : World} {a : Option Addr} {n c q : Nat} {L : List Int} (h : IntsZ w (.slice a n c) L) (hq : q ≤ n) {a' : Option Addr} (ha : ∀ b o, a = some ⟨b, o, none⟩ → q < c → a' = some ⟨b, o + q, none⟩) : IntsZ w (.slice a' (n - q) (c - q)) (L.drop q) := by
  obtain ⟨hn, k1, k2, k3⟩ := Lst.len h
  by_cases h0 : q = n
  · have hd : L.drop q = [] := List.drop_eq_nil_of_le (by omega)
    rw [hd]
    exact ⟨a', c - q, by rw [h0]; simp, Nat.zero_le _, Nat.zero_le _, by omega, fun h => absurd rfl h⟩
  · obtain ⟨b, o, rfl, -, -⟩ := IntsZ.cell h (i := q) (by omega)
    have := Lst.drop h (i := q) (by omega)
    rw [Nat.mul_one] at this
    rw [ha b o rfl (by omega)]
    exact this
theorem stayS {W X w0 : World} {g h i : Nat} {a b j : Ac} {v : Value} {T : List Int} (h1 : AcAt W g a) (h2 : AcAt W h b) (h3 : AcAt W i j) (h5 : IntsZ W v T) (h4 : Below w0.heap.size w0 W) (hb : Below W.heap.size W X) :
    (X.cell? ⟨g, 0, none⟩ = some (.int .i64 a.c) ∧ X.cell? ⟨g, 1, none⟩ = some (.int .i64 a.s) ∧ X.cell? ⟨g, 2, none⟩ = some (.int .i64 a.mn) ∧ X.cell? ⟨g, 3, none⟩ = some (.int .i64 a.mx)) ∧
    (X.cell? ⟨h, 0, none⟩ = some (.int .i64 b.c) ∧ X.cell? ⟨h, 1, none⟩ = some (.int .i64 b.s) ∧ X.cell? ⟨h, 2, none⟩ = some (.int .i64 b.mn) ∧ X.cell? ⟨h, 3, none⟩ = some (.int .i64 b.mx)) ∧
    (X.cell? ⟨i, 0, none⟩ = some (.int .i64 j.c) ∧ X.cell? ⟨i, 1, none⟩ = some (.int .i64 j.s) ∧ X.cell? ⟨i, 2, none⟩ = some (.int .i64 j.mn) ∧ X.cell? ⟨i, 3, none⟩ = some (.int .i64 j.mx)) ∧
    Hid (AcAt X g a) ∧ Hid (AcAt X h b) ∧ Hid (AcAt X i j) ∧ Hid (IntsZ X v T) ∧ Hid (Below w0.heap.size w0 X) :=
  ⟨(h1.grow hb).cells, (h2.grow hb).cells, (h3.grow hb).cells, Lib.hid (h1.grow hb), Lib.hid (h2.grow hb), Lib.hid (h3.grow hb), Lib.hid (h5.grow hb), Lib.hid (grow_below h4 hb)⟩
attribute [local go_sem] run_acc
set_option maxRecDepth 20000 in
set_option maxHeartbeats 2000000 in
theorem as_at {w : World} {a : Option Addr} {n c : Nat} {L : List Int} (at_ : Int) (h : IntsZ w (.slice a n c) L) (hz : ∀ z ∈ L, I64 z) (hn : n ≤ 1000) : Calls Try.prog 4 #[.slice a n c, .int .i64 at_] w fun e w' => e = .returned (.bool true) ∧ Below w.heap.size w w' := by
  obtain ⟨hnl, k1, k2, k3⟩ := Lst.len h
  unfold maxLen at k2 k3
  have HI := Lib.hid h
  have HZ := Lib.hid hz
  have HN := Lib.hid hnl
  have hn0 : (0 : Int) ≤ (n : Int) := by omega
  clear h hz hnl k2
  by_cases h1 : at_ < 0
  · skip
    obtain ⟨q, hq2⟩ : ∃ q, n / 2 = q := ⟨_, rfl⟩
    have hq : q ≤ n := by omega
    have HQ2 := Lib.hid hq2
    have e1 : True := trivial
    clear hq2
    have g0 : (0 : Int) ≤ (q : Int) := by omega
    have g1 : (q : Int) ≤ (n : Int) := by omega
    have g2 : q ≤ c := by omega
    have HT := Lib.hid (Lst.take HI.out (i := q) (by rw [← HN.out]; exact hq))
    have HZ1 : Hid (∀ z ∈ L.take q, I64 z) := Lib.hid (fun z hz => HZ.out z (List.mem_of_mem_take hz))
    have HZ2 : Hid (∀ z ∈ L.drop q, I64 z) := Lib.hid (fun z hz => HZ.out z (List.mem_of_mem_drop hz))
    go_enter Try.func4, Try.ntmps4
    go_upto_region 5 with (fail)
    have hq3 : (n : Int) / 2 = (q : Int) := by have := HQ2.out; omega
    rw [hq3]
    clear hq3
    clear e1
    go_upto_region 6 with (go_at_call 6; refine (fold_at HT.out (by omega) HZ1.out).mono ?_; rintro e w1 ⟨r1, rfl, hr1, hb1⟩; have HR1 := Lib.hid hr1; have HB1 := Lib.hid hb1; clear hb1 hr1)
    have hb2 : Below w1.heap.size w1 (w1.alloc (.cells (acC r1) 24)) := (Below.refl _ _).alloc (Nat.le_refl _) _
    have HA2 := Lib.hid (ac_new w1 r1)
    have HB2 := Lib.hid (grow_below HB1.out hb2)
    obtain ⟨g, hg⟩ : ∃ g, w1.heap.size = g := ⟨_, rfl⟩
    rw [hg] at HA2 ⊢
    clear hb2 HB1 hg
    generalize w1.alloc (.cells (acC r1) 24) = w2 at HA2 HB2 ⊢
    obtain ⟨A2, hA2⟩ : ∃ x, (if c = q then a else Option.map (fun x => x.add q) a) = x := ⟨_, rfl⟩
    have HD := Lib.hid (drop_any (HI.out.grow HB2.out) hq (a' := A2) (fun b o h1 h2 => by rw [← hA2, h1, if_neg (by omega)]; simp only [Option.map_some, Addr.add_lit]))
    go_upto_region 7 with (go_at_call 6; refine (fold_at HD.out (by omega) HZ2.out).mono ?_; rintro e w3 ⟨r2, rfl, hr2, hb3⟩; have HR2 := Lib.hid hr2; have HA3 := Lib.hid (HA2.out.grow hb3); have HB3 := Lib.hid (grow_below HB2.out hb3); clear hb3 hr2)
    have hb4 : Below w3.heap.size w3 (w3.alloc (.cells (acC r2) 24)) := (Below.refl _ _).alloc (Nat.le_refl _) _
    have HC4 := Lib.hid (ac_new w3 r2)
    have HA4 := Lib.hid (HA3.out.grow hb4)
    have HB4 := Lib.hid (grow_below HB3.out hb4)
    obtain ⟨h, hh⟩ : ∃ h, w3.heap.size = h := ⟨_, rfl⟩
    rw [hh] at HC4 ⊢
    clear hb4 HB3 hh HA2 HA3 HB2 HD hA2 HT
    generalize w3.alloc (.cells (acC r2) 24) = w4 at HC4 HA4 HB4 ⊢
    have HI4 := Lib.hid (HI.out.grow HB4.out)
    obtain ⟨i0, hi0, hz0, hz1, hz2⟩ := info_parts info3
    go_wp2
    go_loopw [7, 8] (fun y z wr => ∃ j : Nat, j ≤ n ∧ z = .int .i64 ((j : Int) - 1) ∧ Hid (wr.ownsRow w4.heap.size 3 1 y (L.drop j).reverse.length (ics (L.drop j).reverse)) ∧ Hid (Below w4.heap.size w4 wr)) (fun _ z _ => (intOf z + 1).toNat)
    case atStart => exact ⟨n, Nat.le_refl _, rfl, Lib.hid (by rw [List.drop_eq_nil_of_le (by rw [← HN.out]; exact Nat.le_refl _)]; exact World.ownsRow_nil _ _ _ _), Lib.hid (Below.refl _ _)⟩
    case round =>
      obtain ⟨j, hj, rfl, HO, hb⟩ := hrel
      rename World => wq
      by_cases hj0 : j = 0
      · subst hj0
        have ht := ints_row HO.out
        rw [List.drop_zero] at ht
        have HTN := Lib.hid ht
        have HI5 := Lib.hid (HI4.out.grow hb.out)
        have HA5 := Lib.hid (HA4.out.grow hb.out)
        have HC5 := Lib.hid (HC4.out.grow hb.out)
        have HB5 := Lib.hid (grow_below HB4.out hb.out)
        clear HO ht HI4 HA4 HC4 HB4 hb
        go_upto_region 13 with (go_at_call 6; refine (fold_at HI5.out hn HZ.out).mono ?_; rintro e w6 ⟨r3, rfl, hr3, hb6⟩; have HR3 := Lib.hid hr3; have HT6 := Lib.hid (HTN.out.grow hb6); have HA6 := Lib.hid (HA5.out.grow hb6); have HC6 := Lib.hid (HC5.out.grow hb6); have HB6 := Lib.hid (grow_below HB5.out hb6); clear hb6 hr3)
        have hb7 : Below w6.heap.size w6 (w6.alloc (.cells (acC r3) 24)) := (Below.refl _ _).alloc (Nat.le_refl _) _
        have HD7 := Lib.hid (ac_new w6 r3)
        have HA7 := Lib.hid (HA6.out.grow hb7)
        have HC7 := Lib.hid (HC6.out.grow hb7)
        have HT7 := Lib.hid (HT6.out.grow hb7)
        have HB7 := Lib.hid (grow_below HB6.out hb7)
        obtain ⟨i, hi⟩ : ∃ i, w6.heap.size = i := ⟨_, rfl⟩
        rw [hi] at HD7 ⊢
        clear hb7 hi HA6 HC6 HT6 HB6 HA5 HC5 HI5 HTN HB5
        generalize w6.alloc (.cells (acC r3) 24) = w7 at HD7 HA7 HC7 HT7 HB7 ⊢
        obtain ⟨at2, c2, hTv⟩ := Lst.val HT7.out
        have HJ1 : Hid (jn r1 r2 = r3) := Lib.hid ((by have h := HR1.out.join HR2.out (by simp; have := HN.out; omega); rwa [List.take_append_drop] at h : Is (jn r1 r2) L).uniq HR3.out)
        have HJ2 : Hid (jn r2 r1 = r3) := Lib.hid ((by have h := (HR2.out.join HR1.out (by simp; have := HN.out; omega)).swap; rwa [List.take_append_drop] at h : Is (jn r2 r1) L).uniq HR3.out)
        have HZ3 : Hid (∀ z ∈ L.reverse, I64 z) := Lib.hid (fun z hz => HZ.out z (List.mem_reverse.1 hz))
        have hLn : L.reverse.length = n := by rw [List.length_reverse]; exact HN.out.symm
        rw [hLn] at hTv
        subst hTv
        have hS := stayS HA7.out HC7.out HD7.out HT7.out HB7.out (Below.refl _ _).drew
        have f0 : accEq r3 r3 = true := accEq_refl r3
        unfold accEq at f0
        go_region_held3 (fun X => (X.cell? ⟨g, 0, none⟩ = some (.int .i64 r1.c) ∧ X.cell? ⟨g, 1, none⟩ = some (.int .i64 r1.s) ∧ X.cell? ⟨g, 2, none⟩ = some (.int .i64 r1.mn) ∧ X.cell? ⟨g, 3, none⟩ = some (.int .i64 r1.mx)) ∧ (X.cell? ⟨h, 0, none⟩ = some (.int .i64 r2.c) ∧ X.cell? ⟨h, 1, none⟩ = some (.int .i64 r2.s) ∧ X.cell? ⟨h, 2, none⟩ = some (.int .i64 r2.mn) ∧ X.cell? ⟨h, 3, none⟩ = some (.int .i64 r2.mx)) ∧ (X.cell? ⟨i, 0, none⟩ = some (.int .i64 r3.c) ∧ X.cell? ⟨i, 1, none⟩ = some (.int .i64 r3.s) ∧ X.cell? ⟨i, 2, none⟩ = some (.int .i64 r3.mn) ∧ X.cell? ⟨i, 3, none⟩ = some (.int .i64 r3.mx)) ∧ Hid (AcAt X g r1) ∧ Hid (AcAt X h r2) ∧ Hid (AcAt X i r3) ∧ Hid (IntsZ X (.slice at2 n c2) L.reverse) ∧ Hid (Below w.heap.size w X))
          (first | exact hS | exact hS8 | exact hS9 | exact hSA | exact hSB | assumption)
          (first
            | (go_at_call 9; refine (awake_any _).mono ?_; rintro e w8 ⟨rfl, hb8⟩; have hS8 := stayS HA7.out HC7.out HD7.out HT7.out HB7.out ((Below.refl _ _).drew.trans hb8); clear hb8)
            | (go_at_call 11; (fail_if_success have := hS9); have hh := (‹_ ∧ _ ∧ _ ∧ Hid (AcAt _ _ _) ∧ _ ∧ _ ∧ _ ∧ _›).2.2.2; refine (join_at (a := r1) (b := r2) HJ1.out _).mono ?_; rintro e w9 ⟨rfl, hb9⟩; have hS9 := stayS hh.1.out hh.2.1.out hh.2.2.1.out hh.2.2.2.1.out hh.2.2.2.2.out hb9; clear hb9 hh)
            | (go_at_call 11; have hh := (‹_ ∧ _ ∧ _ ∧ Hid (AcAt _ _ _) ∧ _ ∧ _ ∧ _ ∧ _›).2.2.2; refine (join_at (a := r2) (b := r1) HJ2.out _).mono ?_; rintro e wa ⟨rfl, hba⟩; have hSA := stayS hh.1.out hh.2.1.out hh.2.2.1.out hh.2.2.2.1.out hh.2.2.2.2.out hba; clear hba hh)
            | (go_at_call 6; have hh := (‹_ ∧ _ ∧ _ ∧ Hid (AcAt _ _ _) ∧ _ ∧ _ ∧ _ ∧ _›).2.2.2; refine (fold_at hh.2.2.2.1.out hn HZ3.out).mono ?_; rintro e wb ⟨r4, rfl, hr4, hbb⟩; obtain rfl := hr4.reverse.uniq HR3.out; have hSB := stayS hh.1.out hh.2.1.out hh.2.2.1.out hh.2.2.2.1.out hh.2.2.2.2.out hbb; clear hbb hh hr4))
        go_wp2
        go_ret
        exact ⟨rfl, hSB.2.2.2.2.2.2.2.out⟩
      · obtain ⟨p, rfl⟩ : ∃ p, j = p + 1 := ⟨j - 1, by omega⟩
        have hpl : p < L.length := by rw [← HN.out]; omega
        obtain ⟨b, o, ha, hbl, hcx⟩ := IntsZ.cell (HI4.out.grow hb.out) hpl
        subst ha
        obtain ⟨x, hx⟩ : ∃ x, L[p] = x := ⟨_, rfl⟩
        rw [hx] at hcx
        have HX : Hid ((L.drop p).reverse = (L.drop (p + 1)).reverse ++ [x]) := Lib.hid (by rw [List.drop_eq_getElem_cons hpl, hx, List.reverse_cons])
        have hll : (L.drop (p + 1)).reverse.length ≤ 1000 := by rw [List.length_reverse, List.length_drop]; have := HN.out; omega
        have e1 : ((p + 1 : Nat) : Int) - 1 = (p : Int) := by omega
        have e2 : (0 : Int) ≤ (p : Int) := by omega
        have e3 : (p : Int) < (n : Int) := by omega
        have HO2 := Lib.hid (ownsRow_below HO.out ((Below.refl _ _).alloc (Nat.le_refl _) (.cells #[.int .i64 x] 3)))
        have HB2 := Lib.hid (grow_below hb.out ((Below.refl _ _).alloc (Nat.le_refl _) (.cells #[.int .i64 x] 3)))
        have hbs : w4.heap.size ≤ wq.heap.size := hb.out.size
        clear hx hpl
        go_wp2_with (first | (at_builtin; refine wpList_append_lies _ (by rfl) (.tmp 39) (.tmp 44) 22 (by rfl) w4.heap.size 3 i0 (.int .i64 0) 1 8 Try.underlying22 hi0 hz0 hz1 hz2 rfl (by decide) _ (L.drop (p + 1)).reverse.length (ics (L.drop (p + 1)).reverse) (by rfl) HO2.out ⟨wq.heap.size, 0, none⟩ 1 1 [.int .i64 x] (by rfl) rfl (World.news_of_block (heap_alloc_new wq _)) (one_int _) (by decide) (by unfold maxLen; omega) (by omega) (by simp <;> omega) _ rfl ?_; intro g2 cap2 w8 hown2 hgrow2 hat2 hlt2; have HO3 := Lib.hid hown2; have HB3 := Lib.hid (HB2.out.grown hgrow2 HB2.out.size (fun k e => (HO2.out.lt k e).1)); clear hown2 hgrow2 hat2 hlt2))
        go_roundw
        case rel => exact ⟨p, by omega, by go_num, Lib.hid (by rw [HX.out, ics_snoc]; simpa using HO3.out), HB3⟩
        case measure => simp [intOf]
  · by_cases h2 : (n : Int) < at_
    · skip
      obtain ⟨q, hq2⟩ : ∃ q, n / 2 = q := ⟨_, rfl⟩
      have hq : q ≤ n := by omega
      have HQ2 := Lib.hid hq2
      have e1 : True := trivial
      clear hq2
      have g0 : (0 : Int) ≤ (q : Int) := by omega
      have g1 : (q : Int) ≤ (n : Int) := by omega
      have g2 : q ≤ c := by omega
      have HT := Lib.hid (Lst.take HI.out (i := q) (by rw [← HN.out]; exact hq))
      have HZ1 : Hid (∀ z ∈ L.take q, I64 z) := Lib.hid (fun z hz => HZ.out z (List.mem_of_mem_take hz))
      have HZ2 : Hid (∀ z ∈ L.drop q, I64 z) := Lib.hid (fun z hz => HZ.out z (List.mem_of_mem_drop hz))
      go_enter Try.func4, Try.ntmps4
      go_upto_region 5 with (fail)
      have hq3 : (n : Int) / 2 = (q : Int) := by have := HQ2.out; omega
      rw [hq3]
      clear hq3
      clear e1
      go_upto_region 6 with (go_at_call 6; refine (fold_at HT.out (by omega) HZ1.out).mono ?_; rintro e w1 ⟨r1, rfl, hr1, hb1⟩; have HR1 := Lib.hid hr1; have HB1 := Lib.hid hb1; clear hb1 hr1)
      have hb2 : Below w1.heap.size w1 (w1.alloc (.cells (acC r1) 24)) := (Below.refl _ _).alloc (Nat.le_refl _) _
      have HA2 := Lib.hid (ac_new w1 r1)
      have HB2 := Lib.hid (grow_below HB1.out hb2)
      obtain ⟨g, hg⟩ : ∃ g, w1.heap.size = g := ⟨_, rfl⟩
      rw [hg] at HA2 ⊢
      clear hb2 HB1 hg
      generalize w1.alloc (.cells (acC r1) 24) = w2 at HA2 HB2 ⊢
      obtain ⟨A2, hA2⟩ : ∃ x, (if c = q then a else Option.map (fun x => x.add q) a) = x := ⟨_, rfl⟩
      have HD := Lib.hid (drop_any (HI.out.grow HB2.out) hq (a' := A2) (fun b o h1 h2 => by rw [← hA2, h1, if_neg (by omega)]; simp only [Option.map_some, Addr.add_lit]))
      go_upto_region 7 with (go_at_call 6; refine (fold_at HD.out (by omega) HZ2.out).mono ?_; rintro e w3 ⟨r2, rfl, hr2, hb3⟩; have HR2 := Lib.hid hr2; have HA3 := Lib.hid (HA2.out.grow hb3); have HB3 := Lib.hid (grow_below HB2.out hb3); clear hb3 hr2)
      have hb4 : Below w3.heap.size w3 (w3.alloc (.cells (acC r2) 24)) := (Below.refl _ _).alloc (Nat.le_refl _) _
      have HC4 := Lib.hid (ac_new w3 r2)
      have HA4 := Lib.hid (HA3.out.grow hb4)
      have HB4 := Lib.hid (grow_below HB3.out hb4)
      obtain ⟨h, hh⟩ : ∃ h, w3.heap.size = h := ⟨_, rfl⟩
      rw [hh] at HC4 ⊢
      clear hb4 HB3 hh HA2 HA3 HB2 HD hA2 HT
      generalize w3.alloc (.cells (acC r2) 24) = w4 at HC4 HA4 HB4 ⊢
      have HI4 := Lib.hid (HI.out.grow HB4.out)
      obtain ⟨i0, hi0, hz0, hz1, hz2⟩ := info_parts info3
      go_wp2
      go_loopw [7, 8] (fun y z wr => ∃ j : Nat, j ≤ n ∧ z = .int .i64 ((j : Int) - 1) ∧ Hid (wr.ownsRow w4.heap.size 3 1 y (L.drop j).reverse.length (ics (L.drop j).reverse)) ∧ Hid (Below w4.heap.size w4 wr)) (fun _ z _ => (intOf z + 1).toNat)
      case atStart => exact ⟨n, Nat.le_refl _, rfl, Lib.hid (by rw [List.drop_eq_nil_of_le (by rw [← HN.out]; exact Nat.le_refl _)]; exact World.ownsRow_nil _ _ _ _), Lib.hid (Below.refl _ _)⟩
      case round =>
        obtain ⟨j, hj, rfl, HO, hb⟩ := hrel
        rename World => wq
        by_cases hj0 : j = 0
        · subst hj0
          have ht := ints_row HO.out
          rw [List.drop_zero] at ht
          have HTN := Lib.hid ht
          have HI5 := Lib.hid (HI4.out.grow hb.out)
          have HA5 := Lib.hid (HA4.out.grow hb.out)
          have HC5 := Lib.hid (HC4.out.grow hb.out)
          have HB5 := Lib.hid (grow_below HB4.out hb.out)
          clear HO ht HI4 HA4 HC4 HB4 hb
          go_upto_region 13 with (go_at_call 6; refine (fold_at HI5.out hn HZ.out).mono ?_; rintro e w6 ⟨r3, rfl, hr3, hb6⟩; have HR3 := Lib.hid hr3; have HT6 := Lib.hid (HTN.out.grow hb6); have HA6 := Lib.hid (HA5.out.grow hb6); have HC6 := Lib.hid (HC5.out.grow hb6); have HB6 := Lib.hid (grow_below HB5.out hb6); clear hb6 hr3)
          have hb7 : Below w6.heap.size w6 (w6.alloc (.cells (acC r3) 24)) := (Below.refl _ _).alloc (Nat.le_refl _) _
          have HD7 := Lib.hid (ac_new w6 r3)
          have HA7 := Lib.hid (HA6.out.grow hb7)
          have HC7 := Lib.hid (HC6.out.grow hb7)
          have HT7 := Lib.hid (HT6.out.grow hb7)
          have HB7 := Lib.hid (grow_below HB6.out hb7)
          obtain ⟨i, hi⟩ : ∃ i, w6.heap.size = i := ⟨_, rfl⟩
          rw [hi] at HD7 ⊢
          clear hb7 hi HA6 HC6 HT6 HB6 HA5 HC5 HI5 HTN HB5
          generalize w6.alloc (.cells (acC r3) 24) = w7 at HD7 HA7 HC7 HT7 HB7 ⊢
          obtain ⟨at2, c2, hTv⟩ := Lst.val HT7.out
          have HJ1 : Hid (jn r1 r2 = r3) := Lib.hid ((by have h := HR1.out.join HR2.out (by simp; have := HN.out; omega); rwa [List.take_append_drop] at h : Is (jn r1 r2) L).uniq HR3.out)
          have HJ2 : Hid (jn r2 r1 = r3) := Lib.hid ((by have h := (HR2.out.join HR1.out (by simp; have := HN.out; omega)).swap; rwa [List.take_append_drop] at h : Is (jn r2 r1) L).uniq HR3.out)
          have HZ3 : Hid (∀ z ∈ L.reverse, I64 z) := Lib.hid (fun z hz => HZ.out z (List.mem_reverse.1 hz))
          have hLn : L.reverse.length = n := by rw [List.length_reverse]; exact HN.out.symm
          rw [hLn] at hTv
          subst hTv
          have hS := stayS HA7.out HC7.out HD7.out HT7.out HB7.out (Below.refl _ _).drew
          have f0 : accEq r3 r3 = true := accEq_refl r3
          unfold accEq at f0
          go_region_held3 (fun X => (X.cell? ⟨g, 0, none⟩ = some (.int .i64 r1.c) ∧ X.cell? ⟨g, 1, none⟩ = some (.int .i64 r1.s) ∧ X.cell? ⟨g, 2, none⟩ = some (.int .i64 r1.mn) ∧ X.cell? ⟨g, 3, none⟩ = some (.int .i64 r1.mx)) ∧ (X.cell? ⟨h, 0, none⟩ = some (.int .i64 r2.c) ∧ X.cell? ⟨h, 1, none⟩ = some (.int .i64 r2.s) ∧ X.cell? ⟨h, 2, none⟩ = some (.int .i64 r2.mn) ∧ X.cell? ⟨h, 3, none⟩ = some (.int .i64 r2.mx)) ∧ (X.cell? ⟨i, 0, none⟩ = some (.int .i64 r3.c) ∧ X.cell? ⟨i, 1, none⟩ = some (.int .i64 r3.s) ∧ X.cell? ⟨i, 2, none⟩ = some (.int .i64 r3.mn) ∧ X.cell? ⟨i, 3, none⟩ = some (.int .i64 r3.mx)) ∧ Hid (AcAt X g r1) ∧ Hid (AcAt X h r2) ∧ Hid (AcAt X i r3) ∧ Hid (IntsZ X (.slice at2 n c2) L.reverse) ∧ Hid (Below w.heap.size w X))
            (first | exact hS | exact hS8 | exact hS9 | exact hSA | exact hSB | assumption)
            (first
              | (go_at_call 9; refine (awake_any _).mono ?_; rintro e w8 ⟨rfl, hb8⟩; have hS8 := stayS HA7.out HC7.out HD7.out HT7.out HB7.out ((Below.refl _ _).drew.trans hb8); clear hb8)
              | (go_at_call 11; (fail_if_success have := hS9); have hh := (‹_ ∧ _ ∧ _ ∧ Hid (AcAt _ _ _) ∧ _ ∧ _ ∧ _ ∧ _›).2.2.2; refine (join_at (a := r1) (b := r2) HJ1.out _).mono ?_; rintro e w9 ⟨rfl, hb9⟩; have hS9 := stayS hh.1.out hh.2.1.out hh.2.2.1.out hh.2.2.2.1.out hh.2.2.2.2.out hb9; clear hb9 hh)
              | (go_at_call 11; have hh := (‹_ ∧ _ ∧ _ ∧ Hid (AcAt _ _ _) ∧ _ ∧ _ ∧ _ ∧ _›).2.2.2; refine (join_at (a := r2) (b := r1) HJ2.out _).mono ?_; rintro e wa ⟨rfl, hba⟩; have hSA := stayS hh.1.out hh.2.1.out hh.2.2.1.out hh.2.2.2.1.out hh.2.2.2.2.out hba; clear hba hh)
              | (go_at_call 6; have hh := (‹_ ∧ _ ∧ _ ∧ Hid (AcAt _ _ _) ∧ _ ∧ _ ∧ _ ∧ _›).2.2.2; refine (fold_at hh.2.2.2.1.out hn HZ3.out).mono ?_; rintro e wb ⟨r4, rfl, hr4, hbb⟩; obtain rfl := hr4.reverse.uniq HR3.out; have hSB := stayS hh.1.out hh.2.1.out hh.2.2.1.out hh.2.2.2.1.out hh.2.2.2.2.out hbb; clear hbb hh hr4))
          go_wp2
          go_ret
          exact ⟨rfl, hSB.2.2.2.2.2.2.2.out⟩
        · obtain ⟨p, rfl⟩ : ∃ p, j = p + 1 := ⟨j - 1, by omega⟩
          have hpl : p < L.length := by rw [← HN.out]; omega
          obtain ⟨b, o, ha, hbl, hcx⟩ := IntsZ.cell (HI4.out.grow hb.out) hpl
          subst ha
          obtain ⟨x, hx⟩ : ∃ x, L[p] = x := ⟨_, rfl⟩
          rw [hx] at hcx
          have HX : Hid ((L.drop p).reverse = (L.drop (p + 1)).reverse ++ [x]) := Lib.hid (by rw [List.drop_eq_getElem_cons hpl, hx, List.reverse_cons])
          have hll : (L.drop (p + 1)).reverse.length ≤ 1000 := by rw [List.length_reverse, List.length_drop]; have := HN.out; omega
          have e1 : ((p + 1 : Nat) : Int) - 1 = (p : Int) := by omega
          have e2 : (0 : Int) ≤ (p : Int) := by omega
          have e3 : (p : Int) < (n : Int) := by omega
          have HO2 := Lib.hid (ownsRow_below HO.out ((Below.refl _ _).alloc (Nat.le_refl _) (.cells #[.int .i64 x] 3)))
          have HB2 := Lib.hid (grow_below hb.out ((Below.refl _ _).alloc (Nat.le_refl _) (.cells #[.int .i64 x] 3)))
          have hbs : w4.heap.size ≤ wq.heap.size := hb.out.size
          clear hx hpl
          go_wp2_with (first | (at_builtin; refine wpList_append_lies _ (by rfl) (.tmp 39) (.tmp 44) 22 (by rfl) w4.heap.size 3 i0 (.int .i64 0) 1 8 Try.underlying22 hi0 hz0 hz1 hz2 rfl (by decide) _ (L.drop (p + 1)).reverse.length (ics (L.drop (p + 1)).reverse) (by rfl) HO2.out ⟨wq.heap.size, 0, none⟩ 1 1 [.int .i64 x] (by rfl) rfl (World.news_of_block (heap_alloc_new wq _)) (one_int _) (by decide) (by unfold maxLen; omega) (by omega) (by simp <;> omega) _ rfl ?_; intro g2 cap2 w8 hown2 hgrow2 hat2 hlt2; have HO3 := Lib.hid hown2; have HB3 := Lib.hid (HB2.out.grown hgrow2 HB2.out.size (fun k e => (HO2.out.lt k e).1)); clear hown2 hgrow2 hat2 hlt2))
          go_roundw
          case rel => exact ⟨p, by omega, by go_num, Lib.hid (by rw [HX.out, ics_snoc]; simpa using HO3.out), HB3⟩
          case measure => simp [intOf]
    · obtain ⟨q, rfl⟩ := Int.eq_ofNat_of_zero_le (show 0 ≤ at_ by omega)
      have hq : q ≤ n := by omega
      have e1 : True := trivial
      have g0 : (0 : Int) ≤ (q : Int) := by omega
      have g1 : (q : Int) ≤ (n : Int) := by omega
      have g2 : q ≤ c := by omega
      have HT := Lib.hid (Lst.take HI.out (i := q) (by rw [← HN.out]; exact hq))
      have HZ1 : Hid (∀ z ∈ L.take q, I64 z) := Lib.hid (fun z hz => HZ.out z (List.mem_of_mem_take hz))
      have HZ2 : Hid (∀ z ∈ L.drop q, I64 z) := Lib.hid (fun z hz => HZ.out z (List.mem_of_mem_drop hz))
      go_enter Try.func4, Try.ntmps4
      go_upto_region 5 with (fail)
      clear e1
      go_upto_region 6 with (go_at_call 6; refine (fold_at HT.out (by omega) HZ1.out).mono ?_; rintro e w1 ⟨r1, rfl, hr1, hb1⟩; have HR1 := Lib.hid hr1; have HB1 := Lib.hid hb1; clear hb1 hr1)
      have hb2 : Below w1.heap.size w1 (w1.alloc (.cells (acC r1) 24)) := (Below.refl _ _).alloc (Nat.le_refl _) _
      have HA2 := Lib.hid (ac_new w1 r1)
      have HB2 := Lib.hid (grow_below HB1.out hb2)
      obtain ⟨g, hg⟩ : ∃ g, w1.heap.size = g := ⟨_, rfl⟩
      rw [hg] at HA2 ⊢
      clear hb2 HB1 hg
      generalize w1.alloc (.cells (acC r1) 24) = w2 at HA2 HB2 ⊢
      obtain ⟨A2, hA2⟩ : ∃ x, (if c = q then a else Option.map (fun x => x.add q) a) = x := ⟨_, rfl⟩
      have HD := Lib.hid (drop_any (HI.out.grow HB2.out) hq (a' := A2) (fun b o h1 h2 => by rw [← hA2, h1, if_neg (by omega)]; simp only [Option.map_some, Addr.add_lit]))
      go_upto_region 7 with (go_at_call 6; refine (fold_at HD.out (by omega) HZ2.out).mono ?_; rintro e w3 ⟨r2, rfl, hr2, hb3⟩; have HR2 := Lib.hid hr2; have HA3 := Lib.hid (HA2.out.grow hb3); have HB3 := Lib.hid (grow_below HB2.out hb3); clear hb3 hr2)
      have hb4 : Below w3.heap.size w3 (w3.alloc (.cells (acC r2) 24)) := (Below.refl _ _).alloc (Nat.le_refl _) _
      have HC4 := Lib.hid (ac_new w3 r2)
      have HA4 := Lib.hid (HA3.out.grow hb4)
      have HB4 := Lib.hid (grow_below HB3.out hb4)
      obtain ⟨h, hh⟩ : ∃ h, w3.heap.size = h := ⟨_, rfl⟩
      rw [hh] at HC4 ⊢
      clear hb4 HB3 hh HA2 HA3 HB2 HD hA2 HT
      generalize w3.alloc (.cells (acC r2) 24) = w4 at HC4 HA4 HB4 ⊢
      have HI4 := Lib.hid (HI.out.grow HB4.out)
      obtain ⟨i0, hi0, hz0, hz1, hz2⟩ := info_parts info3
      go_wp2
      go_loopw [7, 8] (fun y z wr => ∃ j : Nat, j ≤ n ∧ z = .int .i64 ((j : Int) - 1) ∧ Hid (wr.ownsRow w4.heap.size 3 1 y (L.drop j).reverse.length (ics (L.drop j).reverse)) ∧ Hid (Below w4.heap.size w4 wr)) (fun _ z _ => (intOf z + 1).toNat)
      case atStart => exact ⟨n, Nat.le_refl _, rfl, Lib.hid (by rw [List.drop_eq_nil_of_le (by rw [← HN.out]; exact Nat.le_refl _)]; exact World.ownsRow_nil _ _ _ _), Lib.hid (Below.refl _ _)⟩
      case round =>
        obtain ⟨j, hj, rfl, HO, hb⟩ := hrel
        rename World => wq
        by_cases hj0 : j = 0
        · subst hj0
          have ht := ints_row HO.out
          rw [List.drop_zero] at ht
          have HTN := Lib.hid ht
          have HI5 := Lib.hid (HI4.out.grow hb.out)
          have HA5 := Lib.hid (HA4.out.grow hb.out)
          have HC5 := Lib.hid (HC4.out.grow hb.out)
          have HB5 := Lib.hid (grow_below HB4.out hb.out)
          clear HO ht HI4 HA4 HC4 HB4 hb
          go_upto_region 13 with (go_at_call 6; refine (fold_at HI5.out hn HZ.out).mono ?_; rintro e w6 ⟨r3, rfl, hr3, hb6⟩; have HR3 := Lib.hid hr3; have HT6 := Lib.hid (HTN.out.grow hb6); have HA6 := Lib.hid (HA5.out.grow hb6); have HC6 := Lib.hid (HC5.out.grow hb6); have HB6 := Lib.hid (grow_below HB5.out hb6); clear hb6 hr3)
          have hb7 : Below w6.heap.size w6 (w6.alloc (.cells (acC r3) 24)) := (Below.refl _ _).alloc (Nat.le_refl _) _
          have HD7 := Lib.hid (ac_new w6 r3)
          have HA7 := Lib.hid (HA6.out.grow hb7)
          have HC7 := Lib.hid (HC6.out.grow hb7)
          have HT7 := Lib.hid (HT6.out.grow hb7)
          have HB7 := Lib.hid (grow_below HB6.out hb7)
          obtain ⟨i, hi⟩ : ∃ i, w6.heap.size = i := ⟨_, rfl⟩
          rw [hi] at HD7 ⊢
          clear hb7 hi HA6 HC6 HT6 HB6 HA5 HC5 HI5 HTN HB5
          generalize w6.alloc (.cells (acC r3) 24) = w7 at HD7 HA7 HC7 HT7 HB7 ⊢
          obtain ⟨at2, c2, hTv⟩ := Lst.val HT7.out
          have HJ1 : Hid (jn r1 r2 = r3) := Lib.hid ((by have h := HR1.out.join HR2.out (by simp; have := HN.out; omega); rwa [List.take_append_drop] at h : Is (jn r1 r2) L).uniq HR3.out)
          have HJ2 : Hid (jn r2 r1 = r3) := Lib.hid ((by have h := (HR2.out.join HR1.out (by simp; have := HN.out; omega)).swap; rwa [List.take_append_drop] at h : Is (jn r2 r1) L).uniq HR3.out)
          have HZ3 : Hid (∀ z ∈ L.reverse, I64 z) := Lib.hid (fun z hz => HZ.out z (List.mem_reverse.1 hz))
          have hLn : L.reverse.length = n := by rw [List.length_reverse]; exact HN.out.symm
          rw [hLn] at hTv
          subst hTv
          have hS := stayS HA7.out HC7.out HD7.out HT7.out HB7.out (Below.refl _ _).drew
          have f0 : accEq r3 r3 = true := accEq_refl r3
          unfold accEq at f0
          go_region_held3 (fun X => (X.cell? ⟨g, 0, none⟩ = some (.int .i64 r1.c) ∧ X.cell? ⟨g, 1, none⟩ = some (.int .i64 r1.s) ∧ X.cell? ⟨g, 2, none⟩ = some (.int .i64 r1.mn) ∧ X.cell? ⟨g, 3, none⟩ = some (.int .i64 r1.mx)) ∧ (X.cell? ⟨h, 0, none⟩ = some (.int .i64 r2.c) ∧ X.cell? ⟨h, 1, none⟩ = some (.int .i64 r2.s) ∧ X.cell? ⟨h, 2, none⟩ = some (.int .i64 r2.mn) ∧ X.cell? ⟨h, 3, none⟩ = some (.int .i64 r2.mx)) ∧ (X.cell? ⟨i, 0, none⟩ = some (.int .i64 r3.c) ∧ X.cell? ⟨i, 1, none⟩ = some (.int .i64 r3.s) ∧ X.cell? ⟨i, 2, none⟩ = some (.int .i64 r3.mn) ∧ X.cell? ⟨i, 3, none⟩ = some (.int .i64 r3.mx)) ∧ Hid (AcAt X g r1) ∧ Hid (AcAt X h r2) ∧ Hid (AcAt X i r3) ∧ Hid (IntsZ X (.slice at2 n c2) L.reverse) ∧ Hid (Below w.heap.size w X))
            (first | exact hS | exact hS8 | exact hS9 | exact hSA | exact hSB | assumption)
            (first
              | (go_at_call 9; refine (awake_any _).mono ?_; rintro e w8 ⟨rfl, hb8⟩; have hS8 := stayS HA7.out HC7.out HD7.out HT7.out HB7.out ((Below.refl _ _).drew.trans hb8); clear hb8)
              | (go_at_call 11; (fail_if_success have := hS9); have hh := (‹_ ∧ _ ∧ _ ∧ Hid (AcAt _ _ _) ∧ _ ∧ _ ∧ _ ∧ _›).2.2.2; refine (join_at (a := r1) (b := r2) HJ1.out _).mono ?_; rintro e w9 ⟨rfl, hb9⟩; have hS9 := stayS hh.1.out hh.2.1.out hh.2.2.1.out hh.2.2.2.1.out hh.2.2.2.2.out hb9; clear hb9 hh)
              | (go_at_call 11; have hh := (‹_ ∧ _ ∧ _ ∧ Hid (AcAt _ _ _) ∧ _ ∧ _ ∧ _ ∧ _›).2.2.2; refine (join_at (a := r2) (b := r1) HJ2.out _).mono ?_; rintro e wa ⟨rfl, hba⟩; have hSA := stayS hh.1.out hh.2.1.out hh.2.2.1.out hh.2.2.2.1.out hh.2.2.2.2.out hba; clear hba hh)
              | (go_at_call 6; have hh := (‹_ ∧ _ ∧ _ ∧ Hid (AcAt _ _ _) ∧ _ ∧ _ ∧ _ ∧ _›).2.2.2; refine (fold_at hh.2.2.2.1.out hn HZ3.out).mono ?_; rintro e wb ⟨r4, rfl, hr4, hbb⟩; obtain rfl := hr4.reverse.uniq HR3.out; have hSB := stayS hh.1.out hh.2.1.out hh.2.2.1.out hh.2.2.2.1.out hh.2.2.2.2.out hbb; clear hbb hh hr4))
          go_wp2
          go_ret
          exact ⟨rfl, hSB.2.2.2.2.2.2.2.out⟩
        · obtain ⟨p, rfl⟩ : ∃ p, j = p + 1 := ⟨j - 1, by omega⟩
          have hpl : p < L.length := by rw [← HN.out]; omega
          obtain ⟨b, o, ha, hbl, hcx⟩ := IntsZ.cell (HI4.out.grow hb.out) hpl
          subst ha
          obtain ⟨x, hx⟩ : ∃ x, L[p] = x := ⟨_, rfl⟩
          rw [hx] at hcx
          have HX : Hid ((L.drop p).reverse = (L.drop (p + 1)).reverse ++ [x]) := Lib.hid (by rw [List.drop_eq_getElem_cons hpl, hx, List.reverse_cons])
          have hll : (L.drop (p + 1)).reverse.length ≤ 1000 := by rw [List.length_reverse, List.length_drop]; have := HN.out; omega
          have e1 : ((p + 1 : Nat) : Int) - 1 = (p : Int) := by omega
          have e2 : (0 : Int) ≤ (p : Int) := by omega
          have e3 : (p : Int) < (n : Int) := by omega
          have HO2 := Lib.hid (ownsRow_below HO.out ((Below.refl _ _).alloc (Nat.le_refl _) (.cells #[.int .i64 x] 3)))
          have HB2 := Lib.hid (grow_below hb.out ((Below.refl _ _).alloc (Nat.le_refl _) (.cells #[.int .i64 x] 3)))
          have hbs : w4.heap.size ≤ wq.heap.size := hb.out.size
          clear hx hpl
          go_wp2_with (first | (at_builtin; refine wpList_append_lies _ (by rfl) (.tmp 39) (.tmp 44) 22 (by rfl) w4.heap.size 3 i0 (.int .i64 0) 1 8 Try.underlying22 hi0 hz0 hz1 hz2 rfl (by decide) _ (L.drop (p + 1)).reverse.length (ics (L.drop (p + 1)).reverse) (by rfl) HO2.out ⟨wq.heap.size, 0, none⟩ 1 1 [.int .i64 x] (by rfl) rfl (World.news_of_block (heap_alloc_new wq _)) (one_int _) (by decide) (by unfold maxLen; omega) (by omega) (by simp <;> omega) _ rfl ?_; intro g2 cap2 w8 hown2 hgrow2 hat2 hlt2; have HO3 := Lib.hid hown2; have HB3 := Lib.hid (HB2.out.grown hgrow2 HB2.out.size (fun k e => (HO2.out.lt k e).1)); clear hown2 hgrow2 hat2 hlt2))
          go_roundw
          case rel => exact ⟨p, by omega, by go_num, Lib.hid (by rw [HX.out, ics_snoc]; simpa using HO3.out), HB3⟩
          case measure => simp [intOf]
theorem aggSplits_walk {w : World} {a : Option Addr} {n c : Nat} {L : List Int} (at_ : Int) (h : IntsB w (.slice a n c) L) : Calls Try.prog 4 #[.slice a n c, .int .i64 at_] w fun e w' => e = .returned (.bool true) ∧ Below w.heap.size w w' := by
  by_cases hn : n ≤ 1000
  · exact as_at at_ h.1 h.2 hn
  · obtain ⟨hnl, k1, k2, k3⟩ := Lst.len h.1
    unfold maxLen at k2 k3
    clear h hnl
    go_enter Try.func4, Try.ntmps4
    go_wp2
    go_ret
    exact ⟨rfl, Below.refl _ _⟩
end Go.Proofs.Ytilakddhljbipaa.Ag
