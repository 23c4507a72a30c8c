/-
  The walk of DiskStops: the power fails in just the deed that it was set for. Conditions: none (the law looks at nothing longer).
-/
import Derived.Test.YtkckpeejamidpaaSteps
namespace Go.Proofs.Ytkckpeejamidpaa.Dk
open Go.RowKit Go.Proofs.Ytkckpeejamidpaa.Pk

set_option maxHeartbeats 400000 in
theorem names_off {w : World} {d : Nat} (c1 : w.cell? ⟨d, 1, none⟩ = some (.bool true)) : Calls Try.prog 22 #[.pointer (some ⟨d, 0, none⟩)] w fun e w' => e = .returned (.slice none 0 0) ∧ w = w' := by
  go_enter Try.func22, Try.ntmps22
  go_wp2_with (go_at_call 12; refine (up_top c1).mono ?_; rintro e w' ⟨rfl, rfl⟩)
  go_ret
  exact ⟨rfl, rfl⟩
theorem Fresh.names_off {X : Nat → Prop} {w0 w : World} {d : Nat} {s : Ds} (h : Fresh X w0 w d s) (ho : s.off = true) : Calls Try.prog 22 #[.pointer (some ⟨d, 0, none⟩)] w fun e w' => e = .returned (.slice none 0 0) ∧ w = w' := by
  obtain ⟨_, S, ⟨⟨g, hsd, hlt, mv, ht, hi⟩, -⟩, _, _⟩ := h
  have := ht.c1
  rw [ho] at this
  exact Dk.names_off this

theorem f_small : (⟨#[102]⟩ : ByteArray).size ≤ maxLen := by decide
/-- The name of the file that the laws use. -/
def F : Nm := (⟨#[102]⟩ : ByteArray).data.toList
theorem f_name : isName F = true := by decide

/-- The state ahead of round k: k pieces appended and synced, the fuse burning. -/
def Going (n : Nat) (k : Nat) (s : Ds) : Prop := s.off = false ∧ s.deeds = 2 * k ∧ s.fuse + 2 * k = n ∧ 1 ≤ s.fuse ∧ (fileOr s F).data.length ≤ 256 * k

/-- The state behind the failure. -/
def Down (n : Nat) (s : Ds) : Prop := s.off = true ∧ s.deeds = n ∧ s.fuse = 0 ∧ (fileOr s F).data.length ≤ 30000

theorem fileOr_put {s : Ds} {k : Nm} {f : Fl} {m : List (Nm × Fl)} (h : s.m = put k f m) : fileOr s k = f ∧ get s.m k = some f := by
  have : get s.m k = some f := by rw [h, get_put_same]
  exact ⟨fileOr_some this, this⟩
theorem fileOr_lose {s : Ds} {k : Nm} {f : Fl} {m : List (Nm × Fl)} {keep : Int} (h : s.m = loseAll keep (put k f m)) : (fileOr s k).data.length ≤ f.data.length := by
  have : get s.m k = some (lose keep f) := by rw [h, get_loseAll, get_put_same]; rfl
  rw [fileOr_some this]; exact lose_le keep f
theorem fileOr_lose' {s t : Ds} {k : Nm} {f : Fl} {keep : Int} (hg : get t.m k = some f) (h : s.m = loseAll keep t.m) : (fileOr s k).data.length ≤ f.data.length := by
  have : get s.m k = some (lose keep f) := by rw [h, get_loseAll, hg]; rfl
  rw [fileOr_some this]; exact lose_le keep f

/-- A round: the append fails, or the sync fails, or both go well. -/
theorem round_cases {n k : Nat} {s : Ds} {l : List UInt8} (h : Going n k s) (hk : k < 100) (hl : l.length ≤ 256) :
    (s.fuse = 1 ∧ n = 2 * k + 1 ∧ ∃ t, appendD s F l = (20, t) ∧ Down n t) ∨
    (∃ t u, appendD s F l = (0, t) ∧ t.deeds < 4611686018427387904 ∧ n = 2 * k + 2 ∧ syncD t F = (20, u) ∧ Down n u) ∨
    (∃ t u, appendD s F l = (0, t) ∧ t.deeds < 4611686018427387904 ∧ syncD t F = (0, u) ∧ Going n (k + 1) u) := by
  obtain ⟨ho, hd, hf, h1, hlen⟩ := h
  by_cases hf1 : s.fuse = 1
  · obtain ⟨t, e, t1, t2, t3, t4, t5⟩ := app_hit (b := l) ho hf1 f_name (by omega)
    have := fileOr_lose t5
    simp only [List.length_append] at this
    exact .inl ⟨hf1, by omega, t, e, t1, by omega, t3, by omega⟩
  · obtain ⟨t, e, t1, t2, t3, t4, t5⟩ := app_ok (b := l) ho hf1 f_name (by omega)
    obtain ⟨q1, q2⟩ := fileOr_put t5
    right
    by_cases hf2 : s.fuse = 2
    · obtain ⟨u, e2, u1, u2, u3, u4, u5⟩ := syn_hit t1 (by omega) q2
      have := fileOr_lose' q2 u5
      simp only [List.length_append] at this
      exact .inl ⟨t, u, e, by omega, by omega, e2, u1, by omega, u3, by omega⟩
    · obtain ⟨u, e2, u1, u2, u3, u4, u5⟩ := syn_ok t1 (by omega) q2
      obtain ⟨p1, p2⟩ := fileOr_put u5
      refine .inr ⟨t, u, e, by omega, e2, u1, by omega, by omega, by omega, ?_⟩
      rw [p1]; simp only [List.length_append]; omega

/-- Behind the failure all goes on. -/
theorem again {n : Nat} {s : Ds} {l : List UInt8} (h : Down n s) (hn : n ≤ 300) (hl : l.length ≤ 256) :
    ∃ t u, appendD (onD s) F l = (0, t) ∧ t.deeds < 4611686018427387904 ∧ syncD t F = (0, u) ∧ u.deeds = n + 2 := by
  obtain ⟨ho, hd, hf, hlen⟩ := h
  obtain ⟨t, e, t1, t2, t3, t4, t5⟩ := app_ok (s := onD s) (b := l) rfl (show s.fuse ≠ 1 by omega) f_name (show (fileOr s _).data.length + _ ≤ _ by omega)
  obtain ⟨q1, q2⟩ := fileOr_put t5
  have hd' : (onD s).deeds = s.deeds := rfl
  have hf' : (onD s).fuse = s.fuse := rfl
  obtain ⟨u, e2, u1, u2, u3, u4, u5⟩ := syn_ok t1 (by omega) q2
  exact ⟨t, u, e, by omega, e2, by omega⟩

set_option maxRecDepth 100000 in
set_option maxHeartbeats 4000000 in
theorem diskStops_walk (a0 : Option Addr) (len0 cap0 : Nat) (n keep : Int) (w : World) (h0 : Pieces w a0 len0) (hn1 : -9223372036854775808 ≤ n) (hn2 : n ≤ 9223372036854775807) (hk1 : -9223372036854775808 ≤ keep) (hk2 : keep ≤ 9223372036854775807) :
    Calls Try.prog 5 #[.slice a0 len0 cap0, .int .i64 n, .int .i64 keep] w fun e w' => e = .returned (.bool true) ∧ Below w.heap.size w w' := by
  obtain ⟨hm, hp⟩ := h0
  unfold maxLen at hm
  by_cases hbig : 100 < len0
  · have hbi : (100 : Int) < (len0 : Int) := by omega
    go_enter Try.func5, Try.ntmps5
    go_wp2
    go_ret
    exact ⟨rfl, Below.refl _ _⟩
  by_cases hlow : n < 1
  · have hbi : ¬ (100 : Int) < (len0 : Int) := by omega
    go_enter Try.func5, Try.ntmps5
    go_wp2
    go_ret
    exact ⟨rfl, Below.refl _ _⟩
  have hbi : ¬ (100 : Int) < (len0 : Int) := by omega
  obtain ⟨N, rfl⟩ : ∃ N : Nat, n = (N : Int) := ⟨n.toNat, by omega⟩
  have HP := Lib.hid hp
  clear hp
  go_enter Try.func5, Try.ntmps5
  go_wp2_with (first
    | (go_at_call 10; refine (Fresh.new (X := fun _ => False) (fun _ h => h.elim) (Below.refl w.heap.size w)).mono ?_; rintro e w1 ⟨d, rfl, hF, -⟩)
    | (go_at_call 20; refine (hF.arm hn1 hn2 hk1 hk2 rfl).mono ?_; rintro e w2 ⟨rfl, hF2, -⟩; clear hF))
  have hgo : Going N 0 (armD newD (N : Int) keep) := ⟨rfl, rfl, by show (N : Int).toNat + 0 = N; omega, by show 1 ≤ (N : Int).toNat; omega, Nat.le_refl _⟩
  go_loopw [8, 9] (fun dn i wr => ∃ (k : Nat) (s : Ds), k ≤ len0 ∧ i = .int .i64 k ∧ dn = .int .i64 (2 * k : Nat) ∧ Fresh (fun _ => False) w wr d s ∧ Hid (Going N k s)) (fun _ i _ => len0 - (intOf i).toNat)
  case atStart => exact ⟨0, _, Nat.zero_le _, rfl, rfl, hF2, hgo⟩
  case round =>
    obtain ⟨k, s, hk, rfl, rfl, hF, hG⟩ := hrel
    clear hF2 hgo
    by_cases hlt : k < len0
    · obtain ⟨b, o, A, m, c, l, rfl, hc, hml, hll, hlies⟩ := HP.out k hlt
      have hkl : (k : Int) < (len0 : Int) := by omega
      have hc' : wr.cell? ⟨b, o + k, none⟩ = some (.slice A m c) := (hF.bel.cell (p := ⟨b, o + k, none⟩) (cell_block_lt hc)).trans hc
      by_cases hlong : 256 < m
      · have hlo : (256 : Int) < (m : Int) := by omega
        go_wp2
        go_ret
        exact ⟨rfl, hF.bel⟩
      · have hlo : (m : Int) ≤ 256 := by omega
        have hcs := round_cases (l := l) hG.out (by omega) (by omega)
        have hGd := hG.out.2.1
        have hsd : s.deeds < 4611686018427387904 := by omega
        have hlies' : Lies wr wr.heap.size A l := (hlies.below hF.bel).mono hF.bel.size
        have HL := Lib.hid hll
        have HC := Lib.hid hc
        clear hll hGd hG hc
        rcases hcs with ⟨hf1, hN, t, e1, hD⟩ | ⟨t, u, e1, htd, hN, e2, hD⟩ | ⟨t, u, e1, htd, e2, hG2⟩
        · -- the append fails
          have hq : ((2 * (k : Int)) != (N : Int) - 1) = false := by simp; omega
          have hNb : (N : Int) ≤ 300 := by omega
          obtain ⟨t2, u2, e3, htd2, e4, e5⟩ := again (l := l) hD (by omega) (by have := HL.out; omega)
          obtain ⟨D1, D2, -⟩ := hD
          have HN := Lib.hid hN
          have HT := Lib.hid (And.intro D1 (And.intro D2 e5))
          clear hN hf1 D1 D2 e5
          go_wp2_with (go_at_call 16; refine (hF.append f_small HL.out hlies' hsd e1).mono ?_; rintro e w3 ⟨rfl, hF3, -⟩; have hc3 : w3.cell? ⟨b, o + k, none⟩ = some (.slice A m c) := (hF3.bel.cell (p := ⟨b, o + k, none⟩) (cell_block_lt HC.out)).trans HC.out)
          go_wp2_with (go_at_call 17; refine (hF3.sync f_small (by have := HT.out.2.1; have := HN.out; omega) (syn_off HT.out.1)).mono ?_; rintro e w4 ⟨rfl, hF4, -⟩; have hc4 : w4.cell? ⟨b, o + k, none⟩ = some (.slice A m c) := (hF4.bel.cell (p := ⟨b, o + k, none⟩) (cell_block_lt HC.out)).trans HC.out)
          go_wp2_with (go_at_call 16; refine (hF4.append f_small HL.out ((hlies.below hF4.bel).mono hF4.bel.size) (by have := HT.out.2.1; have := HN.out; omega) (appendD_off HT.out.1)).mono ?_; rintro e w5 ⟨rfl, hF5, -⟩)
          go_wp2_with (first
            | (go_at_call 21; refine (hF5.cut f_small (by have := HT.out.2.1; have := HN.out; omega) (cut_offD HT.out.1)).mono ?_; rintro e w6 ⟨rfl, hF6, -⟩)
            | (go_at_call 12; refine (hF6.up (u := false) (by rw [HT.out.1]; rfl)).mono ?_; rintro e w' ⟨rfl, rfl⟩)
            | (go_at_call 13; refine (hF6.deeds (n := (N : Int)) (by rw [HT.out.2.1])).mono ?_; rintro e w' ⟨rfl, rfl⟩)
            | (go_at_call 22; refine (hF6.names_off HT.out.1).mono ?_; rintro e w' ⟨rfl, rfl⟩)
            | (go_at_call 14; refine (hF6.on rfl).mono ?_; rintro e w7 ⟨rfl, hF7, -⟩)
            | (go_at_call 15; refine (awake_any _).mono ?_; rintro e w8 ⟨rfl, hb8⟩; have hF8 := (hF7.keep hb8).low (X' := fun _ => False) (fun _ h => h.elim); have hc8 : w8.cell? ⟨b, o + k, none⟩ = some (.slice A m c) := (hF8.bel.cell (p := ⟨b, o + k, none⟩) (cell_block_lt HC.out)).trans HC.out))
          go_wp2_with (go_at_call 16; refine (hF8.append f_small HL.out ((hlies.below hF8.bel).mono hF8.bel.size) (by have := HT.out.2.1; have := HN.out; show t.deeds < _; omega) e3).mono ?_; rintro e w9 ⟨rfl, hF9, -⟩)
          go_wp2_with (first
            | (go_at_call 17; refine (hF9.sync f_small htd2 e4).mono ?_; rintro e w10 ⟨rfl, hF10, -⟩)
            | (go_at_call 13; refine (hF10.deeds (n := (N : Int) + 2) (by rw [HT.out.2.2]; omega)).mono ?_; rintro e w' ⟨rfl, rfl⟩))
          go_ret
          exact ⟨rfl, hF10.bel⟩
        · -- the sync fails
          have hq : ((2 * (k : Int) + 1) != (N : Int) - 1) = false := by simp; omega
          have hNb : (N : Int) ≤ 300 := by omega
          obtain ⟨t2, u2, e3, htd2, e4, e5⟩ := again (l := l) hD (by omega) (by have := HL.out; omega)
          obtain ⟨D1, D2, -⟩ := hD
          have HN := Lib.hid hN
          have HT := Lib.hid (And.intro D1 (And.intro D2 e5))
          clear hN D1 D2 e5
          go_wp2_with (go_at_call 16; refine (hF.append f_small HL.out hlies' hsd e1).mono ?_; rintro e w3a ⟨rfl, hF3a, -⟩)
          go_wp2_with (go_at_call 17; refine (hF3a.sync f_small htd e2).mono ?_; rintro e w3 ⟨rfl, hF3, -⟩; have hc3 : w3.cell? ⟨b, o + k, none⟩ = some (.slice A m c) := (hF3.bel.cell (p := ⟨b, o + k, none⟩) (cell_block_lt HC.out)).trans HC.out)
          go_wp2_with (go_at_call 17; refine (hF3.sync f_small (by have := HT.out.2.1; have := HN.out; omega) (syn_off HT.out.1)).mono ?_; rintro e w4 ⟨rfl, hF4, -⟩; have hc4 : w4.cell? ⟨b, o + k, none⟩ = some (.slice A m c) := (hF4.bel.cell (p := ⟨b, o + k, none⟩) (cell_block_lt HC.out)).trans HC.out)
          go_wp2_with (go_at_call 16; refine (hF4.append f_small HL.out ((hlies.below hF4.bel).mono hF4.bel.size) (by have := HT.out.2.1; have := HN.out; omega) (appendD_off HT.out.1)).mono ?_; rintro e w5 ⟨rfl, hF5, -⟩)
          go_wp2_with (first
            | (go_at_call 21; refine (hF5.cut f_small (by have := HT.out.2.1; have := HN.out; omega) (cut_offD HT.out.1)).mono ?_; rintro e w6 ⟨rfl, hF6, -⟩)
            | (go_at_call 12; refine (hF6.up (u := false) (by rw [HT.out.1]; rfl)).mono ?_; rintro e w' ⟨rfl, rfl⟩)
            | (go_at_call 13; refine (hF6.deeds (n := (N : Int)) (by rw [HT.out.2.1])).mono ?_; rintro e w' ⟨rfl, rfl⟩)
            | (go_at_call 22; refine (hF6.names_off HT.out.1).mono ?_; rintro e w' ⟨rfl, rfl⟩)
            | (go_at_call 14; refine (hF6.on rfl).mono ?_; rintro e w7 ⟨rfl, hF7, -⟩)
            | (go_at_call 15; refine (awake_any _).mono ?_; rintro e w8 ⟨rfl, hb8⟩; have hF8 := (hF7.keep hb8).low (X' := fun _ => False) (fun _ h => h.elim); have hc8 : w8.cell? ⟨b, o + k, none⟩ = some (.slice A m c) := (hF8.bel.cell (p := ⟨b, o + k, none⟩) (cell_block_lt HC.out)).trans HC.out))
          go_wp2_with (go_at_call 16; refine (hF8.append f_small HL.out ((hlies.below hF8.bel).mono hF8.bel.size) (by have := HT.out.2.1; have := HN.out; show u.deeds < _; omega) e3).mono ?_; rintro e w9 ⟨rfl, hF9, -⟩)
          go_wp2_with (first
            | (go_at_call 17; refine (hF9.sync f_small htd2 e4).mono ?_; rintro e w10 ⟨rfl, hF10, -⟩)
            | (go_at_call 13; refine (hF10.deeds (n := (N : Int) + 2) (by rw [HT.out.2.2]; omega)).mono ?_; rintro e w' ⟨rfl, rfl⟩))
          go_ret
          exact ⟨rfl, hF10.bel⟩
        · -- both go well
          go_wp2_with (go_at_call 16; refine (hF.append f_small HL.out hlies' hsd e1).mono ?_; rintro e w3a ⟨rfl, hF3a, -⟩)
          go_wp2_with (go_at_call 17; refine (hF3a.sync f_small htd e2).mono ?_; rintro e w3 ⟨rfl, hF3, -⟩)
          go_roundw
          case rel => exact ⟨k + 1, u, by omega, by go_num, by go_num, hF3, hG2⟩
          case measure => simp [intOf]; omega
    · obtain rfl : k = len0 := by omega
      have hfin : (2 * (k : Int)) < (N : Int) := by have := hG.out.2.2.1; have := hG.out.2.2.2.1; omega
      have hoff := Lib.hid hG.out.1
      clear hG
      go_wp2_with (first
        | (go_at_call 15; refine (awake_any _).mono ?_; rintro e w8 ⟨rfl, hb8⟩; have hF8 := (hF.keep hb8).low (X' := fun _ => False) (fun _ h => h.elim))
        | (go_at_call 12; refine (hF8.up (u := true) (by rw [hoff.out]; rfl)).mono ?_; rintro e w' ⟨rfl, rfl⟩))
      go_ret
      exact ⟨rfl, hF8.bel⟩
end Go.Proofs.Ytkckpeejamidpaa.Dk
