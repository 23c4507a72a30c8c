/-
  The walk of DiskSafe: what was safe is there after any power cut. Conditions: none (the law looks at nothing longer).
-/
import Derived.Test.YtkckpeejamidpaaSafeSteps
import Derived.IntWalk
namespace Go.Proofs.Ytkckpeejamidpaa.Dk
open Go.RowKit Go.Proofs.Ytkckpeejamidpaa.Pk

theorem Kept.below {X : Nat → Prop} {w w' : World} (hx : ∀ b, X b → b < w.heap.size) (hb : Below w.heap.size w w') : Kept X w w' := fun b h => hb.block b (hx b h)
theorem lies_lb {w : World} {B : Nat} {A : Option Addr} {L lb : List UInt8} (h : Lies w B A L) (e : lb = L.take lb.length) : Lies w B A lb := by
  rw [e]; exact h.take _
theorem own_base {w : World} {base base' n : Nat} {v : Value} {xs : List Value} (h : w.ownsRow base' 5 1 v n xs) (hb : base ≤ base') : w.ownsRow base 5 1 v n xs := by
  refine ⟨h.1, ?_⟩
  rcases h.2 with h1 | ⟨g, cap, cur, rfl, hg, rest⟩
  · exact .inl h1
  · exact .inr ⟨g, cap, cur, rfl, Nat.le_trans hb hg, rest⟩
theorem own_drewN {w : World} {base n : Nat} {v : Value} {xs : List Value} (h : w.ownsRow base 5 1 v n xs) (q : Nat) : (w.drewN q).ownsRow base 5 1 v n xs := h
theorem row_more {X : Nat → Prop} {w3 w4 : World} {v v' : Value} {base n : Nat} {xs : List Value} (hX : ∀ g, v.ownBlock = some g → X g) (_hg : w3.grownBy w4 v.ownBlock) (hown : w4.ownsRow base 5 1 v' n xs) (hloc : v'.ownBlock = v.ownBlock ∨ v'.ownBlock = some w3.heap.size) : ∀ g, v'.ownBlock = some g → More X w3 w4 g := fun g hg => by
  rcases hloc with h | h
  · exact .inl (hX g (h ▸ hg))
  · rw [h] at hg
    have := Option.some.inj hg
    subst this
    exact .inr ⟨Nat.le_refl _, (hown.lt _ h).2⟩

set_option maxRecDepth 100000 in
set_option maxHeartbeats 4000000 in
theorem diskSafe_walk (a0 : Option Addr) (len0 cap0 : Nat) (a1 : Option Addr) (len1 cap1 : Nat) (a2 : Option Addr) (len2 cap2 : Nat) (w : World) (h0 : Pieces w a0 len0) (h1 : Bools w a1 len1) (h2 : Ints w a2 len2) :
    Calls Try.prog 4 #[.slice a0 len0 cap0, .slice a1 len1 cap1, .slice a2 len2 cap2] w fun e w' => e = .returned (.bool true) ∧ Below w.heap.size w w' := by
  obtain ⟨hm, hp⟩ := h0
  obtain ⟨hm1, hp1⟩ := h1
  obtain ⟨hm2, hp2⟩ := h2
  unfold maxLen at hm hm1 hm2
  by_cases hbig : 100 < len0
  · have hbi : (100 : Int) < (len0 : Int) := by omega
    go_enter Try.func4, Try.ntmps4
    go_wp2
    go_ret
    exact ⟨rfl, Below.refl _ _⟩
  have hbi : ¬ (100 : Int) < (len0 : Int) := by omega
  have HP := Lib.hid hp
  have HP1 := Lib.hid hp1
  have HP2 := Lib.hid hp2
  clear hp hp1 hp2
  go_enter Try.func4, Try.ntmps4
  go_wp2_with (first
    | (go_at_call 10; refine (Fresh.new (X := fun _ => False) (fun _ h => h.elim) (Below.refl w.heap.size w)).mono ?_; rintro e w1 ⟨d, rfl, hF, -⟩))
  go_loopw [8, 9, 10] (fun al sf i wr => ∃ (k q : Nat) (s : Ds) (l : List UInt8) (X : Nat → Prop), k ≤ len0 ∧ i = .int .i64 k ∧ sf = .int .i64 q ∧ wr.ownsRow w.heap.size 5 1 al l.length (cells l) ∧ (∀ g, al.ownBlock = some g → X g) ∧ Fresh X w wr d s ∧ Hid (SafeSt k s l q)) (fun _ _ i _ => len0 - (intOf i).toNat)
  case atStart => exact ⟨0, 0, _, [], _, Nat.zero_le _, rfl, rfl, World.ownsRow_nil _ _ _ _, (fun g hg => by cases hg), hF, ⟨rfl, rfl, Nat.le_refl _, rfl, Nat.le_refl _, Nat.le_refl _⟩⟩
  case round =>
    obtain ⟨k, q, s, l, X, hk, rfl, rfl, hown, hX, hFr, hS⟩ := hrel
    clear hF
    by_cases hlt : k < len0
    · obtain ⟨b, o, A, m, c, l', rfl, hc, hml, hll, hlies⟩ := HP.out k hlt
      have hkl : (k : Int) < (len0 : Int) := by omega
      have hc' : wr.cell? ⟨b, o + k, none⟩ = some (.slice A m c) := (hFr.bel.cell (p := ⟨b, o + k, none⟩) (cell_block_lt hc)).trans hc
      by_cases hlong : 256 < m
      · have hlo : (256 : Int) < (m : Int) := by omega
        go_wp2
        go_ret
        exact ⟨rfl, hFr.bel⟩
      · have hlo : (m : Int) ≤ 256 := by omega
        obtain ⟨t, e1, hM, htd⟩ := safe_append (l' := l') hS.out (by omega) (by omega)
        have hsd : s.deeds < 4611686018427387904 := by have := hS.out.2.2.1; omega
        have hll0 : l.length ≤ 25600 := by have := hS.out.2.2.2.2.2; omega
        have hlies' : Lies wr wr.heap.size A l' := (hlies.below hFr.bel).mono hFr.bel.size
        have HL := Lib.hid hll
        have HC := Lib.hid hc
        have HM := Lib.hid (And.intro hM htd)
        obtain ⟨Aa, ca, rfl, -, -⟩ := own_cap hown
        clear hll hc hM htd hS
        obtain ⟨N, hN⟩ : ∃ N, N = l.length + m := ⟨_, rfl⟩
        have HLL := Lib.hid hN.symm
        have hN1 : N ≤ 25900 := by omega
        clear hN
        by_cases hy : k < len1
        · obtain ⟨b1, o1, x1, rfl, hcb⟩ := HP1.out k hy
          have hyl : (k : Int) < (len1 : Int) := by omega
          cases x1
          · have HCb := Lib.hid hcb
            clear hcb
            by_cases hz : k < len2
            · obtain ⟨b2, o2, x2, rfl, hci, hx1, hx2⟩ := HP2.out k hz
              have hzl : (k : Int) < (len2 : Int) := by omega
              have HCi := Lib.hid hci
              clear hci
              by_cases hpos : 0 ≤ x2
              · skip
                go_wp2_with (first
                  | (go_at_call 16; refine (hFr.append f_small HL.out hlies' hsd e1).mono ?_; rintro e w3 ⟨rfl, hF3, hK3⟩; have hown3 := hK3.own hown hX; have hc3 : w3.cell? ⟨b, o + k, none⟩ = some (.slice A m c) := (hF3.bel.cell (p := ⟨b, o + k, none⟩) (cell_block_lt HC.out)).trans HC.out; have hlies3 : Lies w3 w3.heap.size A l' := (hlies.below hF3.bel).mono hF3.bel.size; clear hK3 hown hc' hlies')
                  | (at_builtin; refine wpList_append_bytes_at rfl (.tmp 40) (.tmp 44) rfl w.heap.size (.slice Aa l.length ca) l.length l rfl hown3 A m c l' rfl HL.out w3.heap.size hlies3 (by omega) hF3.size ?_; intro v' w4 hown4 hg4 hloc4; have hF4 := hF3.grown hg4 (fun g hg => ⟨hX g hg, (hown3.lt g hg).1⟩); have hX4 := row_more (X := X) hX hg4 hown4 hloc4; obtain ⟨A4, c4, rfl, hcap4, -⟩ := own_cap hown4; clear hg4 hloc4; rw [HLL.out] at hown4 hX4 hcap4 ⊢; have hcb4 : w4.cell? ⟨b1, o1 + k, none⟩ = some (.bool false) := (hF4.bel.cell (p := ⟨b1, o1 + k, none⟩) (cell_block_lt HCb.out)).trans HCb.out; have hci4 : w4.cell? ⟨b2, o2 + k, none⟩ = some (.int .i64 x2) := (hF4.bel.cell (p := ⟨b2, o2 + k, none⟩) (cell_block_lt HCi.out)).trans HCi.out; clear hown3 hc3 hlies3))
                obtain ⟨lb, g1, g2, g3, g4, g5, g6, g7⟩ := safe_cut (c := x2 % 300) HM.out.1
                have HG1 := Lib.hid g1
                have HG2 := Lib.hid g2
                have HLc : Hid ((l ++ l').length = N) := by have := HLL.out; have := HL.out; show _ = _; simp only [List.length_append]; omega
                clear g1 g2
                go_wp2_with (go_at_call 18; refine (hF4.off (by omega) (by omega) rfl).mono ?_; rintro e w6 ⟨rfl, hF6, hK6⟩; have hown6 := hK6.own hown4 hX4; clear hK6 hown4)
                go_wp2_with (go_at_call 19; refine (hF6.read f_small g3 g4).mono ?_; rintro e w7 ⟨A7, c7, rfl, -, -, hF7, hb7⟩; have hown7 := (Kept.below hF6.1 hb7).own hown6 hX4; clear hb7 hown6)
                go_wp2_with (go_at_call 14; refine (hF7.on rfl).mono ?_; rintro e w8 ⟨rfl, hF8, hK8⟩; have hown8 := hK8.own hown7 (fun g hg => .inl (hX4 g hg)); clear hK8 hown7)
                go_wp2_with (go_at_call 19; refine (hF8.read f_small g5 g6).mono ?_; rintro e w9 ⟨A9, c9, rfl, hownb, hX9, hF9, hb9⟩; have hown9 := (Kept.below hF8.1 hb9).own hown8 (fun g hg => .inl (hX4 g hg)); clear hb9 hown8)
                have hci9 : w9.cell? ⟨b2, o2 + k, none⟩ = some (.int .i64 x2) := (hF9.bel.cell (p := ⟨b2, o2 + k, none⟩) (cell_block_lt HCi.out)).trans HCi.out
                have hq5 : q ≤ N := by have := (HM.out.1).2.2.2.2.1; have := HLc.out; omega
                have hb1 : lb.length ≤ N := by have := HG2.out; have := HLc.out; omega
                have f1 : decide (lb.length < q) = false := by have := HG2.out; have := HLc.out; simp; omega
                have f2 : decide (N < lb.length) = false := by simp; omega
                have f3 : ((lb.length : Int) != min (N : Int) ((q : Int) + x2 % 300)) = false := by have := HG2.out; have := HLc.out; simp; omega
                have hcb9 : ∀ nq, (convert 31 9 (.slice A9 lb.length c9)).run Try.prog (w9.drewN nq) = .ok (.string ⟨lb.toArray⟩) (w9.drewN nq) := fun nq => conv_str rfl ((Lies.of_own hownb).drewN nq)
                have hca9 : ∀ nq, (convert 31 9 (.slice A4 lb.length c4)).run Try.prog (w9.drewN nq) = .ok (.string ⟨lb.toArray⟩) (w9.drewN nq) := fun nq => conv_str rfl ((lies_lb (Lies.of_own hown9) HG1.out).drewN nq)
                have hb2 : (lb.length : Int) ≤ (c4 : Int) := by omega
                have hwr : IntKind.i64.wrap ((q : Int) + x2 % 300) = (q : Int) + x2 % 300 := IntWalk.i64_in _ (by omega)
                have htm : x2.tmod 300 = x2 % 300 := Int.tmod_eq_emod_of_nonneg hpos
                go_quiet (fail)
                clear hwr htm hcb9 hca9 f1 f2 f3
                go_wp2
                go_roundw
                case rel => exact ⟨k + 1, lb.length, _, lb, _, by omega, by go_num, rfl, own_base (own_drewN hownb nq) hF8.size, hX9, hF9.drewN nq, g7⟩
                case measure => simp [intOf]; omega
              · have hneg : ¬ (0 : Int) ≤ x2 := hpos
                go_wp2_with (first
                  | (go_at_call 16; refine (hFr.append f_small HL.out hlies' hsd e1).mono ?_; rintro e w3 ⟨rfl, hF3, hK3⟩; have hown3 := hK3.own hown hX; have hc3 : w3.cell? ⟨b, o + k, none⟩ = some (.slice A m c) := (hF3.bel.cell (p := ⟨b, o + k, none⟩) (cell_block_lt HC.out)).trans HC.out; have hlies3 : Lies w3 w3.heap.size A l' := (hlies.below hF3.bel).mono hF3.bel.size; clear hK3 hown hc' hlies')
                  | (at_builtin; refine wpList_append_bytes_at rfl (.tmp 40) (.tmp 44) rfl w.heap.size (.slice Aa l.length ca) l.length l rfl hown3 A m c l' rfl HL.out w3.heap.size hlies3 (by omega) hF3.size ?_; intro v' w4 hown4 hg4 hloc4; have hF4 := hF3.grown hg4 (fun g hg => ⟨hX g hg, (hown3.lt g hg).1⟩); have hX4 := row_more (X := X) hX hg4 hown4 hloc4; obtain ⟨A4, c4, rfl, hcap4, -⟩ := own_cap hown4; clear hg4 hloc4; rw [HLL.out] at hown4 hX4 hcap4 ⊢; have hcb4 : w4.cell? ⟨b1, o1 + k, none⟩ = some (.bool false) := (hF4.bel.cell (p := ⟨b1, o1 + k, none⟩) (cell_block_lt HCb.out)).trans HCb.out; have hci4 : w4.cell? ⟨b2, o2 + k, none⟩ = some (.int .i64 x2) := (hF4.bel.cell (p := ⟨b2, o2 + k, none⟩) (cell_block_lt HCi.out)).trans HCi.out; clear hown3 hc3 hlies3))
                have HLc : Hid ((l ++ l').length = N) := by have := HLL.out; have := HL.out; show _ = _; simp only [List.length_append]; omega
                go_roundw
                case rel => exact ⟨k + 1, q, _, l ++ l', _, by omega, by go_num, rfl, by rw [HLc.out]; exact hown4, hX4, hF4, safe_next HM.out.1⟩
                case measure => simp [intOf]; omega
            · have hzl : decide (k < len2) = false := by simpa using hz
              go_wp2_with (first
                | (go_at_call 16; refine (hFr.append f_small HL.out hlies' hsd e1).mono ?_; rintro e w3 ⟨rfl, hF3, hK3⟩; have hown3 := hK3.own hown hX; have hc3 : w3.cell? ⟨b, o + k, none⟩ = some (.slice A m c) := (hF3.bel.cell (p := ⟨b, o + k, none⟩) (cell_block_lt HC.out)).trans HC.out; have hlies3 : Lies w3 w3.heap.size A l' := (hlies.below hF3.bel).mono hF3.bel.size; clear hK3 hown hc' hlies')
                | (at_builtin; refine wpList_append_bytes_at rfl (.tmp 40) (.tmp 44) rfl w.heap.size (.slice Aa l.length ca) l.length l rfl hown3 A m c l' rfl HL.out w3.heap.size hlies3 (by omega) hF3.size ?_; intro v' w4 hown4 hg4 hloc4; have hF4 := hF3.grown hg4 (fun g hg => ⟨hX g hg, (hown3.lt g hg).1⟩); have hX4 := row_more (X := X) hX hg4 hown4 hloc4; obtain ⟨A4, c4, rfl, hcap4, -⟩ := own_cap hown4; clear hg4 hloc4; rw [HLL.out] at hown4 hX4 hcap4 ⊢; have hcb4 : w4.cell? ⟨b1, o1 + k, none⟩ = some (.bool false) := (hF4.bel.cell (p := ⟨b1, o1 + k, none⟩) (cell_block_lt HCb.out)).trans HCb.out; clear hown3 hc3 hlies3))
              have HLc : Hid ((l ++ l').length = N) := by have := HLL.out; have := HL.out; show _ = _; simp only [List.length_append]; omega
              go_roundw
              case rel => exact ⟨k + 1, q, _, l ++ l', _, by omega, by go_num, rfl, by rw [HLc.out]; exact hown4, hX4, hF4, safe_next HM.out.1⟩
              case measure => simp [intOf]; omega
          · have HCb := Lib.hid hcb
            clear hcb
            obtain ⟨u, e2, hU⟩ := safe_sync HM.out.1 HM.out.2
            have HLc0 : Hid ((l ++ l').length = N) := by have := HLL.out; have := HL.out; show _ = _; simp only [List.length_append]; omega
            rw [HLc0.out] at hU
            have HU := Lib.hid hU
            clear hU
            by_cases hz : k < len2
            · obtain ⟨b2, o2, x2, rfl, hci, hx1, hx2⟩ := HP2.out k hz
              have hzl : (k : Int) < (len2 : Int) := by omega
              have HCi := Lib.hid hci
              clear hci
              by_cases hpos : 0 ≤ x2
              · skip
                go_wp2_with (first
                  | (go_at_call 16; refine (hFr.append f_small HL.out hlies' hsd e1).mono ?_; rintro e w3 ⟨rfl, hF3, hK3⟩; have hown3 := hK3.own hown hX; have hc3 : w3.cell? ⟨b, o + k, none⟩ = some (.slice A m c) := (hF3.bel.cell (p := ⟨b, o + k, none⟩) (cell_block_lt HC.out)).trans HC.out; have hlies3 : Lies w3 w3.heap.size A l' := (hlies.below hF3.bel).mono hF3.bel.size; clear hK3 hown hc' hlies')
                  | (at_builtin; refine wpList_append_bytes_at rfl (.tmp 40) (.tmp 44) rfl w.heap.size (.slice Aa l.length ca) l.length l rfl hown3 A m c l' rfl HL.out w3.heap.size hlies3 (by omega) hF3.size ?_; intro v' w4 hown4 hg4 hloc4; have hF4 := hF3.grown hg4 (fun g hg => ⟨hX g hg, (hown3.lt g hg).1⟩); have hX4 := row_more (X := X) hX hg4 hown4 hloc4; obtain ⟨A4, c4, rfl, hcap4, -⟩ := own_cap hown4; clear hg4 hloc4; rw [HLL.out] at hown4 hX4 hcap4 ⊢; have hcb4 : w4.cell? ⟨b1, o1 + k, none⟩ = some (.bool true) := (hF4.bel.cell (p := ⟨b1, o1 + k, none⟩) (cell_block_lt HCb.out)).trans HCb.out; have hci4 : w4.cell? ⟨b2, o2 + k, none⟩ = some (.int .i64 x2) := (hF4.bel.cell (p := ⟨b2, o2 + k, none⟩) (cell_block_lt HCi.out)).trans HCi.out; clear hown3 hc3 hlies3)
                  | (go_at_call 17; refine (hF4.sync f_small (by have := HM.out.2; omega) e2).mono ?_; rintro e w5 ⟨rfl, hF5, hK5⟩; have hown5 := hK5.own hown4 hX4; have hci5 : w5.cell? ⟨b2, o2 + k, none⟩ = some (.int .i64 x2) := (hF5.bel.cell (p := ⟨b2, o2 + k, none⟩) (cell_block_lt HCi.out)).trans HCi.out; clear hK5 hown4))
                obtain ⟨lb, g1, g2, g3, g4, g5, g6, g7⟩ := safe_cut (c := x2 % 300) HU.out
                have HG1 := Lib.hid g1
                have HG2 := Lib.hid g2
                have HLc : Hid ((l ++ l').length = N) := by have := HLL.out; have := HL.out; show _ = _; simp only [List.length_append]; omega
                clear g1 g2
                go_wp2_with (go_at_call 18; refine (hF5.off (by omega) (by omega) rfl).mono ?_; rintro e w6 ⟨rfl, hF6, hK6⟩; have hown6 := hK6.own hown5 hX4; clear hK6 hown5)
                go_wp2_with (go_at_call 19; refine (hF6.read f_small g3 g4).mono ?_; rintro e w7 ⟨A7, c7, rfl, -, -, hF7, hb7⟩; have hown7 := (Kept.below hF6.1 hb7).own hown6 hX4; clear hb7 hown6)
                go_wp2_with (go_at_call 14; refine (hF7.on rfl).mono ?_; rintro e w8 ⟨rfl, hF8, hK8⟩; have hown8 := hK8.own hown7 (fun g hg => .inl (hX4 g hg)); clear hK8 hown7)
                go_wp2_with (go_at_call 19; refine (hF8.read f_small g5 g6).mono ?_; rintro e w9 ⟨A9, c9, rfl, hownb, hX9, hF9, hb9⟩; have hown9 := (Kept.below hF8.1 hb9).own hown8 (fun g hg => .inl (hX4 g hg)); clear hb9 hown8)
                have hci9 : w9.cell? ⟨b2, o2 + k, none⟩ = some (.int .i64 x2) := (hF9.bel.cell (p := ⟨b2, o2 + k, none⟩) (cell_block_lt HCi.out)).trans HCi.out
                have hq5 : N ≤ N := by have := (HU.out).2.2.2.2.1; have := HLc.out; omega
                have hb1 : lb.length ≤ N := by have := HG2.out; have := HLc.out; omega
                have f1 : decide (lb.length < N) = false := by have := HG2.out; have := HLc.out; simp; omega
                have f2 : decide (N < lb.length) = false := by simp; omega
                have f3 : ((lb.length : Int) != min (N : Int) ((N : Int) + x2 % 300)) = false := by have := HG2.out; have := HLc.out; simp; omega
                have hcb9 : ∀ nq, (convert 31 9 (.slice A9 lb.length c9)).run Try.prog (w9.drewN nq) = .ok (.string ⟨lb.toArray⟩) (w9.drewN nq) := fun nq => conv_str rfl ((Lies.of_own hownb).drewN nq)
                have hca9 : ∀ nq, (convert 31 9 (.slice A4 lb.length c4)).run Try.prog (w9.drewN nq) = .ok (.string ⟨lb.toArray⟩) (w9.drewN nq) := fun nq => conv_str rfl ((lies_lb (Lies.of_own hown9) HG1.out).drewN nq)
                have hb2 : (lb.length : Int) ≤ (c4 : Int) := by omega
                have hwr : IntKind.i64.wrap ((N : Int) + x2 % 300) = (N : Int) + x2 % 300 := IntWalk.i64_in _ (by omega)
                have htm : x2.tmod 300 = x2 % 300 := Int.tmod_eq_emod_of_nonneg hpos
                go_quiet (fail)
                clear hwr htm hcb9 hca9 f1 f2 f3
                go_wp2
                go_roundw
                case rel => exact ⟨k + 1, lb.length, _, lb, _, by omega, by go_num, rfl, own_base (own_drewN hownb nq) hF8.size, hX9, hF9.drewN nq, g7⟩
                case measure => simp [intOf]; omega
              · have hneg : ¬ (0 : Int) ≤ x2 := hpos
                go_wp2_with (first
                  | (go_at_call 16; refine (hFr.append f_small HL.out hlies' hsd e1).mono ?_; rintro e w3 ⟨rfl, hF3, hK3⟩; have hown3 := hK3.own hown hX; have hc3 : w3.cell? ⟨b, o + k, none⟩ = some (.slice A m c) := (hF3.bel.cell (p := ⟨b, o + k, none⟩) (cell_block_lt HC.out)).trans HC.out; have hlies3 : Lies w3 w3.heap.size A l' := (hlies.below hF3.bel).mono hF3.bel.size; clear hK3 hown hc' hlies')
                  | (at_builtin; refine wpList_append_bytes_at rfl (.tmp 40) (.tmp 44) rfl w.heap.size (.slice Aa l.length ca) l.length l rfl hown3 A m c l' rfl HL.out w3.heap.size hlies3 (by omega) hF3.size ?_; intro v' w4 hown4 hg4 hloc4; have hF4 := hF3.grown hg4 (fun g hg => ⟨hX g hg, (hown3.lt g hg).1⟩); have hX4 := row_more (X := X) hX hg4 hown4 hloc4; obtain ⟨A4, c4, rfl, hcap4, -⟩ := own_cap hown4; clear hg4 hloc4; rw [HLL.out] at hown4 hX4 hcap4 ⊢; have hcb4 : w4.cell? ⟨b1, o1 + k, none⟩ = some (.bool true) := (hF4.bel.cell (p := ⟨b1, o1 + k, none⟩) (cell_block_lt HCb.out)).trans HCb.out; have hci4 : w4.cell? ⟨b2, o2 + k, none⟩ = some (.int .i64 x2) := (hF4.bel.cell (p := ⟨b2, o2 + k, none⟩) (cell_block_lt HCi.out)).trans HCi.out; clear hown3 hc3 hlies3)
                  | (go_at_call 17; refine (hF4.sync f_small (by have := HM.out.2; omega) e2).mono ?_; rintro e w5 ⟨rfl, hF5, hK5⟩; have hown5 := hK5.own hown4 hX4; have hci5 : w5.cell? ⟨b2, o2 + k, none⟩ = some (.int .i64 x2) := (hF5.bel.cell (p := ⟨b2, o2 + k, none⟩) (cell_block_lt HCi.out)).trans HCi.out; clear hK5 hown4))
                have HLc : Hid ((l ++ l').length = N) := by have := HLL.out; have := HL.out; show _ = _; simp only [List.length_append]; omega
                go_roundw
                case rel => exact ⟨k + 1, N, _, l ++ l', _, by omega, by go_num, rfl, by rw [HLc.out]; exact hown5, hX4, hF5, safe_next HU.out⟩
                case measure => simp [intOf]; omega
            · have hzl : decide (k < len2) = false := by simpa using hz
              go_wp2_with (first
                | (go_at_call 16; refine (hFr.append f_small HL.out hlies' hsd e1).mono ?_; rintro e w3 ⟨rfl, hF3, hK3⟩; have hown3 := hK3.own hown hX; have hc3 : w3.cell? ⟨b, o + k, none⟩ = some (.slice A m c) := (hF3.bel.cell (p := ⟨b, o + k, none⟩) (cell_block_lt HC.out)).trans HC.out; have hlies3 : Lies w3 w3.heap.size A l' := (hlies.below hF3.bel).mono hF3.bel.size; clear hK3 hown hc' hlies')
                | (at_builtin; refine wpList_append_bytes_at rfl (.tmp 40) (.tmp 44) rfl w.heap.size (.slice Aa l.length ca) l.length l rfl hown3 A m c l' rfl HL.out w3.heap.size hlies3 (by omega) hF3.size ?_; intro v' w4 hown4 hg4 hloc4; have hF4 := hF3.grown hg4 (fun g hg => ⟨hX g hg, (hown3.lt g hg).1⟩); have hX4 := row_more (X := X) hX hg4 hown4 hloc4; obtain ⟨A4, c4, rfl, hcap4, -⟩ := own_cap hown4; clear hg4 hloc4; rw [HLL.out] at hown4 hX4 hcap4 ⊢; have hcb4 : w4.cell? ⟨b1, o1 + k, none⟩ = some (.bool true) := (hF4.bel.cell (p := ⟨b1, o1 + k, none⟩) (cell_block_lt HCb.out)).trans HCb.out; clear hown3 hc3 hlies3)
                | (go_at_call 17; refine (hF4.sync f_small (by have := HM.out.2; omega) e2).mono ?_; rintro e w5 ⟨rfl, hF5, hK5⟩; have hown5 := hK5.own hown4 hX4; clear hK5 hown4))
              have HLc : Hid ((l ++ l').length = N) := by have := HLL.out; have := HL.out; show _ = _; simp only [List.length_append]; omega
              go_roundw
              case rel => exact ⟨k + 1, N, _, l ++ l', _, by omega, by go_num, rfl, by rw [HLc.out]; exact hown5, hX4, hF5, safe_next HU.out⟩
              case measure => simp [intOf]; omega
        · have hyl : decide (k < len1) = false := by simpa using hy
          by_cases hz : k < len2
          · obtain ⟨b2, o2, x2, rfl, hci, hx1, hx2⟩ := HP2.out k hz
            have hzl : (k : Int) < (len2 : Int) := by omega
            have HCi := Lib.hid hci
            clear hci
            by_cases hpos : 0 ≤ x2
            · skip
              go_wp2_with (first
                | (go_at_call 16; refine (hFr.append f_small HL.out hlies' hsd e1).mono ?_; rintro e w3 ⟨rfl, hF3, hK3⟩; have hown3 := hK3.own hown hX; have hc3 : w3.cell? ⟨b, o + k, none⟩ = some (.slice A m c) := (hF3.bel.cell (p := ⟨b, o + k, none⟩) (cell_block_lt HC.out)).trans HC.out; have hlies3 : Lies w3 w3.heap.size A l' := (hlies.below hF3.bel).mono hF3.bel.size; clear hK3 hown hc' hlies')
                | (at_builtin; refine wpList_append_bytes_at rfl (.tmp 40) (.tmp 44) rfl w.heap.size (.slice Aa l.length ca) l.length l rfl hown3 A m c l' rfl HL.out w3.heap.size hlies3 (by omega) hF3.size ?_; intro v' w4 hown4 hg4 hloc4; have hF4 := hF3.grown hg4 (fun g hg => ⟨hX g hg, (hown3.lt g hg).1⟩); have hX4 := row_more (X := X) hX hg4 hown4 hloc4; obtain ⟨A4, c4, rfl, hcap4, -⟩ := own_cap hown4; clear hg4 hloc4; rw [HLL.out] at hown4 hX4 hcap4 ⊢; have hci4 : w4.cell? ⟨b2, o2 + k, none⟩ = some (.int .i64 x2) := (hF4.bel.cell (p := ⟨b2, o2 + k, none⟩) (cell_block_lt HCi.out)).trans HCi.out; clear hown3 hc3 hlies3))
              obtain ⟨lb, g1, g2, g3, g4, g5, g6, g7⟩ := safe_cut (c := x2 % 300) HM.out.1
              have HG1 := Lib.hid g1
              have HG2 := Lib.hid g2
              have HLc : Hid ((l ++ l').length = N) := by have := HLL.out; have := HL.out; show _ = _; simp only [List.length_append]; omega
              clear g1 g2
              go_wp2_with (go_at_call 18; refine (hF4.off (by omega) (by omega) rfl).mono ?_; rintro e w6 ⟨rfl, hF6, hK6⟩; have hown6 := hK6.own hown4 hX4; clear hK6 hown4)
              go_wp2_with (go_at_call 19; refine (hF6.read f_small g3 g4).mono ?_; rintro e w7 ⟨A7, c7, rfl, -, -, hF7, hb7⟩; have hown7 := (Kept.below hF6.1 hb7).own hown6 hX4; clear hb7 hown6)
              go_wp2_with (go_at_call 14; refine (hF7.on rfl).mono ?_; rintro e w8 ⟨rfl, hF8, hK8⟩; have hown8 := hK8.own hown7 (fun g hg => .inl (hX4 g hg)); clear hK8 hown7)
              go_wp2_with (go_at_call 19; refine (hF8.read f_small g5 g6).mono ?_; rintro e w9 ⟨A9, c9, rfl, hownb, hX9, hF9, hb9⟩; have hown9 := (Kept.below hF8.1 hb9).own hown8 (fun g hg => .inl (hX4 g hg)); clear hb9 hown8)
              have hci9 : w9.cell? ⟨b2, o2 + k, none⟩ = some (.int .i64 x2) := (hF9.bel.cell (p := ⟨b2, o2 + k, none⟩) (cell_block_lt HCi.out)).trans HCi.out
              have hq5 : q ≤ N := by have := (HM.out.1).2.2.2.2.1; have := HLc.out; omega
              have hb1 : lb.length ≤ N := by have := HG2.out; have := HLc.out; omega
              have f1 : decide (lb.length < q) = false := by have := HG2.out; have := HLc.out; simp; omega
              have f2 : decide (N < lb.length) = false := by simp; omega
              have f3 : ((lb.length : Int) != min (N : Int) ((q : Int) + x2 % 300)) = false := by have := HG2.out; have := HLc.out; simp; omega
              have hcb9 : ∀ nq, (convert 31 9 (.slice A9 lb.length c9)).run Try.prog (w9.drewN nq) = .ok (.string ⟨lb.toArray⟩) (w9.drewN nq) := fun nq => conv_str rfl ((Lies.of_own hownb).drewN nq)
              have hca9 : ∀ nq, (convert 31 9 (.slice A4 lb.length c4)).run Try.prog (w9.drewN nq) = .ok (.string ⟨lb.toArray⟩) (w9.drewN nq) := fun nq => conv_str rfl ((lies_lb (Lies.of_own hown9) HG1.out).drewN nq)
              have hb2 : (lb.length : Int) ≤ (c4 : Int) := by omega
              have hwr : IntKind.i64.wrap ((q : Int) + x2 % 300) = (q : Int) + x2 % 300 := IntWalk.i64_in _ (by omega)
              have htm : x2.tmod 300 = x2 % 300 := Int.tmod_eq_emod_of_nonneg hpos
              go_quiet (fail)
              clear hwr htm hcb9 hca9 f1 f2 f3
              go_wp2
              go_roundw
              case rel => exact ⟨k + 1, lb.length, _, lb, _, by omega, by go_num, rfl, own_base (own_drewN hownb nq) hF8.size, hX9, hF9.drewN nq, g7⟩
              case measure => simp [intOf]; omega
            · have hneg : ¬ (0 : Int) ≤ x2 := hpos
              go_wp2_with (first
                | (go_at_call 16; refine (hFr.append f_small HL.out hlies' hsd e1).mono ?_; rintro e w3 ⟨rfl, hF3, hK3⟩; have hown3 := hK3.own hown hX; have hc3 : w3.cell? ⟨b, o + k, none⟩ = some (.slice A m c) := (hF3.bel.cell (p := ⟨b, o + k, none⟩) (cell_block_lt HC.out)).trans HC.out; have hlies3 : Lies w3 w3.heap.size A l' := (hlies.below hF3.bel).mono hF3.bel.size; clear hK3 hown hc' hlies')
                | (at_builtin; refine wpList_append_bytes_at rfl (.tmp 40) (.tmp 44) rfl w.heap.size (.slice Aa l.length ca) l.length l rfl hown3 A m c l' rfl HL.out w3.heap.size hlies3 (by omega) hF3.size ?_; intro v' w4 hown4 hg4 hloc4; have hF4 := hF3.grown hg4 (fun g hg => ⟨hX g hg, (hown3.lt g hg).1⟩); have hX4 := row_more (X := X) hX hg4 hown4 hloc4; obtain ⟨A4, c4, rfl, hcap4, -⟩ := own_cap hown4; clear hg4 hloc4; rw [HLL.out] at hown4 hX4 hcap4 ⊢; have hci4 : w4.cell? ⟨b2, o2 + k, none⟩ = some (.int .i64 x2) := (hF4.bel.cell (p := ⟨b2, o2 + k, none⟩) (cell_block_lt HCi.out)).trans HCi.out; clear hown3 hc3 hlies3))
              have HLc : Hid ((l ++ l').length = N) := by have := HLL.out; have := HL.out; show _ = _; simp only [List.length_append]; omega
              go_roundw
              case rel => exact ⟨k + 1, q, _, l ++ l', _, by omega, by go_num, rfl, by rw [HLc.out]; exact hown4, hX4, hF4, safe_next HM.out.1⟩
              case measure => simp [intOf]; omega
          · have hzl : decide (k < len2) = false := by simpa using hz
            go_wp2_with (first
              | (go_at_call 16; refine (hFr.append f_small HL.out hlies' hsd e1).mono ?_; rintro e w3 ⟨rfl, hF3, hK3⟩; have hown3 := hK3.own hown hX; have hc3 : w3.cell? ⟨b, o + k, none⟩ = some (.slice A m c) := (hF3.bel.cell (p := ⟨b, o + k, none⟩) (cell_block_lt HC.out)).trans HC.out; have hlies3 : Lies w3 w3.heap.size A l' := (hlies.below hF3.bel).mono hF3.bel.size; clear hK3 hown hc' hlies')
              | (at_builtin; refine wpList_append_bytes_at rfl (.tmp 40) (.tmp 44) rfl w.heap.size (.slice Aa l.length ca) l.length l rfl hown3 A m c l' rfl HL.out w3.heap.size hlies3 (by omega) hF3.size ?_; intro v' w4 hown4 hg4 hloc4; have hF4 := hF3.grown hg4 (fun g hg => ⟨hX g hg, (hown3.lt g hg).1⟩); have hX4 := row_more (X := X) hX hg4 hown4 hloc4; obtain ⟨A4, c4, rfl, hcap4, -⟩ := own_cap hown4; clear hg4 hloc4; rw [HLL.out] at hown4 hX4 hcap4 ⊢; clear hown3 hc3 hlies3))
            have HLc : Hid ((l ++ l').length = N) := by have := HLL.out; have := HL.out; show _ = _; simp only [List.length_append]; omega
            go_roundw
            case rel => exact ⟨k + 1, q, _, l ++ l', _, by omega, by go_num, rfl, by rw [HLc.out]; exact hown4, hX4, hF4, safe_next HM.out.1⟩
            case measure => simp [intOf]; omega
    · have hge : ¬ (k : Int) < (len0 : Int) := by omega
      go_wp2_with (go_at_call 15; refine (awake_any _).mono ?_; rintro e w8 ⟨rfl, hb8⟩)
      go_ret
      exact ⟨rfl, (hFr.keep hb8).bel⟩
end Go.Proofs.Ytkckpeejamidpaa.Dk
