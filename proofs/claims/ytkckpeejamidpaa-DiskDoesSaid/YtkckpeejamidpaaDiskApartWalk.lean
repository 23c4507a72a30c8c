/-
  The walk of DiskApart: what is done to a file is nothing to another one. Conditions: none (the law looks at nothing longer).
-/
import Derived.Test.YtkckpeejamidpaaMeet
namespace Go.Proofs.Ytkckpeejamidpaa.Dk
open Go.RowKit Go.Proofs.Ytkckpeejamidpaa.Pk

/-- The script is looked at. -/
def Fit (w : World) (a : Option Addr) (len : Nat) : Prop := len ≤ 300 ∧ ∀ i, i < len → ∃ b o kind n keep name A m c l, a = some ⟨b, o, none⟩ ∧ OpIn w b (o + i * 5) kind n keep name A m c l ∧ m ≤ 1024

set_option maxRecDepth 100000 in
set_option maxHeartbeats 1000000 in
theorem small_no {a : Option Addr} {len cap : Nat} {w : World} (h : Ops w a len) (hf : ¬ Fit w a len) :
    Calls Try.prog 9 #[.slice a len cap] w fun e w' => e = .returned (.bool false) ∧ w = w' := by
  refine (small_any h).mono ?_
  rintro e w' ⟨rfl, h1 | ⟨_, h2⟩⟩
  · exact ⟨h1, rfl⟩
  · exact absurd h2 hf
set_option maxRecDepth 100000 in
set_option maxHeartbeats 1000000 in
theorem small_yes {a : Option Addr} {len cap : Nat} {w : World} (hf : Fit w a len) :
    Calls Try.prog 9 #[.slice a len cap] w fun e w' => e = .returned (.bool true) ∧ w = w' := by
  obtain ⟨hm, hp⟩ := hf
  have hbi : ¬ (300 : Int) < (len : Int) := by omega
  have HP := Lib.hid hp
  clear hp
  go_enter Try.func9, Try.ntmps9
  go_wp2
  go_loopw [3] (fun i wr => ∃ k : Nat, k ≤ len ∧ i = .int .i64 k ∧ wr = w) (fun i _ => len - (intOf i).toNat)
  case atStart => exact ⟨0, Nat.zero_le _, rfl, rfl⟩
  case round =>
    obtain ⟨k, hk, rfl, rfl⟩ := hrel
    by_cases hlt : k < len
    · obtain ⟨b, o, kind, n, keep, name, A, m, c, l, rfl, hO, hml⟩ := HP.out k hlt
      have c2 := hO.c2
      have hkl : (k : Int) < (len : Int) := by omega
      have hlo : ¬ (1024 : Int) < (m : Int) := by omega
      clear hO
      go_wp2_with fail
      go_roundw
      case rel => exact ⟨k + 1, by omega, by go_num, by first | rfl | trivial⟩
      case measure => simp [intOf]; omega
    · have hge : (len : Int) ≤ (k : Int) := by omega
      go_wp2
      go_ret
      exact ⟨rfl, rfl⟩

/-- The name of the file that is kept. -/
def KB : ByteArray := ⟨#[107, 101, 112, 116]⟩
theorem kb_small : KB.size ≤ maxLen := by decide
theorem kb_name : isName KB.data.toList = true := by decide
theorem kept_begin {l : List UInt8} (hl : l.length ≤ 1024) : ∃ t u, appendD newD KB.data.toList l = (0, t) ∧ t.deeds = 1 ∧ syncD t KB.data.toList = (0, u) ∧ u.deeds = 2 ∧ Whole KB.data.toList l u.m := by
  obtain ⟨t, e, t1, t2, t3, t4, t5⟩ := app_ok (s := newD) (k := KB.data.toList) (b := l) rfl (by decide) kb_name (by show 0 + l.length ≤ _; omega)
  obtain ⟨q1, q2⟩ := fileOr_put t5
  obtain ⟨u, e2, u1, u2, u3, u4, u5⟩ := syn_ok t1 (by rw [t3]; decide) q2
  refine ⟨t, u, e, t2, e2, by rw [u2, t2]; rfl, ?_⟩
  unfold Whole
  rw [u5, get_put_same]
  rfl

set_option maxRecDepth 100000 in
set_option maxHeartbeats 4000000 in
theorem diskApart_walk (a0 : Option Addr) (len0 cap0 : Nat) (a1 : Option Addr) (len1 cap1 : Nat) (w : World) (h0 : Bytes w a0 len0) (h1 : Ops w a1 len1) :
    Calls Try.prog 6 #[.slice a0 len0 cap0, .slice a1 len1 cap1] w fun e w' => e = .returned (.bool true) ∧ Below w.heap.size w w' := by
  obtain ⟨hm0, l0, hl0, hlies0⟩ := h0
  unfold maxLen at hm0
  by_cases hf : Fit w a1 len1
  · by_cases hbig : 1024 < len0
    · have hbi : (1024 : Int) < (len0 : Int) := by omega
      go_enter Try.func6, Try.ntmps6
      go_wp2_with (go_at_call 9; refine (small_yes hf).mono ?_; rintro e w' ⟨rfl, rfl⟩)
      go_ret
      exact ⟨rfl, Below.refl _ _⟩
    · have hbi : ¬ (1024 : Int) < (len0 : Int) := by omega
      obtain ⟨t, u, e1, t1, e2, u1, hW⟩ := kept_begin (l := l0) (by omega)
      have ht : t.deeds < 4611686018427387904 := by omega
      have HF := Lib.hid hf
      have HL := Lib.hid (And.intro hl0 hlies0)
      have HW := Lib.hid (And.intro hW u1)
      clear hf h1 hl0 hlies0 hW u1 t1
      go_enter Try.func6, Try.ntmps6
      go_wp2_with (first
        | (go_at_call 9; refine (small_yes HF.out).mono ?_; rintro e w' ⟨rfl, rfl⟩)
        | (go_at_call 10; refine (Fresh.new (X := fun _ => False) (fun _ h => h.elim) (Below.refl w.heap.size w)).mono ?_; rintro e w1 ⟨d, rfl, hF, -⟩; have hlies1 : Lies w1 w1.heap.size a0 l0 := (HL.out.2.below hF.bel).mono hF.bel.size)
        | (go_at_call 16; refine (hF.append kb_small HL.out.1 hlies1 (by decide) e1).mono ?_; rintro e w2 ⟨rfl, hF2, -⟩; clear hF hlies1)
        | (go_at_call 17; refine (hF2.sync kb_small ht e2).mono ?_; rintro e w3 ⟨rfl, hF3, -⟩; clear hF2))
      have hB := Both.start hF3
      obtain ⟨r, hr⟩ : ∃ r, r = w3.heap.size := ⟨_, rfl⟩
      have hst : Hid (Whole KB.data.toList l0 u.m ∧ u.deeds ≤ 2 + 0 ∧ newD.deeds ≤ 2 + 0) := ⟨HW.out.1, by have := HW.out.2; omega, by decide⟩
      go_loopw [7] (fun i wr => ∃ (k : Nat) (s t : Ds), k ≤ len1 ∧ i = .int .i64 k ∧ Both (fun _ => False) w wr d w3.heap.size s t ∧ Hid (Whole KB.data.toList l0 s.m ∧ s.deeds ≤ 2 + k ∧ t.deeds ≤ 2 + k)) (fun i _ => len1 - (intOf i).toNat)
      case atStart => exact ⟨0, _, _, Nat.zero_le _, rfl, hB, hst⟩
      case round =>
        obtain ⟨k, s, t', hk, rfl, hBr, hS⟩ := hrel
        clear hB hst HW hF3
        by_cases hlt : k < len1
        · obtain ⟨b, o, kind, n, keep, name, A, m, c, l, rfl, hO, hml⟩ := HF.out.2 k hlt
          have hn300 := HF.out.1
          have hkl : (k : Int) < (len1 : Int) := by omega
          have hc : ∀ (j : Nat) v, w.cell? ⟨b, o + k * 5 + j, none⟩ = some v → wr.cell? ⟨b, o + k * 5 + j, none⟩ = some v := fun j v h => (hBr.bel.cell (p := ⟨b, o + k * 5 + j, none⟩) (cell_block_lt h)).trans h
          have c0 := hc 0 _ hO.c0
          have c1 := hc 1 _ hO.c1
          have c2 := hc 2 _ hO.c2
          have c3 := hc 3 _ hO.c3
          have c4 := hc 4 _ hO.c4
          rw [Nat.add_zero] at c0
          have HO := Lib.hid hO
          clear hc hO
          have hsd : s.deeds ≤ 1000 := by have := hS.out.2.1; omega
          have htd : t'.deeds ≤ 1000 := by have := hS.out.2.2; omega
          by_cases hq : name.data.toList = KB.data.toList
          · have hq' : (name.toList == [107, 101, 112, 116]) = true := by rw [Lib.toList_data, hq]; rfl
            have HQ := Lib.hid hq
            clear hq
            go_wp2_with fail
            go_roundw
            case rel => exact ⟨k + 1, s, t', by omega, by go_num, (hBr.alloc _).low (fun _ h => h.elim), hS.out.1, by have := hS.out.2.1; omega, by have := hS.out.2.2; omega⟩
            case measure => simp [intOf]; omega
          · have hq' : (name.toList == [107, 101, 112, 116]) = false := by rw [Lib.toList_data]; exact beq_eq_false_iff_ne.2 hq
            have HQ := Lib.hid hq
            clear hq
            go_wp2_with (go_at_call 11; refine (step_any (hBr.alloc _) HO.out.name hsd htd HO.out.len hml HO.out.lies HO.out.n1 HO.out.n2 HO.out.k1 HO.out.k2).mono ?_; rintro e w5 ⟨bb, rfl, -, hB5⟩)
            go_roundw
            case rel => exact ⟨k + 1, _, _, by omega, by go_num, hB5.low (fun _ h => h.elim), whole_next kind n keep HQ.out hS.out.1, by have := hS.out.2.1; have := next_deeds kind n keep name.data.toList l s; omega, by have := hS.out.2.2; have := next_deeds kind n keep name.data.toList l t'; omega⟩
            case measure => simp [intOf]; omega
        · have hge : (len1 : Int) ≤ (k : Int) := by omega
          rename World => wq
          obtain ⟨g1, g2⟩ := whole_read hS.out.1
          go_wp2_with (first
            | (go_at_call 14; refine (hBr.callD fun S hD => on_any hD).mono ?_; rintro e w5 ⟨rfl, hB5, -⟩)
            | (go_at_call 19; refine (hB5.read kb_small g1 g2).mono ?_; rintro e w6 ⟨A6, c6, rfl, hown6, hb6⟩; have hB6 := (hB5.keep hb6).low (X' := fun _ => False) (fun _ h => h.elim))
            | (go_at_call 15; refine (awake_any _).mono ?_; rintro e w7 ⟨rfl, hb7⟩; have hB7 := (hB6.keep hb7).low (X' := fun _ => False) (fun _ h => h.elim); have hv1 : (convert 31 9 (.slice A6 l0.length c6)).run Try.prog w7 = .ok (.string ⟨l0.toArray⟩) w7 := conv_str rfl ((Lies.of_own hown6).below hb7); have hv2 : (convert 31 9 (.slice a0 len0 cap0)).run Try.prog w7 = .ok (.string ⟨l0.toArray⟩) w7 := conv_str HL.out.1 (HL.out.2.below hB7.bel)))
          go_ret
          exact ⟨by simp, hB7.bel⟩
  · go_enter Try.func6, Try.ntmps6
    go_wp2_with (go_at_call 9; refine (small_no h1 hf).mono ?_; rintro e w' ⟨rfl, rfl⟩)
    go_ret
    exact ⟨rfl, Below.refl _ _⟩
end Go.Proofs.Ytkckpeejamidpaa.Dk
