/-
  The document's Sync, Cut, Read, step by step. Conditions: none but those that each theorem names.
-/
import Derived.Test.YtkiombbdddbkfaaRef
namespace Go.Proofs.Ytkiombbdddbkfaa.Dk
open Go.RowKit Go.Proofs.Ytkiombbdddbkfaa.Pk

section
variable {w : World} {r : Nat} {name : ByteArray} {Q : World → Prop}
set_option maxHeartbeats 400000 in
theorem rsync_off (c1 : w.cell? ⟨r, 1, none⟩ = some (.bool true)) : Calls Try.prog 38 #[.pointer (some ⟨r, 0, none⟩), .string name] w fun e w' => e = .returned (.int .i64 20) ∧ w = w' := by
  go_enter Try.func38, Try.ntmps38
  go_wp2
  go_ret
  exact ⟨rfl, rfl⟩
set_option maxHeartbeats 400000 in
theorem rcut_off {n : Int} (c1 : w.cell? ⟨r, 1, none⟩ = some (.bool true)) : Calls Try.prog 34 #[.pointer (some ⟨r, 0, none⟩), .string name, .int .i64 n] w fun e w' => e = .returned (.int .i64 20) ∧ w = w' := by
  go_enter Try.func34, Try.ntmps34
  go_wp2
  go_ret
  exact ⟨rfl, rfl⟩
set_option maxHeartbeats 400000 in
theorem rread_off (c1 : w.cell? ⟨r, 1, none⟩ = some (.bool true)) : Calls Try.prog 33 #[.pointer (some ⟨r, 0, none⟩), .string name] w fun e w' => e = .returned (.tuple #[.slice none 0 0, .int .i64 20]) ∧ w = w' := by
  go_enter Try.func33, Try.ntmps33
  go_wp2
  go_ret2
  exact ⟨rfl, rfl⟩
set_option maxHeartbeats 400000 in
theorem rsync_miss (c1 : w.cell? ⟨r, 1, none⟩ = some (.bool false)) (H : Calls Try.prog 44 #[.pointer (some ⟨r, 0, none⟩), .string name] w fun e w' => e = .returned (.int .i64 (-1)) ∧ w = w') :
    Calls Try.prog 38 #[.pointer (some ⟨r, 0, none⟩), .string name] w fun e w' => e = .returned (.int .i64 21) ∧ w = w' := by
  have HH := Lib.hid H
  clear H
  go_enter Try.func38, Try.ntmps38
  go_wp2_with (go_at_call 44; refine HH.out.mono ?_; rintro e w' ⟨rfl, rfl⟩)
  go_ret
  exact ⟨rfl, rfl⟩
set_option maxHeartbeats 400000 in
theorem rcut_miss {n : Int} (c1 : w.cell? ⟨r, 1, none⟩ = some (.bool false)) (H : Calls Try.prog 44 #[.pointer (some ⟨r, 0, none⟩), .string name] w fun e w' => e = .returned (.int .i64 (-1)) ∧ w = w') :
    Calls Try.prog 34 #[.pointer (some ⟨r, 0, none⟩), .string name, .int .i64 n] w fun e w' => e = .returned (.int .i64 21) ∧ w = w' := by
  have HH := Lib.hid H
  clear H
  go_enter Try.func34, Try.ntmps34
  go_wp2_with (go_at_call 44; refine HH.out.mono ?_; rintro e w' ⟨rfl, rfl⟩)
  go_ret
  exact ⟨rfl, rfl⟩
set_option maxHeartbeats 400000 in
theorem rread_miss (c1 : w.cell? ⟨r, 1, none⟩ = some (.bool false)) (H : Calls Try.prog 44 #[.pointer (some ⟨r, 0, none⟩), .string name] w fun e w' => e = .returned (.int .i64 (-1)) ∧ w = w') :
    Calls Try.prog 33 #[.pointer (some ⟨r, 0, none⟩), .string name] w fun e w' => e = .returned (.tuple #[.slice none 0 0, .int .i64 21]) ∧ w = w' := by
  have HH := Lib.hid H
  clear H
  go_enter Try.func33, Try.ntmps33
  go_wp2_with (go_at_call 44; refine HH.out.mono ?_; rintro e w' ⟨rfl, rfl⟩)
  go_ret2
  exact ⟨rfl, rfl⟩
set_option maxHeartbeats 400000 in
theorem rread_ok {i g n cap : Nat} {v : Value} (c1 : w.cell? ⟨r, 1, none⟩ = some (.bool false)) (H : Calls Try.prog 44 #[.pointer (some ⟨r, 0, none⟩), .string name] w fun e w' => e = .returned (.int .i64 i) ∧ w = w')
    (c0 : w.cell? ⟨r, 0, none⟩ = some (.slice (some ⟨g, 0, none⟩) n cap)) (hi : i < n) (cB : w.cell? ⟨g, i * 3 + 1, none⟩ = some v) :
    Calls Try.prog 33 #[.pointer (some ⟨r, 0, none⟩), .string name] w fun e w' => e = .returned (.tuple #[v, .int .i64 0]) ∧ w = w' := by
  have HH := Lib.hid H
  clear H
  have hin : (i : Int) < (n : Int) := by omega
  go_enter Try.func33, Try.ntmps33
  go_wp2_with (go_at_call 44; refine HH.out.mono ?_; rintro e w' ⟨rfl, rfl⟩)
  go_ret2
  exact ⟨rfl, rfl⟩
set_option maxHeartbeats 400000 in
theorem rsync_hit {i : Nat} {keep : Int} {R : World → Prop} (c1 : w.cell? ⟨r, 1, none⟩ = some (.bool false)) (H : Calls Try.prog 44 #[.pointer (some ⟨r, 0, none⟩), .string name] w fun e w' => e = .returned (.int .i64 i) ∧ w = w')
    (HD : Calls Try.prog 45 #[.pointer (some ⟨r, 0, none⟩)] w fun e w' => e = .returned (.bool true) ∧ Q w') (HQ : ∀ w1, Q w1 → w1.cell? ⟨r, 3, none⟩ = some (.int .i64 keep))
    (HO : ∀ w1, Q w1 → Calls Try.prog 18 #[.pointer (some ⟨r, 0, none⟩), .int .i64 keep] w1 fun e w' => e = .returned (.tuple #[]) ∧ R w') :
    Calls Try.prog 38 #[.pointer (some ⟨r, 0, none⟩), .string name] w fun e w' => e = .returned (.int .i64 20) ∧ R w' := by
  have HH := Lib.hid H
  have HG := Lib.hid HD
  have HQ1 : Hid (∀ w1, Q w1 → w1.cell? ⟨r, 3, none⟩ = some (.int .i64 keep) ∧ Hid (Calls Try.prog 18 #[.pointer (some ⟨r, 0, none⟩), .int .i64 keep] w1 fun e w' => e = .returned (.tuple #[]) ∧ R w')) := fun w1 hq => ⟨HQ w1 hq, HO w1 hq⟩
  clear H HD HQ HO
  go_enter Try.func38, Try.ntmps38
  go_wp2_with (first
    | (go_at_call 44; refine HH.out.mono ?_; rintro e w' ⟨rfl, rfl⟩)
    | (go_at_call 45; refine HG.out.mono ?_; rintro e w1 ⟨rfl, hq⟩; obtain ⟨c3, HO⟩ := HQ1.out w1 hq; clear hq)
    | (go_at_call 18; refine HO.out.mono ?_; rintro e w2 ⟨rfl, hr⟩))
  go_ret
  exact ⟨rfl, hr⟩
set_option maxHeartbeats 1000000 in
theorem rsync_ok {i g n cap l c : Nat} {s0 : Int} {A : Option Addr} (c1 : w.cell? ⟨r, 1, none⟩ = some (.bool false)) (H : Calls Try.prog 44 #[.pointer (some ⟨r, 0, none⟩), .string name] w fun e w' => e = .returned (.int .i64 i) ∧ w = w')
    (HD : Calls Try.prog 45 #[.pointer (some ⟨r, 0, none⟩)] w fun e w' => e = .returned (.bool false) ∧ Q w') (hi : i < n)
    (HQ : ∀ w1, Q w1 → w1.cell? ⟨r, 0, none⟩ = some (.slice (some ⟨g, 0, none⟩) n cap) ∧ w1.cell? ⟨g, i * 3 + 1, none⟩ = some (.slice A l c) ∧ w1.cell? ⟨g, i * 3 + 2, none⟩ = some (.int .i64 s0) ∧ w1.frozen? ⟨g, i * 3 + 2, none⟩ = false) :
    Calls Try.prog 38 #[.pointer (some ⟨r, 0, none⟩), .string name] w fun e w' => e = .returned (.int .i64 0) ∧ ∃ w1, Q w1 ∧ (w1.setCell ⟨g, i * 3 + 2, none⟩ (.int .i64 l)).drew = w' := by
  have HH := Lib.hid H
  have HG := Lib.hid HD
  have HQ1 : Hid (∀ w1, Q w1 → w1.cell? ⟨r, 0, none⟩ = some (.slice (some ⟨g, 0, none⟩) n cap) ∧ w1.cell? ⟨g, i * 3 + 1, none⟩ = some (.slice A l c) ∧ w1.cell? ⟨g, i * 3 + 2, none⟩ = some (.int .i64 s0) ∧ w1.frozen? ⟨g, i * 3 + 2, none⟩ = false ∧ Hid (Q w1)) :=
    fun w1 hq => ⟨(HQ w1 hq).1, (HQ w1 hq).2.1, (HQ w1 hq).2.2.1, (HQ w1 hq).2.2.2, hq⟩
  clear H HD HQ
  have hin : (i : Int) < (n : Int) := by omega
  go_enter Try.func38, Try.ntmps38
  go_wp2_with (first
    | (go_at_call 44; refine HH.out.mono ?_; rintro e w' ⟨rfl, rfl⟩)
    | (go_at_call 45; refine HG.out.mono ?_; rintro e w1 ⟨rfl, hq⟩; obtain ⟨d0, dB, dS, fS, HQ2⟩ := HQ1.out w1 hq; clear hq))
  go_region
  go_wp2
  go_ret
  exact ⟨rfl, w1, HQ2.out, rfl⟩
set_option maxHeartbeats 1000000 in
theorem rcut_arg {i g n cap l c : Nat} {k : Int} {A : Option Addr} (c1 : w.cell? ⟨r, 1, none⟩ = some (.bool false)) (H : Calls Try.prog 44 #[.pointer (some ⟨r, 0, none⟩), .string name] w fun e w' => e = .returned (.int .i64 i) ∧ w = w')
    (c0 : w.cell? ⟨r, 0, none⟩ = some (.slice (some ⟨g, 0, none⟩) n cap)) (hi : i < n) (cB : w.cell? ⟨g, i * 3 + 1, none⟩ = some (.slice A l c)) (hk : k < 0 ∨ (l : Int) < k) :
    Calls Try.prog 34 #[.pointer (some ⟨r, 0, none⟩), .string name, .int .i64 k] w fun e w' => e = .returned (.int .i64 1) ∧ w = w' := by
  have HH := Lib.hid H
  clear H
  have hin : (i : Int) < (n : Int) := by omega
  rcases hk with hk | hk
  · go_enter Try.func34, Try.ntmps34
    go_wp2_with (go_at_call 44; refine HH.out.mono ?_; rintro e w' ⟨rfl, rfl⟩)
    go_ret
    exact ⟨rfl, rfl⟩
  · have hk0 : ¬ k < 0 := by omega
    go_enter Try.func34, Try.ntmps34
    go_wp2_with (go_at_call 44; refine HH.out.mono ?_; rintro e w' ⟨rfl, rfl⟩)
    go_ret
    exact ⟨rfl, rfl⟩
set_option maxHeartbeats 1000000 in
theorem rcut_hit {i g n cap l c k : Nat} {keep : Int} {A : Option Addr} {R : World → Prop} (c1 : w.cell? ⟨r, 1, none⟩ = some (.bool false)) (H : Calls Try.prog 44 #[.pointer (some ⟨r, 0, none⟩), .string name] w fun e w' => e = .returned (.int .i64 i) ∧ w = w')
    (c0 : w.cell? ⟨r, 0, none⟩ = some (.slice (some ⟨g, 0, none⟩) n cap)) (hi : i < n) (cB : w.cell? ⟨g, i * 3 + 1, none⟩ = some (.slice A l c)) (hk : k ≤ l)
    (HD : Calls Try.prog 45 #[.pointer (some ⟨r, 0, none⟩)] w fun e w' => e = .returned (.bool true) ∧ Q w') (HQ : ∀ w1, Q w1 → w1.cell? ⟨r, 3, none⟩ = some (.int .i64 keep))
    (HO : ∀ w1, Q w1 → Calls Try.prog 18 #[.pointer (some ⟨r, 0, none⟩), .int .i64 keep] w1 fun e w' => e = .returned (.tuple #[]) ∧ R w') :
    Calls Try.prog 34 #[.pointer (some ⟨r, 0, none⟩), .string name, .int .i64 k] w fun e w' => e = .returned (.int .i64 20) ∧ R w' := by
  have HH := Lib.hid H
  have HG := Lib.hid HD
  have HQ1 : Hid (∀ w1, Q w1 → w1.cell? ⟨r, 3, none⟩ = some (.int .i64 keep) ∧ Hid (Calls Try.prog 18 #[.pointer (some ⟨r, 0, none⟩), .int .i64 keep] w1 fun e w' => e = .returned (.tuple #[]) ∧ R w')) := fun w1 hq => ⟨HQ w1 hq, HO w1 hq⟩
  clear H HD HQ HO
  have hin : (i : Int) < (n : Int) := by omega
  have hk0 : ¬ (k : Int) < 0 := by omega
  have hk1 : (k : Int) ≤ (l : Int) := by omega
  go_enter Try.func34, Try.ntmps34
  go_wp2_with (first
    | (go_at_call 44; refine HH.out.mono ?_; rintro e w' ⟨rfl, rfl⟩)
    | (go_at_call 45; refine HG.out.mono ?_; rintro e w1 ⟨rfl, hq⟩; obtain ⟨c3, HO⟩ := HQ1.out w1 hq; clear hq)
    | (go_at_call 18; refine HO.out.mono ?_; rintro e w2 ⟨rfl, hr⟩))
  go_ret
  exact ⟨rfl, hr⟩
set_option maxHeartbeats 1000000 in
theorem rcut_ok {i g n cap l c k s0 : Nat} {A : Option Addr} (c1 : w.cell? ⟨r, 1, none⟩ = some (.bool false)) (H : Calls Try.prog 44 #[.pointer (some ⟨r, 0, none⟩), .string name] w fun e w' => e = .returned (.int .i64 i) ∧ w = w')
    (c0 : w.cell? ⟨r, 0, none⟩ = some (.slice (some ⟨g, 0, none⟩) n cap)) (hi : i < n) (cB : w.cell? ⟨g, i * 3 + 1, none⟩ = some (.slice A l c)) (hk : k ≤ l) (hlc : l ≤ c) (_hrg : r ≠ g)
    (HD : Calls Try.prog 45 #[.pointer (some ⟨r, 0, none⟩)] w fun e w' => e = .returned (.bool false) ∧ Q w')
    (HQ : ∀ w1, Q w1 → w1.cell? ⟨r, 0, none⟩ = some (.slice (some ⟨g, 0, none⟩) n cap) ∧ w1.cell? ⟨g, i * 3 + 1, none⟩ = some (.slice A l c) ∧ w1.cell? ⟨g, i * 3 + 2, none⟩ = some (.int .i64 s0) ∧ w1.frozen? ⟨g, i * 3 + 1, none⟩ = false ∧ w1.frozen? ⟨g, i * 3 + 2, none⟩ = false) :
    Calls Try.prog 34 #[.pointer (some ⟨r, 0, none⟩), .string name, .int .i64 k] w fun e w' => e = .returned (.int .i64 0) ∧ ∃ w1, Q w1 ∧ ((w1.setCell ⟨g, i * 3 + 1, none⟩ (.slice A k c)).setCell ⟨g, i * 3 + 2, none⟩ (.int .i64 (min (s0 : Int) (k : Int)))).drew.drew = w' := by
  have HH := Lib.hid H
  have HG := Lib.hid HD
  have HQ1 : Hid (∀ w1, Q w1 → w1.cell? ⟨r, 0, none⟩ = some (.slice (some ⟨g, 0, none⟩) n cap) ∧ w1.cell? ⟨g, i * 3 + 1, none⟩ = some (.slice A l c) ∧ w1.cell? ⟨g, i * 3 + 2, none⟩ = some (.int .i64 s0) ∧ w1.frozen? ⟨g, i * 3 + 1, none⟩ = false ∧ w1.frozen? ⟨g, i * 3 + 2, none⟩ = false ∧ Hid (Q w1)) :=
    fun w1 hq => ⟨(HQ w1 hq).1, (HQ w1 hq).2.1, (HQ w1 hq).2.2.1, (HQ w1 hq).2.2.2.1, (HQ w1 hq).2.2.2.2, hq⟩
  clear H HD HQ
  have hin : (i : Int) < (n : Int) := by omega
  have hk0 : ¬ (k : Int) < 0 := by omega
  have hk1 : (k : Int) ≤ (l : Int) := by omega
  go_enter Try.func34, Try.ntmps34
  go_wp2_with (first
    | (go_at_call 44; refine HH.out.mono ?_; rintro e w' ⟨rfl, rfl⟩)
    | (go_at_call 45; refine HG.out.mono ?_; rintro e w1 ⟨rfl, hq⟩; obtain ⟨d0, dB, dS, fB, fS, HQ2⟩ := HQ1.out w1 hq; clear hq))
  go_region
  go_wp2
  go_region
  go_wp2
  go_ret
  exact ⟨rfl, w1, HQ2.out, rfl⟩
end

set_option maxHeartbeats 1000000 in
theorem roff_off {w : World} {r n cap : Nat} {A : Option Addr} (keep : Int) (c0 : w.cell? ⟨r, 0, none⟩ = some (.slice A n cap)) (c1 : w.cell? ⟨r, 1, none⟩ = some (.bool true)) (f1 : w.frozen? ⟨r, 1, none⟩ = false) (hn : n ≤ 1000000) :
    Calls Try.prog 18 #[.pointer (some ⟨r, 0, none⟩), .int .i64 keep] w fun e w' => e = .returned (.tuple #[]) ∧ w.setCell ⟨r, 1, none⟩ (.bool true) = w' := by
  go_enter Try.func18, Try.ntmps18
  go_wp2
  refine wp_loop_rounds 1 ?_
  rw [rounds_succ]
  by_cases h : n = 0
  · have hz : ¬ (0 : Int) < (n : Int) := by omega
    go_wp2
    go_end0
    exact ⟨rfl, rfl⟩
  · have hz : (0 : Int) < (n : Int) := by omega
    go_wp2
    go_end0
    exact ⟨rfl, rfl⟩

set_option maxHeartbeats 2000000 in
theorem roff_on {w : World} {r n cap g : Nat} {keep : Int} {J : Nat → World → Prop} (hn : n ≤ 1000000) (_hk1 : -9223372036854775808 ≤ keep) (_hk2 : keep ≤ 9223372036854775807) (_hrg : r ≠ g) (h0 : J 0 w)
    (hJ : ∀ j wr, J j wr → wr.cell? ⟨r, 0, none⟩ = some (.slice (some ⟨g, 0, none⟩) n cap) ∧ wr.cell? ⟨r, 1, none⟩ = some (.bool false) ∧ wr.frozen? ⟨r, 1, none⟩ = false ∧
      (j < n → ∃ A c, ∃ L S : Nat, S ≤ L ∧ L ≤ c ∧ L ≤ 16777216 ∧ wr.cell? ⟨g, j * 3 + 1, none⟩ = some (.slice A L c) ∧ wr.cell? ⟨g, j * 3 + 2, none⟩ = some (.int .i64 S) ∧ wr.frozen? ⟨g, j * 3 + 1, none⟩ = false ∧ wr.frozen? ⟨g, j * 3 + 2, none⟩ = false ∧
        ∀ q : Nat, q = S + min keep.toNat (L - S) → J (j + 1) (((wr.setCell ⟨g, j * 3 + 1, none⟩ (.slice A q c)).setCell ⟨g, j * 3 + 2, none⟩ (.int .i64 q)).drew))) :
    Calls Try.prog 18 #[.pointer (some ⟨r, 0, none⟩), .int .i64 keep] w fun e w' => e = .returned (.tuple #[]) ∧ ∃ wr, J n wr ∧ wr.setCell ⟨r, 1, none⟩ (.bool true) = w' := by
  have HJ := Lib.hid hJ
  clear hJ
  go_enter Try.func18, Try.ntmps18
  go_wp2
  go_loopw [4] (fun i wr => ∃ j : Nat, j ≤ n ∧ i = .int .i64 j ∧ J j wr) (fun i _ => n - (intOf i).toNat)
  case atStart => exact ⟨0, Nat.zero_le _, rfl, h0⟩
  case round =>
    clear h0
    obtain ⟨j, hj, rfl, hjj⟩ := hrel
    obtain ⟨c0, c1, f1, hrest⟩ := HJ.out j wr hjj
    by_cases hlt : j < n
    · obtain ⟨A, c, L, S, hSL, hLc, hL, cB, cS, fB, fS, hnext⟩ := hrest hlt
      have hjn : (j : Int) < (n : Int) := by omega
      obtain ⟨q, hq⟩ : ∃ q : Nat, q = S + min keep.toNat (L - S) := ⟨_, rfl⟩
      have HN := Lib.hid (hnext q hq)
      have HQ := Lib.hid hq
      clear hnext hrest hq hjj
      have hqc : (q : Int) ≤ (c : Int) := by have := HQ.out; omega
      have hwr1 : IntKind.i64.wrap ((L : Int) - (S : Int)) = (L : Int) - (S : Int) := IntWalk.i64_in _ (by omega)
      have hwr2 : IntKind.i64.wrap ((S : Int) + min (max keep 0) ((L : Int) - (S : Int))) = (q : Int) := by
        have := HQ.out
        rw [show (S : Int) + min (max keep 0) ((L : Int) - (S : Int)) = (q : Int) by omega]
        exact IntWalk.i64_in _ (by omega)
      go_wp2
      go_region
      clear hwr1 hwr2
      go_wp2
      go_roundw
      case rel => exact ⟨j + 1, by omega, by go_num, HN.out⟩
      case measure => simp [intOf]; omega
    · have hjn : ¬ (j : Int) < (n : Int) := by omega
      obtain rfl : j = n := by omega
      go_wp2
      go_end0
      exact ⟨rfl, wr, hjj, rfl⟩
end Go.Proofs.Ytkiombbdddbkfaa.Dk
