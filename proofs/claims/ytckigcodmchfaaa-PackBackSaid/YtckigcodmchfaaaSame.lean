/-
  What the law's helper that compares two byte slices answers: whether the bytes are the same; it only reads. Conditions: the two slices lie in memory.
-/
import Derived.Test.YtckigcodmchfaaaRows
import Derived.Test.YtckigcodmchfaaaMem
import Derived.Test.YtckigcodmchfaaaMath
import Derived.WalkLawsBesides
import Derived.Deep.QuietTactic
import Derived.BigQuiet
namespace Go.Proofs.Ytckigcodmchfaaa.Pk
open Go.RowKit

theorem take_same_succ {l m : List UInt8} {k : Nat} (hl : k < l.length) (hm : k < m.length) (h : l.take k = m.take k) (e : l[k] = m[k]) : l.take (k + 1) = m.take (k + 1) := by
  rw [List.take_succ_eq_append_getElem hl, List.take_succ_eq_append_getElem hm, h, e]

set_option maxHeartbeats 400000 in
theorem same_any {A A' : Option Addr} {n n' c c' : Nat} {l l' : List UInt8} {w : World} {B B' : Nat} (hl : l.length = n) (hl' : l'.length = n') (hm : n ≤ maxLen) (hm' : n' ≤ maxLen) (h : Lies w B A l) (h' : Lies w B' A' l') :
    Calls Try.prog 14 #[.slice A n c, .slice A' n' c'] w fun e w' => e = .returned (.bool (decide (l = l'))) ∧ ∃ k, w' = w.drewN k := by
  unfold maxLen at hm hm'
  by_cases hne : n = n'
  · subst hne
    have H := Lib.hid hl
    have H' := Lib.hid hl'
    clear hl hl'
    go_enter Try.func14, Try.ntmps14
    go_wp2
    go_loopw [5] (fun i wr => ∃ k d : Nat, k ≤ n ∧ i = .int .i64 k ∧ wr = w.drewN d ∧ Hid (l.take k = l'.take k)) (fun i _ => n - (intOf i).toNat)
    case atStart => exact ⟨0, 0, Nat.zero_le _, rfl, rfl, rfl⟩
    case round =>
      obtain ⟨k, d, hk, rfl, rfl, he⟩ := hrel
      by_cases hlt : k < n
      · have hkl : k < l.length := by rw [H.out]; exact hlt
        have hkl' : k < l'.length := by rw [H'.out]; exact hlt
        obtain ⟨b, o, rfl, hb, hc⟩ := h.at_ hkl
        obtain ⟨b', o', rfl, hb', hc'⟩ := h'.at_ hkl'
        obtain ⟨x, hx⟩ : ∃ x, x = l[k] := ⟨_, rfl⟩
        obtain ⟨y, hy⟩ : ∃ y, y = l'[k] := ⟨_, rfl⟩
        rw [← hx] at hc
        rw [← hy] at hc'
        have HX := Lib.hid hx
        have HY := Lib.hid hy
        clear hx hy
        unfold bv at hc hc'
        by_cases exy : x = y
        · have ht : ((x.toNat : Int) != (y.toNat : Int)) = false := by simp [exy]
          have E := Lib.hid exy
          clear exy
          go_wp2
          go_quiet (fail)
          go_wp2
          go_roundw
          case rel => exact ⟨k + 1, _, by omega, by go_num, rfl, take_same_succ hkl hkl' he.out (by rw [← HX.out, ← HY.out]; exact E.out)⟩
          case measure => simp [intOf]; omega
        · have ht : ((x.toNat : Int) != (y.toNat : Int)) = true := by
            simp only [bne_iff_ne, ne_eq]; intro q; exact exy (UInt8.toNat_inj.mp (by omega))
          have E := Lib.hid exy
          clear exy
          go_wp2
          go_quiet (fail)
          go_wp2
          go_ret
          have hd : decide (l = l') = false := decide_eq_false (fun q => E.out (by rw [HX.out, HY.out]; simp [q]))
          exact ⟨by rw [hd]; rfl, d + nq, by rw [World.drewN_drewN]⟩
      · go_wp2
        go_ret
        have hd : decide (l = l') = true := decide_eq_true (by
          have e1 := he.out
          rw [List.take_of_length_le (by rw [H.out]; omega), List.take_of_length_le (by rw [H'.out]; omega)] at e1
          exact e1)
        exact ⟨by rw [hd]; rfl, _, rfl⟩
  · have hd : decide (l = l') = false := decide_eq_false (fun q => hne (by rw [← hl, ← hl', q]))
    have ht : ((n : Int) != (n' : Int)) = true := by simp only [bne_iff_ne, ne_eq]; omega
    rw [hd]
    clear hl hl' hd h h'
    go_enter Try.func14, Try.ntmps14
    go_wp2
    go_ret
    exact ⟨rfl, 0, rfl⟩

theorem ret_int {k : IntKind} {a b : Int} (h : a = b) : Ending.returned (.int k a) = .returned (.int k b) := by rw [h]

set_option maxHeartbeats 400000 in
theorem fold_any (x : Int) (w : World) (h1 : -9223372036854775808 ≤ x) (h2 : x ≤ 9223372036854775807) :
    Calls Try.prog 34 #[.int .i64 x] w fun e w' => e = .returned (.int .u64 (fold x)) ∧ w = w' := by
  by_cases h : x < 0
  · go_enter Try.func34, Try.ntmps34
    go_wp2
    go_ret
    exact ⟨ret_int (by unfold fold; rw [if_pos h]; omega), rfl⟩
  · go_enter Try.func34, Try.ntmps34
    go_wp2
    go_ret
    exact ⟨ret_int (by unfold fold; rw [if_neg (by omega)]; omega), rfl⟩

set_option maxHeartbeats 400000 in
theorem unfold_any (z : Nat) (w : World) (h : z < 18446744073709551616) :
    Calls Try.prog 32 #[.int .u64 z] w fun e w' => e = .returned (.int .i64 (unfold z)) ∧ w = w' := by
  by_cases hz : z % 2 = 1
  · have ht : ((z : Int) % 2 == 1) = true := by simp; omega
    have HZ := Lib.hid hz
    clear hz
    go_enter Try.func32, Try.ntmps32
    go_wp2
    go_ret
    exact ⟨ret_int (by unfold Pk.unfold; rw [if_pos HZ.out]; omega), rfl⟩
  · have ht : ((z : Int) % 2 == 1) = false := by simp; omega
    have HZ := Lib.hid hz
    clear hz
    go_enter Try.func32, Try.ntmps32
    go_wp2
    go_ret
    exact ⟨ret_int (by unfold Pk.unfold; rw [if_neg HZ.out]; omega), rfl⟩

end Go.Proofs.Ytckigcodmchfaaa.Pk
