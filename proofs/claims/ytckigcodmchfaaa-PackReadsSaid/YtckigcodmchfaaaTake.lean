/-
  What the document's own decoder answers: the integer with which the bytes begin and how many bytes it has; 0 and 0 if there is none. Conditions: the bytes lie in memory.
-/
import Derived.Test.YtckigcodmchfaaaRd
namespace Go.Proofs.Ytckigcodmchfaaa.Pk
open Go.RowKit

/-- Groups of seven bits, the least first. -/
def val7 : List UInt8 → Nat
  | [] => 0
  | x :: r => x.toNat % 128 + 128 * val7 r
theorem val7_lt (l : List UInt8) : val7 l < 128 ^ l.length := by
  induction l with
  | nil => simp [val7]
  | cons x r ih =>
    have hx : x.toNat % 128 < 128 := Nat.mod_lt _ (by omega)
    simp only [val7, List.length_cons, Nat.pow_succ]
    omega
theorem val7_snoc (l : List UInt8) (x : UInt8) : val7 (l ++ [x]) = val7 l + x.toNat % 128 * 128 ^ l.length := by
  induction l with
  | nil => simp [val7]
  | cons y r ih =>
    simp only [List.cons_append, val7, ih, List.length_cons, Nat.pow_succ]
    rw [Nat.mul_add, ← Nat.mul_assoc 128, Nat.mul_comm 128 (x.toNat % 128), Nat.mul_assoc, Nat.mul_comm 128 (128 ^ r.length)]
    omega
/-- Bytes that go on, one after the other. -/
def Goes (l : List UInt8) (k : Nat) : Prop := ∀ j x, j < k → l[j]? = some x → 128 ≤ x.toNat
theorem decFrom_lead (k : Nat) : ∀ (i a : Nat) (l : List UInt8), k ≤ l.length → Goes l k → i + k ≤ 9 →
    decFrom i a l = decFrom (i + k) (a + val7 (l.take k) * 128 ^ i) (l.drop k) := by
  induction k with
  | zero => intro i a l _ _ _; simp [val7]
  | succ k ih =>
    intro i a l hl hg hi
    rcases l with _ | ⟨x, r⟩
    · simp at hl
    · have hx : 128 ≤ x.toNat := hg 0 x (by omega) rfl
      have h1 : decFrom i a (x :: r) = decFrom (i + 1) (a + x.toNat % 128 * 128 ^ i) r := by
        simp only [decFrom]
        rw [if_neg (by omega), if_pos hx]
      rw [h1, ih (i + 1) _ r (by simpa using hl) (fun j y hj hy => hg (j + 1) y (by omega) (by simpa using hy)) (by omega)]
      have e1 : i + 1 + k = i + (k + 1) := by omega
      have e2 : a + x.toNat % 128 * 128 ^ i + val7 (r.take k) * 128 ^ (i + 1) = a + val7 ((x :: r).take (k + 1)) * 128 ^ i := by
        simp only [List.take_succ_cons, val7, Nat.pow_succ]
        rw [Nat.add_mul, Nat.add_assoc, Nat.mul_comm (128 ^ i) 128, ← Nat.mul_assoc, Nat.mul_comm (val7 (r.take k)) 128]
      rw [e1, e2]
      rfl
theorem goes_mono {l : List UInt8} {k j : Nat} (h : Goes l k) (hj : j ≤ k) : Goes l j := fun i x hi hx => h i x (by omega) hx
/-- Ten bytes that go on are no integer. -/
theorem dec_long {l : List UInt8} {k : Nat} (hk : 10 ≤ k) (hl : k ≤ l.length) (hg : Goes l k) : dec l = none := by
  unfold dec
  rw [decFrom_lead 9 0 0 l (by omega) (goes_mono hg (by omega)) (by omega)]
  have h9 : 9 < l.length := by omega
  rw [List.drop_eq_getElem_cons h9]
  have := hg 9 l[9] (by omega) (List.getElem?_eq_getElem h9)
  have hne : ¬ l[9].toNat = 1 := by omega
  simp [decFrom, hne]
theorem dec_open {l : List UInt8} (hg : Goes l l.length) : dec l = none := by
  by_cases h : 10 ≤ l.length
  · exact dec_long h (Nat.le_refl _) hg
  · unfold dec
    rw [decFrom_lead l.length 0 0 l (Nat.le_refl _) hg (by omega), List.drop_length]
    rfl
theorem dec_at {l : List UInt8} {k : Nat} {x : UInt8} (hk : k < l.length) (hx : x = l[k]) (hg : Goes l k) (h9 : k ≤ 9) :
    dec l = decFrom k (val7 (l.take k)) (x :: l.drop (k + 1)) := by
  unfold dec
  rw [decFrom_lead k 0 0 l (by omega) hg (by omega), drop_at hk hx]
  simp
theorem dec_zero {l : List UInt8} {k : Nat} {x : UInt8} (hk : k < l.length) (hx : x = l[k]) (hg : Goes l k) (h9 : k ≤ 9) (h0 : 0 < k) (hz : x.toNat = 0) : dec l = none := by
  rw [dec_at hk hx hg h9]
  simp only [decFrom]
  by_cases e : k = 9
  · rw [if_pos ⟨e, by omega⟩]
  · rw [if_neg (by omega), if_neg (by omega), if_pos ⟨hz, h0⟩]
theorem dec_nine {l : List UInt8} {x : UInt8} (hk : 9 < l.length) (hx : x = l[9]) (hg : Goes l 9) (hz : x.toNat ≠ 1) : dec l = none := by
  rw [dec_at hk hx hg (by omega)]
  simp [decFrom, hz]
theorem dec_good {l : List UInt8} {k : Nat} {x : UInt8} (hk : k < l.length) (hx : x = l[k]) (hg : Goes l k) (h9 : k ≤ 9) (hlt : x.toNat < 128) (h0 : ¬ (0 < k ∧ x.toNat = 0)) (h1 : k = 9 → x.toNat = 1) :
    dec l = some (val7 (l.take (k + 1)), k + 1) := by
  rw [dec_at hk hx hg h9]
  simp only [decFrom]
  rw [if_neg (by omega), if_neg (by omega), if_neg (by omega), List.take_succ_eq_append_getElem hk, ← hx, val7_snoc, List.length_take]
  rw [Nat.min_eq_left (by omega)]

/-- The value of the bytes from place j on is small. -/
theorem val7_part {l : List UInt8} {k j : Nat} {x : UInt8} (hk : k < l.length) (hx : x = l[k]) (h9 : k ≤ 9) (h1 : k = 9 → x.toNat = 1) : val7 ((l.take (k + 1)).drop j) < 18446744073709551616 := by
  by_cases e : k = 9
  · subst e
    have hx1 := h1 rfl
    have ht : l.take (9 + 1) = l.take 9 ++ [x] := by rw [List.take_succ_eq_append_getElem hk, ← hx]
    have hlen : (l.take 9).length = 9 := by rw [List.length_take]; omega
    by_cases hj : j ≤ 9
    · rw [ht, List.drop_append_of_le_length (by omega), val7_snoc, hx1]
      have hl2 : ((l.take 9).drop j).length = 9 - j := by rw [List.length_drop, hlen]
      have := val7_lt ((l.take 9).drop j)
      rw [hl2] at this ⊢
      have hp : (128 : Nat) ^ (9 - j) ≤ 128 ^ 9 := Nat.pow_le_pow_right (by omega) (by omega)
      have e9 : (128 : Nat) ^ 9 = 9223372036854775808 := by decide
      have e1 : 1 % 128 = 1 := rfl
      rw [e1, Nat.one_mul]
      omega
    · rw [List.drop_eq_nil_of_le (by rw [List.length_take]; omega)]
      simp [val7]
  · have := val7_lt ((l.take (k + 1)).drop j)
    have hl2 : ((l.take (k + 1)).drop j).length ≤ 9 := by rw [List.length_drop, List.length_take]; omega
    have hp : (128 : Nat) ^ ((l.take (k + 1)).drop j).length ≤ 128 ^ 9 := Nat.pow_le_pow_right (by omega) hl2
    have e9 : (128 : Nat) ^ 9 = 9223372036854775808 := by decide
    omega
theorem val7_step {l : List UInt8} {k j : Nat} {y : UInt8} (hk : k < l.length) (hj : j ≤ k) (hy : y = l[j]) : val7 ((l.take (k + 1)).drop j) = val7 ((l.take (k + 1)).drop (j + 1)) * 128 + y.toNat % 128 := by
  have hjl : j < (l.take (k + 1)).length := by rw [List.length_take]; omega
  rw [List.drop_eq_getElem_cons hjl]
  have e : (l.take (k + 1))[j] = y := by rw [hy]; simp
  rw [e]
  simp only [val7]
  omega

theorem ret_two_of {a b : Int} {c d : Int} (h1 : a = b) (h2 : c = d) : Ending.returned (.tuple #[.int .i64 a, .int .i64 c]) = .returned (.tuple #[.int .i64 b, .int .i64 d]) := by rw [h1, h2]

def Took (l : List UInt8) (w : World) (e : Ending) (w' : World) : Prop := e = .returned (.tuple #[.int .i64 (numVal false l), .int .i64 (decN l)]) ∧ w = w'
theorem took_none {l : List UInt8} (h : dec l = none) : numVal false l = 0 ∧ decN l = 0 := by simp [numVal, decN, h]
theorem took_some {l : List UInt8} {z n : Nat} (h : dec l = some (z, n)) : numVal false l = unfold z ∧ decN l = n := by simp [numVal, decN, h]

theorem start7 {l : List UInt8} {k : Nat} (h : k + 1 ≤ l.length) : 0 = val7 ((l.take (k + 1)).drop ((k : Int) + 1).toNat) := by
  rw [List.drop_eq_nil_of_le (by rw [List.length_take]; omega)]
  rfl
theorem step7 {l : List UInt8} {k j q : Nat} {y : UInt8} (hk : k < l.length) (hj : j ≤ k) (hy : y = l[j]) (hq : q = val7 ((l.take (k + 1)).drop ((j : Int) + 1).toNat)) (hv : val7 ((l.take (k + 1)).drop j) < 18446744073709551616) :
    IntKind.u64.wrap (IntKind.u64.wrap ((q : Int) * 128) + (IntKind.u64.wrap (y.toNat : Int)).tmod 128) = ((q * 128 + y.toNat % 128 : Nat) : Int) ∧ q * 128 + y.toNat % 128 = val7 ((l.take (k + 1)).drop j) := by
  have e : ((j : Int) + 1).toNat = j + 1 := by omega
  rw [e] at hq
  have h2 : q * 128 + y.toNat % 128 = val7 ((l.take (k + 1)).drop j) := by rw [hq, ← val7_step hk hj hy]
  refine ⟨?_, h2⟩
  rw [← h2] at hv
  have hy2 : y.toNat < 256 := y.toNat_lt
  have e3 : (IntKind.u64.wrap (y.toNat : Int)).tmod 128 = (y.toNat : Int) % 128 := by
    rw [IntKind.wrap_u64, Int.tmod_eq_emod_of_nonneg (by omega)]; omega
  rw [e3, IntKind.wrap_u64, IntKind.wrap_u64]
  omega
theorem back7 (j : Nat) (m : List UInt8) : val7 (m.drop ((j : Int) - 1 + 1).toNat) = val7 (m.drop j) := by
  rw [show ((j : Int) - 1 + 1).toNat = j by omega]

set_option maxRecDepth 20000 in
set_option maxHeartbeats 4000000 in
theorem take_any {A : Option Addr} {n c : Nat} {l : List UInt8} {w : World} {B : Nat} (hl : l.length = n) (hm : n ≤ maxLen) (h : Lies w B A l) :
    Calls Try.prog 33 #[.slice A n c] w (Took l w) := by
  unfold maxLen at hm
  have H := Lib.hid hl
  clear hl
  go_enter Try.func33, Try.ntmps33
  go_wp2
  go_loop [4] (fun i => ∃ k : Nat, k ≤ n ∧ i = .int .i64 k ∧ Goes l k) (fun i => n - (intOf i).toNat)
  case atStart => exact ⟨0, Nat.zero_le _, rfl, fun j x hj => absurd hj (by omega)⟩
  case round =>
    obtain ⟨k, hk, rfl, hg⟩ := hrel
    by_cases hlt : k < n
    · have hkl : k < l.length := by rw [H.out]; exact hlt
      have hln : l.length ≤ n := by rw [H.out]; exact Nat.le_refl _
      obtain ⟨b, o, rfl, hb, hc⟩ := h.at_ hkl
      obtain ⟨x, hx⟩ : ∃ x, x = l[k] := ⟨_, rfl⟩
      rw [← hx] at hc
      have HX := Lib.hid hx
      clear hx
      unfold bv at hc
      by_cases xh : 128 ≤ x.toNat
      · have t2 : 128 ≤ (x.toNat : Int) := by omega
        have G : Goes l (k + 1) := fun j y hj hy => by
          by_cases e : j = k
          · subst e
            rw [List.getElem?_eq_getElem hkl] at hy
            injection hy with hy
            rw [← hy, ← HX.out]; exact xh
          · exact hg j y (by omega) hy
        clear xh hg h
        go_wp2
        go_round
        case rel => exact ⟨k + 1, by omega, by go_num, G⟩
        case measure => simp [intOf]; omega
      · have t2 : (x.toNat : Int) < 128 := by omega
        by_cases k9 : 9 < k
        · have D := Lib.hid (took_none (dec_long (by omega) (by omega) hg))
          have t3 : (9 : Int) < (k : Int) := by omega
          clear hg xh h
          go_wp2
          go_ret2
          exact ⟨ret_two_of (by rw [D.out.1]) (by rw [D.out.2]; rfl), rfl⟩
        · have t3 : (k : Int) ≤ 9 := by omega
          by_cases hz : 0 < k ∧ x.toNat = 0
          · obtain ⟨k0, x0⟩ := hz
            have D := Lib.hid (took_none (dec_zero hkl HX.out hg (by omega) k0 x0))
            clear hg xh h
            go_wp2
            go_ret2
            exact ⟨ret_two_of (by rw [D.out.1]) (by rw [D.out.2]; rfl), rfl⟩
          · by_cases ke : k = 9
            · subst ke
              by_cases x1 : x.toNat = 1
              · have D := Lib.hid (dec_good hkl HX.out hg (by omega) (by omega) hz (fun _ => x1))
                have t4 : ((x.toNat : Int) == 0) = false := by simp; omega
                have t5 : ((x.toNat : Int) != 1) = false := by simp [x1]
                have t6 : ¬ x.toNat = 0 := by omega
                clear hg hz k9
                have V := Lib.hid (fun j => val7_part (j := j) hkl HX.out (by omega) (fun _ => by omega))
                go_wp2
                go_loop [5, 6] (fun z i => ∃ (t : Int) (q : Nat), i = .int .i64 t ∧ z = .int .u64 q ∧ -1 ≤ t ∧ t ≤ 9 ∧ Hid (q = val7 ((l.take (9 + 1)).drop (t + 1).toNat))) (fun _ i => (intOf i + 1).toNat)
                case atStart => exact ⟨9, 0, rfl, rfl, by omega, by omega, start7 (k := 9) hkl⟩
                case round =>
                  obtain ⟨t, q, rfl, rfl, ht1, ht2, hq⟩ := hrel
                  by_cases ht : 0 ≤ t
                  · obtain ⟨j, rfl⟩ : ∃ j : Nat, t = (j : Int) := ⟨t.toNat, by omega⟩
                    have hjl : j < l.length := by omega
                    obtain ⟨b', o', e', -, hcj⟩ := h.at_ hjl
                    injection e' with e'
                    injection e' with e1 e2
                    subst e1 e2
                    obtain ⟨y, hy⟩ : ∃ y, y = l[j] := ⟨_, rfl⟩
                    rw [← hy] at hcj
                    unfold bv at hcj
                    have Q := Lib.hid (step7 hkl (by omega) hy hq.out (V.out j))
                    have hjn : j < n := by omega
                    clear hy hq hjl
                    go_wp2
                    go_round
                    case rel => exact ⟨(j : Int) - 1, q * 128 + y.toNat % 128, by go_num, by rw [Q.out.1], by omega, by omega, by rw [Q.out.2]; exact (back7 j _).symm⟩
                    case measure => simp [intOf]
                  · have hqz : q = val7 (l.take (9 + 1)) := by
                      have := hq.out
                      rw [show (t + 1).toNat = 0 by omega] at this
                      simpa using this
                    have Z := Lib.hid (took_some (D.out))
                    rw [← hqz] at Z
                    have hneg : t < 0 := by omega
                    have q64 : q < 18446744073709551616 := by rw [hqz]; exact (V.out 0)
                    clear hq hqz
                    by_cases hpar : q % 2 = 0
                    · have tt : ((q : Int) % 2 == 0) = true := by simp; omega
                      have U : unfold q = (q : Int) / 2 := by unfold Pk.unfold; rw [if_neg (by omega)]; omega
                      have U' := Lib.hid U
                      clear hpar U
                      go_wp2
                      go_ret2
                      exact ⟨ret_two_of (by rw [Z.out.1, U'.out]) (by rw [Z.out.2]; rfl), rfl⟩
                    · have tt : ((q : Int) % 2 == 0) = false := by simp; omega
                      have U : unfold q = -((q : Int) / 2) - 1 := by unfold Pk.unfold; rw [if_pos (by omega)]; omega
                      have U' := Lib.hid U
                      clear hpar U
                      go_wp2
                      go_ret2
                      exact ⟨ret_two_of (by rw [Z.out.1, U'.out]) (by rw [Z.out.2]; rfl), rfl⟩
              · have D := Lib.hid (took_none (dec_nine hkl HX.out hg x1))
                have t4 : ((x.toNat : Int) == 0) = false := by simp; omega
                have t5 : ((x.toNat : Int) != 1) = true := by simp only [bne_iff_ne, ne_eq]; omega
                have t6 : ¬ x.toNat = 0 := by omega
                clear hg hz xh h
                go_wp2
                go_ret2
                exact ⟨ret_two_of (by rw [D.out.1]) (by rw [D.out.2]; rfl), rfl⟩
            · have t3' : ¬ (k : Int) = 9 := by omega
              have D := Lib.hid (dec_good hkl HX.out hg (by omega) (by omega) hz (fun e => absurd e ke))
              by_cases k0 : 0 < k
              · have t6 : ¬ x.toNat = 0 := fun e => hz ⟨k0, e⟩
                have t4 : ((x.toNat : Int) == 0) = false := by simp; omega
                clear hg hz k9
                have V := Lib.hid (fun j => val7_part (j := j) hkl HX.out (by omega) (fun _ => by omega))
                go_wp2
                go_loop [5, 6] (fun z i => ∃ (t : Int) (q : Nat), i = .int .i64 t ∧ z = .int .u64 q ∧ -1 ≤ t ∧ t ≤ k ∧ Hid (q = val7 ((l.take (k + 1)).drop (t + 1).toNat))) (fun _ i => (intOf i + 1).toNat)
                case atStart => exact ⟨k, 0, rfl, rfl, by omega, by omega, start7 (k := k) hkl⟩
                case round =>
                  obtain ⟨t, q, rfl, rfl, ht1, ht2, hq⟩ := hrel
                  by_cases ht : 0 ≤ t
                  · obtain ⟨j, rfl⟩ : ∃ j : Nat, t = (j : Int) := ⟨t.toNat, by omega⟩
                    have hjl : j < l.length := by omega
                    obtain ⟨b', o', e', -, hcj⟩ := h.at_ hjl
                    injection e' with e'
                    injection e' with e1 e2
                    subst e1 e2
                    obtain ⟨y, hy⟩ : ∃ y, y = l[j] := ⟨_, rfl⟩
                    rw [← hy] at hcj
                    unfold bv at hcj
                    have Q := Lib.hid (step7 hkl (by omega) hy hq.out (V.out j))
                    have hjn : j < n := by omega
                    clear hy hq hjl
                    go_wp2
                    go_round
                    case rel => exact ⟨(j : Int) - 1, q * 128 + y.toNat % 128, by go_num, by rw [Q.out.1], by omega, by omega, by rw [Q.out.2]; exact (back7 j _).symm⟩
                    case measure => simp [intOf]
                  · have hqz : q = val7 (l.take (k + 1)) := by
                      have := hq.out
                      rw [show (t + 1).toNat = 0 by omega] at this
                      simpa using this
                    have Z := Lib.hid (took_some (D.out))
                    rw [← hqz] at Z
                    have hneg : t < 0 := by omega
                    have q64 : q < 18446744073709551616 := by rw [hqz]; exact (V.out 0)
                    clear hq hqz
                    by_cases hpar : q % 2 = 0
                    · have tt : ((q : Int) % 2 == 0) = true := by simp; omega
                      have U : unfold q = (q : Int) / 2 := by unfold Pk.unfold; rw [if_neg (by omega)]; omega
                      have U' := Lib.hid U
                      clear hpar U
                      go_wp2
                      go_ret2
                      exact ⟨ret_two_of (by rw [Z.out.1, U'.out]) (by rw [Z.out.2]; rfl), rfl⟩
                    · have tt : ((q : Int) % 2 == 0) = false := by simp; omega
                      have U : unfold q = -((q : Int) / 2) - 1 := by unfold Pk.unfold; rw [if_pos (by omega)]; omega
                      have U' := Lib.hid U
                      clear hpar U
                      go_wp2
                      go_ret2
                      exact ⟨ret_two_of (by rw [Z.out.1, U'.out]) (by rw [Z.out.2]; rfl), rfl⟩
              · clear hg hz k9
                have V := Lib.hid (fun j => val7_part (j := j) hkl HX.out (by omega) (fun _ => by omega))
                go_wp2
                go_loop [5, 6] (fun z i => ∃ (t : Int) (q : Nat), i = .int .i64 t ∧ z = .int .u64 q ∧ -1 ≤ t ∧ t ≤ k ∧ Hid (q = val7 ((l.take (k + 1)).drop (t + 1).toNat))) (fun _ i => (intOf i + 1).toNat)
                case atStart => exact ⟨k, 0, rfl, rfl, by omega, by omega, start7 (k := k) hkl⟩
                case round =>
                  obtain ⟨t, q, rfl, rfl, ht1, ht2, hq⟩ := hrel
                  by_cases ht : 0 ≤ t
                  · obtain ⟨j, rfl⟩ : ∃ j : Nat, t = (j : Int) := ⟨t.toNat, by omega⟩
                    have hjl : j < l.length := by omega
                    obtain ⟨b', o', e', -, hcj⟩ := h.at_ hjl
                    injection e' with e'
                    injection e' with e1 e2
                    subst e1 e2
                    obtain ⟨y, hy⟩ : ∃ y, y = l[j] := ⟨_, rfl⟩
                    rw [← hy] at hcj
                    unfold bv at hcj
                    have Q := Lib.hid (step7 hkl (by omega) hy hq.out (V.out j))
                    have hjn : j < n := by omega
                    clear hy hq hjl
                    go_wp2
                    go_round
                    case rel => exact ⟨(j : Int) - 1, q * 128 + y.toNat % 128, by go_num, by rw [Q.out.1], by omega, by omega, by rw [Q.out.2]; exact (back7 j _).symm⟩
                    case measure => simp [intOf]
                  · have hqz : q = val7 (l.take (k + 1)) := by
                      have := hq.out
                      rw [show (t + 1).toNat = 0 by omega] at this
                      simpa using this
                    have Z := Lib.hid (took_some (D.out))
                    rw [← hqz] at Z
                    have hneg : t < 0 := by omega
                    have q64 : q < 18446744073709551616 := by rw [hqz]; exact (V.out 0)
                    clear hq hqz
                    by_cases hpar : q % 2 = 0
                    · have tt : ((q : Int) % 2 == 0) = true := by simp; omega
                      have U : unfold q = (q : Int) / 2 := by unfold Pk.unfold; rw [if_neg (by omega)]; omega
                      have U' := Lib.hid U
                      clear hpar U
                      go_wp2
                      go_ret2
                      exact ⟨ret_two_of (by rw [Z.out.1, U'.out]) (by rw [Z.out.2]; rfl), rfl⟩
                    · have tt : ((q : Int) % 2 == 0) = false := by simp; omega
                      have U : unfold q = -((q : Int) / 2) - 1 := by unfold Pk.unfold; rw [if_pos (by omega)]; omega
                      have U' := Lib.hid U
                      clear hpar U
                      go_wp2
                      go_ret2
                      exact ⟨ret_two_of (by rw [Z.out.1, U'.out]) (by rw [Z.out.2]; rfl), rfl⟩
    · have D := Lib.hid (took_none (dec_open (l := l) (by rw [H.out]; exact goes_mono hg (by omega))))
      clear hg
      go_wp2
      go_ret2
      exact ⟨ret_two_of (by rw [D.out.1]) (by rw [D.out.2]; rfl), rfl⟩

end Go.Proofs.Ytckigcodmchfaaa.Pk
