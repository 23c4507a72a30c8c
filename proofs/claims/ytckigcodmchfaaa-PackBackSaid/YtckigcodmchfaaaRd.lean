/-
  What pack's readers do: a reader is a block of two cells, the bytes that are left and whether there was an error; each call answers and leaves as the document says. Conditions: the reader's block and its bytes lie in memory.
-/
import Derived.Test.YtckigcodmchfaaaPut
namespace Go.Proofs.Ytckigcodmchfaaa.Pk
open Go.RowKit

/-- A reader in block g: whether it is bad, and the bytes that are left. -/
def Rd (w : World) (g : Nat) (bad : Bool) (l : List UInt8) : Prop :=
  ∃ A c, w.heap[g]? = some (.cells #[.slice A l.length c, .bool bad] 49 (0, 0)) ∧ l.length ≤ c ∧ c ≤ maxLen ∧ Lies w g A l

theorem Rd.lt {w : World} {g : Nat} {bad : Bool} {l : List UInt8} (h : Rd w g bad l) : g < w.heap.size := by
  obtain ⟨A, c, hh, _⟩ := h
  rcases Nat.lt_or_ge g w.heap.size with q | q
  · exact q
  · rw [Array.getElem?_eq_none q] at hh; cases hh
theorem Rd.below {w w' : World} {g B : Nat} {bad : Bool} {l : List UInt8} (h : Rd w g bad l) (hb : Below B w w') (hg : g < B) : Rd w' g bad l := by
  obtain ⟨A, c, hh, h1, h2, h3⟩ := h
  exact ⟨A, c, (hb.block g hg).trans hh, h1, h2, h3.below (hb.mono (by omega))⟩
theorem Rd.drewN {w : World} {g : Nat} {bad : Bool} {l : List UInt8} (h : Rd w g bad l) (n : Nat) : Rd (w.drewN n) g bad l := h

theorem cell_blk {w : World} {g i : Nat} {cs : Array Value} {t : TypeId} {v : Value} (h : w.heap[g]? = some (.cells cs t (0, 0))) (hi : cs[i]? = some v) : w.cell? ⟨g, i, none⟩ = some v := by
  rw [cell_of_row w g i cs t (0, 0) h]; exact hi
theorem free_blk {w : World} {g i : Nat} {cs : Array Value} {t : TypeId} (h : w.heap[g]? = some (.cells cs t (0, 0))) : w.frozen? ⟨g, i, none⟩ = false := by
  simp [World.frozen?, h]
theorem set_blk {w : World} {g i : Nat} {cs : Array Value} {t : TypeId} (h : w.heap[g]? = some (.cells cs t (0, 0))) (v : Value) : (w.setCell ⟨g, i, none⟩ v).heap[g]? = some (.cells (cs.setIfInBounds i v) t (0, 0)) := by
  simp [World.setCell, Array.getElem?_modify, h]

theorem grownBy_set (w : World) (g i : Nat) (v : Value) : w.grownBy (w.setCell ⟨g, i, none⟩ v) (some g) :=
  ⟨rfl, rfl, rfl, by simp [World.setCell], fun k _ hk => Below.heap_setCell w _ v k (fun e => hk (by rw [e]))⟩
theorem grownBy_trans {a b c : World} {r : Option Nat} (h : a.grownBy b r) (k : b.grownBy c r) : a.grownBy c r :=
  ⟨k.os.trans h.os, k.tape.trans h.tape, k.output.trans h.output, Nat.le_trans h.size k.size, fun i hi hn => (k.block i (Nat.lt_of_lt_of_le hi h.size) hn).trans (h.block i hi hn)⟩
theorem grownBy_drewN {a b : World} {r : Option Nat} (h : a.grownBy b r) (n : Nat) : a.grownBy (b.drewN n) r := ⟨h.os, h.tape, h.output, h.size, h.block⟩

def NewRd (B : Nat) (w : World) (l : List UInt8) (e : Ending) (w' : World) : Prop :=
  ∃ g, e = .returned (.pointer (some ⟨g, 0, none⟩)) ∧ B ≤ g ∧ Rd w' g false l ∧ Below B w w'

set_option maxHeartbeats 400000 in
theorem new_any {A : Option Addr} {m c : Nat} {l : List UInt8} {w : World} (hl : l.length = m) (hb : m ≤ 140737488355000) (h : Lies w w.heap.size A l) :
    Calls Try.prog 17 #[.slice A m c] w (NewRd w.heap.size w l) := by
  subst hl
  go_enter Try.func17, Try.ntmps17
  go_wp2_with (go_at_call 29; refine (grown_any 0 rfl rfl (by omega) h).mono ?_; rintro e w1 ⟨v, rfl, hown, hbel⟩; obtain ⟨A', c', rfl, -, hc1, hc2, hlies, -⟩ := own_form hown)
  go_ret
  refine ⟨w1.heap.size, rfl, hbel.size, ⟨A', c', heap_alloc_new _ _, hc1, hc2, hlies.alloc (Nat.le_refl _) _⟩, hbel.alloc hbel.size _⟩

set_option maxHeartbeats 400000 in
theorem left_any {w : World} {g : Nat} {bad : Bool} {l : List UInt8} (h : Rd w g bad l) :
    Calls Try.prog 22 #[.pointer (some ⟨g, 0, none⟩)] w fun e w' => e = .returned (.int .i64 l.length) ∧ w = w' := by
  obtain ⟨A, c, hh, h1, h2, h3⟩ := h
  have hc0 := cell_blk (i := 0) hh rfl
  clear hh h3
  unfold maxLen at h2
  go_enter Try.func22, Try.ntmps22
  go_wp2
  go_ret
  exact ⟨rfl, rfl⟩

set_option maxHeartbeats 400000 in
theorem bad_any {w : World} {g : Nat} {bad : Bool} {l : List UInt8} (h : Rd w g bad l) :
    Calls Try.prog 24 #[.pointer (some ⟨g, 0, none⟩)] w fun e w' => e = .returned (.bool bad) ∧ w = w' := by
  obtain ⟨A, c, hh, h1, h2, h3⟩ := h
  have hc0 := cell_blk (i := 1) hh rfl
  clear hh h3 h1 h2
  go_enter Try.func24, Try.ntmps24
  go_wp2
  go_ret
  exact ⟨rfl, rfl⟩

set_option maxHeartbeats 400000 in
theorem done_any {w : World} {g : Nat} {bad : Bool} {l : List UInt8} (h : Rd w g bad l) :
    Calls Try.prog 25 #[.pointer (some ⟨g, 0, none⟩)] w fun e w' => e = .returned (.bool (!bad && decide (l.length = 0))) ∧ w = w' := by
  obtain ⟨A, c, hh, h1, h2, h3⟩ := h
  have hc0 := cell_blk (i := 0) hh rfl
  have hc1 := cell_blk (i := 1) hh rfl
  clear hh h3
  unfold maxLen at h2
  cases bad
  · have e : ((l.length : Int) == 0) = (!false && decide (l.length = 0)) := by
      by_cases q : l.length = 0
      · simp [q]
      · have : ¬ (l.length : Int) = 0 := by omega
        simp [q]
    have E := Lib.hid e
    clear e
    go_enter Try.func25, Try.ntmps25
    go_wp2
    go_ret
    exact ⟨by rw [← E.out]; rfl, rfl⟩
  · go_enter Try.func25, Try.ntmps25
    go_wp2
    go_ret
    exact ⟨rfl, rfl⟩

set_option maxHeartbeats 400000 in
theorem fail_any {w : World} {g : Nat} {bad : Bool} {l : List UInt8} (h : Rd w g bad l) :
    Calls Try.prog 31 #[.pointer (some ⟨g, 0, none⟩)] w fun e w' => e = .returned (.tuple #[]) ∧ Rd w' g true [] ∧ w.grownBy w' (some g) := by
  obtain ⟨A, c, hh, h1, h2, h3⟩ := h
  have hc0 := cell_blk (i := 0) hh rfl
  have hc1 := cell_blk (i := 1) hh rfl
  have hf0 := free_blk (i := 0) hh
  have hf1 := free_blk (i := 1) hh
  have HH := Lib.hid hh
  clear hh h3 h1 h2
  go_enter Try.func31, Try.ntmps31
  go_wp2
  go_end0
  have g1 : w.grownBy (w.setCell ⟨g, 0, none⟩ (.slice none 0 0)) (some g) := grownBy_set w g 0 _
  have g2 := grownBy_set (w.setCell ⟨g, 0, none⟩ (.slice none 0 0)) g 1 (.bool true)
  refine ⟨rfl, ⟨none, 0, ?_, Nat.le_refl _, Nat.zero_le _, Lies.none_⟩, grownBy_trans g1 g2⟩
  exact set_blk (set_blk HH.out _) _

/-- What firstNum answers: the folded number and how many bytes; 0, 0 if there is none. -/
def decZ (l : List UInt8) : Nat := ((dec l).map (·.1)).getD 0
def decN (l : List UInt8) : Nat := ((dec l).map (·.2)).getD 0

theorem dec_none_of {l : List UInt8} (h : dec l = none) : decZ l = 0 ∧ decN l = 0 := by simp [decZ, decN, h]
theorem dec_some_of {l : List UInt8} {z n : Nat} (h : dec l = some (z, n)) : decZ l = z ∧ decN l = n := by simp [decZ, decN, h]
theorem andNot_128 : ∀ n : Fin 256, n.val &&& 127 = n.val % 128 := by decide +kernel
theorem andNot_hi (x : UInt8) : bits .andNot .u8 (x.toNat : Int) 128 = ((x.toNat % 128 : Nat) : Int) := by
  have hx : x.toNat < 256 := x.toNat_lt
  rw [u8_andNot _ _ (by omega) (by omega) (by omega) (by omega)]
  have h := andNot_128 ⟨x.toNat, hx⟩
  simp only at h
  rw [Int.toNat_natCast, show (255 - (128 : Int).toNat) = 127 from rfl, h]
theorem pow_128 (k : Nat) : (128 : Nat) ^ k = 2 ^ (7 * k) := by rw [Nat.pow_mul]
/-- The next group of seven bits, laid above those that are there. -/
theorem next_group {q k : Nat} {x : UInt8} (hq : q < 128 ^ k) (hk : k < 9 ∨ k = 9 ∧ x.toNat = 1) :
    bits .or .u64 (q : Int) (IntKind.u64.wrap (IntKind.u64.wrap (bits .andNot .u8 (x.toNat : Int) 128) * 2 ^ (7 * k))) = ((q + x.toNat % 128 * 128 ^ k : Nat) : Int) := by
  have hm : x.toNat % 128 < 128 := Nat.mod_lt _ (by omega)
  have hp : (128 : Nat) ^ k ≤ 9223372036854775808 := by
    have : (128 : Nat) ^ k ≤ 128 ^ 9 := Nat.pow_le_pow_right (by omega) (by omega)
    have e : (128 : Nat) ^ 9 = 9223372036854775808 := by decide
    omega
  have hs : x.toNat % 128 * 128 ^ k < 18446744073709551616 := by
    rcases hk with hk | ⟨rfl, hx⟩
    · have h8 : (128 : Nat) ^ k ≤ 128 ^ 8 := Nat.pow_le_pow_right (by omega) (by omega)
      have e : (128 : Nat) ^ 8 = 72057594037927936 := by decide
      have := Nat.mul_le_mul (Nat.le_of_lt_succ hm) (Nat.le_trans h8 (Nat.le_of_eq e))
      omega
    · rw [hx]
      have e : (128 : Nat) ^ 9 = 9223372036854775808 := by decide
      rw [e]; omega
  rw [andNot_hi]
  have e1 : IntKind.u64.wrap ((x.toNat % 128 : Nat) : Int) = ((x.toNat % 128 : Nat) : Int) := by
    rw [IntKind.wrap_u64]; omega
  have e2 : ((x.toNat % 128 : Nat) : Int) * 2 ^ (7 * k) = ((x.toNat % 128 * 128 ^ k : Nat) : Int) := by
    rw [pow_128]; push_cast; rfl
  have e3 : IntKind.u64.wrap ((x.toNat % 128 * 128 ^ k : Nat) : Int) = ((x.toNat % 128 * 128 ^ k : Nat) : Int) := by
    rw [IntKind.wrap_u64]; omega
  rw [e1, e2, e3, u64_or_nat _ _ (by omega) hs]
  congr 1
  rw [Nat.or_comm, pow_128]
  rw [pow_128] at hq
  rw [Nat.mul_comm, ← Nat.two_pow_add_eq_or_of_lt hq, Nat.add_comm]
theorem next_group9 {q : Nat} {x : UInt8} (hq : q < 128 ^ 9) (hx : x.toNat = 1) :
    bits .or .u64 (q : Int) (IntKind.u64.wrap (IntKind.u64.wrap (bits .andNot .u8 (x.toNat : Int) 128) * 9223372036854775808)) = ((q + x.toNat % 128 * 128 ^ 9 : Nat) : Int) :=
  next_group (k := 9) hq (.inr ⟨rfl, hx⟩)
theorem next_lt {q k m : Nat} (hq : q < 128 ^ k) (hm : m < 128) : q + m * 128 ^ k < 128 ^ (k + 1) := by
  rw [Nat.pow_succ, Nat.mul_comm (128 ^ k) 128]
  generalize 128 ^ k = p at *
  have := Nat.mul_le_mul_right p (Nat.le_of_lt_succ hm)
  have e : 128 * p = 127 * p + p := by omega
  omega
theorem drop_at {l : List UInt8} {k : Nat} (h : k < l.length) {x : UInt8} (hx : x = l[k]) : l.drop k = x :: l.drop (k + 1) := by
  rw [hx]; exact List.drop_eq_getElem_cons h
theorem ret_two {a b : Int} {k1 k2 : IntKind} {c d : Int} (h1 : a = b) (h2 : c = d) : Ending.returned (.tuple #[.int k1 a, .int k2 c]) = .returned (.tuple #[.int k1 b, .int k2 d]) := by rw [h1, h2]

theorem st_nine {l : List UInt8} {q : Nat} {x : UInt8} {r : List UInt8} (hd : decFrom 9 q (x :: r) = dec l) (hx : x.toNat ≠ 1) : dec l = none := by
  rw [← hd]; simp [decFrom, hx]
theorem st_more {l : List UInt8} {k q : Nat} {x : UInt8} {r : List UInt8} (hd : decFrom k q (x :: r) = dec l) (hk : k ≠ 9) (hx : 128 ≤ x.toNat) : decFrom (k + 1) (q + x.toNat % 128 * 128 ^ k) r = dec l := by
  rw [← hd]; simp [decFrom, hk, hx]
theorem st_zero {l : List UInt8} {k q : Nat} {x : UInt8} {r : List UInt8} (hd : decFrom k q (x :: r) = dec l) (hk : k ≠ 9) (hk0 : 0 < k) (hx : x.toNat = 0) : dec l = none := by
  rw [← hd]; simp [decFrom, hk, hx, hk0]
theorem st_last {l : List UInt8} {k q : Nat} {x : UInt8} {r : List UInt8} (hd : decFrom k q (x :: r) = dec l) (hk : k = 9 → x.toNat = 1) (hx : x.toNat < 128) (h0 : ¬ (x.toNat = 0 ∧ 0 < k)) : dec l = some (q + x.toNat % 128 * 128 ^ k, k + 1) := by
  rw [← hd]
  simp only [decFrom]
  rw [if_neg (by omega), if_neg (by omega), if_neg h0]

set_option maxRecDepth 20000 in
set_option maxHeartbeats 1000000 in
theorem first_any {A : Option Addr} {n c : Nat} {l : List UInt8} {w : World} {B : Nat} (hl : l.length = n) (hm : n ≤ maxLen) (h : Lies w B A l) :
    Calls Try.prog 30 #[.slice A n c] w fun e w' => e = .returned (.tuple #[.int .u64 (decZ l), .int .i64 (decN l)]) ∧ w = w' := by
  unfold maxLen at hm
  have H := Lib.hid hl
  clear hl
  go_enter Try.func30, Try.ntmps30
  go_wp2
  go_loop [4, 9] (fun z i => ∃ k q : Nat, k ≤ n ∧ k ≤ 9 ∧ i = .int .i64 k ∧ z = .int .u64 q ∧ Hid (decFrom k q (l.drop k) = dec l) ∧ Hid (q < 128 ^ k)) (fun _ i => n - (intOf i).toNat)
  case atStart => exact ⟨0, 0, Nat.zero_le _, by omega, rfl, rfl, rfl, by show (0 : Nat) < 1; omega⟩
  case round =>
    obtain ⟨k, q, hk, hk9, rfl, rfl, hd, hq⟩ := hrel
    by_cases hlt : k < n
    · have hkl : k < l.length := by rw [H.out]; exact hlt
      obtain ⟨b, o, rfl, hb, hc⟩ := h.at_ hkl
      obtain ⟨x, hx⟩ : ∃ x, x = l[k] := ⟨_, rfl⟩
      rw [← hx] at hc
      have HD : Hid (decFrom k q (x :: l.drop (k + 1)) = dec l) := by rw [← drop_at hkl hx]; exact hd
      clear hx hd h hkl
      unfold bv at hc
      by_cases k9 : k = 9
      · subst k9
        by_cases x1 : x.toNat = 1
        · have D := Lib.hid (st_last HD.out (fun _ => x1) (by omega) (by omega))
          have V := Lib.hid (next_group9 hq.out x1)
          have t1 : ((x.toNat : Int) != 1) = false := by simp [x1]
          have t2 : (x.toNat : Int) < 128 := by omega
          have t3 : ¬ x.toNat = 0 := by omega
          clear HD hq x1
          go_wp2
          go_ret2
          exact ⟨ret_two (by rw [(dec_some_of D.out).1, ← V.out]) (by rw [(dec_some_of D.out).2]; rfl), rfl⟩
        · have D := Lib.hid (st_nine HD.out x1)
          have t1 : ((x.toNat : Int) != 1) = true := by simp only [bne_iff_ne, ne_eq]; omega
          clear HD hq x1
          go_wp2
          go_ret2
          exact ⟨ret_two (by rw [(dec_none_of D.out).1]; rfl) (by rw [(dec_none_of D.out).2]; rfl), rfl⟩
      · have t0 : ¬ (k : Int) = 9 := by omega
        by_cases xh : 128 ≤ x.toNat
        · have D := Lib.hid (st_more HD.out k9 xh)
          have V := Lib.hid (next_group (x := x) hq.out (.inl (by omega)))
          have L := Lib.hid (next_lt hq.out (Nat.mod_lt x.toNat (by omega : 128 > 0)))
          have t2 : 128 ≤ (x.toNat : Int) := by omega
          have KN : k ≤ 8 := by omega
          clear HD hq k9 xh
          go_wp2
          go_round
          case rel => exact ⟨k + 1, _, by omega, by omega, by go_num, by rw [V.out], D.out, L.out⟩
          case measure => simp [intOf]; omega
        · have t2 : (x.toNat : Int) < 128 := by omega
          by_cases x0 : x.toNat = 0
          · by_cases k0 : 0 < k
            · have D := Lib.hid (st_zero HD.out k9 k0 x0)
              have t4 : (0 : Int) < (k : Int) := by omega
              clear HD hq k9 xh
              go_wp2
              go_ret2
              exact ⟨ret_two (by rw [(dec_none_of D.out).1]; rfl) (by rw [(dec_none_of D.out).2]; rfl), rfl⟩
            · have D := Lib.hid (st_last HD.out (fun e => by omega) (by omega) (by omega))
              have V := Lib.hid (next_group (x := x) hq.out (.inl (by omega)))
              have t4 : (k : Int) ≤ 0 := by omega
              clear HD hq k9 xh
              go_wp2
              go_ret2
              exact ⟨ret_two (by rw [(dec_some_of D.out).1]; have v := V.out; rw [x0] at v ⊢; exact v) (by rw [(dec_some_of D.out).2]; rfl), rfl⟩
          · have D := Lib.hid (st_last HD.out (fun e => by omega) (by omega) (by omega))
            have V := Lib.hid (next_group (x := x) hq.out (.inl (by omega)))
            clear HD hq k9 xh
            go_wp2
            go_ret2
            exact ⟨ret_two (by rw [(dec_some_of D.out).1, ← V.out]) (by rw [(dec_some_of D.out).2]; rfl), rfl⟩
    · have D : dec l = none := by
        have := hd.out
        rw [List.drop_eq_nil_of_le (by rw [H.out]; omega)] at this
        rw [← this]; rfl
      have D' := Lib.hid D
      clear D
      go_wp2
      go_ret2
      exact ⟨ret_two (by rw [(dec_none_of D'.out).1]; rfl) (by rw [(dec_none_of D'.out).2]; rfl), rfl⟩

/-- What a reader's Num answers, and what is left of it. -/
def numVal (bad : Bool) (l : List UInt8) : Int := if bad then 0 else match dec l with | some (z, _) => unfold z | none => 0
def numBad (bad : Bool) (l : List UInt8) : Bool := bad || (dec l).isNone
def numLeft (bad : Bool) (l : List UInt8) : List UInt8 := if bad then l else match dec l with | some (_, n) => l.drop n | none => []

def RdNum (w : World) (g : Nat) (bad : Bool) (l : List UInt8) (e : Ending) (w' : World) : Prop :=
  e = .returned (.int .i64 (numVal bad l)) ∧ Rd w' g (numBad bad l) (numLeft bad l) ∧ w.grownBy w' (some g)

theorem rd_cut {w : World} {g c n : Nat} {bad : Bool} {l : List UInt8} {A : Option Addr} (hh : w.heap[g]? = some (.cells #[.slice A l.length c, .bool bad] 49 (0, 0))) (h1 : l.length ≤ c) (h2 : c ≤ maxLen) (hn : ¬ c = n) (h3 : Lies w g A l) :
    Rd (w.setCell ⟨g, 0, none⟩ (.slice (Option.map (fun x => x.add n) A) (l.length - n) (c - n))) g bad (l.drop n) := by
  refine ⟨Option.map (fun x => x.add n) A, c - n, ?_, ?_, by omega, ?_⟩
  · rw [set_blk hh, List.length_drop]; rfl
  · rw [List.length_drop]; omega
  · have := h3.cut (k := n) h1
    rw [if_neg hn] at this
    exact this.setCell (Nat.le_refl _) _
theorem rd_end {w : World} {g c n : Nat} {bad : Bool} {l : List UInt8} {A : Option Addr} {v : Value} (hh : w.heap[g]? = some (.cells #[v, .bool bad] 49 (0, 0))) (h1 : l.length ≤ c) (hn : c = n) :
    Rd (w.setCell ⟨g, 0, none⟩ (.slice A (l.length - n) 0)) g bad (l.drop n) := by
  have e : l.drop n = [] := List.drop_eq_nil_of_le (by omega)
  have e2 : l.length - n = 0 := by omega
  rw [e, e2]
  exact ⟨A, 0, by rw [set_blk hh]; rfl, Nat.le_refl _, Nat.zero_le _, Lies.none_⟩

set_option maxHeartbeats 1000000 in
theorem rnum_any {w : World} {g : Nat} {bad : Bool} {l : List UInt8} (h : Rd w g bad l) :
    Calls Try.prog 18 #[.pointer (some ⟨g, 0, none⟩)] w (RdNum w g bad l) := by
  have h' := h
  obtain ⟨A, c, hh, h1, h2, h3⟩ := h
  have hc0 : w.cell? ⟨g, 0, none⟩ = some (.slice A l.length c) := cell_blk (i := 0) hh rfl
  have hc1 : w.cell? ⟨g, 1, none⟩ = some (.bool bad) := cell_blk (i := 1) hh rfl
  have hf0 := free_blk (i := 0) hh
  cases bad
  · have HH := Lib.hid hh
    clear hh
    rcases hdec : dec l with _ | ⟨z, n⟩
    · have D := Lib.hid hdec
      obtain ⟨hz, hn⟩ := dec_none_of hdec
      clear hdec
      go_enter Try.func18, Try.ntmps18
      go_wp2_with (first
        | (go_at_call 30; refine (first_any rfl (Nat.le_trans h1 h2) h3).mono ?_; rintro e w' ⟨rfl, rfl⟩)
        | (go_at_call 31; refine (fail_any h').mono ?_; rintro e w' ⟨rfl, hr, hg⟩))
      go_ret
      refine ⟨ret_int (by simp [numVal, D.out]), ?_, hg⟩
      simpa [numBad, numLeft, D.out] using hr
    · obtain ⟨h64, hlen, r, hr⟩ := dec_some hdec
      have hpos : 0 < n := by rw [hlen]; exact enc_len_pos z
      have hle : n ≤ l.length := by rw [hr, List.length_append, hlen]; omega
      obtain ⟨hz, hn⟩ := dec_some_of hdec
      have D := Lib.hid hdec
      clear hdec hlen hr
      go_enter Try.func18, Try.ntmps18
      go_wp2_with (first
        | (go_at_call 30; refine (first_any rfl (Nat.le_trans h1 h2) h3).mono ?_; rintro e w' ⟨rfl, rfl⟩)
        | (go_at_call 32; refine (unfold_any _ _ h64).mono ?_; rintro e w' ⟨rfl, rfl⟩))
      · go_ret
        refine ⟨ret_int (by simp [numVal, D.out]), ?_, grownBy_set _ _ _ _⟩
        have e1 : numLeft false l = l.drop n := by simp [numLeft, D.out]
        have e2 : numBad false l = false := by simp [numBad, D.out]
        rw [e1, e2]
        exact rd_end HH.out h1 (by omega)
      · go_ret
        refine ⟨ret_int (by simp [numVal, D.out]), ?_, grownBy_set _ _ _ _⟩
        have e1 : numLeft false l = l.drop n := by simp [numLeft, D.out]
        have e2 : numBad false l = false := by simp [numBad, D.out]
        rw [e1, e2]
        exact rd_cut HH.out h1 h2 (by omega) h3
  · clear h2 h1 h3
    go_enter Try.func18, Try.ntmps18
    go_wp2_with fail
    go_ret
    exact ⟨rfl, h', World.grownBy.refl _ _⟩

/-- A reader's Text, in two steps: the length, and the bytes. -/
def txtOk (bad : Bool) (l : List UInt8) : Bool := !numBad bad l && decide (0 ≤ numVal bad l) && decide (numVal bad l ≤ (numLeft bad l).length)
def txtVal (bad : Bool) (l : List UInt8) : List UInt8 := if txtOk bad l then (numLeft bad l).take (numVal bad l).toNat else []
def txtBad (bad : Bool) (l : List UInt8) : Bool := !txtOk bad l
def txtLeft (bad : Bool) (l : List UInt8) : List UInt8 := if txtOk bad l then (numLeft bad l).drop (numVal bad l).toNat else if bad then l else []

def RdText (w : World) (g : Nat) (bad : Bool) (l : List UInt8) (e : Ending) (w' : World) : Prop :=
  ∃ s : ByteArray, e = .returned (.string s) ∧ s.data.toList = txtVal bad l ∧ Rd w' g (txtBad bad l) (txtLeft bad l) ∧ w.grownBy w' (some g)

theorem numVal_range (bad : Bool) (l : List UInt8) : -9223372036854775808 ≤ numVal bad l ∧ numVal bad l ≤ 9223372036854775807 := by
  unfold numVal
  split
  · omega
  · split
    · rename_i z n hd
      exact unfold_range (dec_some hd).1
    · omega

theorem conv_str {A : Option Addr} {n c B : Nat} {l : List UInt8} {w : World} (hl : l.length = n) (h : Lies w B A l) : (convert 22 9 (.slice A n c)).run Try.prog w = .ok (.string ⟨l.toArray⟩) w := by
  subst hl
  rcases A with _ | ⟨b, o, sp⟩
  · have : l = [] := by
      rcases l with _ | ⟨x, r⟩
      · rfl
      · obtain ⟨b, o, e, _⟩ := h 0 x rfl
        cases e
    subst this
    exact run_convert_bytes_nil (P := Try.prog) w 22 5 Try.underlying22 Try.underlying5 _ _ 9 Try.underlying9
  · exact run_convert_bytes_back (P := Try.prog) w 22 9 5 ⟨b, o, sp⟩ c l Try.underlying22 Try.underlying5 Try.underlying9 (fun j hj => by
      obtain ⟨b', o', e, _, hc⟩ := h.at_ hj
      injection e with e
      rw [e, Addr.add_lit]
      exact hc)

theorem ok_false_bad {bad : Bool} {l : List UInt8} (h : numBad bad l = true) : txtOk bad l = false := by simp [txtOk, h]

theorem txt_no {bad : Bool} {l : List UInt8} (nb : numBad bad l = false) (ok : txtOk bad l = false) : txtBad bad l = true ∧ txtLeft bad l = [] ∧ txtVal bad l = [] := by
  have e : bad = false := by
    unfold numBad at nb
    cases bad
    · rfl
    · simp at nb
  subst e
  refine ⟨by simp [txtBad, ok], ?_, by simp [txtVal, ok]⟩
  unfold txtLeft
  rw [ok]
  rfl
theorem txt_yes {bad : Bool} {l l2 : List UInt8} {n : Nat} (ok : txtOk bad l = true) (hv : (n : Int) = numVal bad l) (hl : l2 = numLeft bad l) : txtBad bad l = false ∧ txtLeft bad l = l2.drop n ∧ txtVal bad l = l2.take n := by
  have e : (numVal bad l).toNat = n := by omega
  refine ⟨by simp [txtBad, ok], ?_, ?_⟩
  · simp [txtLeft, ok, e, hl]
  · simp [txtVal, ok, e, hl]

set_option maxHeartbeats 1000000 in
theorem rtext_any {w : World} {g : Nat} {bad : Bool} {l : List UInt8} (h : Rd w g bad l) :
    Calls Try.prog 20 #[.pointer (some ⟨g, 0, none⟩)] w (RdText w g bad l) := by
  obtain ⟨v, hv⟩ : ∃ v, v = numVal bad l := ⟨_, rfl⟩
  obtain ⟨b2, hb2⟩ : ∃ b2, b2 = numBad bad l := ⟨_, rfl⟩
  obtain ⟨l2, hl2⟩ : ∃ l2, l2 = numLeft bad l := ⟨_, rfl⟩
  have hnum : Calls Try.prog 18 #[.pointer (some ⟨g, 0, none⟩)] w fun e w' => e = .returned (.int .i64 v) ∧ Rd w' g b2 l2 ∧ w.grownBy w' (some g) := by
    rw [hv, hb2, hl2]; exact rnum_any h
  have hr := numVal_range bad l
  rw [← hv] at hr
  obtain ⟨hr1, hr2⟩ := hr
  have HV := Lib.hid hv
  have HB := Lib.hid hb2
  have HL := Lib.hid hl2
  clear hv hb2 hl2
  cases b2
  · by_cases hlow : v < 0
    · have OK : txtOk bad l = false := by
        have h1 := HV.out
        simp only [txtOk, Bool.and_eq_false_iff, decide_eq_false_iff_not]
        exact .inl (.inr (by omega))
      have OK' := Lib.hid OK
      clear OK
      go_enter Try.func20, Try.ntmps20
      go_wp2_with (first
        | (go_at_call 18; refine hnum.mono ?_; rintro e w1 ⟨rfl, hrd, hg1⟩; have hrd' := hrd; obtain ⟨A, c, hh, h1, h2, h3⟩ := hrd; have hc0 : w1.cell? ⟨g, 0, none⟩ = some (.slice A l2.length c) := cell_blk (i := 0) hh rfl; have hc1 : w1.cell? ⟨g, 1, none⟩ = some (.bool false) := cell_blk (i := 1) hh rfl; have HH := Lib.hid hh; clear hh)
        | (go_at_call 31; refine (fail_any hrd').mono ?_; rintro e w2 ⟨rfl, hr', hg2⟩))
      go_ret
      obtain ⟨e1, e2, e3⟩ := txt_no HB.out.symm OK'.out
      refine ⟨_, rfl, by rw [e3], ?_, grownBy_trans hg1 hg2⟩
      rw [e1, e2]
      exact hr'
    · obtain ⟨n, rfl⟩ : ∃ n : Nat, v = (n : Int) := ⟨v.toNat, by omega⟩
      by_cases hhigh : l2.length < n
      · have OK : txtOk bad l = false := by
          have h1 := HV.out
          have h2 := HL.out
          simp only [txtOk, Bool.and_eq_false_iff, decide_eq_false_iff_not]
          exact .inr (by rw [← h1, ← h2]; omega)
        have OK' := Lib.hid OK
        clear OK
        have hgt : (l2.length : Int) < (n : Int) := by omega
        go_enter Try.func20, Try.ntmps20
        go_wp2_with (first
          | (go_at_call 18; refine hnum.mono ?_; rintro e w1 ⟨rfl, hrd, hg1⟩; have hrd' := hrd; obtain ⟨A, c, hh, h1, h2, h3⟩ := hrd; have hc0 : w1.cell? ⟨g, 0, none⟩ = some (.slice A l2.length c) := cell_blk (i := 0) hh rfl; have hc1 : w1.cell? ⟨g, 1, none⟩ = some (.bool false) := cell_blk (i := 1) hh rfl; have HH := Lib.hid hh; clear hh)
          | (go_at_call 31; refine (fail_any hrd').mono ?_; rintro e w2 ⟨rfl, hr', hg2⟩))
        go_ret
        obtain ⟨e1, e2, e3⟩ := txt_no HB.out.symm OK'.out
        refine ⟨_, rfl, by rw [e3], ?_, grownBy_trans hg1 hg2⟩
        rw [e1, e2]
        exact hr'
      · have OK : txtOk bad l = true := by
          have h1 := HV.out
          have h2 := HL.out
          have h3 := HB.out
          simp only [txtOk, Bool.and_eq_true, decide_eq_true_eq, Bool.not_eq_true']
          exact ⟨⟨h3.symm, by omega⟩, by rw [← h1, ← h2]; omega⟩
        have OK' := Lib.hid OK
        clear OK
        have hle : n ≤ l2.length := by omega
        have tk : (l2.take n).length = n := by rw [List.length_take]; omega
        have TK := Lib.hid tk
        clear tk hhigh
        go_enter Try.func20, Try.ntmps20
        go_wp2_with (first
          | (go_at_call 18; refine hnum.mono ?_; rintro e w1 ⟨rfl, hrd, hg1⟩; have hrd' := hrd; obtain ⟨A, c, hh, h1, h2, h3⟩ := hrd; have hc0 : w1.cell? ⟨g, 0, none⟩ = some (.slice A l2.length c) := cell_blk (i := 0) hh rfl; have hc1 : w1.cell? ⟨g, 1, none⟩ = some (.bool false) := cell_blk (i := 1) hh rfl; have hf0 := free_blk (i := 0) hh; have HH := Lib.hid hh; clear hh; have hcv := conv_str (c := c) TK.out (h3.take n))
          | fail)
        · go_ret
          obtain ⟨e1, e2, e3⟩ := txt_yes OK'.out HV.out HL.out
          refine ⟨_, rfl, by rw [e3], ?_, grownBy_trans hg1 (grownBy_set _ _ _ _)⟩
          rw [e1, e2]
          exact rd_end HH.out h1 (by omega)
        · go_ret
          obtain ⟨e1, e2, e3⟩ := txt_yes OK'.out HV.out HL.out
          refine ⟨_, rfl, by rw [e3], ?_, grownBy_trans hg1 (grownBy_set _ _ _ _)⟩
          rw [e1, e2]
          exact rd_cut HH.out h1 h2 (by omega) h3
  · have OK' := Lib.hid (ok_false_bad HB.out.symm)
    go_enter Try.func20, Try.ntmps20
    go_wp2_with (first
      | (go_at_call 18; refine hnum.mono ?_; rintro e w1 ⟨rfl, hrd, hg1⟩; have hrd' := hrd; obtain ⟨A, c, hh, h1, h2, h3⟩ := hrd; have hc1 : w1.cell? ⟨g, 1, none⟩ = some (.bool true) := cell_blk (i := 1) hh rfl; have HH := Lib.hid hh; clear hh)
      | fail)
    go_ret
    refine ⟨_, rfl, by simp [txtVal, OK'.out], ?_, hg1⟩
    have e : txtLeft bad l = l2 := by
      have hb := HB.out
      rw [HL.out]
      simp only [txtLeft, OK'.out]
      cases bad
      · simp only [numLeft]
        unfold numBad at hb
        cases hd : dec l with
        | none => simp
        | some p => rw [hd] at hb; simp at hb
      · simp [numLeft]
    have e2 : txtBad bad l = true := by simp [txtBad, OK'.out]
    rw [e, e2]
    exact hrd'

end Go.Proofs.Ytckigcodmchfaaa.Pk
