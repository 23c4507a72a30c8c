/-
  The walk of a law: For every byte slice, integer and string, pack leaves what is handed in, its spare room too, and what comes out is memory of its own; a nil reader answers zero values. Conditions: none (the law looks at nothing longer than 4096 bytes).
-/
import Derived.Test.YtckigcodmchfaaaAwake
import Derived.Test.YtckigcodmchfaaaRef
namespace Go.Proofs.Ytckigcodmchfaaa.packKeeps
open Go.RowKit
open Go.Proofs.Ytckigcodmchfaaa.Pk
set_option linter.unusedVariables false

theorem own_empty (w : World) : (w.alloc (.cells #[] 5)).ownsRow w.heap.size 5 1 (.slice (some ⟨w.heap.size, 0, none⟩) 0 0) 0 (cells []) :=
  ⟨rfl, .inr ⟨w.heap.size, 0, #[], rfl, Nat.le_refl _, heap_alloc_new w _, Nat.le_refl _, Nat.zero_le _, rfl, rfl⟩⟩
theorem own_below {w w' : World} {base n : Nat} {v : Value} {xs : List Value} (h : w.ownsRow base 5 1 v n xs) (hb : Below w.heap.size w w') : w'.ownsRow base 5 1 v n xs := by
  refine ⟨h.1, ?_⟩
  rcases h.2 with h2 | ⟨g, cap, cur, hv, hg, hh, r⟩
  · exact .inl h2
  · have hlt : g < w.heap.size := by
      rcases Nat.lt_or_ge g w.heap.size with q | q
      · exact q
      · rw [Array.getElem?_eq_none q] at hh; cases hh
    exact .inr ⟨g, cap, cur, hv, hg, (hb.block g hlt).trans hh, r⟩
theorem same_eq {A A' : Option Addr} {n n' c c' : Nat} {l : List UInt8} {w : World} {B B' : Nat} (hl : l.length = n) (hl' : l.length = n') (hm : n ≤ maxLen) (h : Lies w B A l) (h' : Lies w B' A' l) :
    Calls Try.prog 14 #[.slice A n c, .slice A' n' c'] w fun e w' => e = .returned (.bool true) ∧ ∃ k, w' = w.drewN k := by
  refine (same_any hl hl' hm (by omega) h h').mono ?_
  rintro e w' ⟨rfl, hk⟩
  exact ⟨by simp, hk⟩
theorem below_empty {w w1 : World} (hg : (w.alloc (.cells #[] 5)).grownBy w1 (Value.ownBlock (.slice (some ⟨w.heap.size, 0, none⟩) 0 0))) : Below w.heap.size w w1 :=
  ((Below.refl _ _).alloc (Nat.le_refl _) _).grown hg (by simp) (fun k e => by simp [Value.ownBlock] at e; omega)
theorem own_at {w : World} {base n c k : Nat} {A : Option Addr} {xs : List Value} (h : w.ownsRow base 5 1 (.slice A n c) n xs) (hk : k < n) :
    ∃ g, A = some ⟨g, 0, none⟩ ∧ base ≤ g ∧ g < w.heap.size ∧ (∃ u, w.cell? ⟨g, k, none⟩ = some u) ∧ w.frozen? ⟨g, k, none⟩ = false ∧
      ∀ u, (w.setCell ⟨g, k, none⟩ u).ownsRow base 5 1 (.slice A n c) n (xs.set k u) ∧ w.grownBy (w.setCell ⟨g, k, none⟩ u) (some g) := by
  have hl := h.lt
  rcases h.2 with ⟨_, h0⟩ | ⟨g, cap, cur, hv, _, _⟩
  · omega
  · injection hv with hA _ hc
    subst hA hc
    have hlt := hl g rfl
    have hx : k < xs.length := by have := h.1; omega
    exact ⟨g, rfl, hlt.1, hlt.2, ⟨_, (h.cellAt k (by omega)).trans (List.getElem?_eq_getElem hx)⟩, h.frozenAt k, fun u => h.stored k u⟩


/-- Bytes that lie in blocks from lo on. -/
def LiesFrom (lo : Nat) (w : World) (A : Option Addr) (l : List UInt8) : Prop :=
  ∀ k x, l[k]? = some x → ∃ b o, A = some ⟨b, o, none⟩ ∧ lo ≤ b ∧ b < w.heap.size ∧ w.cell? ⟨b, o + k, none⟩ = some (bv x)
theorem LiesFrom.of_own {w : World} {base n c : Nat} {A : Option Addr} {l : List UInt8} (h : w.ownsRow base 5 1 (.slice A n c) n (cells l)) : LiesFrom base w A l := fun k x hx => by
  obtain ⟨b, o, rfl, hb, hc⟩ := Lies.of_own h k x hx
  exact ⟨b, o, rfl, (h.lt b rfl).1, hb, hc⟩
theorem LiesFrom.lies {lo : Nat} {w : World} {A : Option Addr} {l : List UInt8} (h : LiesFrom lo w A l) : Lies w w.heap.size A l := fun k x hx => by
  obtain ⟨b, o, e, _, hb, hc⟩ := h k x hx
  exact ⟨b, o, e, hb, hc⟩
theorem LiesFrom.below {lo : Nat} {w w' : World} {A : Option Addr} {l : List UInt8} (h : LiesFrom lo w A l) (hb : Below w.heap.size w w') : LiesFrom lo w' A l := fun k x hx => by
  obtain ⟨b, o, e, h1, h2, hc⟩ := h k x hx
  exact ⟨b, o, e, h1, Nat.lt_of_lt_of_le h2 hb.size, (hb.cell (p := ⟨b, o + k, none⟩) h2).trans hc⟩
theorem LiesFrom.grown {lo g : Nat} {w w' : World} {A : Option Addr} {l : List UInt8} (h : LiesFrom lo w A l) (hg : w.grownBy w' (some g)) (hlo : g < lo) : LiesFrom lo w' A l := fun k x hx => by
  obtain ⟨b, o, e, h1, h2, hc⟩ := h k x hx
  exact ⟨b, o, e, h1, Nat.lt_of_lt_of_le h2 hg.size, (World.cell?_of_block (w := w) (hg.block b h2 (fun e => by injection e with e; omega))).trans hc⟩
theorem LiesFrom.mono {lo lo' : Nat} {w : World} {A : Option Addr} {l : List UInt8} (h : LiesFrom lo w A l) (hl : lo' ≤ lo) : LiesFrom lo' w A l := fun k x hx => by
  obtain ⟨b, o, e, h1, h2, hc⟩ := h k x hx
  exact ⟨b, o, e, by omega, h2, hc⟩

/-- What the law has made: its own bytes, the integer's row, the string's row and what is wanted of it; the first two may be written, the other two lie apart from them. -/
structure St (w : World) (B1 B2 : Nat) (A1 : Option Addr) (n1 c1 : Nat) (A2 : Option Addr) (n2 c2 : Nat) (A3 A4 : Option Addr) (L : List UInt8) (W : World) : Prop where
  own : ∃ xs, W.ownsRow w.heap.size 5 1 (.slice A1 n1 c1) n1 xs
  ownLt : ∀ g, Value.ownBlock (.slice A1 n1 c1) = some g → g < B1
  one : ∃ xs, W.ownsRow B1 5 1 (.slice A2 n2 c2) n2 xs
  oneLt : ∀ g, Value.ownBlock (.slice A2 n2 c2) = some g → g < B2
  two : LiesFrom B2 W A3 L
  want : LiesFrom B2 W A4 L
  bel : Below w.heap.size w W
  le1 : w.heap.size ≤ B1
  le2 : B1 ≤ B2
theorem St.below {w W W1 : World} {B1 B2 n1 c1 n2 c2 : Nat} {A1 A2 A3 A4 : Option Addr} {L : List UInt8} (h : St w B1 B2 A1 n1 c1 A2 n2 c2 A3 A4 L W) (hb : Below W.heap.size W W1) : St w B1 B2 A1 n1 c1 A2 n2 c2 A3 A4 L W1 := by
  obtain ⟨xs, ho⟩ := h.own
  obtain ⟨ys, hn⟩ := h.one
  exact ⟨⟨xs, own_below ho hb⟩, h.ownLt, ⟨ys, own_below hn hb⟩, h.oneLt, h.two.below hb, h.want.below hb, h.bel.trans (hb.mono h.bel.size), h.le1, h.le2⟩
theorem St.drewN {w W : World} {B1 B2 n1 c1 n2 c2 : Nat} {A1 A2 A3 A4 : Option Addr} {L : List UInt8} (h : St w B1 B2 A1 n1 c1 A2 n2 c2 A3 A4 L W) (n : Nat) : St w B1 B2 A1 n1 c1 A2 n2 c2 A3 A4 L (W.drewN n) := ⟨h.own, h.ownLt, h.one, h.oneLt, h.two, h.want, below_drewN h.bel n, h.le1, h.le2⟩
theorem St.setOne {w W : World} {B1 B2 n1 c1 n2 c2 k : Nat} {A1 A2 A3 A4 : Option Addr} {L : List UInt8} (h : St w B1 B2 A1 n1 c1 A2 n2 c2 A3 A4 L W) (hk : k < n2) :
    ∃ g, A2 = some ⟨g, 0, none⟩ ∧ (∃ u, W.cell? ⟨g, k, none⟩ = some u) ∧ W.frozen? ⟨g, k, none⟩ = false ∧ ∀ u, St w B1 B2 A1 n1 c1 A2 n2 c2 A3 A4 L (W.setCell ⟨g, k, none⟩ u) := by
  obtain ⟨ys, hn⟩ := h.one
  obtain ⟨xs, ho⟩ := h.own
  obtain ⟨g, rfl, h1, h2, hc, hf, hs⟩ := own_at hn hk
  have hg2 := h.oneLt g rfl
  refine ⟨g, rfl, hc, hf, fun u => ?_⟩
  have hg := (hs u).2
  refine ⟨⟨xs, ho.kept hg (.inr (fun e => by have := h.ownLt g e; omega))⟩, h.ownLt, ⟨_, (hs u).1⟩, h.oneLt, h.two.grown hg hg2, h.want.grown hg hg2, ?_, h.le1, h.le2⟩
  have := h.le1
  exact h.bel.setCell (p := ⟨g, k, none⟩) (show w.heap.size ≤ g by omega) u
theorem St.setOwn {w W : World} {B1 B2 n1 c1 n2 c2 k : Nat} {A1 A2 A3 A4 : Option Addr} {L : List UInt8} (h : St w B1 B2 A1 n1 c1 A2 n2 c2 A3 A4 L W) (hk : k < n1) :
    ∃ g, A1 = some ⟨g, 0, none⟩ ∧ (∃ u, W.cell? ⟨g, k, none⟩ = some u) ∧ W.frozen? ⟨g, k, none⟩ = false ∧ ∀ u, St w B1 B2 A1 n1 c1 A2 n2 c2 A3 A4 L (W.setCell ⟨g, k, none⟩ u) := by
  obtain ⟨ys, hn⟩ := h.one
  obtain ⟨xs, ho⟩ := h.own
  obtain ⟨g, rfl, h1, h2, hc, hf, hs⟩ := own_at ho hk
  have hg1 := h.ownLt g rfl
  have hle := h.le2
  refine ⟨g, rfl, hc, hf, fun u => ?_⟩
  have hg := (hs u).2
  refine ⟨⟨_, (hs u).1⟩, h.ownLt, ⟨ys, hn.kept hg (.inr (fun e => by have := (hn.lt g e).1; omega))⟩, h.oneLt, h.two.grown hg (by omega), h.want.grown hg (by omega), ?_, h.le1, h.le2⟩
  exact h.bel.setCell (p := ⟨g, k, none⟩) h1 u

theorem num_gives {A : Option Addr} {m c : Nat} {x : Int} {l L : List UInt8} {w : World} (HL : Hid (L = l ++ enc (fold x))) (hl : l.length = m) (h1 : -9223372036854775808 ≤ x) (h2 : x ≤ 9223372036854775807) (hb : m ≤ 140737488355000) (h : Lies w w.heap.size A l) :
    Calls Try.prog 15 #[.slice A m c, .int .i64 x] w (Gives w.heap.size w L) := by
  rw [HL.out]; exact num_any hl h1 h2 hb h
theorem text_gives {A : Option Addr} {m c : Nat} {s : ByteArray} {l L : List UInt8} {w : World} (HL : Hid (L = l ++ (enc (fold s.size) ++ s.data.toList))) (hl : l.length = m) (hs : s.size ≤ 1073741824) (hb : m ≤ 1073741824) (h : Lies w w.heap.size A l) :
    Calls Try.prog 16 #[.slice A m c, .string s] w (Gives w.heap.size w L) := by
  rw [HL.out]; exact text_any hl hs hb h
set_option maxHeartbeats 400000 in
theorem nil_num (w : World) : Calls Try.prog 18 #[.pointer none] w fun e w' => e = .returned (.int .i64 0) ∧ w = w' := by
  go_enter Try.func18, Try.ntmps18
  go_wp2
  go_ret
  exact ⟨rfl, rfl⟩
set_option maxHeartbeats 400000 in
theorem nil_text (w : World) : Calls Try.prog 20 #[.pointer none] w fun e w' => e = .returned (.string ⟨#[]⟩) ∧ w = w' := by
  go_enter Try.func20, Try.ntmps20
  go_wp2_with (go_at_call 18; refine (nil_num _).mono ?_; rintro e w' ⟨rfl, rfl⟩)
  go_ret
  exact ⟨rfl, rfl⟩
set_option maxHeartbeats 400000 in
theorem nil_left (w : World) : Calls Try.prog 22 #[.pointer none] w fun e w' => e = .returned (.int .i64 0) ∧ w = w' := by
  go_enter Try.func22, Try.ntmps22
  go_wp2
  go_ret
  exact ⟨rfl, rfl⟩
set_option maxHeartbeats 400000 in
theorem nil_bad (w : World) : Calls Try.prog 24 #[.pointer none] w fun e w' => e = .returned (.bool false) ∧ w = w' := by
  go_enter Try.func24, Try.ntmps24
  go_wp2
  go_ret
  exact ⟨rfl, rfl⟩
set_option maxHeartbeats 400000 in
theorem nil_done (w : World) : Calls Try.prog 25 #[.pointer none] w fun e w' => e = .returned (.bool false) ∧ w = w' := by
  go_enter Try.func25, Try.ntmps25
  go_wp2
  go_ret
  exact ⟨rfl, rfl⟩
theorem lies_three (w : World) : Lies (w.alloc (.cells #[.int .u8 71, .int .u8 72, .int .u8 73] 5)) (w.heap.size + 1) (some ⟨w.heap.size, 0, none⟩) [71, 72, 73] := lies_new w [71, 72, 73]
theorem mk_st {w w1 w2 w3 w4 : World} {A1 A2 A3 A4 : Option Addr} {n1 c1 n2 c2 n3 c3 n4 c4 : Nat} {xs ys : List Value} {L : List UInt8}
    (ho1 : w1.ownsRow w.heap.size 5 1 (.slice A1 n1 c1) n1 xs) (hlt1 : ∀ g, Value.ownBlock (.slice A1 n1 c1) = some g → w.heap.size ≤ g ∧ g < w1.heap.size)
    (ho2 : w2.ownsRow w1.heap.size 5 1 (.slice A2 n2 c2) n2 ys) (hlt2 : ∀ g, Value.ownBlock (.slice A2 n2 c2) = some g → w1.heap.size ≤ g ∧ g < w2.heap.size)
    (ho3 : w3.ownsRow w2.heap.size 5 1 (.slice A3 n3 c3) n3 (cells L)) (ho4 : w4.ownsRow w3.heap.size 5 1 (.slice A4 n4 c4) n4 (cells L))
    (hb1 : Below w.heap.size w w1) (hb2 : Below w1.heap.size w1 w2) (hb3 : Below w2.heap.size w2 w3) (hb4 : Below w3.heap.size w3 w4) :
    St w w1.heap.size w2.heap.size A1 n1 c1 A2 n2 c2 A3 A4 L w4 := by
  refine ⟨⟨xs, own_below (own_below (own_below ho1 hb2) hb3) hb4⟩, fun g e => (hlt1 g e).2, ⟨ys, own_below (own_below ho2 hb3) hb4⟩, fun g e => (hlt2 g e).2, (LiesFrom.of_own ho3).below hb4, (LiesFrom.of_own ho4).mono hb3.size, ?_, hb1.size, hb2.size⟩
  have s1 := hb1.size
  have s2 := hb2.size
  have s3 := hb3.size
  exact ((hb1.trans (hb2.mono s1)).trans (hb3.mono (by omega))).trans (hb4.mono (by omega))
/-- The three bytes behind. -/
theorem three_cells {w : World} {B : Nat} {A : Option Addr} {l : List UInt8} (h : Lies w B A (l ++ [71, 72, 73])) :
    ∃ b o, A = some ⟨b, o, none⟩ ∧ w.cell? ⟨b, o + l.length, none⟩ = some (.int .u8 71) ∧ w.cell? ⟨b, o + (l.length + 1), none⟩ = some (.int .u8 72) ∧ w.cell? ⟨b, o + (l.length + 2), none⟩ = some (.int .u8 73) := by
  obtain ⟨b, o, rfl, _, h0⟩ := h l.length 71 (by simp)
  obtain ⟨b1, o1, e1, _, h1⟩ := h (l.length + 1) 72 (by simp)
  obtain ⟨b2, o2, e2, _, h2⟩ := h (l.length + 2) 73 (by simp)
  injection e1 with e1
  injection e1 with e1 e1'
  injection e2 with e2
  injection e2 with e2 e2'
  subst e1 e1' e2 e2'
  exact ⟨b, o, rfl, h0, h1, h2⟩
theorem lies_front {w : World} {B : Nat} {A : Option Addr} {l m : List UInt8} (h : Lies w B A (l ++ m)) : Lies w B A l := by
  have := h.take l.length
  rwa [List.take_left] at this

set_option maxRecDepth 100000 in
set_option maxHeartbeats 1500000 in
theorem walk (a0 : Option Addr) (len0 cap0 : Nat) (z0 : List Int) (a1 : Int) (a2 : ByteArray) (w : World) (w0 : IsRow .u8 w a0 len0 cap0 z0) (w1 : (Lit.int .i64 a1).wf = true) (w2 : a2.size ≤ maxLen) :
    Calls Try.prog 10 #[.slice a0 len0 cap0, .int .i64 a1, .string a2] w fun e w' => e = .returned (.bool true) ∧ Below w.heap.size w w' := by
  obtain ⟨l, hl, h1, h2, hlies⟩ := lies_of_row w0
  obtain ⟨r1, r2⟩ := bounds_i64 w1
  subst hl
  clear w0 w1
  by_cases hbig : 4096 < l.length
  · have hb : (4096 : Int) < (l.length : Int) := by omega
    clear hlies
    go_enter Try.func10, Try.ntmps10
    go_wp2
    go_ret
    exact ⟨rfl, Below.refl _ _⟩
  · have hb : ¬ (4096 : Int) < (l.length : Int) := by omega
    by_cases hbig2 : 4096 < a2.size
    · have hb2 : (4096 : Int) < (a2.size : Int) := by omega
      clear hlies
      go_enter Try.func10, Try.ntmps10
      go_wp2
      go_ret
      exact ⟨rfl, Below.refl _ _⟩
    · have hb2 : ¬ (4096 : Int) < (a2.size : Int) := by omega
      obtain ⟨L1, hL1⟩ : ∃ L1, L1 = l ++ enc (fold a1) := ⟨_, rfl⟩
      obtain ⟨L2, hL2⟩ : ∃ L2, L2 = l ++ (enc (fold a2.size) ++ a2.data.toList) := ⟨_, rfl⟩
      have e10 := enc_len_ten (fold_lt r1 r2)
      have t10 := enc_len_ten (fold_lt (x := (a2.size : Int)) (by omega) (by omega))
      have hn1 : L1.length ≤ 10000 := by rw [hL1, List.length_append]; omega
      have hn2 : L2.length ≤ 10000 := by
        have hsz : a2.data.toList.length = a2.size := by rw [Array.length_toList]; rfl
        simp only [hL2, List.length_append, hsz]
        omega
      have H1 := Lib.hid hL1
      have H2 := Lib.hid hL2
      clear hL1 hL2 e10 t10
      go_enter Try.func10, Try.ntmps10
      go_wp2_with (first
        | (at_builtin; refine wpList_append_bytes rfl (.tmp 22) (.tmp 23) rfl w.heap.size _ 0 [] rfl (own_empty w) a0 l.length cap0 l rfl rfl w.heap.size (hlies.alloc (Nat.le_refl _) _) (by omega) (by simp) ?_; intro vA wA hoA hgA; have hbA := below_empty hgA; clear hgA; simp only [Nat.zero_add, List.nil_append] at hoA)
        | (at_builtin; refine wpList_append_bytes rfl (.tmp 24) (.tmp 25) rfl w.heap.size _ _ l rfl (hoA.alloc _) _ 3 3 [71, 72, 73] rfl rfl _ (lies_three wA) (by omega) (by have := hbA.size; simp; omega) ?_; intro v1 w1 ho1 hg1; have hb1 : Below w.heap.size w w1 := (hbA.alloc hbA.size _).grown hg1 (by have := hbA.size; simp; omega) (fun k e => (hoA.lt k e).1); clear hg1 hoA hbA; obtain ⟨A1, c1, rfl, -, hc1, -, hlies1, hlt1⟩ := own_form ho1; have hll1 : Lies w1 w1.heap.size A1 l := lies_front hlies1; clear hlies1)
        | (go_at_call 15; refine (num_gives H1 rfl r1 r2 (by omega) hll1).mono ?_; rintro e w2 ⟨v2, rfl, ho2, hb2'⟩; obtain ⟨A2, c2, rfl, -, -, -, -, hlt2⟩ := own_form ho2; have hll2 := (hll1.below hb2').mono hb2'.size; clear hll1)
        | (go_at_call 16; refine (text_gives H2 rfl (by omega) (by omega) hll2).mono ?_; rintro e w3 ⟨v3, rfl, ho3, hb3'⟩; obtain ⟨A3, c3, rfl, -, hc3, -, hlies3, -⟩ := own_form ho3; clear hll2)
        | (at_builtin; refine wpList_append_bytes rfl (.tmp 39) (.tmp 40) rfl w3.heap.size _ 0 [] rfl (own_empty w3) A3 L2.length c3 L2 rfl rfl w3.heap.size (hlies3.alloc (Nat.le_refl _) _) (by omega) (by simp) ?_; intro v4 w4 ho4 hg4; have hb4 := below_empty hg4; clear hg4; simp only [Nat.zero_add, List.nil_append] at ho4; obtain ⟨A4, c4, rfl, -, -, -, -, -⟩ := own_form ho4; have hS := mk_st ho1 hlt1 ho2 hlt2 ho3 ho4 hb1 hb2' hb3' hb4; have hO4 := own_below (own_below (own_below ho1 hb2') hb3') hb4; have hlf : Lies w4 w4.heap.size A1 (l ++ [71, 72, 73]) := Lies.of_own hO4; have hlb : Lies w4 w.heap.size a0 l := hlies.below hS.bel; clear ho1 hlt1 ho2 hlt2 ho3 ho4 hb1 hb2' hb3' hb4 hlies3 hO4 hlies; have hc1' : l.length + 3 ≤ c1 := hc1; obtain ⟨b1, o1, rfl, c71, c72, c73⟩ := three_cells hlf)
        | (go_at_call 14; refine (same_eq (l := l) rfl rfl (by unfold maxLen; omega) (lies_front hlf) hlb).mono ?_; rintro e w5 ⟨rfl, k5, rfl⟩)
        | fail)
      have hS5 := hS.drewN k5
      clear hS c71 c72 c73 hlf hlb
      go_loopw [11] (fun i wr => ∃ k : Nat, k ≤ L1.length ∧ i = .int .i64 k ∧ St w w1.heap.size w2.heap.size (some ⟨b1, o1, none⟩) (l.length + 3) c1 A2 L1.length c2 A3 A4 L2 wr) (fun i _ => L1.length - (intOf i).toNat)
      case atStart => exact ⟨0, Nat.zero_le _, rfl, hS5⟩
      case round =>
        obtain ⟨k, hk, rfl, hT⟩ := hrel
        clear hS5
        by_cases hlt : k < L1.length
        · obtain ⟨g, rfl, ⟨u, hcu⟩, hfu, hset⟩ := hT.setOne hlt
          have R := Lib.hid (hset (.int .u8 5))
          have hlt' : (k : Int) < (L1.length : Int) := by omega
          clear hset hT
          go_wp2_with fail
          go_roundw
          case rel => exact ⟨k + 1, by omega, by go_num, R.out⟩
          case measure => simp [intOf]; omega
        · have hge' : (L1.length : Int) ≤ (k : Int) := by omega
          go_wp2_with fail
          go_loopw [12] (fun i wr => ∃ k : Nat, k ≤ l.length + 3 ∧ i = .int .i64 k ∧ St w w1.heap.size w2.heap.size (some ⟨b1, o1, none⟩) (l.length + 3) c1 A2 L1.length c2 A3 A4 L2 wr) (fun i _ => l.length + 3 - (intOf i).toNat)
          case atStart => exact ⟨0, Nat.zero_le _, rfl, hT⟩
          case round =>
            clear hT
            obtain ⟨k6, hk6, rfl, hT⟩ := hrel
            by_cases hlt6 : k6 < l.length + 3
            · obtain ⟨g, eg, ⟨u, hcu⟩, hfu, hset⟩ := hT.setOwn hlt6
              injection eg with eg
              injection eg with eg1 eg2
              subst eg1 eg2
              have R := Lib.hid (hset (.int .u8 6))
              have hlt' : (k6 : Int) < (l.length : Int) + 3 := by omega
              clear hset hT
              go_wp2_with fail
              go_roundw
              case rel => exact ⟨k6 + 1, by omega, by go_num, R.out⟩
              case measure => simp [intOf]; omega
            · have hge6 : (l.length : Int) + 3 ≤ (k6 : Int) := by omega
              go_wp2_with (first
                | (go_at_call 13; refine (awake_any _).mono ?_; rintro e w7 ⟨rfl, hb7⟩; have hS7 := hT.below hb7; clear hT hb7)
                | (go_at_call 14; refine (same_eq (l := L2) rfl rfl (by unfold maxLen; omega) hS7.two.lies hS7.want.lies).mono ?_; rintro e w8 ⟨rfl, k8, rfl⟩; have hB8 := below_drewN hS7.bel k8)
                | (go_at_call 18; refine (nil_num _).mono ?_; rintro e wn ⟨rfl, rfl⟩)
                | (go_at_call 20; refine (nil_text _).mono ?_; rintro e wn ⟨rfl, rfl⟩)
                | (go_at_call 22; refine (nil_left _).mono ?_; rintro e wn ⟨rfl, rfl⟩)
                | (go_at_call 24; refine (nil_bad _).mono ?_; rintro e wn ⟨rfl, rfl⟩)
                | (go_at_call 25; refine (nil_done _).mono ?_; rintro e wn ⟨rfl, rfl⟩))
              go_ret
              exact ⟨rfl, hB8⟩

end Go.Proofs.Ytckigcodmchfaaa.packKeeps
