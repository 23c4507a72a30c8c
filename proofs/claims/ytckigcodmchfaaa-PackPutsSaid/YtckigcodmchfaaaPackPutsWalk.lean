/-
  The walk of a law: For every byte slice, integer and string, pack lays the integer and the string behind the bytes just as the document's own encoders say, and the document's examples hold. Conditions: none (the law looks at nothing longer than 4096 bytes).
-/
import Derived.Test.YtckigcodmchfaaaAwake
import Derived.Test.YtckigcodmchfaaaRef
namespace Go.Proofs.Ytckigcodmchfaaa.packPuts
open Go.RowKit
open Go.Proofs.Ytckigcodmchfaaa.Pk
set_option linter.unusedVariables false

theorem own_empty (w : World) : (w.alloc (.cells #[] 5)).ownsRow w.heap.size 5 1 (.slice (some ⟨w.heap.size, 0, none⟩) 0 0) 0 (cells []) :=
  ⟨rfl, .inr ⟨w.heap.size, 0, #[], rfl, Nat.le_refl _, heap_alloc_new w _, Nat.le_refl _, Nat.zero_le _, rfl, rfl⟩⟩
theorem own_below {w w' : World} {base n : Nat} {v : Value} {xs : List Value} (h : w.ownsRow base 5 1 v n xs) (hb : Below w.heap.size w w') : w'.ownsRow base 5 1 v n xs := by
  refine ⟨h.1, ?_⟩
  rcases h.2 with h2 | ⟨g, cap, cur, hv, hg, hh, r⟩
  · exact .inl h2
  · have hlt : g < w.heap.size := by
      rcases Nat.lt_or_ge g w.heap.size with q | q
      · exact q
      · rw [Array.getElem?_eq_none q] at hh; cases hh
    exact .inr ⟨g, cap, cur, hv, hg, (hb.block g hlt).trans hh, r⟩
theorem same_eq {A A' : Option Addr} {n n' c c' : Nat} {l : List UInt8} {w : World} {B B' : Nat} (hl : l.length = n) (hl' : l.length = n') (hm : n ≤ maxLen) (h : Lies w B A l) (h' : Lies w B' A' l) :
    Calls Try.prog 14 #[.slice A n c, .slice A' n' c'] w fun e w' => e = .returned (.bool true) ∧ ∃ k, w' = w.drewN k := by
  refine (same_any hl hl' hm (by omega) h h').mono ?_
  rintro e w' ⟨rfl, hk⟩
  exact ⟨by simp, hk⟩
theorem below_empty {w w1 : World} (hg : (w.alloc (.cells #[] 5)).grownBy w1 (Value.ownBlock (.slice (some ⟨w.heap.size, 0, none⟩) 0 0))) : Below w.heap.size w w1 :=
  ((Below.refl _ _).alloc (Nat.le_refl _) _).grown hg (by simp) (fun k e => by simp [Value.ownBlock] at e; omega)

set_option maxHeartbeats 1000000 in
theorem walk (a0 : Option Addr) (len0 cap0 : Nat) (z0 : List Int) (a1 : Int) (a2 : ByteArray) (w : World) (w0 : IsRow .u8 w a0 len0 cap0 z0) (w1 : (Lit.int .i64 a1).wf = true) (w2 : a2.size ≤ maxLen) :
    Calls Try.prog 3 #[.slice a0 len0 cap0, .int .i64 a1, .string a2] w fun e w' => e = .returned (.bool true) ∧ Below w.heap.size w w' := by
  obtain ⟨l, hl, h1, h2, hlies⟩ := lies_of_row w0
  obtain ⟨r1, r2⟩ := bounds_i64 w1
  clear w0 w1 h1 h2
  by_cases hbig : 4096 < len0
  · have hb : (4096 : Int) < (len0 : Int) := by omega
    clear hl hlies
    go_enter Try.func3, Try.ntmps3
    go_wp2
    go_ret
    exact ⟨rfl, Below.refl _ _⟩
  · have hb : ¬ (4096 : Int) < (len0 : Int) := by omega
    by_cases hbig2 : 4096 < a2.size
    · have hb2 : (4096 : Int) < (a2.size : Int) := by omega
      clear hl hlies
      go_enter Try.func3, Try.ntmps3
      go_wp2
      go_ret
      exact ⟨rfl, Below.refl _ _⟩
    · have hb2 : ¬ (4096 : Int) < (a2.size : Int) := by omega
      have H := Lib.hid hl
      clear hl
      have e10 := enc_len_ten (fold_lt r1 r2)
      have t10 := enc_len_ten (fold_lt (x := (a2.size : Int)) (by omega) (by omega))
      go_enter Try.func3, Try.ntmps3
      go_wp2_with (first
        | (at_builtin; refine wpList_append_bytes rfl (.tmp 17) (.tmp 18) rfl w.heap.size _ 0 [] rfl (own_empty w) a0 len0 cap0 l rfl H.out w.heap.size (hlies.alloc (Nat.le_refl _) _) (by omega) (by simp) ?_; intro v1 w1 ho1 hg1; have hb1 := below_empty hg1; clear hg1; simp only [Nat.zero_add, List.nil_append] at ho1)
        | (go_at_call 11; refine (refNum_any r1 r2).mono ?_; rintro e w2 ⟨v2, rfl, ho2, hb2⟩; obtain ⟨A2, c2, rfl, -, -, -, hlies2, -⟩ := own_form ho2; have ho1' := own_below ho1 hb2; have hB2 := hb1.trans (hb2.mono hb1.size); clear ho1 ho2 hb1 hb2)
        | (at_builtin; refine wpList_append_bytes rfl (.tmp 19) (.tmp 21) rfl w.heap.size _ _ l rfl ho1' A2 _ c2 (enc (fold a1)) rfl rfl w2.heap.size hlies2 (by omega) hB2.size ?_; intro v3 w3 ho3 hg3; have hb3 : Below w.heap.size w w3 := hB2.grown hg3 hB2.size (fun k e => (ho1'.lt k e).1); clear hg3 hB2 hlies2 ho1'; obtain ⟨A3, c3, rfl, hl3, -, -, hlies3, -⟩ := own_form ho3; have L3 := Lib.hid hl3; clear ho3 hl3)
        | (at_builtin; refine wpList_append_bytes rfl (.tmp 23) (.tmp 24) rfl w3.heap.size _ 0 [] rfl (own_empty w3) a0 len0 cap0 l rfl H.out w.heap.size ((hlies.below hb3).alloc hb3.size _) (by omega) (by simp) ?_; intro v4 w4 ho4 hg4; have hb4 := below_empty hg4; clear hg4; simp only [Nat.zero_add, List.nil_append] at ho4)
        | (go_at_call 12; refine (refText_any (by omega)).mono ?_; rintro e w5 ⟨v5, rfl, ho5, hb5⟩; obtain ⟨A5, c5, rfl, hl5, -, -, hlies5, -⟩ := own_form ho5; have L5 := Lib.hid hl5; have ho4' := own_below ho4 hb5; have hB5 := hb4.trans (hb5.mono hb4.size); clear ho4 ho5 hb4 hb5 hl5)
        | (at_builtin; refine wpList_append_bytes rfl (.tmp 25) (.tmp 27) rfl w3.heap.size _ _ l rfl ho4' A5 _ c5 (enc (fold a2.size) ++ a2.data.toList) rfl (by first | rfl | (simp only [List.length_append, Array.length_toList]; rfl) | simp) w5.heap.size hlies5 (by first | omega | (simp; omega)) hB5.size ?_; intro v6 w6 ho6 hg6; have hb6 : Below w3.heap.size w3 w6 := hB5.grown hg6 hB5.size (fun k e => (ho4'.lt k e).1); clear hg6 hB5 hlies5 ho4'; obtain ⟨A6, c6, rfl, hl6, -, -, hlies6, -⟩ := own_form ho6; have L6 := Lib.hid hl6; clear ho6 hl6; have hB6 := hb3.trans (hb6.mono hb3.size))
        | (go_at_call 13; refine (awake_any _).mono ?_; rintro e w7 ⟨rfl, hb7⟩; have hB7 := hB6.trans (hb7.mono hB6.size); have hlA := (hlies3.below hb6).mono hb6.size; have hl3' := hlA.below hb7; have hl6' := hlies6.below hb7; have hs7 := hb7.size)
        | (go_at_call 15; refine (num_any H.out r1 r2 (by omega) ((hlies.below hB7).mono hB7.size)).mono ?_; rintro e w8 ⟨v8, rfl, ho8, hb8⟩; obtain ⟨A8, c8, rfl, hl8, -, -, hlies8, -⟩ := own_form ho8; have hB8 := hB7.trans (hb8.mono hB7.size); have hl3'' := (hl3'.mono hs7).below hb8; have hl6'' := (hl6'.mono hs7).below hb8; have hs8 := hb8.size; clear hl8)
        | (go_at_call 14; (with_reducible refine (same_eq (l := l ++ enc (fold a1)) (by first | exact L3.out | simp only [List.length_append]) (by first | exact L3.out | simp only [List.length_append]) ?_ hlies8 hl3'').mono ?_); (have := H.out; unfold maxLen; omega); rintro e w9 ⟨rfl, k9, rfl⟩; have hB9 := below_drewN hB8 k9)
        | (go_at_call 16; refine (text_any H.out (by omega) (by omega) ((hlies.below hB9).mono hB9.size)).mono ?_; rintro e w10 ⟨v10, rfl, ho10, hb10⟩; obtain ⟨A10, c10, rfl, hl10, -, -, hlies10, -⟩ := own_form ho10; have hB10 := hB9.trans (hb10.mono hB9.size); have hl6c := ((hl6''.drewN k9).mono hs8).below hb10; clear hl10 hlies8)
        | (go_at_call 14; (with_reducible refine (same_eq (l := l ++ (enc (fold a2.size) ++ a2.data.toList)) (by first | exact L6.out | simp) (by first | exact L6.out | simp) ?_ hlies10 hl6c).mono ?_); (have := H.out; unfold maxLen; omega); rintro e w11 ⟨rfl, k11, rfl⟩; have hB11 := below_drewN hB10 k11))
      go_ret
      exact ⟨rfl, hB11⟩

end Go.Proofs.Ytckigcodmchfaaa.packPuts
