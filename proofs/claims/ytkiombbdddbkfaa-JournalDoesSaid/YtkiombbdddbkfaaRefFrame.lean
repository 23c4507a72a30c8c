/-
  The document's own four, Frame, First of journal. Conditions: the bytes lie in memory; lengths.
-/
import Derived.Test.YtkiombbdddbkfaaJour
import Derived.Test.YtkiombbdddbkfaaRefSum
import Derived.IntWalk
namespace Go.Proofs.Ytkiombbdddbkfaa.Jn
open Go.RowKit Go.Proofs.Ytkiombbdddbkfaa.Pk Go.Proofs.Ytkiombbdddbkfaa.Dk
set_option linter.unusedVariables false

theorem first_iff {l r : Bs} (h8 : 8 ≤ l.length) (h1 : word l ≤ 1048576) (h2 : word l ≤ l.length - 8) (hr : r = (l.drop 8).take (word l)) : first l = if (frame r).take 8 = l.take 8 then some r else none := by
  have hl : r.length = word l := by rw [hr, List.length_take, List.length_drop]; omega
  have e1 : le4 r.length = l.take 4 := by rw [hl]; exact le4_word (by omega)
  have e2 : (frame r).take 8 = l.take 4 ++ le4 (sumOf r) := by
    unfold frame
    rw [e1, ← List.append_assoc]
    exact List.take_left' (by rw [List.length_append, List.length_take, le4_length]; omega)
  have e3 : l.take 8 = l.take 4 ++ (l.drop 4).take 4 := by
    rw [show 8 = 4 + 4 from rfl, List.take_add]
  have e4 : sumOf r = crc (l.take 4 ++ (l.drop 8).take (word l)) := by unfold sumOf; rw [e1, ← hr]
  unfold first
  rw [if_neg (by omega), if_neg (by omega), ← e4, ← hr, e2, e3]
  by_cases h : word (l.drop 4) = sumOf r
  · rw [if_pos h, if_pos]
    rw [← h, le4_word (by rw [List.length_drop]; omega)]
  · rw [if_neg h, if_neg]
    intro hh
    have := List.append_cancel_left hh
    apply h
    unfold word
    rw [← this, leVal_le4 (sumOf_lt r)]

set_option maxHeartbeats 1000000 in
theorem four_any {x : Nat} (hx : x < 4294967296) (w : World) : Calls Try.prog 55 #[.int .u32 x] w fun e w' => e = .returned (.slice (some ⟨w.heap.size, 0, none⟩) 4 4) ∧ Row w' w.heap.size (cells (le4 x)) ∧ Below w.heap.size w w' := by
  go_enter Try.func55, Try.ntmps55
  go_wp2
  go_ret
  refine ⟨rfl, ?_, (Below.refl _ _).alloc (Nat.le_refl _) _⟩
  have q : ∀ n : Nat, ((UInt8.ofNat (n % 256)).toNat : Int) = ((n % 256 : Nat) : Int) := fun n => by rw [Jn.toNat_ofNat (Nat.mod_lt _ (by decide))]
  have e : (cells (le4 x)).toArray = #[.int .u8 ((x : Int) % 256), .int .u8 ((x : Int) / 256 % 256), .int .u8 ((x : Int) / 65536 % 256), .int .u8 ((x : Int) / 16777216)] := by
    have e3 : (x : Int) / 16777216 = ((x / 16777216 % 256 : Nat) : Int) := by omega
    rw [e3]
    simp only [le4, cells, bv, List.map_cons, List.map_nil, q]
    rfl
  unfold Row
  rw [e]
  exact heap_alloc_new w _
theorem own_empty (w : World) (base : Nat) (hb : base ≤ w.heap.size) : (w.alloc (.cells #[] 5)).ownsRow base 5 1 (.slice (some ⟨w.heap.size, 0, none⟩) 0 0) 0 (cells []) :=
  ⟨rfl, .inr ⟨w.heap.size, 0, #[], rfl, hb, heap_alloc_new w _, Nat.le_refl _, Nat.zero_le _, rfl, rfl⟩⟩
theorem grown_below {w w' : World} {row : Option Nat} {B : Nat} (hg : w.grownBy w' row) (hB : B ≤ w.heap.size) (hr : ∀ g, row = some g → B ≤ g) : Below B w w' := (Below.refl B w).grown hg hB hr
/-- What Frame hands back. -/
def Framed (w : World) (l : Bs) (e : Ending) (w' : World) : Prop := ∃ A c, e = .returned (.slice A (8 + l.length) c) ∧ w'.ownsRow w.heap.size 5 1 (.slice A (8 + l.length) c) (8 + l.length) (cells (frame l)) ∧ Below w.heap.size w w'
set_option maxRecDepth 20000 in
set_option maxHeartbeats 2000000 in
theorem rFrame_any {A : Option Addr} {m c : Nat} {l : Bs} {w : World} (hl : l.length = m) (hm : m ≤ 16777216) (h : Lies w w.heap.size A l) : Calls Try.prog 37 #[.slice A m c] w (Framed w l) := by
  have HL := Lib.hid hl
  have HA := Lib.hid h
  have hmod : (m : Int) % 4294967296 = (m : Int) := by omega
  have hsl : Hid (crc (le4 m ++ l) = sumOf l) := by show _ = _; unfold sumOf; rw [hl]
  clear h hl
  go_enter Try.func37, Try.ntmps37
  go_wp2_with (first
    | (go_at_call 55; with_reducible refine (four_any (x := m) (by omega) w).mono ?_; rintro e w1 ⟨rfl, hr1, hb1⟩; have HR1 := Lib.hid hr1; have HB1 := Lib.hid hb1; clear hr1 hb1)
    | (at_builtin; refine wpList_append_bytes_at rfl (.tmp 11) (.tmp 12) rfl w1.heap.size _ 0 [] rfl (own_empty w1 _ (Nat.le_refl _)) _ 4 4 (le4 m) rfl rfl _ (HR1.out.lies.alloc (Nat.le_refl _) _) (by omega) (by simp) ?_; intro v3 w3 ho3 hg3 _; have HO3 := Lib.hid ho3; have HB3 := Lib.hid (((Below.refl w1.heap.size w1).alloc (Nat.le_refl _) (.cells #[] 5)).trans (grown_below hg3 (by simp) (fun k e => ((own_empty w1 _ (Nat.le_refl _)).lt k e).1))); clear ho3 hg3)
    | (at_builtin; refine wpList_append_bytes_at rfl (.tmp 14) (.tmp 15) rfl w1.heap.size v3 (0 + 4) ([] ++ le4 m) rfl HO3.out A m c l rfl HL.out w.heap.size ((HA.out.below HB1.out).below (HB3.out.mono HB1.out.size)) (by omega) HB3.out.size ?_; intro v4 w4 ho4 hg4 _; have HB4 := Lib.hid (HB3.out.trans (grown_below hg4 HB3.out.size (fun k e => (HO3.out.lt k e).1))); obtain ⟨A4, c4, rfl, hl4, -, -, hL4, -⟩ := own_form ho4; have Hl4 := Lib.hid hl4; have HL4 := Lib.hid hL4; clear ho4 hg4 HO3 hl4 hL4)
    | (at_builtin; refine wpList_append_bytes_at rfl (.tmp 18) (.tmp 19) rfl w4.heap.size _ 0 [] rfl (own_empty w4 _ (Nat.le_refl _)) _ 4 4 (le4 m) rfl rfl _ ((HR1.out.lies.below HB4.out).alloc HB4.out.size _) (by omega) (by simp) ?_; intro v5 w5 ho5 hg5 _; have HO5 := Lib.hid ho5; have HB5 := Lib.hid (((Below.refl w4.heap.size w4).alloc (Nat.le_refl _) (.cells #[] 5)).trans (grown_below hg5 (by simp) (fun k e => ((own_empty w4 _ (Nat.le_refl _)).lt k e).1))); clear ho5 hg5)
    | (go_at_call 56; refine (refSum_any Hl4.out (by unfold maxLen; omega) (HL4.out.below HB5.out)).mono ?_; rw [List.nil_append, hsl.out]; rintro e w' ⟨rfl, rfl⟩)
    | (go_at_call 55; with_reducible refine (four_any (x := sumOf l) (sumOf_lt l) w5).mono ?_; rintro e w6 ⟨rfl, hr6, hb6⟩; have HR6 := Lib.hid hr6; have HB6 := Lib.hid hb6; have HO6 := Lib.hid (own_keep HO5.out fun g hg => hb6.block g (HO5.out.lt g hg).2); clear hr6 hb6 HO5)
    | (at_builtin; refine wpList_append_bytes_at rfl (.tmp 21) (.tmp 24) rfl w4.heap.size v5 (0 + 4) ([] ++ le4 m) rfl HO6.out _ 4 4 (le4 (sumOf l)) rfl rfl _ HR6.out.lies (by omega) (Nat.le_trans HB5.out.size HB6.out.size) ?_; intro v7 w7 ho7 hg7 _; have HO7 := Lib.hid ho7; have HB7 := Lib.hid (HB5.out.trans ((HB6.out.mono HB5.out.size).trans (grown_below hg7 (Nat.le_trans HB5.out.size HB6.out.size) (fun k e => (HO6.out.lt k e).1)))); clear ho7 hg7 HO6)
    | (at_builtin; refine wpList_append_bytes_at rfl (.tmp 26) (.tmp 27) rfl w4.heap.size v7 (0 + 4 + 4) ([] ++ le4 m ++ le4 (sumOf l)) rfl HO7.out A m c l rfl HL.out w.heap.size (((HA.out.below HB1.out).below (HB4.out.mono HB1.out.size)).below (HB7.out.mono (Nat.le_trans HB1.out.size HB4.out.size))) (by omega) HB7.out.size ?_; intro v8 w8 ho8 hg8 _; have HB8 := Lib.hid (HB7.out.trans (grown_below hg8 HB7.out.size (fun k e => (HO7.out.lt k e).1))); have HO8 := Lib.hid ho8; clear ho8 hg8 HO7))
  go_ret
  have e1 : [] ++ le4 m ++ le4 (sumOf l) ++ l = frame l := by rw [List.nil_append, List.append_assoc, frame, HL.out]
  have ho := HO8.out
  rw [e1, show 0 + 4 + 4 + m = 8 + l.length by rw [HL.out]] at ho
  obtain ⟨A9, c9, rfl, -⟩ := own_form ho
  have hz : w.heap.size ≤ w4.heap.size := Nat.le_trans HB1.out.size HB4.out.size
  exact ⟨A9, c9, rfl, own_base ho hz, HB1.out.trans ((HB4.out.mono HB1.out.size).trans (HB8.out.mono hz))⟩
end Go.Proofs.Ytkiombbdddbkfaa.Jn
