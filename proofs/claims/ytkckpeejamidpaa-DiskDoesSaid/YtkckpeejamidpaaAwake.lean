/-
  The document's examples, which every law of this set asks: the helper answers true, and leaves all memory that was there. Conditions: none.
-/
import Derived.Test.YtkckpeejamidpaaFresh
namespace Go.Proofs.Ytkckpeejamidpaa.Dk
open Go.RowKit Go.Proofs.Ytkckpeejamidpaa.Pk

theorem conv_str {A : Option Addr} {n c B : Nat} {l : List UInt8} {w : World} (hl : l.length = n) (h : Lies w B A l) : (convert 31 9 (.slice A n c)).run Try.prog w = .ok (.string ⟨l.toArray⟩) w := by
  subst hl
  rcases A with _ | ⟨b, o, sp⟩
  · have : l = [] := by
      rcases l with _ | ⟨x, r⟩
      · rfl
      · obtain ⟨b, o, e, _⟩ := h 0 x rfl
        cases e
    subst this
    exact run_convert_bytes_nil (P := Try.prog) w 31 5 Try.underlying31 Try.underlying5 _ _ 9 Try.underlying9
  · exact run_convert_bytes_back (P := Try.prog) w 31 9 5 ⟨b, o, sp⟩ c l Try.underlying31 Try.underlying5 Try.underlying9 (fun j hj => by
      obtain ⟨b', o', e, _, hc⟩ := h.at_ hj
      injection e with e
      rw [e, Addr.add_lit]
      exact hc)

theorem Kept.alloc {X : Nat → Prop} {w : World} (hx : ∀ b, X b → b < w.heap.size) (o : Obj) : Kept X w (w.alloc o) := fun b hb => Below.heap_alloc w o b (hx b hb)
def x1 : Ds := ⟨[([97], ⟨[120, 121, 122], 0⟩)], false, 1, 0, 0⟩
def x2 : Ds := ⟨[([97], ⟨[120, 121, 122], 3⟩)], false, 2, 0, 0⟩
def x3 : Ds := ⟨[([97], ⟨[120, 121, 122, 112, 113], 3⟩)], false, 3, 0, 0⟩
def x4 : Ds := ⟨[([97], ⟨[120, 121, 122, 112], 4⟩)], true, 3, 0, 0⟩
def x5 : Ds := ⟨[([97], ⟨[120, 121, 122, 112], 4⟩)], false, 3, 0, 0⟩
def x6 : Ds := ⟨[([97], ⟨[120, 121, 122, 112], 4⟩)], false, 3, 2, 0⟩
def x7 : Ds := ⟨[([97], ⟨[120, 121, 122, 112, 49], 4⟩)], false, 4, 1, 0⟩
def x8 : Ds := ⟨[([97], ⟨[120, 121, 122, 112], 4⟩)], true, 5, 0, 0⟩
theorem s1 : appendD newD (⟨#[97]⟩ : ByteArray).data.toList [120, 121, 122] = (0, x1) := by rfl
theorem s2 : syncD x1 (⟨#[97]⟩ : ByteArray).data.toList = (0, x2) := by rfl
theorem s3 : appendD x2 (⟨#[97]⟩ : ByteArray).data.toList [112, 113] = (0, x3) := by rfl
theorem s4 : offD x3 1 = x4 := by rfl
theorem s5 : onD x4 = x5 := by rfl
theorem s5r : findD x5 (⟨#[97]⟩ : ByteArray).data.toList = 0 := by rfl
theorem s5l : readD x5 (⟨#[97]⟩ : ByteArray).data.toList = [120, 121, 122, 112] := by rfl
theorem s6 : armD x5 2 0 = x6 := by rfl
theorem s7 : appendD x6 (⟨#[97]⟩ : ByteArray).data.toList [49] = (0, x7) := by rfl
theorem s8 : syncD x7 (⟨#[97]⟩ : ByteArray).data.toList = (20, x8) := by rfl

theorem a_small : (⟨#[97]⟩ : ByteArray).size ≤ maxLen := by decide

set_option maxHeartbeats 1000000 in
theorem awake_any (w : World) : Calls Try.prog 15 #[] w fun e w' => e = .returned (.bool true) ∧ Below w.heap.size w w' := by
  have hid := fun (w : World) (C : Array Value) (n c : Nat) => Lib.run_convert_bytes_const (P := Try.prog) w 31 5 C n c Try.underlying31 Try.underlying5
  go_enter Try.func15, Try.ntmps15
  go_wp2_with (first
    | (go_at_call 10; refine (Fresh.new (X := fun _ => False) (fun _ h => h.elim) (Below.refl w.heap.size w)).mono ?_; rintro e w1 ⟨d, rfl, h0, -⟩)
    | (go_at_call 16; refine ((h0.alloc _).append (l' := [120, 121, 122]) a_small rfl (lies_marked w1 [120, 121, 122] _) (by decide) s1).mono ?_; rintro e w2 ⟨rfl, h1, -⟩; clear h0))
  go_wp2_with (go_at_call 17; refine (h1.sync a_small (by decide) s2).mono ?_; rintro e w3 ⟨rfl, h2, -⟩; clear h1)
  go_wp2_with (go_at_call 16; refine ((h2.alloc _).append (l' := [112, 113]) a_small rfl (lies_marked w3 [112, 113] _) (by decide) s3).mono ?_; rintro e w4 ⟨rfl, h3, -⟩; clear h2)
  go_wp2_with (first
    | (go_at_call 18; refine (h3.off (by decide) (by decide) s4).mono ?_; rintro e w5 ⟨rfl, h4, -⟩)
    | (go_at_call 14; refine (h4.on s5).mono ?_; rintro e w6 ⟨rfl, h5, -⟩)
    | (go_at_call 19; refine (h5.read a_small s5r s5l).mono ?_; rintro e w7 ⟨A, c, rfl, hown, hX, h5', -⟩; have hlk := Lib.hid (And.intro hown hX); clear hown hX h5 h3 h4)
    | (go_at_call 20; refine (h5'.arm (by decide) (by decide) (by decide) (by decide) s6).mono ?_; rintro e w8 ⟨rfl, h6, hk8⟩; clear h5'))
  go_wp2_with (go_at_call 16; refine ((h6.alloc _).append (l' := [49]) a_small rfl (lies_marked w8 [49] _) (by decide) s7).mono ?_; rintro e w9 ⟨rfl, h7, hk9⟩)
  go_wp2_with (go_at_call 17; refine (h7.sync a_small (by decide) s8).mono ?_; rintro e w10 ⟨rfl, h8, hk10⟩)
  have hka := Kept.alloc h6.1 (.cells #[.int .u8 49] 5 (1, 2))
  have hown := ((hk8.trans hka).trans (hk9.trans hk10)).own hlk.out.1 hlk.out.2
  have hcv := conv_str (n := 4) (c := c) rfl (Lies.of_own hown)
  clear hk8 hk9 hk10 hka hown hlk h6 h7
  go_wp2_with (first
    | (go_at_call 12; refine (h8.up (u := false) rfl).mono ?_; rintro e w11 ⟨rfl, rfl⟩)
    | (go_at_call 13; refine (h8.deeds (n := 5) rfl).mono ?_; rintro e w11 ⟨rfl, rfl⟩))
  go_ret
  exact ⟨rfl, h8.bel⟩
end Go.Proofs.Ytkckpeejamidpaa.Dk
