/-
  The document's examples, which every law of this set asks first: the helper answers true, and leaves all memory that was there. Conditions: none.
-/
import Derived.Test.YtckigcodmchfaaaRd
import Derived.Test.YtckigcodmchfaaaSum
import Derived.Lib.SlBytesConst
import Derived.OpenShut
namespace Go.Proofs.Ytckigcodmchfaaa.Pk
open Go.RowKit

theorem crc_example : crc [49, 50, 51, 52, 53, 54, 55, 56, 57] = 3421780262 := by decide +kernel
theorem enc_two : enc 2 = [2] := by rw [enc_lo (by omega)]; rfl
theorem enc_neg : enc (fold (-65)) = [129, 1] := by
  have : fold (-65) = 129 := by decide
  rw [this, enc_hi (by omega), enc_lo (by omega)]; rfl
theorem enc_txt : enc (fold 2) = [4] := by
  have : fold 2 = 4 := by decide
  rw [this, enc_lo (by omega)]; rfl

/-- A new row that was just laid. -/
theorem lies_marked (w : World) (l : List UInt8) (fr : Nat × Nat) : Lies (w.alloc (.cells (cells l).toArray 5 fr)) (w.heap.size + 1) (some ⟨w.heap.size, 0, none⟩) l := fun k x hx => by
  refine ⟨_, _, rfl, by omega, ?_⟩
  rw [Nat.zero_add]
  rw [cell_of_row _ _ _ _ _ _ (heap_alloc_new w _)]
  simp [cells, hx]
theorem lies_new (w : World) (l : List UInt8) : Lies (w.alloc (.cells (cells l).toArray 5)) (w.heap.size + 1) (some ⟨w.heap.size, 0, none⟩) l := lies_marked w l (0, 0)

theorem ex_num0 : txtVal false [4, 97, 98, 1] = [97, 98] ∧ txtBad false [4, 97, 98, 1] = false ∧ txtLeft false [4, 97, 98, 1] = [1] := by decide
theorem ex_num1 : numVal false [1] = -1 ∧ numBad false [1] = false ∧ numLeft false [1] = [] := by decide

theorem bytes_of {s : ByteArray} {l : List UInt8} (h : s.data.toList = l) : s = ⟨l.toArray⟩ := by
  cases s; subst h; rfl
theorem ex_text {w : World} {g : Nat} (h : Rd w g false [4, 97, 98, 1]) : Calls Try.prog 20 #[.pointer (some ⟨g, 0, none⟩)] w fun e w' => e = .returned (.string ⟨#[97, 98]⟩) ∧ Rd w' g false [1] ∧ w.grownBy w' (some g) := by
  refine (rtext_any h).mono ?_
  rintro e w' ⟨s, rfl, hs, hr, hg⟩
  obtain ⟨e1, e2, e3⟩ := ex_num0
  rw [e1] at hs
  rw [e2, e3] at hr
  exact ⟨by rw [bytes_of hs], hr, hg⟩
theorem ex_num {w : World} {g : Nat} (h : Rd w g false [1]) : Calls Try.prog 18 #[.pointer (some ⟨g, 0, none⟩)] w fun e w' => e = .returned (.int .i64 (-1)) ∧ Rd w' g false [] ∧ w.grownBy w' (some g) := by
  refine (rnum_any h).mono ?_
  rintro e w' ⟨rfl, hr, hg⟩
  obtain ⟨e1, e2, e3⟩ := ex_num1
  rw [e2, e3] at hr
  exact ⟨by rw [e1], hr, hg⟩
theorem ex_sum (w : World) : Calls Try.prog 26 #[.slice (some ⟨w.heap.size, 0, none⟩) 9 9] (w.alloc (.cells #[.int .u8 49, .int .u8 50, .int .u8 51, .int .u8 52, .int .u8 53, .int .u8 54, .int .u8 55, .int .u8 56, .int .u8 57] 5 (9, 10))) fun e w' =>
    e = .returned (.int .u32 3421780262) ∧ w.alloc (.cells #[.int .u8 49, .int .u8 50, .int .u8 51, .int .u8 52, .int .u8 53, .int .u8 54, .int .u8 55, .int .u8 56, .int .u8 57] 5 (9, 10)) = w' := by
  refine (sum_any (l := [49, 50, 51, 52, 53, 54, 55, 56, 57]) rfl (by decide) (lies_marked w _ _)).mono ?_
  rintro e w' ⟨rfl, rfl⟩
  exact ⟨by rw [crc_example]; rfl, rfl⟩
theorem ex_put (w : World) : Calls Try.prog 15 #[.slice none 0 0, .int .i64 (-65)] w (Gives w.heap.size w [129, 1]) := by
  have := num_any (A := none) (m := 0) (c := 0) (x := -65) (l := []) (w := w) rfl (by decide) (by decide) (by decide) Lies.none_
  rw [enc_neg] at this
  exact this
theorem ex_putText (w : World) : Calls Try.prog 16 #[.slice none 0 0, .string ⟨#[97, 98]⟩] w (Gives w.heap.size w [4, 97, 98]) := by
  have := text_any (A := none) (m := 0) (c := 0) (s := ⟨#[97, 98]⟩) (l := []) (w := w) rfl (by decide) (by decide) Lies.none_
  have e : ([] : List UInt8) ++ (enc (fold ((⟨#[97, 98]⟩ : ByteArray).size : Int)) ++ (⟨#[97, 98]⟩ : ByteArray).data.toList) = [4, 97, 98] := by
    have e2 : fold ((⟨#[97, 98]⟩ : ByteArray).size : Int) = fold 2 := rfl
    rw [e2, enc_txt]; rfl
  rw [e] at this
  exact this
/-- A new row held against a literal of the same bytes. -/
theorem ex_same {w1 : World} {B : Nat} {v : Value} {l : List UInt8} (hown : w1.ownsRow B 5 1 v l.length (cells l)) (hs : l.length ≤ 4096) :
    Calls Try.prog 14 #[v, .slice (some ⟨w1.heap.size, 0, none⟩) l.length l.length] (w1.alloc (.cells (cells l).toArray 5)) fun e w' => e = .returned (.bool true) ∧ ∃ k, w' = (w1.alloc (.cells (cells l).toArray 5)).drewN k := by
  obtain ⟨A, c, rfl, hl, h1, h2, h3, -⟩ := own_form hown
  refine (same_any (l := l) (l' := l) rfl rfl (by unfold maxLen; omega) (by unfold maxLen; omega) (h3.alloc (Nat.le_refl _) _) (lies_new w1 l)).mono ?_
  rintro e w' ⟨rfl, hk⟩
  exact ⟨by simp, hk⟩

theorem below_drewN {B : Nat} {a w : World} (h : Below B a w) (n : Nat) : Below B a (w.drewN n) := ⟨h.os, h.tape, h.output, h.size, h.block⟩

set_option maxHeartbeats 1000000 in
theorem awake_any (w : World) : Calls Try.prog 13 #[] w fun e w' => e = .returned (.bool true) ∧ Below w.heap.size w w' := by
  have hid := fun (w : World) (C : Array Value) (n c : Nat) => Lib.run_convert_bytes_const (P := Try.prog) w 22 5 C n c Try.underlying22 Try.underlying5
  go_enter Try.func13, Try.ntmps13
  go_wp2_with (first
    | (go_at_call 17; refine (new_any (l := [4, 97, 98, 1]) rfl (by decide) ((lies_new w [4, 97, 98, 1]).mono (by simp))).mono ?_; rintro e w1 ⟨g, rfl, hg, hrd, hb1⟩; have hB1 : Below w.heap.size w w1 := ((Below.refl _ _).alloc (Nat.le_refl _) _).trans (hb1.mono (by simp)); have hgw : w.heap.size ≤ g := by (simp at hg; omega))
    | (go_at_call 20; refine (ex_text hrd).mono ?_; rintro e w2 ⟨rfl, hrd2, hg2⟩; have hB2 : Below w.heap.size w w2 := hB1.grown hg2 hB1.size (fun k e => by injection e with e; omega))
    | (go_at_call 18; refine (ex_num hrd2).mono ?_; rintro e w3 ⟨rfl, hrd3, hg3⟩; have hB3 : Below w.heap.size w w3 := hB2.grown hg3 hB2.size (fun k e => by injection e with e; omega))
    | (go_at_call 25; refine (done_any hrd3).mono ?_; rintro e w4 ⟨rfl, rfl⟩)
    | (go_at_call 26; refine (ex_sum w3).mono ?_; rintro e w5 ⟨rfl, rfl⟩)
    | (go_at_call 15; refine (ex_put _).mono ?_; rintro e w6 ⟨v6, rfl, hown6, hb6⟩; have hB6 : Below w.heap.size w w6 := (hB3.alloc hB3.size _).trans (hb6.mono (by have := hB3.size; simp; omega)); have hz6 : w.heap.size ≤ w6.heap.size := hB6.size)
    | (go_at_call 16; refine (ex_putText _).mono ?_; rintro e w8 ⟨v8, rfl, hown8, hb8⟩; have hB8 : Below w.heap.size w w8 := (below_drewN (hB6.alloc hz6 _) _).trans (hb8.mono (by simp; omega)); have hz8 : w.heap.size ≤ w8.heap.size := hB8.size; clear hown6)
    | (go_at_call 14; refine (ex_same (w1 := w6) hown6 (by decide)).mono ?_; rintro e w7 ⟨rfl, k7, rfl⟩)
    | (go_at_call 14; refine (ex_same (w1 := w8) hown8 (by decide)).mono ?_; rintro e w9 ⟨rfl, k9, rfl⟩))
  go_ret
  exact ⟨rfl, below_drewN (hB8.alloc hz8 _) _⟩

/-- What the walk of a law is told of a slice of integers that came in. -/
def IsRow (k : IntKind) (w : World) (a : Option Addr) (len cap : Nat) (zs : List Int) : Prop :=
  (a = none ∧ len = 0 ∧ cap = 0 ∧ zs = []) ∨
  ∃ x, a = some x ∧ len ≤ cap ∧ cap ≤ maxLen ∧ zs.length = cap ∧ (∀ i, i < zs.length → w.cell? (x.add i) = some (.int k (zs.getD i 0))) ∧ ∀ n ∈ zs, (Lit.int k n).wf = true

theorem cell_block_lt {w : World} {p : Addr} {v : Value} (h : w.cell? p = some v) : p.block < w.heap.size := by
  rcases Nat.lt_or_ge p.block w.heap.size with q | q
  · exact q
  · simp [World.cell?, Array.getElem?_eq_none q] at h

theorem lies_of_row {w : World} {a : Option Addr} {len cap : Nat} {zs : List Int} (h : IsRow .u8 w a len cap zs) : ∃ l : List UInt8, l.length = len ∧ len ≤ cap ∧ cap ≤ maxLen ∧ Lies w w.heap.size a l := by
  rcases h with ⟨rfl, rfl, rfl, rfl⟩ | ⟨x, rfl, h1, h2, h3, h4, h5⟩
  · exact ⟨[], rfl, Nat.le_refl _, Nat.zero_le _, Lies.none_⟩
  · refine ⟨(zs.take len).map fun n => UInt8.ofNat n.toNat, by simp; omega, h1, h2, ?_⟩
    intro k y hy
    simp only [List.getElem?_map, List.getElem?_take, Option.map_eq_some_iff] at hy
    obtain ⟨n, hn, rfl⟩ := hy
    split at hn
    · obtain ⟨hk, rfl⟩ := List.getElem?_eq_some_iff.1 hn
      have hc := h4 k hk
      obtain ⟨b, o, sp⟩ := x
      have hsp : sp = none := by
        have h0 := h4 0 (by omega)
        simpa [Addr.add] using World.cell?_spot h0
      subst hsp
      rw [Addr.add_lit] at hc
      refine ⟨b, o, rfl, cell_block_lt hc, ?_⟩
      rw [hc]
      have hb := bounds_u8 (h5 _ (List.getElem_mem hk))
      have e : zs.getD k 0 = zs[k] := by simp [List.getD, hk]
      rw [e]
      unfold bv
      have e2 : ((UInt8.ofNat (zs[k]).toNat).toNat : Int) = zs[k] := by
        rw [toNat_ofNat (by omega)]; omega
      rw [e2]
    · cases hn

end Go.Proofs.Ytckigcodmchfaaa.Pk
