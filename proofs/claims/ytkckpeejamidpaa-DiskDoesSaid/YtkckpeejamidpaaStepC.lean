/-
  step: Append of both disks. Conditions: few deeds, few bytes.
-/
import Derived.Test.YtkckpeejamidpaaStepB
import Derived.Laws.OwnMore
namespace Go.Proofs.Ytkckpeejamidpaa.Dk
open Go.RowKit Go.Proofs.Ytkckpeejamidpaa.Pk

theorem own_empty (w : World) : (w.alloc (.cells #[] 5)).ownsRow w.heap.size 5 1 (.slice (some ⟨w.heap.size, 0, none⟩) 0 0) 0 (cells []) :=
  ⟨rfl, .inr ⟨w.heap.size, 0, #[], rfl, Nat.le_refl _, heap_alloc_new w _, Nat.le_refl _, Nat.zero_le _, rfl, rfl⟩⟩
theorem below_empty {w w1 : World} (hg : (w.alloc (.cells #[] 5)).grownBy w1 (Value.ownBlock (.slice (some ⟨w.heap.size, 0, none⟩) 0 0))) : Below w.heap.size w w1 :=
  ((Below.refl _ _).alloc (Nat.le_refl _) _).grown hg (by simp) (fun k e => by simp [Value.ownBlock] at e; omega)
theorem own_at {w : World} {base n c k : Nat} {e : TypeId} {A : Option Addr} {xs : List Value} (h : w.ownsRow base e 1 (.slice A n c) n xs) (hk : k < n) :
    ∃ g, A = some ⟨g, 0, none⟩ ∧ base ≤ g ∧ g < w.heap.size ∧ (∃ u, w.cell? ⟨g, k, none⟩ = some u) ∧ w.frozen? ⟨g, k, none⟩ = false ∧
      ∀ u, (w.setCell ⟨g, k, none⟩ u).ownsRow base e 1 (.slice A n c) n (xs.set k u) ∧ w.grownBy (w.setCell ⟨g, k, none⟩ u) (some g) := by
  have hl := h.lt
  rcases h.2 with ⟨_, h0⟩ | ⟨g, cap, cur, hv, _, _⟩
  · omega
  · injection hv with hA _ hc
    subst hA hc
    have hlt := hl g rfl
    have hx : k < xs.length := by have := h.1; omega
    exact ⟨g, rfl, hlt.1, hlt.2, ⟨_, (h.cellAt k (by omega)).trans (List.getElem?_eq_getElem hx)⟩, h.frozenAt k, fun u => h.stored k u⟩

section
variable {X M : Nat → Prop} {w0 w w' : World} {d r x : Nat} {s t : Ds} {kind n keep : Int} {name : ByteArray} {A : Option Addr} {m c : Nat}
theorem OpAt.grown {g : Nat} (h : OpAt w x kind n keep name A m c) (hg : w.grownBy w' (some g)) (hx : x < w.heap.size) (hne : x ≠ g) : OpAt w' x kind n keep name A m c := ⟨(hg.block x hx (fun e => hne (Option.some.inj e))).trans h.at_⟩
theorem OpAt.lt (h : OpAt w x kind n keep name A m c) : x < w.heap.size := (Array.getElem?_eq_some_iff.1 h.at_).1
theorem Both.wrote {g : Nat} (h : Both M w0 w d r s t) (hg : w.grownBy w' (some g)) (hM : M g) (hb : w0.heap.size ≤ g) : Both M w0 w' d r s t :=
  (h.grown hg (fun k e => by rw [← Option.some.inj e]; exact ⟨hM, hb⟩)).low fun _ => .inl

set_option maxRecDepth 100000 in
set_option maxHeartbeats 2000000 in
theorem step_append {l : List UInt8} (h : Both X w0 w d r s t) (hs : name.size ≤ maxLen) (hd : s.deeds ≤ 1000) (hd' : t.deeds ≤ 1000) (hll : l.length = m) (hm : m ≤ 1024) (hL : Lies w0 w0.heap.size A l) :
    Calls Try.prog 11 #[.pointer (some ⟨d, 0, none⟩), .pointer (some ⟨r, 0, none⟩), .agg #[.int .i64 0, .string name, .slice A m c, .int .i64 n, .int .i64 keep]] w (Stepped X w0 d r s t (appendD s name.data.toList l).2 (appendD t name.data.toList l).2) := by
  have hO := OpAt.new w 0 n keep name A m c
  have hB := h.alloc (.cells #[.int .i64 0, .string name, .slice A m c, .int .i64 n, .int .i64 keep] 33)
  have hw0 : w0.heap.size ≤ w.heap.size := h.size
  have hs1 : s.deeds < 4611686018427387904 := by omega
  have ht1 : t.deeds < 1000000 := by omega
  have HL := Lib.hid (And.intro hll hL)
  have hL1 : Lies ((w.alloc (.cells #[.int .i64 0, .string name, .slice A m c, .int .i64 n, .int .i64 keep] 33)).alloc (.cells #[] 5)) w0.heap.size A l := (hL.below hB.bel).alloc hB.size _
  have hE : ((w.alloc (.cells #[.int .i64 0, .string name, .slice A m c, .int .i64 n, .int .i64 keep] 33)).alloc (.cells #[] 5)).ownsRow (w.heap.size + 1) 5 1 (.slice (some ⟨w.heap.size + 1, 0, none⟩) 0 0) 0 (cells []) := by
    have := own_empty (w.alloc (.cells #[.int .i64 0, .string name, .slice A m c, .int .i64 n, .int .i64 keep] 33))
    simpa using this
  have hBE : ∀ wA, ((w.alloc (.cells #[.int .i64 0, .string name, .slice A m c, .int .i64 n, .int .i64 keep] 33)).alloc (.cells #[] 5)).grownBy wA (Value.ownBlock (.slice (some ⟨w.heap.size + 1, 0, none⟩) 0 0)) → Below (w.alloc (.cells #[.int .i64 0, .string name, .slice A m c, .int .i64 n, .int .i64 keep] 33)).heap.size (w.alloc (.cells #[.int .i64 0, .string name, .slice A m c, .int .i64 n, .int .i64 keep] 33)) wA := fun wA hg => below_empty (by simpa using hg)
  have HBE := Lib.hid hBE
  clear h hd hd' hL hll hBE
  go_enter Try.func11, Try.ntmps11
  go_wp2_with (first
    | (at_builtin; refine wpList_append_bytes_at rfl (.tmp 22) (.tmp 24) rfl (w.heap.size + 1) _ 0 [] rfl hE A m c l rfl HL.out.1 w0.heap.size hL1 (by omega) (by simp) ?_; intro v1 wA ho1 hg1 _; have hb1 := HBE.out wA hg1; clear hg1; simp only [Nat.zero_add, List.nil_append] at ho1; obtain ⟨A1, c1, rfl, -, -⟩ := own_cap ho1; have hBA := hB.keep hb1; have hOA := hO.kept (Kept.below hB.1 hb1) (.inr rfl); have hXA : ∀ g, (Value.slice A1 m c1).ownBlock = some g → More (fun b => X b ∨ b = w.heap.size) (w.alloc (.cells #[.int .i64 0, .string name, .slice A m c, .int .i64 n, .int .i64 keep] 33)) wA g := fun g hg => .inr (by have := ho1.lt g hg; simpa using this); have cA1 := hOA.c1; have hlA := Lies.of_own ho1; clear hb1)
    | (go_at_call 16; refine (hBA.callD fun S hD => append_any hD hs HL.out.1 hlA hs1).mono ?_; rintro e w2 ⟨rfl, hB2, hK2⟩; have ho2 := hK2.own ho1 hXA; have hO2 := hOA.kept hK2 (.inl (.inr rfl)); clear hK2 ho1 hlA cA1 hOA))
  clear hE hL1 hB hBA hO
  obtain ⟨M, hM⟩ : ∃ M, M = More (fun b => X b ∨ b = w.heap.size) (w.alloc (.cells #[.int .i64 0, .string name, .slice A m c, .int .i64 n, .int .i64 keep] 33)) wA := ⟨_, rfl⟩
  rw [← hM] at hXA hB2
  have HM : Hid (∀ b, X b → M b) := fun b hb => by rw [hM]; exact .inl (.inl hb)
  clear hM
  go_loopw [9] (fun i wr => ∃ (k : Nat) (xs : List Value), k ≤ m ∧ i = .int .i64 k ∧ wr.ownsRow (w.heap.size + 1) 5 1 (.slice A1 m c1) m xs ∧ Both M w0 wr d r (appendD s name.data.toList l).2 t ∧ OpAt wr w.heap.size 0 n keep name A m c) (fun i _ => m - (intOf i).toNat)
  case atStart => exact ⟨0, _, Nat.zero_le _, rfl, ho2, hB2, hO2⟩
  case round =>
    obtain ⟨k, xs, hk, rfl, hown, hBr, hOr⟩ := hrel
    clear ho2 hB2 hO2
    by_cases hlt : k < m
    · obtain ⟨g1, rfl, hg1, -, ⟨u, hcu⟩, hfu, hset⟩ := own_at hown hlt
      have R := Lib.hid (hset (.int .u8 88))
      have hlt' : (k : Int) < (m : Int) := by omega
      clear hset
      go_wp2_with fail
      go_roundw
      case rel => exact ⟨k + 1, _, by omega, by go_num, R.out.1, hBr.wrote R.out.2 (hXA g1 rfl) (by omega), hOr.grown R.out.2 hOr.lt (by omega)⟩
      case measure => simp [intOf]; omega
    · rename World => wq
      have hge' : (m : Int) ≤ (k : Int) := by omega
      have c1' := hOr.c1
      have c2' := hOr.c2
      have hLq : Lies wq wq.heap.size A l := (HL.out.2.below hBr.bel).mono hBr.size
      go_wp2_with (go_at_call 24; refine (hBr.callR fun T hR => rappend_any hR hs HL.out.1 hLq ht1).mono ?_; rintro e w4 ⟨rfl, hB4, -⟩)
      go_ret
      exact ⟨_, rfl, fun h => by subst h; simp, hB4.low HM.out⟩
end
end Go.Proofs.Ytkckpeejamidpaa.Dk
