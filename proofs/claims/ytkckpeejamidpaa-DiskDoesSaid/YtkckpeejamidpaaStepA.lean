/-
  step: a call of both disks. Conditions: few deeds.
-/
import Derived.Test.YtkckpeejamidpaaBoth
import Derived.Test.YtkckpeejamidpaaDiskSafeWalk
namespace Go.Proofs.Ytkckpeejamidpaa.Dk
open Go.RowKit Go.Proofs.Ytkckpeejamidpaa.Pk

/-- An operation as it lies in memory. -/
def opObj (kind n keep : Int) (name : ByteArray) (A : Option Addr) (m c : Nat) : Obj := .cells #[.int .i64 kind, .string name, .slice A m c, .int .i64 n, .int .i64 keep] 33 (0, 0)
structure OpAt (w : World) (x : Nat) (kind n keep : Int) (name : ByteArray) (A : Option Addr) (m c : Nat) : Prop where
  at_ : w.heap[x]? = some (opObj kind n keep name A m c)

section
variable {X : Nat → Prop} {w0 w w' : World} {d r x : Nat} {s t : Ds} {kind n keep : Int} {name : ByteArray} {A : Option Addr} {m c : Nat}
theorem OpAt.kept (h : OpAt w x kind n keep name A m c) (hk : Kept X w w') (hx : X x) : OpAt w' x kind n keep name A m c := ⟨(hk x hx).trans h.at_⟩
theorem OpAt.c1 (h : OpAt w x kind n keep name A m c) : w.cell? ⟨x, 1, none⟩ = some (.string name) := by have := h.at_; unfold opObj at this; simp [World.cell?, this]
theorem OpAt.c2 (h : OpAt w x kind n keep name A m c) : w.cell? ⟨x, 2, none⟩ = some (.slice A m c) := by have := h.at_; unfold opObj at this; simp [World.cell?, this]
theorem OpAt.c3 (h : OpAt w x kind n keep name A m c) : w.cell? ⟨x, 3, none⟩ = some (.int .i64 n) := by have := h.at_; unfold opObj at this; simp [World.cell?, this]
theorem OpAt.c4 (h : OpAt w x kind n keep name A m c) : w.cell? ⟨x, 4, none⟩ = some (.int .i64 keep) := by have := h.at_; unfold opObj at this; simp [World.cell?, this]
theorem OpAt.new (w : World) (kind n keep : Int) (name : ByteArray) (A : Option Addr) (m c : Nat) : OpAt (w.alloc (.cells #[.int .i64 kind, .string name, .slice A m c, .int .i64 n, .int .i64 keep] 33)) w.heap.size kind n keep name A m c := ⟨heap_alloc_new w _⟩

set_option maxRecDepth 100000 in
set_option maxHeartbeats 1000000 in
theorem step_arm (h : Both X w0 w d r s t) (hn1 : -9223372036854775808 ≤ n) (hn2 : n ≤ 9223372036854775807) (hk1 : -9223372036854775808 ≤ keep) (hk2 : keep ≤ 9223372036854775807) :
    Calls Try.prog 11 #[.pointer (some ⟨d, 0, none⟩), .pointer (some ⟨r, 0, none⟩), .agg #[.int .i64 4, .string name, .slice A m c, .int .i64 n, .int .i64 keep]] w fun e w' => e = .returned (.bool true) ∧ Both X w0 w' d r (armD s n keep) (armD t n keep) := by
  have hO := OpAt.new w 4 n keep name A m c
  have hB := h.alloc (.cells #[.int .i64 4, .string name, .slice A m c, .int .i64 n, .int .i64 keep] 33)
  clear h
  go_enter Try.func11, Try.ntmps11
  go_wp2_with (first
    | (go_at_call 20; refine (hB.callD fun S hD => arm_any hD hn1 hn2 hk1 hk2).mono ?_; rintro e w1 ⟨rfl, hB1, hK1⟩; have hO1 := hO.kept hK1 (.inr rfl); have c3 := hO1.c3; have c4 := hO1.c4; clear hK1)
    | (go_at_call 28; refine (hB1.callR fun T hR => rarm_any hR hn2 hk1 hk2).mono ?_; rintro e w2 ⟨rfl, hB2, hK2⟩))
  go_ret
  exact ⟨rfl, hB2.low fun _ => .inl⟩

set_option maxRecDepth 100000 in
set_option maxHeartbeats 1000000 in
theorem step_off (h : Both X w0 w d r s t) (hd : t.deeds ≤ 1000000) (hk1 : -9223372036854775808 ≤ keep) (hk2 : keep ≤ 9223372036854775807) :
    Calls Try.prog 11 #[.pointer (some ⟨d, 0, none⟩), .pointer (some ⟨r, 0, none⟩), .agg #[.int .i64 5, .string name, .slice A m c, .int .i64 n, .int .i64 keep]] w fun e w' => e = .returned (.bool true) ∧ Both X w0 w' d r (offD s keep) (offD t keep) := by
  have hO := OpAt.new w 5 n keep name A m c
  have hB := h.alloc (.cells #[.int .i64 5, .string name, .slice A m c, .int .i64 n, .int .i64 keep] 33)
  clear h
  go_enter Try.func11, Try.ntmps11
  go_wp2_with (first
    | (go_at_call 18; refine (hB.callD fun S hD => off_disk hD hk1 hk2).mono ?_; rintro e w1 ⟨rfl, hB1, hK1⟩; have hO1 := hO.kept hK1 (.inr rfl); have c4 := hO1.c4; clear hK1)
    | (go_at_call 29; refine (hB1.callR fun T hR => roff_any hR hd hk1 hk2).mono ?_; rintro e w2 ⟨rfl, hB2, hK2⟩))
  go_ret
  exact ⟨rfl, hB2.low fun _ => .inl⟩

set_option maxRecDepth 100000 in
set_option maxHeartbeats 1000000 in
theorem step_on (h : Both X w0 w d r s t) :
    Calls Try.prog 11 #[.pointer (some ⟨d, 0, none⟩), .pointer (some ⟨r, 0, none⟩), .agg #[.int .i64 6, .string name, .slice A m c, .int .i64 n, .int .i64 keep]] w fun e w' => e = .returned (.bool true) ∧ Both X w0 w' d r (onD s) (onD t) := by
  have hB := h.alloc (.cells #[.int .i64 6, .string name, .slice A m c, .int .i64 n, .int .i64 keep] 33)
  clear h
  go_enter Try.func11, Try.ntmps11
  go_wp2_with (first
    | (go_at_call 14; refine (hB.callD fun S hD => on_any hD).mono ?_; rintro e w1 ⟨rfl, hB1, hK1⟩; have c1 := hB1.rcell1.1; have f1 := hB1.rcell1.2; clear hK1))
  go_ret
  exact ⟨rfl, hB1.ronStore.1.low fun _ => .inl⟩

set_option maxRecDepth 100000 in
set_option maxHeartbeats 1000000 in
theorem step_none (h : Both X w0 w d r s t) (h0 : kind ≠ 0) (h1 : kind ≠ 1) (h2 : kind ≠ 2) (h3 : kind ≠ 3) (h4 : kind ≠ 4) (h5 : kind ≠ 5) (h6 : kind ≠ 6) (h7 : kind ≠ 7) :
    Calls Try.prog 11 #[.pointer (some ⟨d, 0, none⟩), .pointer (some ⟨r, 0, none⟩), .agg #[.int .i64 kind, .string name, .slice A m c, .int .i64 n, .int .i64 keep]] w fun e w' => e = .returned (.bool true) ∧ Both X w0 w' d r s t := by
  have hB := h.alloc (.cells #[.int .i64 kind, .string name, .slice A m c, .int .i64 n, .int .i64 keep] 33)
  clear h
  go_enter Try.func11, Try.ntmps11
  go_wp2
  go_ret
  exact ⟨rfl, hB.low fun _ => .inl⟩
end
end Go.Proofs.Ytkckpeejamidpaa.Dk
