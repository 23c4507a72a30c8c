/-
  step: Sync and Cut of both disks. Conditions: few deeds.
-/
import Derived.Test.YtkckpeejamidpaaStepA
import Derived.Deep.RegionHeld3
namespace Go.Proofs.Ytkckpeejamidpaa.Dk
open Go.RowKit Go.Proofs.Ytkckpeejamidpaa.Pk

section
variable {X : Nat → Prop} {w0 w w' : World} {d r x : Nat} {s t : Ds} {kind n keep : Int} {name : ByteArray} {A : Option Addr} {m c : Nat}
theorem Both.drew (h : Both X w0 w d r s t) : Both X w0 w.drew d r s t := h.drewN 1
theorem OpAt.drew (h : OpAt w x kind n keep name A m c) : OpAt w.drew x kind n keep name A m c := ⟨h.at_⟩

/-- What step leaves. -/
def Stepped (X : Nat → Prop) (w0 : World) (d r : Nat) (s t s' t' : Ds) (e : Ending) (w' : World) : Prop := ∃ b, e = .returned (.bool b) ∧ (s = t → b = true) ∧ Both X w0 w' d r s' t'

set_option maxRecDepth 100000 in
set_option maxHeartbeats 2000000 in
theorem step_sync (h : Both X w0 w d r s t) (hs : name.size ≤ maxLen) (hd : s.deeds ≤ 1000) (hd' : t.deeds ≤ 1000) :
    Calls Try.prog 11 #[.pointer (some ⟨d, 0, none⟩), .pointer (some ⟨r, 0, none⟩), .agg #[.int .i64 1, .string name, .slice A m c, .int .i64 n, .int .i64 keep]] w (Stepped X w0 d r s t (syncD s name.data.toList).2 (syncD t name.data.toList).2) := by
  have hO := (OpAt.new w 1 n keep name A m c).drew
  have hB := (h.alloc (.cells #[.int .i64 1, .string name, .slice A m c, .int .i64 n, .int .i64 keep] 33)).drew
  have c0 := hO.c1
  have hs1 : s.deeds < 4611686018427387904 := by omega
  have ht1 : t.deeds < 1000000 := by omega
  clear h hd hd'
  go_enter Try.func11, Try.ntmps11
  go_wp2_with fail
  go_region_held3 (fun W => W.cell? ⟨w.heap.size, 1, none⟩ = some (.string name)) (first | exact c0 | exact c1 | exact c2 | exact c3 | exact c4)
    (first
      | (go_at_call 17; first
          | (refine (hB.callD fun S hD => sync_any hD hs hs1).mono ?_; rintro e w1 ⟨rfl, hB1, hK1⟩; have c1 := (hO.kept hK1 (.inr rfl)).c1; clear hK1)
          | (refine (hB2.callD fun S hD => sync_any hD hs hs1).mono ?_; rintro e w3 ⟨rfl, hB3, hK3⟩; have c3 := (hO2.kept hK3 (.inr rfl)).c1; clear hK3))
      | (go_at_call 25; first
          | (refine (hB.callR fun T hR => rsync_any hR ht1).mono ?_; rintro e w2 ⟨rfl, hB2, hK2⟩; have hO2 := hO.kept hK2 (.inr rfl); have c2 := hO2.c1; clear hK2)
          | (refine (hB1.callR fun T hR => rsync_any hR ht1).mono ?_; rintro e w4 ⟨rfl, hB4, hK4⟩; have c4 : w4.cell? ⟨w.heap.size, 1, none⟩ = some (.string name) := (hK4.cell (p := ⟨w.heap.size, 1, none⟩) (.inr rfl)).trans c1; clear hK4)))
  all_goals
    go_wp2
    go_ret
    first
      | exact ⟨_, rfl, fun h => by subst h; simp, hB3.low fun _ => .inl⟩
      | exact ⟨_, rfl, fun h => by subst h; simp, hB4.low fun _ => .inl⟩

set_option maxRecDepth 100000 in
set_option maxHeartbeats 2000000 in
theorem step_cut (h : Both X w0 w d r s t) (hs : name.size ≤ maxLen) (hd : s.deeds ≤ 1000) (hd' : t.deeds ≤ 1000) :
    Calls Try.prog 11 #[.pointer (some ⟨d, 0, none⟩), .pointer (some ⟨r, 0, none⟩), .agg #[.int .i64 2, .string name, .slice A m c, .int .i64 n, .int .i64 keep]] w (Stepped X w0 d r s t (cutD s name.data.toList n).2 (cutD t name.data.toList n).2) := by
  have hO := (OpAt.new w 2 n keep name A m c).drew
  have hB := (h.alloc (.cells #[.int .i64 2, .string name, .slice A m c, .int .i64 n, .int .i64 keep] 33)).drew
  have c0 := And.intro hO.c1 hO.c3
  have hs1 : s.deeds < 4611686018427387904 := by omega
  have ht1 : t.deeds < 1000000 := by omega
  clear h hd hd'
  go_enter Try.func11, Try.ntmps11
  go_wp2_with fail
  go_region_held3 (fun W => W.cell? ⟨w.heap.size, 1, none⟩ = some (.string name) ∧ W.cell? ⟨w.heap.size, 3, none⟩ = some (.int .i64 n)) (first | exact c0 | exact c1 | exact c2 | exact c3 | exact c4)
    (first
      | (go_at_call 21; first
          | (refine (hB.callD fun S hD => cut_any hD hs hs1).mono ?_; rintro e w1 ⟨rfl, hB1, hK1⟩; have hO1 := hO.kept hK1 (.inr rfl); have c1 := And.intro hO1.c1 hO1.c3; clear hK1)
          | (refine (hB2.callD fun S hD => cut_any hD hs hs1).mono ?_; rintro e w3 ⟨rfl, hB3, hK3⟩; have hO3 := hO2.kept hK3 (.inr rfl); have c3 := And.intro hO3.c1 hO3.c3; clear hK3))
      | (go_at_call 26; first
          | (refine (hB.callR fun T hR => rcut_any hR ht1).mono ?_; rintro e w2 ⟨rfl, hB2, hK2⟩; have hO2 := hO.kept hK2 (.inr rfl); have c2 := And.intro hO2.c1 hO2.c3; clear hK2)
          | (refine (hB1.callR fun T hR => rcut_any hR ht1).mono ?_; rintro e w4 ⟨rfl, hB4, hK4⟩; have hO4 := hO1.kept hK4 (.inr rfl); have c4 := And.intro hO4.c1 hO4.c3; clear hK4)))
  all_goals
    go_wp2
    go_ret
    first
      | exact ⟨_, rfl, fun h => by subst h; simp, hB3.low fun _ => .inl⟩
      | exact ⟨_, rfl, fun h => by subst h; simp, hB4.low fun _ => .inl⟩
end
end Go.Proofs.Ytkckpeejamidpaa.Dk
