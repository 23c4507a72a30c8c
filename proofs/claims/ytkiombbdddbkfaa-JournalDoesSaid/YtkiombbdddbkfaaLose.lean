/-
  What a power failure keeps of one file; how a file is found. Conditions: none but those that each theorem names.
-/
import Derived.Test.YtkiombbdddbkfaaSmall
import Derived.RegionTactic
import Derived.ChangeAlike
namespace Go.Proofs.Ytkiombbdddbkfaa.Dk
open Go.RowKit Go.Proofs.Ytkiombbdddbkfaa.Pk

/-- Nothing has turned but block b. -/
structure Only (b : Nat) (w w' : World) : Prop where
  os : w'.os = w.os
  tape : w'.tape = w.tape
  output : w'.output = w.output
  size : w'.heap.size = w.heap.size
  block : ∀ k, k ≠ b → w'.heap[k]? = w.heap[k]?
theorem Only.refl (b : Nat) (w : World) : Only b w w := ⟨rfl, rfl, rfl, rfl, fun _ _ => rfl⟩
theorem Only.setCell {b : Nat} {w w' : World} (h : Only b w w') (o : Nat) (u : Value) : Only b w (w'.setCell ⟨b, o, none⟩ u) :=
  ⟨h.os, h.tape, h.output, by simp [World.setCell, h.size], fun k hk => (Below.heap_setCell _ _ _ _ hk).trans (h.block k hk)⟩
theorem Only.drew {b : Nat} {w w' : World} (h : Only b w w') : Only b w w'.drew := ⟨h.os, h.tape, h.output, h.size, h.block⟩
theorem Only.drewN {b : Nat} {w w' : World} (h : Only b w w') (n : Nat) : Only b w (w'.drewN n) := ⟨h.os, h.tape, h.output, h.size, h.block⟩

section
variable {w : World} {fb : Nat} {v : Value} {s : Int}
def FC (w : World) (fb : Nat) (v : Value) (s : Int) : Prop := w.heap[fb]? = some (.cells #[v, .int .i64 s] 75 (0, 0))
theorem FC.c0 (h : FC w fb v s) : w.cell? ⟨fb, 0, none⟩ = some v := by unfold FC at h; simp [World.cell?, h]
theorem FC.c1 (h : FC w fb v s) : w.cell? ⟨fb, 1, none⟩ = some (.int .i64 s) := by unfold FC at h; simp [World.cell?, h]
theorem FC.fz (h : FC w fb v s) (o : Nat) : w.frozen? ⟨fb, o, none⟩ = false := by unfold FC at h; simp [World.frozen?, h]
theorem FC.set0 (h : FC w fb v s) (u : Value) : FC (w.setCell ⟨fb, 0, none⟩ u) fb u s := by unfold FC at h ⊢; simp [World.setCell, Array.getElem?_modify, h]
theorem FC.set1 (h : FC w fb v s) (u : Int) : FC (w.setCell ⟨fb, 1, none⟩ (.int .i64 u)) fb v u := by unfold FC at h ⊢; simp [World.setCell, Array.getElem?_modify, h]
end

theorem lose_end {w : World} {fb n c q z : Nat} {v : Value} {s0 y : Int} {A : Option Addr} (h : FC w fb v s0) (hy : y = q) (hz : z = q) (hn : n = q) :
    FC (((w.setCell ⟨fb, 1, none⟩ (.int .i64 y)).setCell ⟨fb, 0, none⟩ (.slice A z c)).drew.drew) fb (.slice A n c) (n : Nat) ∧ Only fb w (((w.setCell ⟨fb, 1, none⟩ (.int .i64 y)).setCell ⟨fb, 0, none⟩ (.slice A z c)).drew.drew) := by
  subst hy hz hn
  exact ⟨(h.set1 _).set0 _, (((Only.refl _ _).setCell _ _).setCell _ _).drew.drew⟩

set_option maxHeartbeats 1000000 in
theorem lose_cell {w : World} {fb n c s : Nat} {A : Option Addr} {keep : Int} (h_ : FC w fb (.slice A n c) s) (hs : s ≤ n) (hc : n ≤ c) (hn : n ≤ 16777216) (hk1 : -9223372036854775808 ≤ keep) (hk2 : keep ≤ 9223372036854775807) :
    Calls Try.prog 39 #[.pointer (some ⟨fb, 0, none⟩), .int .i64 keep] w fun e w' => e = .returned (.tuple #[]) ∧ FC w' fb (.slice A (s + min keep.toNat (n - s)) c) (s + min keep.toNat (n - s) : Nat) ∧ Only fb w w' := by
  have c0 := h_.c0
  have c1 := h_.c1
  have f0 := h_.fz 0
  have f1 := h_.fz 1
  have hnn : (n : Int) ≤ 16777216 := by omega
  go_enter Try.func39, Try.ntmps39
  go_wp2
  go_region
  go_wp2
  · go_region
    go_end0
    exact ⟨rfl, lose_end h_ (q := s) rfl rfl (by omega)⟩
  · go_region
    go_end0
    exact ⟨rfl, lose_end h_ (q := n) (by omega) rfl (by omega)⟩
  · go_region
    go_end0
    exact ⟨rfl, lose_end h_ (q := s + keep.toNat) (by omega) (by omega) (by omega)⟩

theorem key_of {name : ByteArray} (h : name.size ≤ maxLen) : keyOf Try.prog 9 (.string name) = some (.string name.data.toList) := WideMaps.keyOf_string_mk Try.underlying9 h

/-- What a look-up in the map of a disk gives. -/
theorem look_none {w : World} {S : Nat → Prop} {m : List (Nm × Fl)} {mv : Value} {name : ByteArray} (h : Inner w S m mv) (hn : name.size ≤ maxLen) (hg : get m name.data.toList = none) :
    (Instr.lookup 58 mv (.string name) false).run Try.prog w = .ok (.pointer none) w := by
  rcases h with ⟨rfl, rfl⟩ | ⟨bm, D, pl, v, rfl, hs, hown, hh⟩
  · exact Maps.look_nil false law Try.underlying58 (zero60 w) (key_of hn)
  · obtain ⟨u, ps, hrun, hu⟩ := hown.lookup law Try.underlying58 (zero60 w) ptrElem_none (key_of hn)
    rw [Maps.atKey_of_not_has (by rw [hh.has, hg]; rfl)] at hu
    rw [hrun, ptrElem_nil hu]
theorem look_some {w : World} {S : Nat → Prop} {m : List (Nm × Fl)} {bm : Nat} {D : DataW Unit} {pl : Nm → Nat} {v : Nm → Value} {f : Fl} {name : ByteArray} (hown : w.ownsMap Try.prog 9 ptrElem bm m.length D) (hh : Held w S D m pl v) (hn : name.size ≤ maxLen)
    (hg : get m name.data.toList = some f) : (Instr.lookup 58 (.map (some bm)) (.string name) false).run Try.prog w = .ok (.pointer (some ⟨pl name.data.toList, 0, none⟩)) w := by
  obtain ⟨u, ps, hrun, hu⟩ := hown.lookup law Try.underlying58 (zero60 w) ptrElem_none (key_of hn)
  rw [hh.el _ f hg] at hu
  rw [hrun, ptrElem_at hu]

set_option maxHeartbeats 400000 in
theorem find_nil (name : ByteArray) (w : World) : Calls Try.prog 47 #[.pointer none, .string name] w fun e w' => e = .returned (.tuple #[.pointer none, .int .i64 3]) ∧ w = w' := by
  go_enter Try.func47, Try.ntmps47
  go_wp2
  go_ret2
  exact ⟨rfl, rfl⟩
set_option maxHeartbeats 400000 in
theorem find_off {w : World} {d : Nat} (name : ByteArray) (c1 : w.cell? ⟨d, 1, none⟩ = some (.bool true)) : Calls Try.prog 47 #[.pointer (some ⟨d, 0, none⟩), .string name] w fun e w' => e = .returned (.tuple #[.pointer none, .int .i64 20]) ∧ w = w' := by
  go_enter Try.func47, Try.ntmps47
  go_wp2
  go_ret2
  exact ⟨rfl, rfl⟩
set_option maxHeartbeats 400000 in
theorem find_none {w : World} {d : Nat} {mv : Value} {name : ByteArray} (c0 : w.cell? ⟨d, 0, none⟩ = some mv) (c1 : w.cell? ⟨d, 1, none⟩ = some (.bool false)) (hrun : (Instr.lookup 58 mv (.string name) false).run Try.prog w = .ok (.pointer none) w) :
    Calls Try.prog 47 #[.pointer (some ⟨d, 0, none⟩), .string name] w fun e w' => e = .returned (.tuple #[.pointer none, .int .i64 21]) ∧ w = w' := by
  go_enter Try.func47, Try.ntmps47
  go_wp2
  go_ret2
  exact ⟨rfl, rfl⟩
set_option maxHeartbeats 400000 in
theorem find_some {w : World} {d fb : Nat} {mv : Value} {name : ByteArray} (c0 : w.cell? ⟨d, 0, none⟩ = some mv) (c1 : w.cell? ⟨d, 1, none⟩ = some (.bool false)) (hrun : (Instr.lookup 58 mv (.string name) false).run Try.prog w = .ok (.pointer (some ⟨fb, 0, none⟩)) w) :
    Calls Try.prog 47 #[.pointer (some ⟨d, 0, none⟩), .string name] w fun e w' => e = .returned (.tuple #[.pointer (some ⟨fb, 0, none⟩), .int .i64 0]) ∧ w = w' := by
  go_enter Try.func47, Try.ntmps47
  go_wp2
  go_ret2
  exact ⟨rfl, rfl⟩
end Go.Proofs.Ytkiombbdddbkfaa.Dk
