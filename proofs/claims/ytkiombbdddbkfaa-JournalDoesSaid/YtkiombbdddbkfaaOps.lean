/-
  Sync, Cut and Read, step by step. Conditions: none but those that each theorem names.
-/
import Derived.Test.YtkiombbdddbkfaaAppend
namespace Go.Proofs.Ytkiombbdddbkfaa.Dk
open Go.RowKit Go.Proofs.Ytkiombbdddbkfaa.Pk

section
variable {w : World} {dv : Value} {name : ByteArray} {r : Int}
set_option maxHeartbeats 400000 in
theorem sync_err (hr : (r != 0) = true) (H : Calls Try.prog 47 #[dv, .string name] w fun e w' => e = .returned (.tuple #[.pointer none, .int .i64 r]) ∧ w = w') :
    Calls Try.prog 52 #[dv, .string name] w fun e w' => e = .returned (.int .i64 r) ∧ w = w' := by
  have HH := Lib.hid H
  clear H
  go_enter Try.func52, Try.ntmps52
  go_wp2_with (go_at_call 47; refine HH.out.mono ?_; rintro e w' ⟨rfl, rfl⟩)
  go_ret
  exact ⟨rfl, rfl⟩
set_option maxHeartbeats 400000 in
theorem cut_err {n : Int} (hr : (r != 0) = true) (H : Calls Try.prog 47 #[dv, .string name] w fun e w' => e = .returned (.tuple #[.pointer none, .int .i64 r]) ∧ w = w') :
    Calls Try.prog 30 #[dv, .string name, .int .i64 n] w fun e w' => e = .returned (.int .i64 r) ∧ w = w' := by
  have HH := Lib.hid H
  clear H
  go_enter Try.func30, Try.ntmps30
  go_wp2_with (go_at_call 47; refine HH.out.mono ?_; rintro e w' ⟨rfl, rfl⟩)
  go_ret
  exact ⟨rfl, rfl⟩
set_option maxHeartbeats 400000 in
theorem read_err (hr : (r != 0) = true) (H : Calls Try.prog 47 #[dv, .string name] w fun e w' => e = .returned (.tuple #[.pointer none, .int .i64 r]) ∧ w = w') :
    Calls Try.prog 27 #[dv, .string name] w fun e w' => e = .returned (.tuple #[.slice none 0 0, .int .i64 r]) ∧ w = w' := by
  have HH := Lib.hid H
  clear H
  go_enter Try.func27, Try.ntmps27
  go_wp2_with (go_at_call 47; refine HH.out.mono ?_; rintro e w' ⟨rfl, rfl⟩)
  go_ret2
  exact ⟨rfl, rfl⟩
end

section
variable {w : World} {dv : Value} {name : ByteArray} {fb : Nat} {Q : World → Prop}
set_option maxHeartbeats 400000 in
theorem sync_hit (H : Calls Try.prog 47 #[dv, .string name] w fun e w' => e = .returned (.tuple #[.pointer (some ⟨fb, 0, none⟩), .int .i64 0]) ∧ w = w')
    (HS : Calls Try.prog 43 #[dv] w fun e w' => e = .returned (.bool true) ∧ Q w') : Calls Try.prog 52 #[dv, .string name] w fun e w' => e = .returned (.int .i64 20) ∧ Q w' := by
  have HH := Lib.hid H
  have HG := Lib.hid HS
  clear H HS
  go_enter Try.func52, Try.ntmps52
  go_wp2_with (first
    | (go_at_call 47; refine HH.out.mono ?_; rintro e w' ⟨rfl, rfl⟩)
    | (go_at_call 43; refine HG.out.mono ?_; rintro e w' ⟨rfl, hq⟩))
  go_ret
  exact ⟨rfl, hq⟩
set_option maxHeartbeats 400000 in
theorem sync_ok {A : Option Addr} {n c : Nat} {s0 : Int} (H : Calls Try.prog 47 #[dv, .string name] w fun e w' => e = .returned (.tuple #[.pointer (some ⟨fb, 0, none⟩), .int .i64 0]) ∧ w = w')
    (HS : Calls Try.prog 43 #[dv] w fun e w' => e = .returned (.bool false) ∧ Q w') (HQ : ∀ w', Q w' → FC w' fb (.slice A n c) s0) :
    Calls Try.prog 52 #[dv, .string name] w fun e w' => e = .returned (.int .i64 0) ∧ ∃ w1, Q w1 ∧ w1.setCell ⟨fb, 1, none⟩ (.int .i64 n) = w' := by
  have HH := Lib.hid H
  have HG := Lib.hid HS
  have HQ1 : Hid (∀ w', Q w' → w'.cell? ⟨fb, 0, none⟩ = some (.slice A n c) ∧ w'.cell? ⟨fb, 1, none⟩ = some (.int .i64 s0) ∧ w'.frozen? ⟨fb, 1, none⟩ = false ∧ Hid (Q w')) := fun w' hq => ⟨(HQ w' hq).c0, (HQ w' hq).c1, (HQ w' hq).fz 1, hq⟩
  clear H HS HQ
  go_enter Try.func52, Try.ntmps52
  go_wp2_with (first
    | (go_at_call 47; refine HH.out.mono ?_; rintro e w' ⟨rfl, rfl⟩)
    | (go_at_call 43; refine HG.out.mono ?_; rintro e w1 ⟨rfl, hq⟩; obtain ⟨c0, c1, f1, hq1⟩ := HQ1.out w1 hq; clear hq))
  go_ret
  exact ⟨rfl, w1, hq1, rfl⟩
set_option maxHeartbeats 400000 in
theorem cut_arg {A : Option Addr} {l c : Nat} {n : Int} (H : Calls Try.prog 47 #[dv, .string name] w fun e w' => e = .returned (.tuple #[.pointer (some ⟨fb, 0, none⟩), .int .i64 0]) ∧ w = w')
    (c0 : w.cell? ⟨fb, 0, none⟩ = some (.slice A l c)) (hn : n < 0 ∨ (l : Int) < n) :
    Calls Try.prog 30 #[dv, .string name, .int .i64 n] w fun e w' => e = .returned (.int .i64 1) ∧ w = w' := by
  have HH := Lib.hid H
  clear H
  rcases hn with hn | hn
  · go_enter Try.func30, Try.ntmps30
    go_wp2_with (go_at_call 47; refine HH.out.mono ?_; rintro e w' ⟨rfl, rfl⟩)
    go_ret
    exact ⟨rfl, rfl⟩
  · have hn0 : ¬ n < 0 := by omega
    go_enter Try.func30, Try.ntmps30
    go_wp2_with (go_at_call 47; refine HH.out.mono ?_; rintro e w' ⟨rfl, rfl⟩)
    go_ret
    exact ⟨rfl, rfl⟩
set_option maxHeartbeats 400000 in
theorem cut_hit {A : Option Addr} {l c n : Nat} (H : Calls Try.prog 47 #[dv, .string name] w fun e w' => e = .returned (.tuple #[.pointer (some ⟨fb, 0, none⟩), .int .i64 0]) ∧ w = w')
    (c0 : w.cell? ⟨fb, 0, none⟩ = some (.slice A l c)) (hn : n ≤ l) (HS : Calls Try.prog 43 #[dv] w fun e w' => e = .returned (.bool true) ∧ Q w') :
    Calls Try.prog 30 #[dv, .string name, .int .i64 n] w fun e w' => e = .returned (.int .i64 20) ∧ Q w' := by
  have HH := Lib.hid H
  have HG := Lib.hid HS
  clear H HS
  have hn0 : ¬ (n : Int) < 0 := by omega
  have hn1 : (n : Int) ≤ (l : Int) := by omega
  go_enter Try.func30, Try.ntmps30
  go_wp2_with (first
    | (go_at_call 47; refine HH.out.mono ?_; rintro e w' ⟨rfl, rfl⟩)
    | (go_at_call 43; refine HG.out.mono ?_; rintro e w' ⟨rfl, hq⟩))
  go_ret
  exact ⟨rfl, hq⟩
set_option maxHeartbeats 400000 in
theorem cut_ok {A : Option Addr} {l c n s0 : Nat} (H : Calls Try.prog 47 #[dv, .string name] w fun e w' => e = .returned (.tuple #[.pointer (some ⟨fb, 0, none⟩), .int .i64 0]) ∧ w = w')
    (c0 : w.cell? ⟨fb, 0, none⟩ = some (.slice A l c)) (hn : n ≤ l) (hc : l ≤ c) (HS : Calls Try.prog 43 #[dv] w fun e w' => e = .returned (.bool false) ∧ Q w') (HQ : ∀ w', Q w' → FC w' fb (.slice A l c) s0) :
    Calls Try.prog 30 #[dv, .string name, .int .i64 n] w fun e w' => e = .returned (.int .i64 0) ∧ ∃ w1, Q w1 ∧ (w1.setCell ⟨fb, 0, none⟩ (.slice A n c)).setCell ⟨fb, 1, none⟩ (.int .i64 (min (s0 : Int) (n : Int))) = w' := by
  have HH := Lib.hid H
  have HG := Lib.hid HS
  have HQ1 : Hid (∀ w', Q w' → w'.cell? ⟨fb, 0, none⟩ = some (.slice A l c) ∧ w'.cell? ⟨fb, 1, none⟩ = some (.int .i64 s0) ∧ w'.frozen? ⟨fb, 0, none⟩ = false ∧ w'.frozen? ⟨fb, 1, none⟩ = false ∧ Hid (Q w')) := fun w' hq => ⟨(HQ w' hq).c0, (HQ w' hq).c1, (HQ w' hq).fz 0, (HQ w' hq).fz 1, hq⟩
  clear H HS HQ
  have hn0 : ¬ (n : Int) < 0 := by omega
  have hn1 : (n : Int) ≤ (l : Int) := by omega
  go_enter Try.func30, Try.ntmps30
  go_wp2_with (first
    | (go_at_call 47; refine HH.out.mono ?_; rintro e w' ⟨rfl, rfl⟩)
    | (go_at_call 43; refine HG.out.mono ?_; rintro e w1 ⟨rfl, hq⟩; obtain ⟨c0', c1', f0', f1', hq1⟩ := HQ1.out w1 hq; clear hq))
  go_ret
  exact ⟨rfl, w1, hq1, rfl⟩
end

theorem own_of_splice {w : World} {B g m c : Nat} {l : List UInt8} {cur : List Value} (hB : B ≤ g) (hl : l.length = m) (hm : m ≤ c) (hc : c ≤ maxLen) (hcur : cur.length = c)
    (h : w.heap[g]? = some (.cells (splice cur 0 (cells l)).toArray 5 (0, 0))) : w.ownsRow B 5 1 (.slice (some ⟨g, 0, none⟩) m c) l.length (cells l) := by
  have h1 : (cells l).length = m := by rw [cells_length, hl]
  refine ⟨by simp [cells_length], .inr ⟨g, c, _, by rw [hl], hB, h, by omega, hc, ?_, ?_⟩⟩
  · rw [List.size_toArray, length_splice _ _ _ (by omega)]; omega
  · simp [splice, hl, h1]

/-- Bytes handed back in new memory, with a code. -/
def Reads (w : World) (r : Int) (l : List UInt8) (e : Ending) (w' : World) : Prop :=
  ∃ A c, e = .returned (.tuple #[.slice A l.length c, .int .i64 r]) ∧ w'.ownsRow w.heap.size 5 1 (.slice A l.length c) l.length (cells l) ∧ Below w.heap.size w w'

set_option maxHeartbeats 400000 in
theorem read_ok {w : World} {dv : Value} {name : ByteArray} {fb : Nat} {A : Option Addr} {l : List UInt8} {n c : Nat} (H : Calls Try.prog 47 #[dv, .string name] w fun e w' => e = .returned (.tuple #[.pointer (some ⟨fb, 0, none⟩), .int .i64 0]) ∧ w = w')
    (c0 : w.cell? ⟨fb, 0, none⟩ = some (.slice A n c)) (hl : l.length = n) (hn : n ≤ 16777216) (h : Lies w w.heap.size A l) :
    Calls Try.prog 27 #[dv, .string name] w (Reads w 0 l) := by
  obtain ⟨i0, hi, hz0, hz1, hz2⟩ := info_parts info5
  have hfb : fb < w.heap.size := World.block_lt_of_cell? _ _ c0
  have hmk : (Instr.makeSlice 23 (.int .i64 (n : Int)) (.int .i64 (n : Int))).run Try.prog w = .ok (.slice (some ⟨w.heap.size, 0, none⟩) n n) (w.alloc (.cells (madeCells #[.int .u8 0] n) 5)) := by
    have hr := run_make (P := Try.prog) w 23 5 i0 (.int .u8 0) Try.underlying23 hi hz0 .i64 .i64 (n : Int) (n : Int) (by omega) (by omega) (by rw [hz2]; omega) (by omega)
    rw [hz1, Nat.mul_one, Int.toNat_natCast] at hr
    exact hr
  have H1 := Lib.hid hl
  have HH := Lib.hid H
  clear hl hz0 hz1 hz2 hi H
  have hlen : (madeCells #[Value.int IntKind.u8 0] n).toList.length = n := by rw [Array.length_toList, size_madeCells]
  have HN := Lib.hid hlen
  clear hlen
  obtain ⟨cur, hcur⟩ : ∃ cur, cur = (madeCells #[Value.int IntKind.u8 0] n).toList := ⟨_, rfl⟩
  have hcu : madeCells #[Value.int IntKind.u8 0] n = cur.toArray := by rw [hcur]
  rw [← hcur] at HN
  rw [hcu] at hmk
  clear hcu hcur
  go_enter Try.func27, Try.ntmps27
  go_wp2_with (first
    | (go_at_call 47; refine HH.out.mono ?_; rintro e w' ⟨rfl, rfl⟩)
    | (with_reducible refine wpList_copy_splice rfl (.tmp 24) (.tmp 28) 23 23 rfl 5 Try.underlying23 (by kernel_rfl) _ _ _ _ _ _ rfl rfl w.heap.size 0 cur 5 (heap_alloc_new w _) (cells l) ?e1 ?e2 ?e3 (cells_one l) w.heap.size w ((Below.refl _ _).alloc (Nat.le_refl _) _) (Nat.le_refl _) ?_))
  case e1 => rw [cells_length, H1.out]; simp
  case e2 =>
    intro h0
    have h0' : 0 < l.length := by rwa [cells_length] at h0
    obtain ⟨b, o, rfl, hb, hc⟩ := h.at_ h0'
    refine ⟨_, rfl, fun j u hu => ?_⟩
    have hu' : (cells l)[j]? = some u := hu
    simp only [cells, List.getElem?_map, Option.map_eq_some_iff] at hu'
    obtain ⟨x, hx, rfl⟩ := hu'
    obtain ⟨b2, o2, e, hb2, hc2⟩ := h j x hx
    injection e with e
    injection e with e1 e2
    subst e1 e2
    rw [Addr.add_lit]
    exact (World.cell?_alloc_lt w _ _ hb2).trans hc2
  case e3 => rw [cells_length, H1.out, HN.out]; omega
  intro w' hg hbel
  clear hmk
  go_wp2_with fail
  go_ret2
  have e1 := H1.out
  have hown := own_of_splice (B := w.heap.size) (Nat.le_refl _) H1.out (Nat.le_refl n) (by unfold maxLen; omega) HN.out hg.out
  refine ⟨some ⟨w.heap.size, 0, none⟩, n, ?_, ?_, hbel⟩
  · rw [e1]; rfl
  · rw [e1] at hown ⊢; exact hown
end Go.Proofs.Ytkiombbdddbkfaa.Dk
