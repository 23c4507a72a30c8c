/-
  checksum: the checksum of a frame's length and record. Conditions: the frame lies in memory and has eight bytes at least.
-/
import Derived.Test.YtkiombbdddbkfaaPutWord
import Derived.ArgAppend
namespace Go.Proofs.Ytkiombbdddbkfaa.Jn
open Go.RowKit Go.Proofs.Ytkiombbdddbkfaa.Pk Go.Proofs.Ytkiombbdddbkfaa.Dk

theorem lies_cells {w : World} {B : Nat} {ad : Addr} {l : Bs} (h : Lies w B (some ad) l) : ∀ j u, (cells l)[j]? = some u → w.cell? (ad.add j) = some u := fun j u hu => by
  simp only [cells, List.getElem?_map, Option.map_eq_some_iff] at hu
  obtain ⟨x, hx, rfl⟩ := hu
  obtain ⟨b, o, e, -, hc⟩ := h j x hx
  injection e with e
  rw [e, Addr.add_lit]; exact hc
/-- append of nothing to a slice that is full. -/
theorem append_none (w : World) (ty : TypeId) (ad : Addr) (n : Nat) (A' : Option Addr) (c : Nat) : (Builtin.append_ #[23, 23] ty #[.slice (some ad) n n, .slice A' 0 c]).run Try.prog w = .ok (.slice (some ad) n n) w := by
  obtain ⟨i0, hi, -, -, -⟩ := info_parts info5
  rcases A' with _ | ad'
  · simp [Builtin.append_, run_underlying Try.underlying23, sizeOf, typeInfo, hi, Builtin.lenOf, Builtin.firstCells, storeCells]
  · simp [Builtin.append_, run_underlying Try.underlying23, sizeOf, typeInfo, hi, Builtin.lenOf, Builtin.firstCells, storeCells, loadCells, loadCellsFrom]

/-- append to a slice that is full: what is there stays, the bytes of both lie somewhere. -/
theorem wpList_append_full {w : World} {ops : Array Oper} {rest : List Oper} {o : Oper} {a : Act} {Q : Exit → Act → World → Prop} (hgd : o.guard = none) (s x : Operand)
    (ho : o.op = .call { callee := .builtin .append, args := #[s, x], argTypes := #[23, 23] })
    (ad : Addr) (n : Nat) (l : Bs) (hs : a.eval s = .slice (some ad) n n) (hl : l.length = n) (hA : Lies w w.heap.size (some ad) l)
    (A : Option Addr) (m c : Nat) (l' : Bs) (hx : a.eval x = .slice A m c) (hm : l'.length = m) (hr : Lies w w.heap.size A l')
    (hbytes : n + m ≤ 140737488355328)
    (h : ∀ A2 c2 w', Lies w' w'.heap.size A2 (l ++ l') → Below w.heap.size w w' → wpList Try.prog ops Q rest (a.put o.dst (.slice A2 (n + m) c2)) w') : wpList Try.prog ops Q (o :: rest) a w := by
  obtain ⟨i0, hi, hz0, hz1, hz2⟩ := info_parts info5
  by_cases h0 : m = 0
  · subst h0
    have hl' : l' = [] := List.eq_nil_of_length_eq_zero hm
    subst hl'
    have hrun := append_none w o.type ad n A c
    refine wpList_plain hgd fun K hK => ?_
    unfold Oper.wp execOp
    simp only [ho, resolve, invoke, builtin, Sem.run_bind, Sem.run_pure, Result.andThen_ok, List.map_toArray, List.map_cons, List.map_nil, hs, hx, hrun]
    exact hK _ _ (h _ n w (by simpa using hA) (Below.refl _ _))
  · rcases A with _ | ad'
    · exfalso
      rcases l' with _ | ⟨x, r⟩
      · exact h0 hm.symm
      · obtain ⟨b, o, e, _⟩ := hr 0 x rfl
        cases e
    · refine wpList_append_grows w hgd s x 23 ho 5 i0 (.int .u8 0) 1 1 Try.underlying23 hi hz0 hz1 hz2 rfl (by decide) (some ad) n n (cells l) hs (fun e => by cases e) (by rw [cells_length, hl, Nat.mul_one])
        (fun b e => by cases e; exact lies_cells hA) ad' m c (cells l') hx (by rw [cells_length, hm, Nat.mul_one]) (lies_cells hr) (cells_one l') (by omega) (by unfold maxLen; omega) (by omega) ?_
      intro v' w' hown hg
      rw [← cells_append] at hown
      obtain ⟨A2, c2, rfl, -, -, -, hlies, -⟩ := own_form hown
      exact h A2 c2 w' hlies ⟨hg.os, hg.tape, hg.output, hg.size, fun k hk => hg.block k hk (by simp)⟩

set_option maxRecDepth 20000 in
set_option maxHeartbeats 1000000 in
theorem checksum_any {A : Option Addr} {n c : Nat} {l : Bs} {w : World} (hl : l.length = n) (h8 : 8 ≤ n) (hc : n ≤ c) (hcm : c ≤ maxLen) (hm : n ≤ 140000000000000) (h : Lies w w.heap.size A l) :
    Calls Try.prog 54 #[.slice A n c] w fun e w' => e = .returned (.int .u32 (crc (l.take 4 ++ l.drop 8))) ∧ Below w.heap.size w w' := by
  unfold maxLen at hcm
  obtain ⟨b, o, rfl, hb, -⟩ := h.at_ (k := 0) (by omega)
  have h4 := Lib.hid (h.take 4)
  have hd := Lib.hid (h.cut (k := 8) (cap := c) (by omega))
  have H := Lib.hid hl
  clear h hl
  by_cases h8c : c = 8
  · rw [if_pos h8c] at hd
    go_enter Try.func54, Try.ntmps54
    go_wp2_with (first
      | (at_builtin; refine wpList_append_full rfl (.tmp 6) (.tmp 8) rfl ⟨b, o, none⟩ 4 (l.take 4) rfl (by rw [List.length_take, H.out]; omega) h4.out _ (n - 8) _ (l.drop 8) rfl (by rw [List.length_drop, H.out]) hd.out (by omega) ?_; intro A2 c2 w1 hL hbel)
      | (go_at_call 59; refine (sum_any (by rw [List.length_append, List.length_take, List.length_drop, H.out]; omega) (by unfold maxLen; omega) hL).mono ?_; rintro e w2 ⟨rfl, rfl⟩))
    go_ret
    exact ⟨rfl, hbel⟩
  · rw [if_neg h8c] at hd
    have hd' : Hid (Lies w w.heap.size (some ⟨b, o + 8, none⟩) (l.drop 8)) := by simpa [Addr.add] using hd
    clear hd
    go_enter Try.func54, Try.ntmps54
    go_wp2_with (first
      | (at_builtin; refine wpList_append_full rfl (.tmp 6) (.tmp 8) rfl ⟨b, o, none⟩ 4 (l.take 4) rfl (by rw [List.length_take, H.out]; omega) h4.out _ (n - 8) _ (l.drop 8) rfl (by rw [List.length_drop, H.out]) hd'.out (by omega) ?_; intro A2 c2 w1 hL hbel)
      | (go_at_call 59; refine (sum_any (by rw [List.length_append, List.length_take, List.length_drop, H.out]; omega) (by unfold maxLen; omega) hL).mono ?_; rintro e w2 ⟨rfl, rfl⟩))
    go_ret
    exact ⟨rfl, hbel⟩
end Go.Proofs.Ytkiombbdddbkfaa.Jn
