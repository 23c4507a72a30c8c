/-
  firstFrame cuts the first frame off; recordOf copies its record. Conditions: the bytes lie in memory.
-/
import Derived.Test.YtkiombbdddbkfaaCheck
namespace Go.Proofs.Ytkiombbdddbkfaa.Jn
open Go.RowKit Go.Proofs.Ytkiombbdddbkfaa.Pk Go.Proofs.Ytkiombbdddbkfaa.Dk
set_option linter.unusedVariables false

/-- What firstFrame hands back. -/
def ffV (A : Option Addr) : Option Bs → Value
  | none => .slice none 0 0
  | some r => .slice A (8 + r.length) (8 + r.length)

set_option maxRecDepth 20000 in
set_option maxHeartbeats 1000000 in
theorem firstFrame_any {A : Option Addr} {n c : Nat} {l : Bs} {w : World} (hl : l.length = n) (hc : n ≤ c) (hcm : c ≤ maxLen) (hm : n ≤ 140000000000000) (h : Lies w w.heap.size A l) :
    Calls Try.prog 49 #[.slice A n c] w fun e w' => e = .returned (ffV A (first l)) ∧ Below w.heap.size w w' := by
  unfold maxLen at hcm
  by_cases h8 : n < 8
  · have e := first_short (b := l) (by omega)
    have h8i : (n : Int) < 8 := by omega
    rw [e]
    go_enter Try.func49, Try.ntmps49
    go_wp2
    go_ret
    exact ⟨rfl, Below.refl _ _⟩
  have h8i : ¬ (n : Int) < 8 := by omega
  obtain ⟨q, hq⟩ : ∃ q, q = word l := ⟨_, rfl⟩
  have hq32 : q < 4294967296 := by rw [hq]; exact word_lt l
  have HL := Lib.hid h
  have H := Lib.hid hl
  have HQ := Lib.hid hq
  by_cases hbig : 1048576 < q
  · have e : first l = none := by unfold first; rw [if_neg (by omega), if_pos (.inl (by rw [← hq]; exact hbig))]
    have hbi : (1048576 : Int) < (q : Int) := by omega
    rw [e]
    clear h hl hq
    go_enter Try.func49, Try.ntmps49
    go_wp2_with (go_at_call 58; refine (wordAt_any H.out (by omega) (by unfold maxLen; omega) HL.out).mono ?_; rw [← HQ.out]; rintro e w' ⟨rfl, rfl⟩)
    go_ret
    exact ⟨rfl, Below.refl _ _⟩
  have hbi : (q : Int) ≤ 1048576 := by omega
  by_cases hlong : n - 8 < q
  · have e : first l = none := by unfold first; rw [if_neg (by omega), if_pos (.inr (by rw [← hq, hl]; exact hlong))]
    have hlo : (n : Int) - 8 < (q : Int) := by omega
    have hcv : (q : Int) % 18446744073709551616 = q := by omega
    rw [e]
    clear h hl hq
    go_enter Try.func49, Try.ntmps49
    go_wp2_with (go_at_call 58; refine (wordAt_any H.out (by omega) (by unfold maxLen; omega) HL.out).mono ?_; rw [← HQ.out]; rintro e w' ⟨rfl, rfl⟩)
    go_ret
    exact ⟨rfl, Below.refl _ _⟩
  have hlo : (q : Int) ≤ (n : Int) - 8 := by omega
  obtain ⟨b, o, rfl, hb, -⟩ := h.at_ (k := 0) (by omega)
  have t0 : (l.take (8 + q)).length = 8 + q := by rw [List.length_take]; omega
  have hf := Lib.hid (h.take (8 + q))
  have hf4 : Hid (Lies w w.heap.size (some ⟨b, o + 4, none⟩) ((l.take (8 + q)).drop 4)) := by
    have := (h.take (8 + q)).cut (k := 4) (cap := 8 + q) (by omega)
    rw [if_neg (by omega)] at this
    exact (show Lies _ _ _ _ by simpa [Addr.add] using this)
  have e1 : word ((l.take (8 + q)).drop 4) = word (l.drop 4) := by
    unfold word
    rw [List.drop_take, List.take_take]
    congr 2; omega
  have e2 : (l.take (8 + q)).take 4 ++ (l.take (8 + q)).drop 8 = l.take 4 ++ (l.drop 8).take q := by
    rw [List.take_take, List.drop_take, Nat.min_eq_left (by omega : 4 ≤ 8 + q), Nat.add_sub_cancel_left]
  obtain ⟨x, hx⟩ : ∃ x, x = word (l.drop 4) := ⟨_, rfl⟩
  obtain ⟨y, hy⟩ : ∃ y, y = crc (l.take 4 ++ (l.drop 8).take q) := ⟨_, rfl⟩
  have T0 := Lib.hid t0
  have E1 := Lib.hid (e1.trans hx.symm)
  have E2 := Lib.hid e2
  have HY := Lib.hid hy
  have hfirst : first l = if x = y then some ((l.drop 8).take q) else none := by
    unfold first
    rw [if_neg (by omega), if_neg (by rw [← hq]; omega), ← hq, ← hx, ← hy]
  have T4 : Hid (((l.take (8 + q)).drop 4).length = 8 + q - 4) := by show _ = _; rw [List.length_drop, t0]
  by_cases hxy : x = y
  · have hf1 : Hid (ffV (some ⟨b, o, none⟩) (first l) = .slice (some ⟨b, o, none⟩) (8 + q) (8 + q)) := by
      show _ = _
      rw [hfirst, if_pos hxy]
      have : ((l.drop 8).take q).length = q := by rw [List.length_take, List.length_drop]; omega
      simp [ffV, this]
    have ht : ((x : Int) != (y : Int)) = false := by simp [hxy]
    clear h hl hq hx hy e1 e2 t0 hxy hfirst
    go_enter Try.func49, Try.ntmps49
    go_wp2_with (first
      | (go_at_call 58; with_reducible refine (wordAt_any H.out (by omega) (by unfold maxLen; omega) HL.out).mono ?_; rw [← HQ.out]; rintro e w' ⟨rfl, rfl⟩))
    go_wp2_with (first
      | (go_at_call 58; with_reducible refine (wordAt_any T4.out (by omega) (by unfold maxLen; omega) hf4.out).mono ?_; rw [E1.out]; rintro e w' ⟨rfl, rfl⟩)
      | (go_at_call 54; refine (checksum_any T0.out (by omega) (Nat.le_refl _) (by unfold maxLen; omega) (by omega) hf.out).mono ?_; rw [E2.out, ← HY.out]; rintro e w1 ⟨rfl, hbel⟩))
    go_ret
    exact ⟨by rw [hf1.out]; rfl, hbel⟩
  · have hf1 : Hid (ffV (some ⟨b, o, none⟩) (first l) = .slice none 0 0) := by
      show _ = _
      rw [hfirst, if_neg hxy]; rfl
    have ht : ((x : Int) != (y : Int)) = true := by simp only [bne_iff_ne, ne_eq]; omega
    clear h hl hq hx hy e1 e2 t0 hxy hfirst
    go_enter Try.func49, Try.ntmps49
    go_wp2_with (first
      | (go_at_call 58; with_reducible refine (wordAt_any H.out (by omega) (by unfold maxLen; omega) HL.out).mono ?_; rw [← HQ.out]; rintro e w' ⟨rfl, rfl⟩))
    go_wp2_with (first
      | (go_at_call 58; with_reducible refine (wordAt_any T4.out (by omega) (by unfold maxLen; omega) hf4.out).mono ?_; rw [E1.out]; rintro e w' ⟨rfl, rfl⟩)
      | (go_at_call 54; refine (checksum_any T0.out (by omega) (Nat.le_refl _) (by unfold maxLen; omega) (by omega) hf.out).mono ?_; rw [E2.out, ← HY.out]; rintro e w1 ⟨rfl, hbel⟩))
    go_ret
    exact ⟨by rw [hf1.out]; rfl, hbel⟩

theorem own_copy {w' : World} {B g n : Nat} {l : Bs} {cur : List Value} (hB : B ≤ g) (hl : l.length = n) (hn : n ≤ maxLen) (hcur : cur.length = n) (h : w'.heap[g]? = some (.cells (splice cur 0 (cells l)).toArray 5 (0, 0))) :
    w'.ownsRow B 5 1 (.slice (some ⟨g, 0, none⟩) n n) n (cells l) := by
  have := own_of_splice hB hl (Nat.le_refl n) hn hcur h
  rw [hl] at this
  exact this
set_option maxRecDepth 20000 in
set_option maxHeartbeats 1000000 in
/-- recordOf: a copy of what stands behind the first eight bytes. -/
theorem recordOf_any {b o q : Nat} {l : Bs} {w : World} (hl : l.length = 8 + q) (hm : q ≤ 1048576) (h : Lies w w.heap.size (some ⟨b, o, none⟩) l) :
    Calls Try.prog 50 #[.slice (some ⟨b, o, none⟩) (8 + q) (8 + q)] w fun e w' => e = .returned (.slice (some ⟨w.heap.size, 0, none⟩) q q) ∧ w'.ownsRow w.heap.size 5 1 (.slice (some ⟨w.heap.size, 0, none⟩) q q) q (cells (l.drop 8)) ∧ Below w.heap.size w w' := by
  obtain ⟨i0, hi, hz0, hz1, hz2⟩ := info_parts info5
  have hmk : (Instr.makeSlice 23 (.int .i64 (q : Int)) (.int .i64 (q : Int))).run Try.prog w = .ok (.slice (some ⟨w.heap.size, 0, none⟩) q q) (w.alloc (.cells (madeCells #[.int .u8 0] q) 5)) := by
    have hr := run_make (P := Try.prog) w 23 5 i0 (.int .u8 0) Try.underlying23 hi hz0 .i64 .i64 (q : Int) (q : Int) (by omega) (by omega) (by rw [hz2]; omega) (by omega)
    rw [hz1, Nat.mul_one, Int.toNat_natCast] at hr
    exact hr
  obtain ⟨r, hr⟩ : ∃ r, r = l.drop 8 := ⟨_, rfl⟩
  have hrl : r.length = q := by rw [hr, List.length_drop]; omega
  have hLr : Lies w w.heap.size (if 8 + q = 8 then some ⟨b, o, none⟩ else some ⟨b, o + 8, none⟩) r := by
    have := h.cut (k := 8) (cap := 8 + q) (by omega)
    rw [hr]
    simpa [Addr.add] using this
  rw [← hr]
  clear hz0 hz1 hz2 hi h hl hr
  have H1 := Lib.hid hrl
  have HL := Lib.hid hLr
  clear hrl hLr
  have hlen : (madeCells #[Value.int IntKind.u8 0] q).toList.length = q := by rw [Array.length_toList, size_madeCells]
  have HN := Lib.hid hlen
  clear hlen
  obtain ⟨cur, hcur⟩ : ∃ cur, cur = (madeCells #[Value.int IntKind.u8 0] q).toList := ⟨_, rfl⟩
  have hcu : madeCells #[Value.int IntKind.u8 0] q = cur.toArray := by rw [hcur]
  rw [← hcur] at HN
  rw [hcu] at hmk
  clear hcu hcur
  have hsub : (8 + (q : Int)) - 8 = (q : Int) := by omega
  by_cases h0 : q = 0
  · subst h0
    have hr0 : r = [] := List.eq_nil_of_length_eq_zero H1.out
    have hc0 : cur = [] := List.eq_nil_of_length_eq_zero HN.out
    subst hr0 hc0
    have hmk0 : (Instr.makeSlice 23 (.int .i64 0) (.int .i64 0)).run Try.prog w = .ok (.slice (some ⟨w.heap.size, 0, none⟩) 0 0) (w.alloc (.cells #[] 5)) := hmk
    clear hmk HL
    go_enter Try.func50, Try.ntmps50
    go_wp2_with (first
      | (with_reducible refine wpList_copy_nothing rfl (.tmp 8) (.tmp 10) 23 23 rfl 5 Try.underlying23 (by kernel_rfl) _ _ _ _ _ _ rfl rfl rfl ?_))
    go_ret
    exact ⟨rfl, ⟨rfl, .inr ⟨w.heap.size, 0, #[], rfl, Nat.le_refl _, heap_alloc_new w _, Nat.le_refl _, Nat.zero_le _, rfl, rfl⟩⟩, (Below.refl _ _).alloc (Nat.le_refl _) _⟩
  · have h08 : ¬ 8 + q = 8 := by omega
    have HL' : Hid (Lies w w.heap.size (some ⟨b, o + 8, none⟩) r) := by have := HL.out; rw [if_neg h08] at this; exact this
    clear HL
    go_enter Try.func50, Try.ntmps50
    go_wp2_with (first
      | (with_reducible refine wpList_copy_splice rfl (.tmp 8) (.tmp 10) 23 23 rfl 5 Try.underlying23 (by kernel_rfl) _ _ _ _ _ _ rfl rfl w.heap.size 0 cur 5 (heap_alloc_new w _) (cells r) ?e1 ?e2 ?e3 (cells_one r) w.heap.size w ((Below.refl _ _).alloc (Nat.le_refl _) _) (Nat.le_refl _) ?_))
    case e1 => rw [cells_length, H1.out]; simp
    case e2 =>
      intro h j u hu
      have := lies_cells HL'.out j u hu
      rw [Addr.add_lit] at this
      exact (World.cell?_alloc_lt w _ _ (cell_block_lt (p := ⟨b, o + 8 + j, none⟩) this)).trans this
    case e3 => rw [cells_length, H1.out, HN.out]; omega
    intro w' hg hbel
    clear hmk
    go_wp2_with fail
    go_ret
    exact ⟨rfl, own_copy (Nat.le_refl _) H1.out (by unfold maxLen; omega) HN.out hg.out, hbel⟩
end Go.Proofs.Ytkiombbdddbkfaa.Jn
