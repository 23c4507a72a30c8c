/-
  What the document's own reader does: a block of two cells, the bytes and whether there was a fault. Conditions: the reader's block and its bytes lie in memory.
-/
import Derived.Test.YtckigcodmchfaaaTake
namespace Go.Proofs.Ytckigcodmchfaaa.Pk
open Go.RowKit

/-- The document's reader in block g. -/
def Rr (B : Nat) (w : World) (g : Nat) (bad : Bool) (l : List UInt8) : Prop :=
  ∃ A c, w.heap[g]? = some (.cells #[.slice A l.length c, .bool bad] 35 (0, 0)) ∧ l.length ≤ c ∧ c ≤ maxLen ∧ Lies w B A l

theorem Rr.lt {w : World} {g B : Nat} {bad : Bool} {l : List UInt8} (h : Rr B w g bad l) : g < w.heap.size := by
  obtain ⟨A, c, hh, _⟩ := h
  rcases Nat.lt_or_ge g w.heap.size with q | q
  · exact q
  · rw [Array.getElem?_eq_none q] at hh; cases hh
theorem rr_cut {w : World} {g c n B : Nat} (hB : B ≤ g) {bad : Bool} {l : List UInt8} {A : Option Addr} (hh : w.heap[g]? = some (.cells #[.slice A l.length c, .bool bad] 35 (0, 0))) (h1 : l.length ≤ c) (h2 : c ≤ maxLen) (hn : ¬ c = n) (h3 : Lies w B A l) :
    Rr B (w.setCell ⟨g, 0, none⟩ (.slice (Option.map (fun x => x.add n) A) (l.length - n) (c - n))) g bad (l.drop n) := by
  refine ⟨Option.map (fun x => x.add n) A, c - n, ?_, ?_, by omega, ?_⟩
  · rw [set_blk hh, List.length_drop]; rfl
  · rw [List.length_drop]; omega
  · have := h3.cut (k := n) h1
    rw [if_neg hn] at this
    exact this.setCell hB _
theorem rr_end {w : World} {g c n B : Nat} {bad : Bool} {l : List UInt8} {A : Option Addr} {v : Value} (hh : w.heap[g]? = some (.cells #[v, .bool bad] 35 (0, 0))) (h1 : l.length ≤ c) (hn : c = n) :
    Rr B (w.setCell ⟨g, 0, none⟩ (.slice A (l.length - n) 0)) g bad (l.drop n) := by
  have e : l.drop n = [] := List.drop_eq_nil_of_le (by omega)
  have e2 : l.length - n = 0 := by omega
  rw [e, e2]
  exact ⟨A, 0, by rw [set_blk hh]; rfl, Nat.le_refl _, Nat.zero_le _, Lies.none_⟩
theorem rr_bad {w : World} {g c B : Nat} (hB : B ≤ g) {l : List UInt8} {bad : Bool} {A : Option Addr} (hh : w.heap[g]? = some (.cells #[.slice A l.length c, .bool bad] 35 (0, 0))) (h1 : l.length ≤ c) (h2 : c ≤ maxLen) (h3 : Lies w B A l) :
    Rr B (w.setCell ⟨g, 1, none⟩ (.bool true)) g true l := ⟨A, c, by rw [set_blk hh]; rfl, h1, h2, h3.setCell hB _⟩

set_option maxHeartbeats 400000 in
theorem rrleft_any {w : World} {g B : Nat} {bad : Bool} {l : List UInt8} (h : Rr B w g bad l) :
    Calls Try.prog 23 #[.pointer (some ⟨g, 0, none⟩)] w fun e w' => e = .returned (.int .i64 (if bad then 0 else (l.length : Int))) ∧ w = w' := by
  obtain ⟨A, c, hh, h1, h2, h3⟩ := h
  have hc0 : w.cell? ⟨g, 0, none⟩ = some (.slice A l.length c) := cell_blk (i := 0) hh rfl
  have hc1 : w.cell? ⟨g, 1, none⟩ = some (.bool bad) := cell_blk (i := 1) hh rfl
  clear hh h3
  unfold maxLen at h2
  cases bad
  · go_enter Try.func23, Try.ntmps23
    go_wp2
    go_ret
    exact ⟨rfl, rfl⟩
  · go_enter Try.func23, Try.ntmps23
    go_wp2
    go_ret
    exact ⟨rfl, rfl⟩

def RrNum (B : Nat) (w : World) (g : Nat) (bad : Bool) (l : List UInt8) (e : Ending) (w' : World) : Prop :=
  e = .returned (.int .i64 (numVal bad l)) ∧ (∃ l', Rr B w' g (numBad bad l) l' ∧ (numBad bad l = false → l' = numLeft bad l)) ∧ w.grownBy w' (some g)

set_option maxHeartbeats 1000000 in
theorem rrnum_any {w : World} {g B : Nat} {bad : Bool} {l : List UInt8} (hB : B ≤ g) (h : Rr B w g bad l) :
    Calls Try.prog 19 #[.pointer (some ⟨g, 0, none⟩)] w (RrNum B w g bad l) := by
  have h' := h
  obtain ⟨A, c, hh, h1, h2, h3⟩ := h
  have hc0 : w.cell? ⟨g, 0, none⟩ = some (.slice A l.length c) := cell_blk (i := 0) hh rfl
  have hc1 : w.cell? ⟨g, 1, none⟩ = some (.bool bad) := cell_blk (i := 1) hh rfl
  have hf0 := free_blk (i := 0) hh
  have hf1 := free_blk (i := 1) hh
  cases bad
  · have HH := Lib.hid hh
    clear hh
    rcases hdec : dec l with _ | ⟨z, n⟩
    · have D := Lib.hid hdec
      obtain ⟨hz, hn⟩ := took_none hdec
      clear hdec
      go_enter Try.func19, Try.ntmps19
      go_wp2_with (go_at_call 33; refine (take_any rfl (Nat.le_trans h1 h2) h3).mono ?_; rintro e w' ⟨rfl, rfl⟩)
      go_ret
      refine ⟨ret_int (by simp [numVal, D.out]), ⟨l, ?_, fun e => ?_⟩, grownBy_set _ _ _ _⟩
      · have e2 : numBad false l = true := by simp [numBad, D.out]
        rw [e2]
        exact rr_bad hB HH.out h1 h2 h3
      · simp [numBad, D.out] at e
    · obtain ⟨h64, hlen, r, hr⟩ := dec_some hdec
      have hpos : 0 < n := by rw [hlen]; exact enc_len_pos z
      have hle : n ≤ l.length := by rw [hr, List.length_append, hlen]; omega
      obtain ⟨hz, hn⟩ := took_some hdec
      have D := Lib.hid hdec
      clear hdec hlen hr
      have t0 : ((n : Int) == 0) = false := by simp; omega
      go_enter Try.func19, Try.ntmps19
      go_wp2_with (go_at_call 33; refine (take_any rfl (Nat.le_trans h1 h2) h3).mono ?_; rintro e w' ⟨rfl, rfl⟩)
      · go_ret
        have e1 : numLeft false l = l.drop n := by simp [numLeft, D.out]
        have e2 : numBad false l = false := by simp [numBad, D.out]
        refine ⟨ret_int (by simp [numVal, D.out]), ⟨l.drop n, ?_, fun _ => e1.symm⟩, grownBy_set _ _ _ _⟩
        rw [e2]
        exact rr_end HH.out h1 (by omega)
      · go_ret
        have e1 : numLeft false l = l.drop n := by simp [numLeft, D.out]
        have e2 : numBad false l = false := by simp [numBad, D.out]
        refine ⟨ret_int (by simp [numVal, D.out]), ⟨l.drop n, ?_, fun _ => e1.symm⟩, grownBy_set _ _ _ _⟩
        rw [e2]
        exact rr_cut hB HH.out h1 h2 (by omega) h3
  · clear h2 h1 h3 hh
    go_enter Try.func19, Try.ntmps19
    go_wp2_with fail
    go_ret
    exact ⟨rfl, ⟨l, h', fun e => by simp [numBad] at e⟩, World.grownBy.refl _ _⟩

def RrText (B : Nat) (w : World) (g : Nat) (bad : Bool) (l : List UInt8) (e : Ending) (w' : World) : Prop :=
  e = .returned (.string ⟨(txtVal bad l).toArray⟩) ∧ (∃ l', Rr B w' g (txtBad bad l) l' ∧ (txtBad bad l = false → l' = txtLeft bad l)) ∧ w.grownBy w' (some g)

set_option maxHeartbeats 1000000 in
theorem rrtext_any {w : World} {g B : Nat} {bad : Bool} {l : List UInt8} (hB : B ≤ g) (h : Rr B w g bad l) :
    Calls Try.prog 21 #[.pointer (some ⟨g, 0, none⟩)] w (RrText B w g bad l) := by
  obtain ⟨v, hv⟩ : ∃ v, v = numVal bad l := ⟨_, rfl⟩
  obtain ⟨b2, hb2⟩ : ∃ b2, b2 = numBad bad l := ⟨_, rfl⟩
  have hnum : Calls Try.prog 19 #[.pointer (some ⟨g, 0, none⟩)] w fun e w' => e = .returned (.int .i64 v) ∧ (∃ l', Rr B w' g b2 l' ∧ (b2 = false → l' = numLeft bad l)) ∧ w.grownBy w' (some g) := by
    rw [hv, hb2]; exact rrnum_any hB h
  have hr := numVal_range bad l
  rw [← hv] at hr
  obtain ⟨hr1, hr2⟩ := hr
  have HV := Lib.hid hv
  have HB := Lib.hid hb2
  clear hv hb2
  cases b2
  · by_cases hlow : v < 0
    · have OK : txtOk bad l = false := by
        have h1 := HV.out
        simp only [txtOk, Bool.and_eq_false_iff, decide_eq_false_iff_not]
        exact .inl (.inr (by omega))
      have OK' := Lib.hid OK
      clear OK
      go_enter Try.func21, Try.ntmps21
      go_wp2_with (go_at_call 19; refine hnum.mono ?_; rintro e w1 ⟨rfl, ⟨l2, hrd, hl2⟩, hg1⟩; have HL := Lib.hid (hl2 rfl); clear hl2; obtain ⟨A, c, hh, h1, h2, h3⟩ := hrd; have hc0 : w1.cell? ⟨g, 0, none⟩ = some (.slice A l2.length c) := cell_blk (i := 0) hh rfl; have hc1 : w1.cell? ⟨g, 1, none⟩ = some (.bool false) := cell_blk (i := 1) hh rfl; have hf1 := free_blk (i := 1) hh; have HH := Lib.hid hh; clear hh)
      go_ret
      obtain ⟨e1, e2, e3⟩ := txt_no HB.out.symm OK'.out
      refine ⟨by rw [e3]; rfl, ⟨l2, ?_, fun e => ?_⟩, grownBy_trans hg1 (grownBy_set _ _ _ _)⟩
      · rw [e1]; exact rr_bad hB HH.out h1 h2 h3
      · rw [e1] at e; cases e
    · obtain ⟨n, rfl⟩ : ∃ n : Nat, v = (n : Int) := ⟨v.toNat, by omega⟩
      by_cases hhigh : (numLeft bad l).length < n
      · have OK : txtOk bad l = false := by
          have h1 := HV.out
          simp only [txtOk, Bool.and_eq_false_iff, decide_eq_false_iff_not]
          exact .inr (by rw [← h1]; omega)
        have OK' := Lib.hid OK
        clear OK
        have HI := Lib.hid hhigh
        clear hhigh
        go_enter Try.func21, Try.ntmps21
        go_wp2_with (go_at_call 19; refine hnum.mono ?_; rintro e w1 ⟨rfl, ⟨l2, hrd, hl2⟩, hg1⟩; have HL := Lib.hid (hl2 rfl); clear hl2; obtain ⟨A, c, hh, h1, h2, h3⟩ := hrd; have hc0 : w1.cell? ⟨g, 0, none⟩ = some (.slice A l2.length c) := cell_blk (i := 0) hh rfl; have hc1 : w1.cell? ⟨g, 1, none⟩ = some (.bool false) := cell_blk (i := 1) hh rfl; have hf1 := free_blk (i := 1) hh; have HH := Lib.hid hh; clear hh; have hgt : l2.length < n := by (rw [HL.out]; exact HI.out))
        go_ret
        obtain ⟨e1, e2, e3⟩ := txt_no HB.out.symm OK'.out
        refine ⟨by rw [e3]; rfl, ⟨l2, ?_, fun e => ?_⟩, grownBy_trans hg1 (grownBy_set _ _ _ _)⟩
        · rw [e1]; exact rr_bad hB HH.out h1 h2 h3
        · rw [e1] at e; cases e
      · have OK : txtOk bad l = true := by
          have h1 := HV.out
          have h3 := HB.out
          simp only [txtOk, Bool.and_eq_true, decide_eq_true_eq, Bool.not_eq_true']
          exact ⟨⟨h3.symm, by omega⟩, by rw [← h1]; omega⟩
        have OK' := Lib.hid OK
        clear OK
        have HI : Hid (n ≤ (numLeft bad l).length) := show n ≤ _ by omega
        clear hhigh
        go_enter Try.func21, Try.ntmps21
        go_wp2_with (go_at_call 19; refine hnum.mono ?_; rintro e w1 ⟨rfl, ⟨l2, hrd, hl2⟩, hg1⟩; have HL := Lib.hid (hl2 rfl); clear hl2; obtain ⟨A, c, hh, h1, h2, h3⟩ := hrd; have hc0 : w1.cell? ⟨g, 0, none⟩ = some (.slice A l2.length c) := cell_blk (i := 0) hh rfl; have hc1 : w1.cell? ⟨g, 1, none⟩ = some (.bool false) := cell_blk (i := 1) hh rfl; have hf0 := free_blk (i := 0) hh; have HH := Lib.hid hh; clear hh; have hle : n ≤ l2.length := Nat.le_trans HI.out (Nat.le_of_eq (congrArg List.length HL.out.symm)); have htk : (l2.take n).length = n := List.length_take.trans (Nat.min_eq_left hle); have hcv := conv_str (c := c) htk (h3.take n); clear htk)
        · go_ret
          obtain ⟨e1, e2, e3⟩ := txt_yes OK'.out HV.out HL.out
          refine ⟨by rw [e3]; rfl, ⟨l2.drop n, ?_, fun _ => e2.symm⟩, grownBy_trans hg1 (grownBy_set _ _ _ _)⟩
          rw [e1]
          exact rr_end HH.out h1 (by omega)
        · go_ret
          obtain ⟨e1, e2, e3⟩ := txt_yes OK'.out HV.out HL.out
          refine ⟨by rw [e3]; rfl, ⟨l2.drop n, ?_, fun _ => e2.symm⟩, grownBy_trans hg1 (grownBy_set _ _ _ _)⟩
          rw [e1]
          exact rr_cut hB HH.out h1 h2 (by omega) h3
  · have OK' := Lib.hid (ok_false_bad HB.out.symm)
    go_enter Try.func21, Try.ntmps21
    go_wp2_with (go_at_call 19; refine hnum.mono ?_; rintro e w1 ⟨rfl, ⟨l2, hrd, -⟩, hg1⟩; obtain ⟨A, c, hh, h1, h2, h3⟩ := hrd; have hc0 : w1.cell? ⟨g, 0, none⟩ = some (.slice A l2.length c) := cell_blk (i := 0) hh rfl; have hc1 : w1.cell? ⟨g, 1, none⟩ = some (.bool true) := cell_blk (i := 1) hh rfl; have hf1 := free_blk (i := 1) hh; have HH := Lib.hid hh; clear hh)
    go_ret
    have e1 : txtBad bad l = true := by simp [txtBad, OK'.out]
    have e3 : txtVal bad l = [] := by simp [txtVal, OK'.out]
    refine ⟨by rw [e3]; rfl, ⟨l2, ?_, fun e => ?_⟩, grownBy_trans hg1 (grownBy_set _ _ _ _)⟩
    · rw [e1]; exact rr_bad hB HH.out h1 h2 h3
    · rw [e1] at e; cases e

end Go.Proofs.Ytckigcodmchfaaa.Pk
