/-
  Open of the program's journal, over a disk of a law's own. Conditions: few deeds.
-/
import Derived.Test.YtkiombbdddbkfaaJour
namespace Go.Proofs.Ytkiombbdddbkfaa.Jn
open Go.RowKit Go.Proofs.Ytkiombbdddbkfaa.Pk Go.Proofs.Ytkiombbdddbkfaa.Dk
set_option linter.unusedVariables false

section
variable {X : Nat → Prop} {w0 w w' : World} {d : Nat} {s s' : Ds}
theorem openD_on {k : Nm} (h : contR s k = 0) : openD s k = openCut s k ∧ s.off = false ∧ isName k = true := by
  unfold contR at h
  split at h
  · cases h
  rename_i ho
  split at h
  · cases h
  rename_i hn
  refine ⟨by unfold openD; rw [if_neg ho, if_neg hn], by simpa using ho, by simpa using hn⟩
theorem openD_err {k : Nm} (h : contR s k ≠ 0) : openD s k = (contR s k, s) := by
  unfold contR at *
  unfold openD
  split
  · rfl
  rename_i ho
  split
  · rfl
  rename_i hn
  rw [if_neg ho, if_neg hn] at h; exact absurd rfl h
theorem openCut_err {k : Nm} {r : Int} (h : openCut s k = (r, s')) (hr : r ≠ 0) : used (dataOf s k) < (dataOf s k).length ∧ cutD s k (used (dataOf s k) : Int) = (r, s') := by
  unfold openCut at h
  split at h
  · exact ⟨by assumption, h⟩
  · injection h with h1 h2; exact absurd h1.symm hr
theorem dataOf_long (g : Dk.Good s) (k : Nm) : (dataOf s k).length ≤ 16777216 := fileOr_long g k

/-- Open refuses. -/
def NotOpened (X : Nat → Prop) (w0 w : World) (d : Nat) (s' : Ds) (r : Int) (e : Ending) (w' : World) : Prop :=
  e = .returned (.tuple #[.pointer none, .slice none 0 0, .int .i64 r]) ∧ Fresh X w0 w' d s' ∧ Kept X w w'
theorem Fresh.lowK {X' : Nat → Prop} (h : Fresh X' w0 w' d s) (hX : ∀ b, X b → X' b) : Fresh X w0 w' d s := h.low hX
set_option maxHeartbeats 1000000 in
theorem open_first {name : ByteArray} {r : Int} (h : Fresh X w0 w d s) (hs : name.size ≤ maxLen) (hr : contR s name.data.toList = r) (hr0 : (r != 0) = true) :
    Calls Try.prog 9 #[.pointer (some ⟨d, 0, none⟩), .string name] w (NotOpened X w0 w d s r) := by
  have HF := Lib.hid h
  have HR := Lib.hid hr
  have hx := Lib.hid h.1
  clear h hr
  go_enter Try.func9, Try.ntmps9
  go_wp2_with (go_at_call 28; refine (contentOf_any HF.out hs).mono ?_; rw [HR.out]; rintro e w1 ⟨A, c, rfl, hown, hF1, hb⟩)
  go_ret3
  exact ⟨rfl, hF1.low fun _ h => .inl h, Kept.below hx.out hb⟩
set_option maxHeartbeats 400000 in
theorem open_nil (name : ByteArray) (w : World) : Calls Try.prog 9 #[.pointer none, .string name] w fun e w' => e = .returned (.tuple #[.pointer none, .slice none 0 0, .int .i64 3]) ∧ w = w' := by
  go_enter Try.func9, Try.ntmps9
  go_wp2_with (go_at_call 28; refine (contentOf_nil name _).mono ?_; rintro e w' ⟨rfl, rfl⟩)
  go_ret3
  exact ⟨rfl, rfl⟩

set_option maxHeartbeats 1000000 in
/-- The Cut of Open fails. -/
theorem open_cut_err {name : ByteArray} {r : Int} {l : Bs} (h : Fresh X w0 w d s) (hs : name.size ≤ maxLen) (hd : s.deeds < 4611686018427387904) (hc : contR s name.data.toList = 0) (hl : readD s name.data.toList = l) (hlen : l.length ≤ 16777216) (hu : used l < l.length) (he : cutD s name.data.toList (used l : Int) = (r, s')) (hr0 : (r != 0) = true) :
    Calls Try.prog 9 #[.pointer (some ⟨d, 0, none⟩), .string name] w (NotOpened X w0 w d s' r) := by
  have HF := Lib.hid h
  have HR := Lib.hid hc
  have HL := Lib.hid hl
  have hx := Lib.hid h.1
  obtain ⟨n, hn⟩ : ∃ n, n = l.length := ⟨_, rfl⟩
  obtain ⟨u, hu'⟩ : ∃ u, u = used l := ⟨_, rfl⟩
  obtain ⟨t, ht⟩ : ∃ t, t = l.length - used l := ⟨_, rfl⟩
  rw [← hu'] at he
  have HE := Lib.hid he
  have ht0 : (0 : Int) < (t : Int) := by omega
  have hsub : (n : Int) - (t : Int) = (u : Int) := by omega
  have hnl : n ≤ 16777216 := by omega
  have HN := Lib.hid hn
  have HU := Lib.hid hu'
  have HT := Lib.hid ht
  clear h hc hl he hn hu' ht hu hlen
  go_enter Try.func9, Try.ntmps9
  go_wp2_with (first
    | (go_at_call 28; refine (contentOf_any HF.out hs).mono ?_; rw [HR.out, HL.out]; rintro e w1 ⟨A, c, rfl, hown, hF1, hb⟩; rw [← HN.out] at hown ⊢; have HO := Lib.hid hown; have HF1 := Lib.hid hF1; have HB := Lib.hid hb; clear hown hF1 hb)
    | (go_at_call 29; obtain ⟨A', c', e', hl1, hl2, hl3, hl4, -⟩ := own_form HO.out; injection e' with ea eb ec; subst ea ec; refine (recordsOf_any hl1 hl2 hl3 hnl hl4).mono ?_; rintro e w2 ⟨A2, c2, rfl, hcc, hrec, hb2⟩; rw [← HT.out]; have HF2 := Lib.hid (HF1.out.keep hb2); have HB2 := Lib.hid hb2; clear hrec hb2 hl1 hl2 hl3 hl4)
    | (go_at_call 30; refine (HF2.out.cut hs hd HE.out).mono ?_; rintro e w3 ⟨rfl, hF3, hK3⟩))
  go_ret3
  refine ⟨rfl, hF3.low fun _ h => .inl (.inl h), ?_⟩
  exact (Kept.below hx.out (HB.out.trans (HB2.out.mono HB.out.size))).trans fun b hb => hK3 b (.inl (.inl hb))

theorem cutS {name : ByteArray} {r n : Int} (h : Fresh X w0 w d s) (hs : name.size ≤ maxLen) (hd : s.deeds < 4611686018427387904) (he : cutD s name.data.toList n = (r, s')) :
    Calls Try.prog 30 #[.pointer (some ⟨d, 0, none⟩), .string name, .int .i64 n] w fun e w' => e = .returned (.int .i64 r) ∧ Fresh X w0 w' d s' ∧ Kept X w w' ∧ w.heap.size ≤ w'.heap.size := by
  obtain ⟨hx, S, hD, hS, hbel⟩ := h
  refine (cut_any hD hs hd).mono ?_
  rw [he]
  rintro e w' ⟨rfl, ha⟩
  have hf := Fresh.of hx hS hbel ha
  obtain ⟨_, _, hu⟩ := ha
  exact ⟨rfl, hf.1, hf.2, hu.size⟩
/-- Open answers (all that is known): a journal, the records, a disk of state s'; X' holds what there was and what is new. -/
def OpenedN (X : Nat → Prop) (w0 w : World) (d : Nat) (name : ByteArray) (L : List Bs) (s' : Ds) (e : Ending) (w' : World) : Prop :=
  ∃ jb A c X', e = .returned (.tuple #[.pointer (some ⟨jb, 0, none⟩), .slice A L.length c, .int .i64 0]) ∧ (∀ b, X b → X' b) ∧ X' jb ∧ w.heap.size ≤ jb ∧ JAt w' jb d name L.length false ∧ (L.length ≤ c ∧ c ≤ maxLen) ∧ Recs w' (fun b => X' b ∧ b ≠ jb ∧ w.heap.size ≤ b) A L.length L ∧ Fresh X' w0 w' d s' ∧ Kept X w w'
/-- Open answers: a journal, the records, a disk of state s'; X' holds what there was and what is new. -/
def Opened (X : Nat → Prop) (w0 w : World) (d : Nat) (name : ByteArray) (L : List Bs) (s' : Ds) (e : Ending) (w' : World) : Prop :=
  ∃ jb A c X', e = .returned (.tuple #[.pointer (some ⟨jb, 0, none⟩), .slice A L.length c, .int .i64 0]) ∧ (∀ b, X b → X' b) ∧ X' jb ∧ w.heap.size ≤ jb ∧ JAt w' jb d name L.length false ∧ (L.length ≤ c ∧ c ≤ maxLen) ∧ Recs w' (fun b => X' b ∧ b ≠ jb) A L.length L ∧ Fresh X' w0 w' d s' ∧ Kept X w w'
theorem OpenedN.weak {name : ByteArray} {L : List Bs} {e : Ending} (h : OpenedN X w0 w d name L s' e w') : Opened X w0 w d name L s' e w' := by
  obtain ⟨jb, A, c, X', h1, h2, h3, h4, h5, h6, h7, h8, h9⟩ := h
  exact ⟨jb, A, c, X', h1, h2, h3, h4, h5, h6, h7.mono fun b hb => ⟨hb.1, hb.2.1⟩, h8, h9⟩
theorem opened_of {w1 w2 w3 w4 : World} {name : ByteArray} {L : List Bs} {A : Option Addr} {c n : Nat} (hn : L.length = n) (hcc : n ≤ c ∧ c ≤ maxLen) (hx : ∀ b, X b → b < w.heap.size) (hb : Below w.heap.size w w1) (hb2 : Below w1.heap.size w1 w2) (hrec : Recs w2 (fun b => w1.heap.size ≤ b ∧ b < w2.heap.size) A n L) (hF3 : Fresh (More (More X w w1) w1 w2) w0 w3 d s') (hK3 : Kept (More (More X w w1) w1 w2) w2 w3) (hz : w2.heap.size ≤ w3.heap.size) (hb4 : Below w3.heap.size w3 w4) :
    OpenedN X w0 w d name L s' (.returned (.tuple #[.pointer (some ⟨w4.heap.size, 0, none⟩), .slice A n c, .int .i64 0])) (w4.alloc (.cells #[.pointer (some ⟨d, 0, none⟩), .string name, .int .i64 (n : Int), .bool false] 65)) := by
  subst hn
  have hba := (Below.refl w4.heap.size w4).alloc (Nat.le_refl _) (.cells #[.pointer (some ⟨d, 0, none⟩), .string name, .int .i64 (L.length : Int), .bool false] 65)
  have hF4 := (hF3.keep hb4).keep hba
  have hk34 : Kept (More (More X w w1) w1 w2) w2 (w4.alloc (.cells #[.pointer (some ⟨d, 0, none⟩), .string name, .int .i64 (L.length : Int), .bool false] 65)) := (hK3.trans (Kept.below hF3.1 hb4)).trans (Kept.below (fun b hb => Nat.lt_of_lt_of_le (hF3.1 b hb) hb4.size) hba)
  refine ⟨w4.heap.size, A, c, _, rfl, fun b hb => .inl (.inl (.inl (.inl hb))), .inr ⟨Nat.le_refl _, by simp⟩, ?_, heap_alloc_new w4 _, hcc, ?_, hF4, ?_⟩
  · have := hb.size; have := hb2.size; have := hb4.size; omega
  · have hbz := hb.size
    have h1 : Recs w2 (fun b => (More (More X w w1) w1 w2) b ∧ b < w2.heap.size ∧ w.heap.size ≤ b) A L.length L := hrec.mono fun b hb => ⟨.inr hb, hb.2, Nat.le_trans hbz hb.1⟩
    refine (h1.kept fun b hb => hk34 b hb.1).mono fun b hb => ⟨.inl (.inl hb.1), ?_, hb.2.2⟩
    have := hb4.size; have := hb.2.1; omega
  · exact (Kept.below hx (hb.trans (hb2.mono hb.size))).trans fun b hb => hk34 b (.inl (.inl hb))
theorem clone_some (name : ByteArray) (w : World) (hs : name.size ≤ maxLen) (h : name.size ≤ 16) : Calls Try.prog 31 #[.string name] w fun e w' => e = .returned (.string name) ∧ Below w.heap.size w w' := clone_any name w (by omega)
theorem name_small {name : ByteArray} (h : isName name.data.toList = true) : name.size ≤ 16 := by
  unfold isName at h
  simp only [Bool.and_eq_true, decide_eq_true_eq, Array.length_toList] at h
  exact h.1.2

set_option maxHeartbeats 2000000 in
theorem open_whole {name : ByteArray} {l : Bs} (h : Fresh X w0 w d s) (hs : name.size ≤ maxLen) (hc : contR s name.data.toList = 0) (hl : readD s name.data.toList = l) (hlen : l.length ≤ 16777216) (hu : ¬ used l < l.length) :
    Calls Try.prog 9 #[.pointer (some ⟨d, 0, none⟩), .string name] w (OpenedN X w0 w d name (recs l) s) := by
  have h16 := Lib.hid (name_small (openD_on hc).2.2)
  have HF := Lib.hid h
  have HR := Lib.hid hc
  have HL := Lib.hid hl
  have hx := Lib.hid h.1
  obtain ⟨n, hn⟩ : ∃ n, n = l.length := ⟨_, rfl⟩
  obtain ⟨q, hq⟩ : ∃ q, (recs l).length = q := ⟨_, rfl⟩
  have ht0 : Hid (l.length - used l = 0) := by show _ = _; omega
  have hnl : n ≤ 16777216 := by omega
  have hq2 : q ≤ 16777216 := by have := recs_length l; omega
  have HN := Lib.hid hn
  have HQ := Lib.hid hq
  clear h hc hl hn hq hu hlen
  go_enter Try.func9, Try.ntmps9
  go_wp2_with (first
    | (go_at_call 28; refine (contentOf_any HF.out hs).mono ?_; rw [HR.out, HL.out]; rintro e w1 ⟨A, c, rfl, hown, hF1, hb⟩; rw [← HN.out] at hown ⊢; have HO := Lib.hid hown; have HF1 := Lib.hid hF1; have HB := Lib.hid hb; clear hown hF1 hb)
    | (go_at_call 29; obtain ⟨A', c', e', hl1, hl2, hl3, hl4, -⟩ := own_form HO.out; injection e' with ea eb ec; subst ea ec; refine (recordsOf_any hl1 hl2 hl3 hnl hl4).mono ?_; unfold FoundRecs; rw [ht0.out, HQ.out]; rintro e w2 ⟨A2, c2, rfl, hcc, hrec, hb2⟩; have HCC := Lib.hid hcc; clear hcc; have HF2 := Lib.hid (HF1.out.keep hb2); have HB2 := Lib.hid hb2; have HRec := Lib.hid hrec; clear hrec hb2 hl1 hl2 hl3 hl4)
    | (go_at_call 31; refine (clone_some name _ hs h16.out).mono ?_; rintro e w4 ⟨rfl, hb4⟩))
  go_ret3
  exact opened_of HQ.out HCC.out hx.out HB.out HB2.out HRec.out HF2.out Kept.refl (Nat.le_refl _) hb4
set_option maxHeartbeats 2000000 in
theorem open_torn {name : ByteArray} {l : Bs} (h : Fresh X w0 w d s) (hs : name.size ≤ maxLen) (hd : s.deeds < 4611686018427387904) (hc : contR s name.data.toList = 0) (hl : readD s name.data.toList = l) (hlen : l.length ≤ 16777216) (hu : used l < l.length) (he : cutD s name.data.toList (used l : Int) = (0, s')) :
    Calls Try.prog 9 #[.pointer (some ⟨d, 0, none⟩), .string name] w (OpenedN X w0 w d name (recs l) s') := by
  have h16 := Lib.hid (name_small (openD_on hc).2.2)
  have HF := Lib.hid h
  have HR := Lib.hid hc
  have HL := Lib.hid hl
  have hx := Lib.hid h.1
  obtain ⟨n, hn⟩ : ∃ n, n = l.length := ⟨_, rfl⟩
  obtain ⟨u, hu'⟩ : ∃ u, u = used l := ⟨_, rfl⟩
  obtain ⟨t, ht⟩ : ∃ t, t = l.length - used l := ⟨_, rfl⟩
  obtain ⟨q, hq⟩ : ∃ q, (recs l).length = q := ⟨_, rfl⟩
  have hq2 : q ≤ 16777216 := by have := recs_length l; omega
  rw [← hu'] at he
  have HE := Lib.hid he
  have ht0 : (0 : Int) < (t : Int) := by omega
  have hsub : (n : Int) - (t : Int) = (u : Int) := by omega
  have hnl : n ≤ 16777216 := by omega
  have HN := Lib.hid hn
  have HT := Lib.hid ht
  have HQ := Lib.hid hq
  clear h hc hl he hn hu' ht hu hlen hq
  go_enter Try.func9, Try.ntmps9
  go_wp2_with (first
    | (go_at_call 28; refine (contentOf_any HF.out hs).mono ?_; rw [HR.out, HL.out]; rintro e w1 ⟨A, c, rfl, hown, hF1, hb⟩; rw [← HN.out] at hown ⊢; have HO := Lib.hid hown; have HF1 := Lib.hid hF1; have HB := Lib.hid hb; clear hown hF1 hb)
    | (go_at_call 29; obtain ⟨A', c', e', hl1, hl2, hl3, hl4, -⟩ := own_form HO.out; injection e' with ea eb ec; subst ea ec; refine (recordsOf_any hl1 hl2 hl3 hnl hl4).mono ?_; unfold FoundRecs; rw [← HT.out, HQ.out]; rintro e w2 ⟨A2, c2, rfl, hcc, hrec, hb2⟩; have HCC := Lib.hid hcc; clear hcc; have HF2 := Lib.hid (HF1.out.keep hb2); have HB2 := Lib.hid hb2; have HRec := Lib.hid hrec; clear hrec hb2 hl1 hl2 hl3 hl4)
    | (go_at_call 30; refine (cutS HF2.out hs hd HE.out).mono ?_; rintro e w3 ⟨rfl, hF3, hK3, hz⟩; have HF3 := Lib.hid hF3; have HK3 := Lib.hid hK3; clear hF3 hK3)
    | (go_at_call 31; refine (clone_some name _ hs h16.out).mono ?_; rintro e w4 ⟨rfl, hb4⟩))
  go_ret3
  exact opened_of HQ.out HCC.out hx.out HB.out HB2.out HRec.out HF3.out HK3.out hz hb4

/-- Open, as a whole. -/
theorem open_okN {name : ByteArray} {L : List Bs} (h : Fresh X w0 w d s) (hs : name.size ≤ maxLen) (hd : s.deeds < 4611686018427387904) (he : openD s name.data.toList = (0, s')) (hL : recs (dataOf s name.data.toList) = L) :
    Calls Try.prog 9 #[.pointer (some ⟨d, 0, none⟩), .string name] w (OpenedN X w0 w d name L s') := by
  subst hL
  by_cases hc : contR s name.data.toList = 0
  · obtain ⟨e1, e2, e3⟩ := openD_on hc
    have hr := read_on (s := s) (k := name.data.toList) e2
    have hlen := dataOf_long h.good name.data.toList
    rw [e1] at he
    unfold openCut at he
    split at he
    · rename_i hu
      exact open_torn h hs hd hc hr hlen hu he
    · rename_i hu
      injection he with h1 h2
      subst h2
      exact open_whole h hs hc hr hlen hu
  · rw [openD_err hc] at he
    injection he with h1 h2
    exact absurd h1 hc
theorem open_ok {name : ByteArray} {L : List Bs} (h : Fresh X w0 w d s) (hs : name.size ≤ maxLen) (hd : s.deeds < 4611686018427387904) (he : openD s name.data.toList = (0, s')) (hL : recs (dataOf s name.data.toList) = L) :
    Calls Try.prog 9 #[.pointer (some ⟨d, 0, none⟩), .string name] w (Opened X w0 w d name L s') := (open_okN h hs hd he hL).mono fun _ _ h => h.weak
theorem open_no {name : ByteArray} {r : Int} (h : Fresh X w0 w d s) (hs : name.size ≤ maxLen) (hd : s.deeds < 4611686018427387904) (he : openD s name.data.toList = (r, s')) (hr : r ≠ 0) :
    Calls Try.prog 9 #[.pointer (some ⟨d, 0, none⟩), .string name] w (NotOpened X w0 w d s' r) := by
  have hr' : (r != 0) = true := by simpa using hr
  by_cases hc : contR s name.data.toList = 0
  · obtain ⟨e1, e2, e3⟩ := openD_on hc
    rw [e1] at he
    obtain ⟨hu, hcut⟩ := openCut_err he hr
    exact open_cut_err h hs hd hc (read_on e2) (dataOf_long h.good _) hu hcut hr'
  · rw [openD_err hc] at he
    injection he with h1 h2
    subst h2
    exact open_first h hs h1 hr'
end
end Go.Proofs.Ytkiombbdddbkfaa.Jn
