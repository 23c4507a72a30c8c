/-
  Some panes of a row replaced by one, by the library's Replace. Conditions: at most 4000000 panes.
-/
import Derived.Test.YtlmnkmfpdjkijaaKIns
namespace Go.Proofs.Ytlmnkmfpdjkijaa.Kp
set_option linter.unusedVariables false
set_option linter.unusedSimpArgs false
open Go.Proofs.Ytlmnkmfpdjkijaa Go.Proofs.Ytlmnkmfpdjkijaa.Ke
open Go.RowKit

/-- A row, or none. -/
def RowOr (w : World) (v : Value) (L : List Pn) : Prop := (v = .slice none 0 0 ∧ L = []) ∨ (RowIn w v L ∧ L ≠ [])
theorem insert_any {w : World} {sv : Value} {A B : List Pn} {p : Pn} {bp i : Nat} (hs : RowOr w sv (A ++ B)) (hi : A.length = i) (hn : (A ++ B).length ≤ 4000000) (hp : w.heap[bp]? = some (pnO p)) (hne : sv.ownBlock ≠ some bp) :
    Calls Try.prog 74 #[sv, .int .i64 i, .slice (some ⟨bp, 0, none⟩) 1 1] w (PutIn w sv (A ++ p :: B)) := by
  rcases hs with ⟨rfl, h0⟩ | ⟨hs, h0⟩
  · obtain ⟨rfl, rfl⟩ := List.append_eq_nil_iff.1 h0
    subst hi
    exact insert_nil hp
  · by_cases hB : B = []
    · subst hB
      rw [List.append_nil] at hs hn
      subst hi
      exact insert_end hs hn hp
    · obtain ⟨g, o, cap, rfl, hc1, hc2⟩ := hs.form
      have hb : 0 < B.length := List.length_pos_iff.2 hB
      obtain ⟨n, hnn⟩ : ∃ n, (A ++ B).length = n := ⟨_, rfl⟩
      rw [hnn] at hs hn hc1 ⊢
      rw [List.length_append] at hnn
      by_cases hr : n + 1 ≤ cap
      · exact insert_shift hs hi (by rw [List.length_append]; exact hnn) (by omega) hr hp (fun e => hne (by rw [e]; rfl))
      · exact insert_grow hs hi (by rw [List.length_append]; exact hnn) (by omega) (by omega) hn hp
set_option maxRecDepth 100000 in
set_option maxHeartbeats 4000000 in
/-- None is replaced. -/
theorem replace_none {w : World} {sv : Value} {A B : List Pn} {p : Pn} {bp i : Nat} (hs : RowOr w sv (A ++ B)) (hi : A.length = i) (hn : (A ++ B).length ≤ 4000000) (hp : w.heap[bp]? = some (pnO p)) (hne : sv.ownBlock ≠ some bp) :
    Calls Try.prog 50 #[sv, .int .i64 i, .int .i64 i, .slice (some ⟨bp, 0, none⟩) 1 1] w (PutIn w sv (A ++ p :: B)) := by
  have HC := Lib.hid (insert_any hs hi hn hp hne)
  obtain ⟨va, n, vc, hv, hin, hnc⟩ : ∃ va n vc, sv = .slice va n vc ∧ i ≤ n ∧ n ≤ vc := by
    rcases hs with ⟨rfl, h0⟩ | ⟨hs, h0⟩
    · obtain ⟨rfl, rfl⟩ := List.append_eq_nil_iff.1 h0
      exact ⟨none, 0, 0, rfl, by rw [← hi]; exact Nat.le_refl _, Nat.le_refl _⟩
    · obtain ⟨g, o, cap, e, hc1, hc2⟩ := hs.form
      exact ⟨_, _, cap, e, by rw [List.length_append]; omega, hc1⟩
  have hnn : n ≤ 4000000 := by
    rcases hs with ⟨rfl, h0⟩ | ⟨hs, h0⟩
    · injection hv with _ e _; omega
    · obtain ⟨g, o, cap, e, hc1, hc2⟩ := hs.form
      rw [e] at hv
      injection hv with _ e _; omega
  subst hv
  have hb1 : (i : Int) ≤ (n : Int) := by omega
  have hb2 : (i : Int) ≤ (vc : Int) := by omega
  have hb3 : i ≤ vc := by omega
  clear hs hp hn hi hne
  obtain ⟨L, hL⟩ : ∃ L, A ++ p :: B = L := ⟨_, rfl⟩
  rw [hL] at HC ⊢
  clear hL
  cases va with
  | none =>
    go_enter Try.func50, Try.ntmps50
    go_wp2_with (go_at_call 74; refine HC.out.mono ?_; rintro e w' ⟨v', rfl, h1, h2, h3⟩; have H1 := Lib.hid h1; have H2 := Lib.hid h2; have H3 := Lib.hid h3; clear h1 h2 h3)
    all_goals go_ret
    all_goals exact ⟨_, rfl, H1.out, H2.out, H3.out⟩
  | some ad =>
    obtain ⟨gb, go, gs⟩ := ad
    go_enter Try.func50, Try.ntmps50
    go_wp2_with (go_at_call 74; refine HC.out.mono ?_; rintro e w' ⟨v', rfl, h1, h2, h3⟩; have H1 := Lib.hid h1; have H2 := Lib.hid h2; have H3 := Lib.hid h3; clear h1 h2 h3)
    all_goals go_ret
    all_goals exact ⟨_, rfl, H1.out, H2.out, H3.out⟩
set_option maxRecDepth 100000 in
set_option maxHeartbeats 4000000 in
/-- The last ones are replaced. -/
theorem replace_end {w : World} {g o cap n i bp : Nat} {A M : List Pn} {m0 p : Pn} (hs : RowIn w (.slice (some ⟨g, o, none⟩) n cap) (A ++ m0 :: M)) (hi : A.length = i) (hnn : i + 1 + M.length = n) (hn : n ≤ 4000000) (hp : w.heap[bp]? = some (pnO p)) :
    Calls Try.prog 50 #[.slice (some ⟨g, o, none⟩) n cap, .int .i64 i, .int .i64 n, .slice (some ⟨bp, 0, none⟩) 1 1] w (PutIn w (.slice (some ⟨g, o, none⟩) n cap) (A ++ [p])) := by
  obtain ⟨g', o', cap', pre, sp, e, hb, ho, hsp, hc⟩ := hs.parts
  simp only [Value.slice.injEq, Option.some.injEq, Addr.mk.injEq, and_true] at e
  obtain ⟨⟨rfl, rfl⟩, e2, rfl⟩ := e
  rw [← e2] at hsp
  clear e2 hs
  have hL : pre ++ (pns (A ++ m0 :: M) ++ sp) = (pre ++ pns A) ++ (pnC m0 ++ (pns M ++ sp)) := by rw [pns_append, pns_cons]; simp only [List.append_assoc]
  rw [hL] at hb
  have hX : (pre ++ pns A).length = o + i * 7 := by rw [List.length_append, pns_len, ho, hi]
  obtain ⟨M1, hM1⟩ : ∃ M1, (pre ++ pns A) ++ (pnC p ++ (pns M ++ sp)) = M1 := ⟨_, rfl⟩
  obtain ⟨W1, hW1⟩ : ∃ W1, w.setRow g M1.toArray = W1 := ⟨_, rfl⟩
  have hb1 : Blk W1 g M1 := by rw [← hW1]; exact blk_set hb
  have hg1 : w.grownBy W1 (some g) := by rw [← hW1]; exact blk_grown _
  have hrun : ∀ ty, (Builtin.append_ #[82, 44] ty #[.slice (some ⟨g, o, none⟩) i cap, .slice (some ⟨bp, 0, none⟩) 1 1]).run Try.prog w = .ok (.slice (some ⟨g, o, none⟩) (i + 1) cap) W1 := fun ty => by
    have hr := run_room7 (w := w) (ty := ty) (n := i) (c := cap) (o := o) Try.underlying82 Try.underlying44 (m := 1) (c' := 1) (news := pnC p) hb rfl (src_pn hp) (one_pn p) (by omega) (by simp only [List.length_append, pns_len, pn7, ho, hi]; omega)
    rw [spl_mid (Y := pnC m0) (cs := pnC p) hX rfl, hM1, hW1] at hr
    exact hr
  have hl1 : (A ++ [p]).length = i + 1 := by rw [List.length_append, hi]; rfl
  unfold maxLen at hc
  have hnc : n ≤ cap := by omega
  have hb2 : (i : Int) ≤ (n : Int) := by omega
  have hb3 : (i : Int) ≤ (cap : Int) := by omega
  have hb4 : (n : Int) ≤ (cap : Int) := by omega
  have hz1 : ¬ ((i : Int) = (n : Int)) := by omega
  have hb5 : ¬ (cap = i) := by omega
  cases M with
  | nil =>
    have hn2 : n = i + 1 := by simpa using hnn.symm
    have HN : Hid (PutIn w (.slice (some ⟨g, o, none⟩) n cap) (A ++ [p]) (.returned (.slice (some ⟨g, o, none⟩) (i + 1) cap)) W1) := Lib.hid (by
      refine ⟨_, rfl, ?_, hg1, fun q e => .inl e⟩
      rw [← hl1]
      refine row_back (pre := pre) (sp := sp) ?_ ho (by rw [hl1]; omega) (by unfold maxLen; omega)
      rw [show pre ++ (pns (A ++ [p]) ++ sp) = M1 by rw [← hM1, pns_append, pns_one]; simp [List.append_assoc, pns]]
      exact hb1)
    subst hn2
    clear hb hL hX hM1 hW1 hb1 hg1 hp hsp hnn
    go_enter Try.func50, Try.ntmps50
    go_upto_region 5 with (fail)
    go_upto_region 6 with (at_builtin; refine Lib.wpList_append_run _ rfl (.tmp 32) (.tmp 33) 82 44 rfl (.slice (some ⟨g, o, none⟩) i cap) (.slice (some ⟨bp, 0, none⟩) 1 1) rfl rfl (.slice (some ⟨g, o, none⟩) (i + 1) cap) W1 (hrun _) ?_)
    go_wp2
    go_ret
    exact HN.out
  | cons m1 M =>
    obtain ⟨Z, hZ⟩ : ∃ Z, (Builtin.zeroCells zeroP.cells (n - (i + 1))).toList = Z := ⟨_, rfl⟩
    have hZl : Z.length = (n - (i + 1)) * 7 := by rw [← hZ, zeroP_len]
    obtain ⟨M2, hM2⟩ : ∃ M2, ((pre ++ pns A) ++ pnC p) ++ (Z ++ sp) = M2 := ⟨_, rfl⟩
    have hlM : (m1 :: M).length = n - (i + 1) := by omega
    have hb1' : Blk W1 g (((pre ++ pns A) ++ pnC p) ++ (pns (m1 :: M) ++ sp)) := by rw [show ((pre ++ pns A) ++ pnC p) ++ (pns (m1 :: M) ++ sp) = M1 by rw [← hM1]; simp only [List.append_assoc]]; exact hb1
    have hin1 : i + 1 < n := by simp only [List.length_cons] at hnn; omega
    have hclr : ∀ ty dc, (Builtin.clear_ #[82] ty #[.slice (some ⟨g, o + (i + 1) * 7, none⟩) (n - (i + 1)) dc]).run Try.prog W1 = .ok (.tuple #[]) (W1.setRow g M2.toArray) := fun ty dc => by
      have hr := run_clear7 (w := W1) (T := 82) (ty := ty) (p := o + (i + 1) * 7) (n := n - (i + 1)) (c := dc) Try.underlying82 hb1' (by simp only [List.length_append, pns_len, hlM, pn7, ho, hi]; omega) (by omega)
      rw [hZ, spl_mid (by rw [List.length_append, hX, pn7]; omega) (by rw [hZl, pns_len, hlM]), hM2] at hr
      exact hr
    have HN : Hid (PutIn w (.slice (some ⟨g, o, none⟩) n cap) (A ++ [p]) (.returned (.slice (some ⟨g, o, none⟩) (i + 1) cap)) (W1.setRow g M2.toArray)) := Lib.hid (by
      refine ⟨_, rfl, ?_, hg1.andThen (blk_grown _) (fun j e => .inr e), fun q e => .inl e⟩
      rw [← hl1]
      refine row_back (pre := pre) (sp := Z ++ sp) ?_ ho (by rw [hl1, List.length_append, hZl]; omega) (by unfold maxLen; omega)
      rw [show pre ++ (pns (A ++ [p]) ++ (Z ++ sp)) = M2 by rw [← hM2, pns_append, pns_one]; simp only [List.append_assoc]]
      exact blk_set hb1')
    have hb6 : ¬ (cap = i + 1) := by omega
    have hb7 : (i : Int) + 1 < (n : Int) := by omega
    have hb8 : (i : Int) + 1 ≤ (n : Int) := by omega
    have hb9 : i + 1 ≤ n := by omega
    clear hb hL hX hM1 hW1 hb1 hg1 hp hsp hnn hZ hZl hM2 hb1' hlM
    go_enter Try.func50, Try.ntmps50
    go_upto_region 5 with (fail)
    go_upto_region 6 with (at_builtin; refine Lib.wpList_append_run _ rfl (.tmp 32) (.tmp 33) 82 44 rfl (.slice (some ⟨g, o, none⟩) i cap) (.slice (some ⟨bp, 0, none⟩) 1 1) rfl rfl (.slice (some ⟨g, o, none⟩) (i + 1) cap) W1 (hrun _) ?_)
    go_upto_region 7 with (fail)
    go_wp2_with (at_builtin; refine wpList_clear_run _ rfl (.tmp 43) 82 rfl (.slice (some ⟨g, o + (i + 1) * 7, none⟩) (n - (i + 1)) (cap - (i + 1))) rfl (hclr _ _) ?_)
    go_ret
    exact HN.out
set_option maxRecDepth 100000 in
set_option maxHeartbeats 4000000 in
/-- Some in the middle are replaced. -/
theorem replace_mid {w : World} {g o cap n i j bp : Nat} {A M B : List Pn} {m0 p : Pn} (hs : RowIn w (.slice (some ⟨g, o, none⟩) n cap) (A ++ m0 :: (M ++ B))) (hi : A.length = i) (hj : i + 1 + M.length = j) (hnn : j + B.length = n) (hB : j < n) (hn : n ≤ 4000000) (hp : w.heap[bp]? = some (pnO p)) (hne : bp ≠ g) :
    Calls Try.prog 50 #[.slice (some ⟨g, o, none⟩) n cap, .int .i64 i, .int .i64 j, .slice (some ⟨bp, 0, none⟩) 1 1] w (PutIn w (.slice (some ⟨g, o, none⟩) n cap) (A ++ p :: B)) := by
  obtain ⟨g', o', cap', pre, sp, e, hb, ho, hsp, hc⟩ := hs.parts
  simp only [Value.slice.injEq, Option.some.injEq, Addr.mk.injEq, and_true] at e
  obtain ⟨⟨rfl, rfl⟩, e2, rfl⟩ := e
  rw [← e2] at hsp
  clear e2 hs
  have hBl : B.length = n - j := by omega
  have hL : pre ++ (pns (A ++ m0 :: (M ++ B)) ++ sp) = (pre ++ pns A) ++ (pnC m0 ++ (pns M ++ (pns B ++ sp))) := by rw [pns_append, pns_cons, pns_append]; simp only [List.append_assoc]
  rw [hL] at hb
  have hX : (pre ++ pns A).length = o + i * 7 := by rw [List.length_append, pns_len, ho, hi]
  have hb0 : Blk w.drew g ((pre ++ pns A) ++ (pnC m0 ++ (pns M ++ (pns B ++ sp)))) := hb
  obtain ⟨M1, hM1⟩ : ∃ M1, (pre ++ pns A) ++ (pnC p ++ (pns M ++ (pns B ++ sp))) = M1 := ⟨_, rfl⟩
  obtain ⟨W1, hW1⟩ : ∃ W1, w.drew.setRow g M1.toArray = W1 := ⟨_, rfl⟩
  have hb1 : Blk W1 g M1 := by rw [← hW1]; exact blk_set hb0
  have hg1 : w.grownBy W1 (some g) := by rw [← hW1]; exact (⟨rfl, rfl, rfl, Nat.le_refl _, fun _ _ _ => rfl⟩ : w.grownBy w.drew (some g)).andThen (blk_grown _) (fun j e => .inr e)
  obtain ⟨tot, htot⟩ : ∃ tot, i + 1 + (n - j) = tot := ⟨_, rfl⟩
  have hcp1 : ∀ ty dc, (Builtin.copy_ #[82, 44] ty #[.slice (some ⟨g, o + i * 7, none⟩) (tot - i) dc, .slice (some ⟨bp, 0, none⟩) 1 1]).run Try.prog w.drew = .ok (goInt ((1 : Nat) : Int)) W1 := fun ty dc => by
    have hr := run_copy7 (w := w.drew) (dT := 82) (sT := 44) (ty := ty) (p := o + i * 7) (dLen := tot - i) (dCap := dc) (sLen := 1) (sCap := 1) Try.underlying82 hb0 (cs := pnC p) (by rw [pn7]; simp only [Nat.min_def]; split <;> omega) (src_pn hp) (by simp only [List.length_append, pns_len, ho, hi, pn7]; omega) (one_pn p)
    rw [show Nat.min 1 (tot - i) = 1 by simp only [Nat.min_def]; split <;> omega] at hr
    rw [hr, spl_mid (Y := pnC m0) (cs := pnC p) hX rfl, hM1, hW1]
  obtain ⟨Y, hY⟩ : ∃ Y, pns M ++ pns B = Y := ⟨_, rfl⟩
  have hYl : Y.length = M.length * 7 + (n - j) * 7 := by rw [← hY, List.length_append, pns_len, pns_len, hBl]
  have hY2 : ((pre ++ pns A) ++ pnC p) ++ (Y.take ((n - j) * 7) ++ (Y.drop ((n - j) * 7) ++ sp)) = M1 := by
    rw [← hM1, ← List.append_assoc (Y.take _), List.take_append_drop, ← hY]; simp only [List.append_assoc]
  have hb1d : Blk W1.drew g (((pre ++ pns A) ++ pnC p) ++ (Y.take ((n - j) * 7) ++ (Y.drop ((n - j) * 7) ++ sp))) := by rw [hY2]; exact hb1
  have hsrcB : ∀ q u, (pns B)[q]? = some u → W1.drew.cell? (Addr.add ⟨g, o + j * 7, none⟩ q) = some u := by
    have hbB : Blk W1.drew g (((pre ++ pns A) ++ (pnC p ++ pns M)) ++ (pns B ++ sp)) := by rw [show ((pre ++ pns A) ++ (pnC p ++ pns M)) ++ (pns B ++ sp) = M1 by rw [← hM1]; simp only [List.append_assoc]]; exact hb1
    exact src_row hbB (by rw [List.length_append, hX, List.length_append, pn7, pns_len]; omega)
  obtain ⟨M2, hM2⟩ : ∃ M2, ((pre ++ pns A) ++ pnC p) ++ (pns B ++ (Y.drop ((n - j) * 7) ++ sp)) = M2 := ⟨_, rfl⟩
  obtain ⟨W2, hW2⟩ : ∃ W2, W1.drew.setRow g M2.toArray = W2 := ⟨_, rfl⟩
  have hcp2 : ∀ ty dc sc, (Builtin.copy_ #[82, 82] ty #[.slice (some ⟨g, o + (i + 1) * 7, none⟩) (tot - (i + 1)) dc, .slice (some ⟨g, o + j * 7, none⟩) (n - j) sc]).run Try.prog W1.drew = .ok (goInt ((n - j : Nat) : Int)) W2 := fun ty dc sc => by
    have hr := run_copy7 (w := W1.drew) (dT := 82) (sT := 82) (ty := ty) (p := o + (i + 1) * 7) (dLen := tot - (i + 1)) (dCap := dc) (sLen := n - j) (sCap := sc) Try.underlying82 hb1d (cs := pns B) (by rw [pns_len, hBl]; simp only [Nat.min_def]; split <;> omega) hsrcB (by simp only [List.length_append, List.length_take, List.length_drop, pns_len, hBl, hYl, ho, hi, pn7]; omega) (one_pns B)
    rw [show Nat.min (n - j) (tot - (i + 1)) = n - j by simp only [Nat.min_def]; split <;> omega] at hr
    rw [hr, spl_mid (by rw [List.length_append, hX, pn7]; omega) (by rw [pns_len, hBl, List.length_take, hYl]; omega), hM2, hW2]
  have hb2 : Blk W2 g M2 := by rw [← hW2]; exact blk_set hb1d
  have hg2 : w.grownBy W2 (some g) := by
    rw [← hW2]
    exact hg1.andThen (row' := some g) ((⟨rfl, rfl, rfl, Nat.le_refl _, fun _ _ _ => rfl⟩ : W1.grownBy W1.drew (some g)).andThen (blk_grown _) (fun j e => .inr e)) (fun j e => .inr e)
  have hl1 : (A ++ p :: B).length = tot := by simp only [List.length_append, List.length_cons]; omega
  have hrest : ∀ (Z : List Value) (W3 : World), Z.length = (n - tot) * 7 → w.grownBy W3 (some g) → Blk W3 g (((pre ++ pns A) ++ pnC p) ++ (pns B ++ (Z ++ sp))) → PutIn w (.slice (some ⟨g, o, none⟩) n cap) (A ++ p :: B) (.returned (.slice (some ⟨g, o, none⟩) tot cap)) W3 := fun Z W3 hZ hg3 hb3 => by
    refine ⟨_, rfl, ?_, hg3, fun q e => .inl e⟩
    rw [← hl1]
    refine row_back (pre := pre) (sp := Z ++ sp) ?_ ho (by rw [hl1, List.length_append, hZ]; omega) hc
    rw [show pre ++ (pns (A ++ p :: B) ++ (Z ++ sp)) = ((pre ++ pns A) ++ pnC p) ++ (pns B ++ (Z ++ sp)) by rw [pns_append, pns_cons]; simp only [List.append_assoc]]
    exact hb3
  have hZd : (Y.drop ((n - j) * 7)).length = (n - tot) * 7 := by rw [List.length_drop, hYl]; omega
  obtain ⟨W3, hclr, HN⟩ : ∃ W3, (∀ ty sa dc, (sa = some ⟨g, o + tot * 7, none⟩ ∨ n - tot = 0) → (Builtin.clear_ #[82] ty #[.slice sa (n - tot) dc]).run Try.prog W2 = .ok (.tuple #[]) W3) ∧ Hid (PutIn w (.slice (some ⟨g, o, none⟩) n cap) (A ++ p :: B) (.returned (.slice (some ⟨g, o, none⟩) tot cap)) W3) := by
    by_cases h0 : n - tot = 0
    · refine ⟨W2, fun ty sa dc _ => by rw [h0]; exact run_clear0 Try.underlying82, Lib.hid (hrest _ W2 hZd hg2 (by rw [hM2]; exact hb2))⟩
    · obtain ⟨Z, hZ⟩ : ∃ Z, (Builtin.zeroCells zeroP.cells (n - tot)).toList = Z := ⟨_, rfl⟩
      have hZl : Z.length = (n - tot) * 7 := by rw [← hZ, zeroP_len]
      have hb2' : Blk W2 g ((((pre ++ pns A) ++ pnC p) ++ pns B) ++ (Y.drop ((n - j) * 7) ++ sp)) := by rw [show (((pre ++ pns A) ++ pnC p) ++ pns B) ++ (Y.drop ((n - j) * 7) ++ sp) = M2 by rw [← hM2]; simp only [List.append_assoc]]; exact hb2
      refine ⟨W2.setRow g ((((pre ++ pns A) ++ pnC p) ++ pns B) ++ (Z ++ sp)).toArray, fun ty sa dc hsa => ?_, Lib.hid (hrest Z _ hZl (hg2.andThen (blk_grown _) (fun j e => .inr e)) ?_)⟩
      · rcases hsa with rfl | e
        · have hr := run_clear7 (w := W2) (T := 82) (ty := ty) (p := o + tot * 7) (n := n - tot) (c := dc) Try.underlying82 hb2' (by simp only [List.length_append, pns_len, pn7, ho, hi, hBl, hZd]; omega) (by omega)
          rw [hZ, spl_mid (by rw [List.length_append, List.length_append, hX, pn7, pns_len, hBl]; omega) (by rw [hZl, hZd])] at hr
          exact hr
        · exact absurd e h0
      · have := blk_set (M := (((pre ++ pns A) ++ pnC p) ++ pns B) ++ (Z ++ sp)) hb2'
        rw [show ((pre ++ pns A) ++ pnC p) ++ (pns B ++ (Z ++ sp)) = (((pre ++ pns A) ++ pnC p) ++ pns B) ++ (Z ++ sp) by simp only [List.append_assoc]]
        exact this
  unfold maxLen at hc
  have hnc : n ≤ cap := by omega
  have ha1 : (i : Int) ≤ (j : Int) := by omega
  have ha2 : (j : Int) ≤ (n : Int) := by omega
  have ha3 : (i : Int) ≤ (cap : Int) := by omega
  have ha4 : (j : Int) ≤ (cap : Int) := by omega
  have ha5 : (n : Int) ≤ (cap : Int) := by omega
  have hz1 : ¬ ((i : Int) = (j : Int)) := by omega
  have hz2 : ¬ ((j : Int) = (n : Int)) := by omega
  have ha6 : ¬ (cap = i) := by omega
  have ha7 : ¬ (cap = j) := by omega
  have ha8 : ¬ (cap = i + 1) := by omega
  have ht0 : (tot : Int) = (i : Int) + 1 + ((n : Int) - (j : Int)) := by omega
  have htn : tot ≤ n := by omega
  have hte : (i : Int) + 1 + ((n - j : Nat) : Int) = (tot : Int) := by omega
  have HT := Lib.hid ht0
  have ha9 : ¬ (cap : Int) < (tot : Int) := by omega
  have hb1' : (tot : Int) ≤ (cap : Int) := by omega
  have hb2' : (i : Int) + 1 ≤ (j : Int) := by omega
  have hb3' : (i : Int) ≤ (tot : Int) := by omega
  have hb4' : (i : Int) + 1 ≤ (tot : Int) := by omega
  have hb5' : (tot : Int) ≤ (n : Int) := by omega
  have hb6' : i ≤ tot := by omega
  have hb7' : i + 1 ≤ tot := by omega
  have HTE := Lib.hid hte
  have hw1 : IntKind.i64.wrap ((i : Int) + 1) = (i : Int) + 1 := wrap_is (by omega) (by omega)
  have hb8' : (0 : Int) ≤ (i : Int) + 1 := by omega
  clear hb hL hX hb0 hM1 hW1 hb1 hg1 hY hYl hY2 hb1d hsrcB hM2 hW2 hb2 hg2 hl1 hrest hZd hp hsp hnn htot ht0 hte
  go_enter Try.func50, Try.ntmps50
  go_upto_region 9 with (fail)
  go_region
  rw [HTE.out]
  go_upto_region 17 with (fail)
  go_upto_region 18 with (at_builtin; refine wpList_copy_run _ rfl (.tmp 95) (.tmp 96) 82 44 rfl (.slice (some ⟨g, o + i * 7, none⟩) (tot - i) (cap - i)) (.slice (some ⟨bp, 0, none⟩) 1 1) rfl rfl (hcp1 _ _) ?_)
  go_region_law (refine step_copy_run rfl (.tmp 103) (.tmp 106) 82 82 rfl (.slice (some ⟨g, o + (i + 1) * 7, none⟩) (tot - (i + 1)) (cap - (i + 1))) (.slice (some ⟨g, o + j * 7, none⟩) (n - j) (cap - j)) (by simp [Act.eval, Act.put]) (by simp [Act.eval, Act.put]) (hcp2 _ _ _) ?_)
  by_cases hct : cap = tot
  · have hn0 : n - tot = 0 := by omega
    have HN0 := Lib.hid hn0
    subst hct
    clear hn0
    have hclr0 : ∀ ty, (Builtin.clear_ #[82] ty #[.slice (some ⟨g, o, none⟩) 0 0]).run Try.prog W2 = .ok (.tuple #[]) W3 := fun ty => by
      have := hclr ty (some ⟨g, o, none⟩) 0 (.inr HN0.out)
      rw [HN0.out] at this
      exact this
    go_wp2_with (at_builtin; refine wpList_clear_run _ rfl (.tmp 110) 82 rfl (.slice (some ⟨g, o, none⟩) 0 0) rfl (hclr0 _) ?_)
    go_ret
    exact HN.out
  · go_wp2_with (at_builtin; refine wpList_clear_run _ rfl (.tmp 110) 82 rfl (.slice (some ⟨g, o + tot * 7, none⟩) (n - tot) (cap - tot)) rfl (hclr _ _ _ (.inl rfl)) ?_)
    go_ret
    exact HN.out
end Go.Proofs.Ytlmnkmfpdjkijaa.Kp
