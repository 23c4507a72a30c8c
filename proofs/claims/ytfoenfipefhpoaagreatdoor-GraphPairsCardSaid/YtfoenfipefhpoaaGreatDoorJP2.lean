/-
  Texts joined into one file. Each part says in its own head what is proved there, and under which conditions.
-/
import Derived.Test.YtfoenfipefhpoaaGreatDoorJP1
import Derived.Test.YtfoenfipefhpoaaGreatDoorJE2
import Derived.BigQuiet
import Derived.Deep.QuietTactic
import Derived.Deep.RegionHeld3
import Derived.RegionTactic
set_option linter.unusedVariables false
set_option linter.unusedSimpArgs false
/-
  The program's test on a flow's steps. Conditions: the library's table of powers holds what it was laid with.
-/
namespace Go.Proofs.YtfoenfipefhpoaaGreatDoor.Pl
open Go.RowKit Go.Proofs.YtfoenfipefhpoaaGreatDoor.Ex

theorem firstErr_drop (g : Stp → Int) (L : List Stp) (k : Nat) (hk : k < L.length) : firstErr g (L.drop k) = if g L[k] = 0 then firstErr g (L.drop (k + 1)) else g L[k] := by
  rw [List.drop_eq_getElem_cons hk]; rfl
theorem firstErr_end (g : Stp → Int) (L : List Stp) : firstErr g (L.drop L.length) = 0 := by simp [firstErr]
theorem mem_at {α : Type} {L : List α} {k : Nat} (h : k < L.length) : L[k] ∈ L := List.getElem_mem h
set_option maxRecDepth 20000 in
set_option maxHeartbeats 2000000 in
theorem checkSteps_any (q : FE) {w : World} (hq : FEok w q) (hT : Tab w) {R : Int} (hR : stepsErr q.f = R) :
    Calls Tryz.prog 53 #[flwV q] w fun e w' => e = .returned (.int .i64 R) ∧ Below w.heap.size w w' := by
  obtain ⟨hp1, hp2⟩ := hq
  obtain ⟨f, v1, v2⟩ := q
  simp only at hp1 hp2 hR
  obtain ⟨a1, cap1, rfl⟩ := hp1.1.val
  obtain ⟨a2, cap2, rfl⟩ := hp2.1.val
  obtain ⟨n1, hn1⟩ : ∃ n, f.pre.length = n := ⟨_, rfl⟩
  obtain ⟨n2, hn2⟩ : ∃ n, f.post.length = n := ⟨_, rfl⟩
  obtain ⟨-, -, hm1, -⟩ := hp1.1.len
  obtain ⟨-, -, hm2, -⟩ := hp2.1.len
  rw [hn1] at hp1 hm1
  rw [hn2] at hp2 hm2
  unfold maxLen at hm1 hm2
  obtain ⟨x, hx⟩ : ∃ x, firstErr stepErr f.pre = x := ⟨_, rfl⟩
  obtain ⟨y, hy⟩ : ∃ y, firstErr postErr f.post = y := ⟨_, rfl⟩
  have hR' : R = if x = 0 then y else x := by rw [← hR, ← hx, ← hy]; rfl
  have hbx := Box.new w ⟨f, .slice a1 n1 cap1, .slice a2 n2 cap2⟩
  have hb0 : Below w.heap.size w (w.alloc (.cells #[sv f.name, sv f.frm, sv f.dest, .int .i64 f.bound, .int .i64 f.readers, .int .i64 f.keepers, .slice a1 n1 cap1, .int .i64 f.win.kind, .int .i64 f.win.size, .int .i64 f.win.slide, .int .i64 f.agg, .slice a2 n2 cap2] 51)) := (Below.refl _ _).alloc (Nat.le_refl _) _
  have HP1 := Lib.hid (hp1.grow hb0)
  have HP2 := Lib.hid (hp2.grow hb0)
  have HT := Lib.hid (hT.below hb0)
  have HB := Lib.hid hb0
  have HX := Lib.hid hbx
  have HR := Lib.hid hR'
  have HE1 := Lib.hid hx
  have HE2 := Lib.hid hy
  have HN1 := Lib.hid hn1
  have HN2 := Lib.hid hn2
  rw [hn1, hn2]
  clear hp1 hp2 hT hb0 hbx hR hR' hx hy hn1 hn2
  go_enter Tryz.func53, Tryz.ntmps53
  go_wp2
  generalize hW : w.alloc (.cells #[sv f.name, sv f.frm, sv f.dest, .int .i64 f.bound, .int .i64 f.readers, .int .i64 f.keepers, .slice a1 n1 cap1, .int .i64 f.win.kind, .int .i64 f.win.size, .int .i64 f.win.slide, .int .i64 f.agg, .slice a2 n2 cap2] 51) = W at HP1 HP2 HT HB HX ⊢
  clear hW
  go_loopw [12] (fun i wr => ∃ k : Nat, k ≤ n1 ∧ i = .int .i64 k ∧ Hid (firstErr stepErr (f.pre.drop k) = x) ∧ Hid (Below W.heap.size W wr)) (fun i _ => n1 - (intOf i).toNat)
  case atStart => exact ⟨0, Nat.zero_le _, rfl, by simpa using HE1, Below.refl _ _⟩
  case round =>
    obtain ⟨k, hk, rfl, hr, hb⟩ := hrel
    by_cases hlt : k < n1
    · have hkl : k < f.pre.length := by rw [HN1.out]; exact hlt
      obtain ⟨b, o, rfl, hbl, c0, c1, c2⟩ := (HP1.out.grow hb.out).cells hkl
      have HS := Lib.hid (HP1.out.2 _ (mem_at hkl))
      have hd := firstErr_drop stepErr f.pre k hkl
      obtain ⟨s, hs⟩ : ∃ s, f.pre[k] = s := ⟨_, rfl⟩
      rw [hs] at c0 c1 c2 hd HS
      obtain ⟨z, hz⟩ : ∃ z, stepErr s = z := ⟨_, rfl⟩
      rw [hz, hr.out] at hd
      have HZ := Lib.hid hz
      have HD := Lib.hid hd
      have HTr := Lib.hid ((HT.out.below hb.out).below ((Below.refl _ _).alloc (Nat.le_refl _) (.cells #[.int .i64 s.kind, sv s.text, .int .i64 s.n] 72)))
      clear hz hd hs hr
      by_cases h0 : z = 0
      · have e0 := inebf h0
        have HD2 : Hid (firstErr stepErr (f.pre.drop (k + 1)) = x) := Lib.hid (by rw [HD.out, if_pos h0])
        clear h0
        go_wp2_with (go_at_call 65; refine (checkStep_any s HS.out HTr.out HZ.out).mono ?_; rintro e w2 ⟨rfl, hb2⟩; have HB2 := Lib.hid (hb.out.trans ((((Below.refl _ _).alloc (Nat.le_refl _) _).trans (hb2.mono (by simp))).mono hb.out.size)); clear hb2)
        go_roundw
        case rel => exact ⟨k + 1, by omega, by go_num, HD2, HB2⟩
        case measure => simp [intOf]; omega
      · have e0 := inebt h0
        have HD2 : Hid (R = z) := Lib.hid (by rw [HR.out, HD.out, if_neg h0, if_neg h0])
        clear h0
        go_wp2_with (go_at_call 65; refine (checkStep_any s HS.out HTr.out HZ.out).mono ?_; rintro e w2 ⟨rfl, hb2⟩; have HB2 := Lib.hid (hb.out.trans ((((Below.refl _ _).alloc (Nat.le_refl _) _).trans (hb2.mono (by simp))).mono hb.out.size)); clear hb2)
        go_ret
        exact ⟨ret_int HD2.out.symm, HB.out.trans (HB2.out.mono HB.out.size)⟩
    · have hkn : k = n1 := by omega
      have HX0 : Hid (x = 0) := Lib.hid (by rw [← hr.out, hkn, ← HN1.out, firstErr_end])
      obtain ⟨-, -, -, -, -, -, -, -, -, -, -, b11⟩ := (HX.out.grow hb.out).cells
      clear hr hkn
      go_wp2
      rename World => wq
      go_loopw [25] (fun i wr => ∃ k : Nat, k ≤ n2 ∧ i = .int .i64 k ∧ Hid (firstErr postErr (f.post.drop k) = y) ∧ Hid (Below W.heap.size W wr)) (fun i _ => n2 - (intOf i).toNat)
      case atStart => exact ⟨0, Nat.zero_le _, rfl, by simpa using HE2, hb⟩
      case round =>
        obtain ⟨j, hj, rfl, hr, hb'⟩ := hrel
        clear b11
        by_cases hlt2 : j < n2
        · have hkl : j < f.post.length := by rw [HN2.out]; exact hlt2
          obtain ⟨b, o, rfl, hbl, c0, c1, c2⟩ := (HP2.out.grow hb'.out).cells hkl
          have HS := Lib.hid (HP2.out.2 _ (mem_at hkl))
          have hd := firstErr_drop postErr f.post j hkl
          obtain ⟨s, hs⟩ : ∃ s, f.post[j] = s := ⟨_, rfl⟩
          rw [hs] at c0 c1 c2 hd HS
          by_cases h3 : s.kind = 3
          · have hz : postErr s = 54 := by unfold postErr; rw [if_pos h3]
            rw [hz, if_neg (by decide), hr.out] at hd
            have HD2 : Hid (R = 54) := Lib.hid (by rw [HR.out, HX0.out, if_pos rfl, hd])
            have e3 := ibeq h3
            clear hz hd hs hr h3
            go_wp2
            go_ret
            exact ⟨ret_int HD2.out.symm, HB.out.trans ((hb'.out.trans (((Below.refl _ _).alloc (Nat.le_refl _) _).mono hb'.out.size)).mono HB.out.size)⟩
          · have hz3 : postErr s = stepErr s := by unfold postErr; rw [if_neg h3]
            have e3 := ibne h3
            obtain ⟨z, hz⟩ : ∃ z, stepErr s = z := ⟨_, rfl⟩
            rw [hz3, hz, hr.out] at hd
            have HZ := Lib.hid hz
            have HD := Lib.hid hd
            have HTr := Lib.hid ((HT.out.below hb'.out).below ((Below.refl _ _).alloc (Nat.le_refl _) (.cells #[.int .i64 s.kind, sv s.text, .int .i64 s.n] 72)))
            clear hz hd hs hr h3 hz3
            by_cases h0 : z = 0
            · have e0 := inebf h0
              have HD2 : Hid (firstErr postErr (f.post.drop (j + 1)) = y) := Lib.hid (by rw [HD.out, if_pos h0])
              clear h0
              go_wp2_with (go_at_call 65; refine (checkStep_any s HS.out HTr.out HZ.out).mono ?_; rintro e w2 ⟨rfl, hb2⟩; have HB2 := Lib.hid (hb'.out.trans ((((Below.refl _ _).alloc (Nat.le_refl _) _).trans (hb2.mono (by simp))).mono hb'.out.size)); clear hb2)
              go_roundw
              case rel => exact ⟨j + 1, by omega, by go_num, HD2, HB2⟩
              case measure => simp [intOf]; omega
            · have e0 := inebt h0
              have HD2 : Hid (R = z) := Lib.hid (by rw [HR.out, HX0.out, if_pos rfl, HD.out, if_neg h0])
              clear h0
              go_wp2_with (go_at_call 65; refine (checkStep_any s HS.out HTr.out HZ.out).mono ?_; rintro e w2 ⟨rfl, hb2⟩; have HB2 := Lib.hid (hb'.out.trans ((((Below.refl _ _).alloc (Nat.le_refl _) _).trans (hb2.mono (by simp))).mono hb'.out.size)); clear hb2)
              go_ret
              exact ⟨ret_int HD2.out.symm, HB.out.trans (HB2.out.mono HB.out.size)⟩
        · have hkn2 : j = n2 := by omega
          have HD2 : Hid (R = 0) := Lib.hid (by rw [HR.out, HX0.out, if_pos rfl, ← hr.out, hkn2, ← HN2.out, firstErr_end])
          clear hr hkn2
          go_wp2
          go_ret
          exact ⟨ret_int HD2.out.symm, HB.out.trans (hb'.out.mono HB.out.size)⟩
end Go.Proofs.YtfoenfipefhpoaaGreatDoor.Pl
/-
  The program's test on a topic. Conditions: as the statements say.
-/
namespace Go.Proofs.YtfoenfipefhpoaaGreatDoor.Pl
open Go.RowKit Go.Proofs.YtfoenfipefhpoaaGreatDoor.Ex

theorem top_kept {W X : World} {b : Nat} {t : Top} (hb : b < W.heap.size) (h0 : W.cell? ⟨b, 0, none⟩ = some (sv t.name)) (h1 : W.cell? ⟨b, 1, none⟩ = some (.int .i64 t.parts)) (h : Below W.heap.size W X) :
    X.cell? ⟨b, 0, none⟩ = some (sv t.name) ∧ X.cell? ⟨b, 1, none⟩ = some (.int .i64 t.parts) ∧ Hid (Below W.heap.size W X) :=
  ⟨by rw [h.cell (p := ⟨b, 0, none⟩) hb]; exact h0, by rw [h.cell (p := ⟨b, 1, none⟩) hb]; exact h1, Lib.hid h⟩
set_option maxRecDepth 20000 in
set_option maxHeartbeats 2000000 in
theorem checkTopic_any {w : World} {a : Option Addr} {n cap i : Nat} {L : List Top} (h : TopsAt w (.slice a n cap) L) (hi : i < L.length) {R : Int} (hR : topErr (L.take i) L[i] = R) :
    Calls Tryz.prog 36 #[.slice a n cap, .int .i64 i] w fun e w' => e = .returned (.int .i64 R) ∧ Below w.heap.size w w' := by
  obtain ⟨hn, hcap, hmax, hcm⟩ := h.len
  obtain ⟨b, o, rfl, hbl, c0, c1⟩ := TopsAt.cells h hi
  unfold maxLen at hmax hcm
  have hin : i < n := by omega
  obtain ⟨t, ht⟩ : ∃ t, L[i] = t := ⟨_, rfl⟩
  rw [ht] at c0 c1 hR
  have hb0 : Below w.heap.size w (w.alloc (.cells #[sv t.name, .int .i64 t.parts] 53)) := (Below.refl _ _).alloc (Nat.le_refl _) _
  have HB := Lib.hid hb0
  have HT := Lib.hid (Lst.take (h.grow hb0) (Nat.le_of_lt hi))
  obtain ⟨x, hx⟩ : ∃ x, isName t.name = x := ⟨_, rfl⟩
  obtain ⟨y, hy⟩ : ∃ y, partsOf (L.take i) t.name = y := ⟨_, rfl⟩
  unfold topErr at hR
  rw [hx, hy] at hR
  have HX := Lib.hid hx
  have HY := Lib.hid hy
  clear h hb0 hx hy ht hn
  cases x with
  | false =>
    rw [if_pos rfl] at hR
    have HR := Lib.hid hR
    clear hR
    go_enter Tryz.func36, Tryz.ntmps36
    go_wp2_with (go_at_call 43; refine (isName_at _ _ HX.out).mono ?_; rintro e w' ⟨rfl, rfl⟩)
    go_ret
    exact ⟨ret_int HR.out, HB.out⟩
  | true =>
    rw [if_neg (by simp)] at hR
    have hc0 : (w.alloc (.cells #[sv t.name, .int .i64 t.parts] 53)).cell? ⟨w.heap.size, 0, none⟩ = some (sv t.name) := by rw [cell_of_heap (heap_alloc_new w _)]; rfl
    have hc1 : (w.alloc (.cells #[sv t.name, .int .i64 t.parts] 53)).cell? ⟨w.heap.size, 1, none⟩ = some (.int .i64 t.parts) := by rw [cell_of_heap (heap_alloc_new w _)]; rfl
    have hbl0 : w.heap.size < (w.alloc (.cells #[sv t.name, .int .i64 t.parts] 53)).heap.size := by simp
    have hi1 : (0 : Int) ≤ (i : Int) := by omega
    have hi2 : (i : Int) ≤ (cap : Int) := by omega
    have hi3 : i ≤ cap := by omega
    by_cases hy0 : 0 < y
    · rw [if_pos hy0] at hR
      have HR := Lib.hid hR
      clear hR
      go_enter Tryz.func36, Tryz.ntmps36
      go_wp2_with (go_at_call 43; refine (isName_at _ _ HX.out).mono ?_; rintro e w' ⟨rfl, rfl⟩)
      generalize hW : w.alloc (.cells #[sv t.name, .int .i64 t.parts] 53) = W at *
      clear hW
      go_region_held3 (fun X => X.cell? ⟨w.heap.size, 0, none⟩ = some (sv t.name) ∧ X.cell? ⟨w.heap.size, 1, none⟩ = some (.int .i64 t.parts) ∧ Hid (Below W.heap.size W X))
        (first | exact ⟨hc0, hc1, Lib.hid (Below.refl _ _).drew⟩ | exact hS3)
        (first
          | (go_at_call 44; have hh := (‹_ ∧ _ ∧ Hid (Below W.heap.size W _)›).2.2; refine (partsOf_at (Lst.grow HT.out hh.out) HY.out).mono ?_; rintro e w3 ⟨rfl, hb3⟩; have hS3 := top_kept hbl0 hc0 hc1 (hh.out.trans (hb3.mono hh.out.size)); clear hb3 hh))
      all_goals go_wp2
      all_goals go_ret
      all_goals exact ⟨ret_int HR.out, HB.out.trans ((‹_ ∧ _ ∧ Hid (Below W.heap.size W _)›).2.2.out.mono HB.out.size)⟩
    · rw [if_neg hy0] at hR
      have HR := Lib.hid hR
      clear hR
      go_enter Tryz.func36, Tryz.ntmps36
      go_wp2_with (go_at_call 43; refine (isName_at _ _ HX.out).mono ?_; rintro e w' ⟨rfl, rfl⟩)
      generalize hW : w.alloc (.cells #[sv t.name, .int .i64 t.parts] 53) = W at *
      clear hW
      go_region_held3 (fun X => X.cell? ⟨w.heap.size, 0, none⟩ = some (sv t.name) ∧ X.cell? ⟨w.heap.size, 1, none⟩ = some (.int .i64 t.parts) ∧ Hid (Below W.heap.size W X))
        (first | exact ⟨hc0, hc1, Lib.hid (Below.refl _ _).drew⟩ | exact hS3)
        (first
          | (go_at_call 44; have hh := (‹_ ∧ _ ∧ Hid (Below W.heap.size W _)›).2.2; refine (partsOf_at (Lst.grow HT.out hh.out) HY.out).mono ?_; rintro e w3 ⟨rfl, hb3⟩; have hS3 := top_kept hbl0 hc0 hc1 (hh.out.trans (hb3.mono hh.out.size)); clear hb3 hh))
      all_goals obtain ⟨g0, g1, hh⟩ := ‹_ ∧ _ ∧ Hid (Below W.heap.size W _)›
      all_goals go_wp2
      all_goals go_ret
      all_goals exact ⟨ret_int (by rw [← HR.out]; simp [*]), HB.out.trans (hh.out.mono HB.out.size)⟩
end Go.Proofs.YtfoenfipefhpoaaGreatDoor.Pl
/-
  The program's test on a flow among a plan's. Conditions: the library's table of powers holds what it was laid with.
-/
namespace Go.Proofs.YtfoenfipefhpoaaGreatDoor.Pl
open Go.RowKit Go.Proofs.YtfoenfipefhpoaaGreatDoor.Ex

set_option maxHeartbeats 1000000 in
theorem named_pays {w : World} {b : Nat} {q : FE} (hx : Box w b q) : Pays 46 #[ptr b] (fun x => decide (x.f.name = q.f.name)) w := by
  intro W x hbW
  obtain ⟨c0, -⟩ := (hx.grow hbW).cells
  have hlt : b < W.heap.size := lt_of_heap (hx.grow hbW)
  have hne : b ≠ W.heap.size := by omega
  clear hx hbW
  show Calls Tryz.prog 46 #[flwV x, ptr b] W _
  by_cases he : x.f.name = q.f.name
  · have e1 : (x.f.name == q.f.name) = true := beq_of_eq he
    have HE : Hid (decide (x.f.name = q.f.name) = true) := Lib.hid (decide_eq_true he)
    clear he
    go_enter Tryz.func46, Tryz.ntmps46
    go_wp2
    go_ret
    exact ⟨ret_bool HE.out.symm, (Below.refl _ _).alloc (Nat.le_refl _) _⟩
  · have e1 : (x.f.name == q.f.name) = false := beq_of_ne he
    have HE : Hid (decide (x.f.name = q.f.name) = false) := Lib.hid (decide_eq_false he)
    clear he
    go_enter Tryz.func46, Tryz.ntmps46
    go_wp2
    go_ret
    exact ⟨ret_bool HE.out.symm, (Below.refl _ _).alloc (Nat.le_refl _) _⟩
theorem named_at {w : World} {a : Option Addr} {n cap : Nat} {es : List FE} (h : FlwsAt w (.slice a n cap) es) {b : Nat} {q : FE} (hx : Box w b q) {B : Bool} (hB : named (es.map FE.f) q.f.name = B) :
    Calls Tryz.prog 45 #[.slice a n cap, .func (.func 46) #[] #[ptr b]] w fun e w' => e = .returned (.bool B) ∧ Below w.heap.size w w' := by
  have hB' : es.any (fun x => decide (x.f.name = q.f.name)) = B := by rw [← hB]; exact (any_map es (fun f => decide (f.name = q.f.name))).symm
  subst hB'
  exact containsFunc_any h.1 _ _ _ (enters_of Tryz.func46 (by kernel_rfl) rfl) (named_pays hx)
theorem writes_at {w : World} {a : Option Addr} {n cap : Nat} {es : List FE} (h : FlwsAt w (.slice a n cap) es) {l : Bs} {B : Bool} (hB : writes (es.map FE.f) l = B) :
    Calls Tryz.prog 48 #[.slice a n cap, sv l] w fun e w' => e = .returned (.bool B) ∧ Below w.heap.size w w' := writes_any h ⟨l.toArray⟩ hB
theorem isWindow_at (v : Win) (w : World) {r : Bool} (hr : isWindow v = r) : Calls Tryz.prog 51 #[winV v] w fun e w' => e = .returned (.bool r) ∧ Below w.heap.size w w' := by subst hr; exact isWindow_any v w
theorem isAgg_at (v : Win) (g : Int) (w : World) {r : Bool} (hr : isAgg v g = r) : Calls Tryz.prog 52 #[winV v, .int .i64 g] w fun e w' => e = .returned (.bool r) ∧ Below w.heap.size w w' := by subst hr; exact isAgg_any v g w
/-- A plan's own block. -/
def PBox (w : World) (b : Nat) (vt vf : Value) : Prop := w.heap[b]? = some (.cells #[vt, vf] 25 (0, 0))
theorem PBox.grow {w w' : World} {b : Nat} {vt vf : Value} (h : PBox w b vt vf) (hb : Below w.heap.size w w') : PBox w' b vt vf := by
  unfold PBox at *; rw [hb.block b (lt_of_heap h)]; exact h
theorem PBox.cells {w : World} {b : Nat} {vt vf : Value} (h : PBox w b vt vf) : w.cell? ⟨b, 0, none⟩ = some vt ∧ w.cell? ⟨b, 1, none⟩ = some vf := by
  refine ⟨?_, ?_⟩ <;> rw [cell_of_heap h] <;> rfl
/-- What the walk of checkFlow keeps of the world W behind its first statement. -/
structure CF (bp bf : Nat) (at_ : Option Addr) (nt ct : Nat) (af : Option Addr) (nf cf i : Nat) (q : FE) (ts : List Top) (es : List FE) (W : World) : Prop where
  box : Box W bf q
  pbox : PBox W bp (.slice at_ nt ct) (.slice af nf cf)
  tops : TopsAt W (.slice at_ nt ct) ts
  flws : FlwsAt W (.slice af nf cf) es
  earlier : FlwsAt W (.slice af i cf) (es.take i)
  ok : FEok W q
  tab : Tab W
theorem CF.grow {bp bf : Nat} {at_ : Option Addr} {nt ct : Nat} {af : Option Addr} {nf cf i : Nat} {q : FE} {ts : List Top} {es : List FE} {W W' : World} (h : CF bp bf at_ nt ct af nf cf i q ts es W) (hb : Below W.heap.size W W') : CF bp bf at_ nt ct af nf cf i q ts es W' :=
  ⟨h.box.grow hb, h.pbox.grow hb, h.tops.grow hb, h.flws.grow hb, h.earlier.grow hb, h.ok.grow hb, h.tab.below hb⟩
set_option maxRecDepth 20000 in
set_option maxHeartbeats 4000000 in
theorem checkFlow_any {w : World} {at_ : Option Addr} {nt ct : Nat} {af : Option Addr} {nf cf i : Nat} {ts : List Top} {es : List FE} (ht : TopsAt w (.slice at_ nt ct) ts) (hf : FlwsAt w (.slice af nf cf) es) (hT : Tab w) (hi : i < es.length)
    {R : Int} (hR : flwErr ts (es.map FE.f) ((es.take i).map FE.f) es[i].f = R) :
    Calls Tryz.prog 37 #[.agg #[.slice at_ nt ct, .slice af nf cf], .int .i64 i] w fun e w' => e = .returned (.int .i64 R) ∧ Below w.heap.size w w' := by
  obtain ⟨hn, hcap, hmax, hcm⟩ := hf.1.len
  unfold maxLen at hmax hcm
  have hok := hf.2 _ (mem_at hi)
  obtain ⟨b, o, rfl, hbl, c0, c1, c2, c3, c4, c5, c6, c7, c8, c9, c10, c11⟩ := hf.cells hi
  obtain ⟨q, hq⟩ : ∃ q, es[i] = q := ⟨_, rfl⟩
  rw [hq] at c0 c1 c2 c3 c4 c5 c6 c7 c8 c9 c10 c11 hR hok
  clear hq
  have hin : i < nf := by omega
  have hi1 : (0 : Int) ≤ (i : Int) := by omega
  have hi2 : (i : Int) < (nf : Int) := by omega
  have hi3 : (i : Int) ≤ (cf : Int) := by omega
  obtain ⟨f, v1, v2⟩ := q
  obtain ⟨a1, cap1, e1⟩ := hok.1.1.val
  obtain ⟨a2, cap2, e2⟩ := hok.2.1.val
  simp only at e1 e2 c0 c1 c2 c3 c4 c5 c6 c7 c8 c9 c10 c11 hR
  subst e1 e2
  obtain ⟨n1, hn1⟩ : ∃ n, f.pre.length = n := ⟨_, rfl⟩
  obtain ⟨n2, hn2⟩ : ∃ n, f.post.length = n := ⟨_, rfl⟩
  simp only [hn1, hn2] at c6 c11 hok
  obtain ⟨W, hW⟩ : ∃ W, W = ((w.alloc (.cells #[.slice at_ nt ct, .slice (some ⟨b, o, none⟩) nf cf] 25)).alloc (.cells #[sv f.name, sv f.frm, sv f.dest, .int .i64 f.bound, .int .i64 f.readers, .int .i64 f.keepers, .slice a1 n1 cap1, .int .i64 f.win.kind, .int .i64 f.win.size, .int .i64 f.win.slide, .int .i64 f.agg, .slice a2 n2 cap2] 51)).drew := ⟨_, rfl⟩
  have hb0 : Below w.heap.size w W := by rw [hW]; exact (((Below.refl _ _).alloc (Nat.le_refl _) _).alloc (by simp) _).drew
  have hCF : CF w.heap.size (w.heap.size + 1) at_ nt ct (some ⟨b, o, none⟩) nf cf i ⟨f, .slice a1 n1 cap1, .slice a2 n2 cap2⟩ ts es W := by
    refine ⟨?_, ?_, ht.grow hb0, hf.grow hb0, (FlwsAt.take hf (Nat.le_of_lt hi)).grow hb0, hok.grow hb0, hT.below hb0⟩
    · rw [hW]
      have := heap_alloc_new (w.alloc (.cells #[.slice at_ nt ct, .slice (some ⟨b, o, none⟩) nf cf] 25)) (.cells #[sv f.name, sv f.frm, sv f.dest, .int .i64 f.bound, .int .i64 f.readers, .int .i64 f.keepers, .slice a1 n1 cap1, .int .i64 f.win.kind, .int .i64 f.win.size, .int .i64 f.win.slide, .int .i64 f.agg, .slice a2 n2 cap2] 51)
      rw [World.size_alloc] at this
      exact this
    · rw [hW]; exact Ex.heap_alloc_old (heap_alloc_new w (.cells #[.slice at_ nt ct, .slice (some ⟨b, o, none⟩) nf cf] 25)) _
  have hR' : R = if isName f.name = false then 51
    else if named ((es.take i).map FE.f) f.name = true then 52
    else if areEnds ts f = false ∨ writes ((es.take i).map FE.f) f.dest = true then 53
    else if isBound (es.map FE.f) f = false ∨ areCounts ts f = false ∨ isWindow f.win = false ∨ isAgg f.win f.agg = false then 1
    else if 8 < n1 ∨ 8 < n2 then 5
    else if f.win.kind = 0 ∧ 0 < n2 then 54
    else stepsErr f := by rw [← hR, ← hn1, ← hn2]; rfl
  obtain ⟨x1, h1⟩ : ∃ x, isName f.name = x := ⟨_, rfl⟩
  obtain ⟨x2, h2⟩ : ∃ x, named ((es.take i).map FE.f) f.name = x := ⟨_, rfl⟩
  obtain ⟨x3, h3⟩ : ∃ x, areEnds ts f = x := ⟨_, rfl⟩
  obtain ⟨x4, h4⟩ : ∃ x, writes ((es.take i).map FE.f) f.dest = x := ⟨_, rfl⟩
  obtain ⟨x5, h5⟩ : ∃ x, isBound (es.map FE.f) f = x := ⟨_, rfl⟩
  obtain ⟨x6, h6⟩ : ∃ x, areCounts ts f = x := ⟨_, rfl⟩
  obtain ⟨x7, h7⟩ : ∃ x, isWindow f.win = x := ⟨_, rfl⟩
  obtain ⟨x8, h8⟩ : ∃ x, isAgg f.win f.agg = x := ⟨_, rfl⟩
  obtain ⟨x9, h9⟩ : ∃ x, stepsErr f = x := ⟨_, rfl⟩
  rw [h1, h2, h3, h4, h5, h6, h7, h8, h9] at hR'
  have HC := Lib.hid hCF
  have HB := Lib.hid hb0
  have HR := Lib.hid hR'
  have HW := Lib.hid hW
  have H1 := Lib.hid h1; have H2 := Lib.hid h2; have H3 := Lib.hid h3; have H4 := Lib.hid h4; have H5 := Lib.hid h5; have H6 := Lib.hid h6; have H7 := Lib.hid h7; have H8 := Lib.hid h8; have H9 := Lib.hid h9
  clear hCF hb0 hR' hR hW ht hf hT hok hn hmax hn1 hn2 h1 h2 h3 h4 h5 h6 h7 h8 h9
  go_enter Tryz.func37, Tryz.ntmps37
  go_wp2
  go_region
  rw [← HW.out]
  clear c0 c1 c2 c3 c4 c5 c6 c7 c8 c9 c10 c11 HW
  obtain ⟨bf, hbf⟩ : ∃ bf, w.heap.size + 1 = bf := ⟨_, rfl⟩
  rw [hbf] at HC ⊢
  clear hbf
  obtain ⟨d0, d1, d2, d3, d4, d5, d6, d7, d8, d9, d10, d11⟩ := HC.out.box.cells
  simp only at d0 d1 d2 d3 d4 d5 d6 d7 d8 d9 d10 d11
  cases x1 with
  | false =>
    go_wp2_with (go_at_call 43; refine (isName_at _ _ H1.out).mono ?_; rintro e w' ⟨rfl, rfl⟩)
    go_ret
    exact ⟨ret_int (by rw [HR.out]; simp), HB.out⟩
  | true =>
  obtain ⟨k0, k1⟩ := HC.out.pbox.cells
  cases x2 with
  | true =>
    go_wp2_with (first
      | (go_at_call 43; refine (isName_at _ _ H1.out).mono ?_; rintro e w' ⟨rfl, rfl⟩)
      | (go_at_call 45; refine (named_at HC.out.earlier HC.out.box H2.out).mono ?_; rintro e w1 ⟨rfl, hb⟩; have HC1 := Lib.hid (HC.out.grow hb); have HB1 := Lib.hid (HB.out.trans (hb.mono HB.out.size)); obtain ⟨d0, d1, d2, d3, d4, d5, d6, d7, d8, d9, d10, d11⟩ := HC1.out.box.cells; obtain ⟨k0, k1⟩ := HC1.out.pbox.cells; simp only at d0 d1 d2 d3 d4 d5 d6 d7 d8 d9 d10 d11; clear hb))
    go_ret
    exact ⟨ret_int (by rw [HR.out]; simp), HB1.out⟩
  | false =>
  cases x3 with
  | false =>
    go_wp2_with (first
      | (go_at_call 43; refine (isName_at _ _ H1.out).mono ?_; rintro e w' ⟨rfl, rfl⟩)
      | (go_at_call 45; refine (named_at HC.out.earlier HC.out.box H2.out).mono ?_; rintro e w1 ⟨rfl, hb⟩; have HC1 := Lib.hid (HC.out.grow hb); have HB1 := Lib.hid (HB.out.trans (hb.mono HB.out.size)); obtain ⟨d0, d1, d2, d3, d4, d5, d6, d7, d8, d9, d10, d11⟩ := HC1.out.box.cells; obtain ⟨k0, k1⟩ := HC1.out.pbox.cells; simp only at d0 d1 d2 d3 d4 d5 d6 d7 d8 d9 d10 d11; clear hb)
      | (go_at_call 47; refine (areEnds_any HC1.out.tops ⟨f, .slice a1 n1 cap1, .slice a2 n2 cap2⟩ H3.out).mono ?_; rintro e w2 ⟨rfl, hb⟩; have HC2 := Lib.hid (HC1.out.grow hb); have HB2 := Lib.hid (HB1.out.trans (hb.mono HB1.out.size)); obtain ⟨d0, d1, d2, d3, d4, d5, d6, d7, d8, d9, d10, d11⟩ := HC2.out.box.cells; obtain ⟨k0, k1⟩ := HC2.out.pbox.cells; simp only at d0 d1 d2 d3 d4 d5 d6 d7 d8 d9 d10 d11; clear hb))
    go_ret
    exact ⟨ret_int (by rw [HR.out]; simp), HB2.out⟩
  | true =>
  cases x4 with
  | true =>
    go_wp2_with (first
      | (go_at_call 43; refine (isName_at _ _ H1.out).mono ?_; rintro e w' ⟨rfl, rfl⟩)
      | (go_at_call 45; refine (named_at HC.out.earlier HC.out.box H2.out).mono ?_; rintro e w1 ⟨rfl, hb⟩; have HC1 := Lib.hid (HC.out.grow hb); have HB1 := Lib.hid (HB.out.trans (hb.mono HB.out.size)); obtain ⟨d0, d1, d2, d3, d4, d5, d6, d7, d8, d9, d10, d11⟩ := HC1.out.box.cells; obtain ⟨k0, k1⟩ := HC1.out.pbox.cells; simp only at d0 d1 d2 d3 d4 d5 d6 d7 d8 d9 d10 d11; clear hb)
      | (go_at_call 47; refine (areEnds_any HC1.out.tops ⟨f, .slice a1 n1 cap1, .slice a2 n2 cap2⟩ H3.out).mono ?_; rintro e w2 ⟨rfl, hb⟩; have HC2 := Lib.hid (HC1.out.grow hb); have HB2 := Lib.hid (HB1.out.trans (hb.mono HB1.out.size)); obtain ⟨d0, d1, d2, d3, d4, d5, d6, d7, d8, d9, d10, d11⟩ := HC2.out.box.cells; obtain ⟨k0, k1⟩ := HC2.out.pbox.cells; simp only at d0 d1 d2 d3 d4 d5 d6 d7 d8 d9 d10 d11; clear hb)
      | (go_at_call 48; refine (writes_at HC2.out.earlier H4.out).mono ?_; rintro e w3 ⟨rfl, hb⟩; have HC3 := Lib.hid (HC2.out.grow hb); have HB3 := Lib.hid (HB2.out.trans (hb.mono HB2.out.size)); obtain ⟨d0, d1, d2, d3, d4, d5, d6, d7, d8, d9, d10, d11⟩ := HC3.out.box.cells; obtain ⟨k0, k1⟩ := HC3.out.pbox.cells; simp only at d0 d1 d2 d3 d4 d5 d6 d7 d8 d9 d10 d11; clear hb))
    go_ret
    exact ⟨ret_int (by rw [HR.out]; simp), HB3.out⟩
  | false =>
  go_upto_region 8 with (first
      | (go_at_call 43; refine (isName_at _ _ H1.out).mono ?_; rintro e w' ⟨rfl, rfl⟩)
      | (go_at_call 45; refine (named_at HC.out.earlier HC.out.box H2.out).mono ?_; rintro e w1 ⟨rfl, hb⟩; have HC1 := Lib.hid (HC.out.grow hb); have HB1 := Lib.hid (HB.out.trans (hb.mono HB.out.size)); obtain ⟨d0, d1, d2, d3, d4, d5, d6, d7, d8, d9, d10, d11⟩ := HC1.out.box.cells; obtain ⟨k0, k1⟩ := HC1.out.pbox.cells; simp only at d0 d1 d2 d3 d4 d5 d6 d7 d8 d9 d10 d11; clear hb)
      | (go_at_call 47; refine (areEnds_any HC1.out.tops ⟨f, .slice a1 n1 cap1, .slice a2 n2 cap2⟩ H3.out).mono ?_; rintro e w2 ⟨rfl, hb⟩; have HC2 := Lib.hid (HC1.out.grow hb); have HB2 := Lib.hid (HB1.out.trans (hb.mono HB1.out.size)); obtain ⟨d0, d1, d2, d3, d4, d5, d6, d7, d8, d9, d10, d11⟩ := HC2.out.box.cells; obtain ⟨k0, k1⟩ := HC2.out.pbox.cells; simp only at d0 d1 d2 d3 d4 d5 d6 d7 d8 d9 d10 d11; clear hb)
      | (go_at_call 48; refine (writes_at HC2.out.earlier H4.out).mono ?_; rintro e w3 ⟨rfl, hb⟩; have HC3 := Lib.hid (HC2.out.grow hb); have HB3 := Lib.hid (HB2.out.trans (hb.mono HB2.out.size)); obtain ⟨d0, d1, d2, d3, d4, d5, d6, d7, d8, d9, d10, d11⟩ := HC3.out.box.cells; obtain ⟨k0, k1⟩ := HC3.out.pbox.cells; simp only at d0 d1 d2 d3 d4 d5 d6 d7 d8 d9 d10 d11; clear hb))
  cases x5 with
  | false =>
    go_wp2_with (go_at_call 49; refine (isBound_any HC3.out.flws ⟨f, .slice a1 n1 cap1, .slice a2 n2 cap2⟩ H5.out).mono ?_; rintro e w4 ⟨rfl, hb⟩; have HC4 := Lib.hid (HC3.out.grow hb); have HB4 := Lib.hid (HB3.out.trans (hb.mono HB3.out.size)); obtain ⟨d0, d1, d2, d3, d4, d5, d6, d7, d8, d9, d10, d11⟩ := HC4.out.box.cells; obtain ⟨k0, k1⟩ := HC4.out.pbox.cells; simp only at d0 d1 d2 d3 d4 d5 d6 d7 d8 d9 d10 d11; clear hb)
    go_ret
    exact ⟨ret_int (by rw [HR.out]; simp), HB4.out⟩
  | true =>
  cases x6 with
  | false =>
    go_wp2_with (first
      | (go_at_call 49; refine (isBound_any HC3.out.flws ⟨f, .slice a1 n1 cap1, .slice a2 n2 cap2⟩ H5.out).mono ?_; rintro e w4 ⟨rfl, hb⟩; have HC4 := Lib.hid (HC3.out.grow hb); have HB4 := Lib.hid (HB3.out.trans (hb.mono HB3.out.size)); obtain ⟨d0, d1, d2, d3, d4, d5, d6, d7, d8, d9, d10, d11⟩ := HC4.out.box.cells; obtain ⟨k0, k1⟩ := HC4.out.pbox.cells; simp only at d0 d1 d2 d3 d4 d5 d6 d7 d8 d9 d10 d11; clear hb)
      | (go_at_call 50; refine (areCounts_any HC4.out.tops ⟨f, .slice a1 n1 cap1, .slice a2 n2 cap2⟩ H6.out).mono ?_; rintro e w5 ⟨rfl, hb⟩; have HC5 := Lib.hid (HC4.out.grow hb); have HB5 := Lib.hid (HB4.out.trans (hb.mono HB4.out.size)); obtain ⟨d0, d1, d2, d3, d4, d5, d6, d7, d8, d9, d10, d11⟩ := HC5.out.box.cells; obtain ⟨k0, k1⟩ := HC5.out.pbox.cells; simp only at d0 d1 d2 d3 d4 d5 d6 d7 d8 d9 d10 d11; clear hb))
    go_ret
    exact ⟨ret_int (by rw [HR.out]; simp), HB5.out⟩
  | true =>
  cases x7 with
  | false =>
    go_wp2_with (first
      | (go_at_call 49; refine (isBound_any HC3.out.flws ⟨f, .slice a1 n1 cap1, .slice a2 n2 cap2⟩ H5.out).mono ?_; rintro e w4 ⟨rfl, hb⟩; have HC4 := Lib.hid (HC3.out.grow hb); have HB4 := Lib.hid (HB3.out.trans (hb.mono HB3.out.size)); obtain ⟨d0, d1, d2, d3, d4, d5, d6, d7, d8, d9, d10, d11⟩ := HC4.out.box.cells; obtain ⟨k0, k1⟩ := HC4.out.pbox.cells; simp only at d0 d1 d2 d3 d4 d5 d6 d7 d8 d9 d10 d11; clear hb)
      | (go_at_call 50; refine (areCounts_any HC4.out.tops ⟨f, .slice a1 n1 cap1, .slice a2 n2 cap2⟩ H6.out).mono ?_; rintro e w5 ⟨rfl, hb⟩; have HC5 := Lib.hid (HC4.out.grow hb); have HB5 := Lib.hid (HB4.out.trans (hb.mono HB4.out.size)); obtain ⟨d0, d1, d2, d3, d4, d5, d6, d7, d8, d9, d10, d11⟩ := HC5.out.box.cells; obtain ⟨k0, k1⟩ := HC5.out.pbox.cells; simp only at d0 d1 d2 d3 d4 d5 d6 d7 d8 d9 d10 d11; clear hb)
      | (go_at_call 51; refine (isWindow_at f.win _ H7.out).mono ?_; rintro e w6 ⟨rfl, hb⟩; have HC6 := Lib.hid (HC5.out.grow hb); have HB6 := Lib.hid (HB5.out.trans (hb.mono HB5.out.size)); obtain ⟨d0, d1, d2, d3, d4, d5, d6, d7, d8, d9, d10, d11⟩ := HC6.out.box.cells; obtain ⟨k0, k1⟩ := HC6.out.pbox.cells; simp only at d0 d1 d2 d3 d4 d5 d6 d7 d8 d9 d10 d11; clear hb))
    go_ret
    exact ⟨ret_int (by rw [HR.out]; simp), HB6.out⟩
  | true =>
  cases x8 with
  | false =>
    go_wp2_with (first
      | (go_at_call 49; refine (isBound_any HC3.out.flws ⟨f, .slice a1 n1 cap1, .slice a2 n2 cap2⟩ H5.out).mono ?_; rintro e w4 ⟨rfl, hb⟩; have HC4 := Lib.hid (HC3.out.grow hb); have HB4 := Lib.hid (HB3.out.trans (hb.mono HB3.out.size)); obtain ⟨d0, d1, d2, d3, d4, d5, d6, d7, d8, d9, d10, d11⟩ := HC4.out.box.cells; obtain ⟨k0, k1⟩ := HC4.out.pbox.cells; simp only at d0 d1 d2 d3 d4 d5 d6 d7 d8 d9 d10 d11; clear hb)
      | (go_at_call 50; refine (areCounts_any HC4.out.tops ⟨f, .slice a1 n1 cap1, .slice a2 n2 cap2⟩ H6.out).mono ?_; rintro e w5 ⟨rfl, hb⟩; have HC5 := Lib.hid (HC4.out.grow hb); have HB5 := Lib.hid (HB4.out.trans (hb.mono HB4.out.size)); obtain ⟨d0, d1, d2, d3, d4, d5, d6, d7, d8, d9, d10, d11⟩ := HC5.out.box.cells; obtain ⟨k0, k1⟩ := HC5.out.pbox.cells; simp only at d0 d1 d2 d3 d4 d5 d6 d7 d8 d9 d10 d11; clear hb)
      | (go_at_call 51; refine (isWindow_at f.win _ H7.out).mono ?_; rintro e w6 ⟨rfl, hb⟩; have HC6 := Lib.hid (HC5.out.grow hb); have HB6 := Lib.hid (HB5.out.trans (hb.mono HB5.out.size)); obtain ⟨d0, d1, d2, d3, d4, d5, d6, d7, d8, d9, d10, d11⟩ := HC6.out.box.cells; obtain ⟨k0, k1⟩ := HC6.out.pbox.cells; simp only at d0 d1 d2 d3 d4 d5 d6 d7 d8 d9 d10 d11; clear hb)
      | (go_at_call 52; refine (isAgg_at f.win f.agg _ H8.out).mono ?_; rintro e w7 ⟨rfl, hb⟩; have HC7 := Lib.hid (HC6.out.grow hb); have HB7 := Lib.hid (HB6.out.trans (hb.mono HB6.out.size)); obtain ⟨d0, d1, d2, d3, d4, d5, d6, d7, d8, d9, d10, d11⟩ := HC7.out.box.cells; obtain ⟨k0, k1⟩ := HC7.out.pbox.cells; simp only at d0 d1 d2 d3 d4 d5 d6 d7 d8 d9 d10 d11; clear hb))
    go_ret
    exact ⟨ret_int (by rw [HR.out]; simp), HB7.out⟩
  | true =>
  by_cases hp : 8 < n1
  · have hp' : (8 : Int) < (n1 : Int) := by omega
    go_wp2_with (first
      | (go_at_call 49; refine (isBound_any HC3.out.flws ⟨f, .slice a1 n1 cap1, .slice a2 n2 cap2⟩ H5.out).mono ?_; rintro e w4 ⟨rfl, hb⟩; have HC4 := Lib.hid (HC3.out.grow hb); have HB4 := Lib.hid (HB3.out.trans (hb.mono HB3.out.size)); obtain ⟨d0, d1, d2, d3, d4, d5, d6, d7, d8, d9, d10, d11⟩ := HC4.out.box.cells; obtain ⟨k0, k1⟩ := HC4.out.pbox.cells; simp only at d0 d1 d2 d3 d4 d5 d6 d7 d8 d9 d10 d11; clear hb)
      | (go_at_call 50; refine (areCounts_any HC4.out.tops ⟨f, .slice a1 n1 cap1, .slice a2 n2 cap2⟩ H6.out).mono ?_; rintro e w5 ⟨rfl, hb⟩; have HC5 := Lib.hid (HC4.out.grow hb); have HB5 := Lib.hid (HB4.out.trans (hb.mono HB4.out.size)); obtain ⟨d0, d1, d2, d3, d4, d5, d6, d7, d8, d9, d10, d11⟩ := HC5.out.box.cells; obtain ⟨k0, k1⟩ := HC5.out.pbox.cells; simp only at d0 d1 d2 d3 d4 d5 d6 d7 d8 d9 d10 d11; clear hb)
      | (go_at_call 51; refine (isWindow_at f.win _ H7.out).mono ?_; rintro e w6 ⟨rfl, hb⟩; have HC6 := Lib.hid (HC5.out.grow hb); have HB6 := Lib.hid (HB5.out.trans (hb.mono HB5.out.size)); obtain ⟨d0, d1, d2, d3, d4, d5, d6, d7, d8, d9, d10, d11⟩ := HC6.out.box.cells; obtain ⟨k0, k1⟩ := HC6.out.pbox.cells; simp only at d0 d1 d2 d3 d4 d5 d6 d7 d8 d9 d10 d11; clear hb)
      | (go_at_call 52; refine (isAgg_at f.win f.agg _ H8.out).mono ?_; rintro e w7 ⟨rfl, hb⟩; have HC7 := Lib.hid (HC6.out.grow hb); have HB7 := Lib.hid (HB6.out.trans (hb.mono HB6.out.size)); obtain ⟨d0, d1, d2, d3, d4, d5, d6, d7, d8, d9, d10, d11⟩ := HC7.out.box.cells; obtain ⟨k0, k1⟩ := HC7.out.pbox.cells; simp only at d0 d1 d2 d3 d4 d5 d6 d7 d8 d9 d10 d11; clear hb))
    go_ret
    exact ⟨ret_int (by rw [HR.out]; simp [*]), HB7.out⟩
  have hp' : ¬ (8 : Int) < (n1 : Int) := by omega
  by_cases hq : 8 < n2
  · have hq' : (8 : Int) < (n2 : Int) := by omega
    go_wp2_with (first
      | (go_at_call 49; refine (isBound_any HC3.out.flws ⟨f, .slice a1 n1 cap1, .slice a2 n2 cap2⟩ H5.out).mono ?_; rintro e w4 ⟨rfl, hb⟩; have HC4 := Lib.hid (HC3.out.grow hb); have HB4 := Lib.hid (HB3.out.trans (hb.mono HB3.out.size)); obtain ⟨d0, d1, d2, d3, d4, d5, d6, d7, d8, d9, d10, d11⟩ := HC4.out.box.cells; obtain ⟨k0, k1⟩ := HC4.out.pbox.cells; simp only at d0 d1 d2 d3 d4 d5 d6 d7 d8 d9 d10 d11; clear hb)
      | (go_at_call 50; refine (areCounts_any HC4.out.tops ⟨f, .slice a1 n1 cap1, .slice a2 n2 cap2⟩ H6.out).mono ?_; rintro e w5 ⟨rfl, hb⟩; have HC5 := Lib.hid (HC4.out.grow hb); have HB5 := Lib.hid (HB4.out.trans (hb.mono HB4.out.size)); obtain ⟨d0, d1, d2, d3, d4, d5, d6, d7, d8, d9, d10, d11⟩ := HC5.out.box.cells; obtain ⟨k0, k1⟩ := HC5.out.pbox.cells; simp only at d0 d1 d2 d3 d4 d5 d6 d7 d8 d9 d10 d11; clear hb)
      | (go_at_call 51; refine (isWindow_at f.win _ H7.out).mono ?_; rintro e w6 ⟨rfl, hb⟩; have HC6 := Lib.hid (HC5.out.grow hb); have HB6 := Lib.hid (HB5.out.trans (hb.mono HB5.out.size)); obtain ⟨d0, d1, d2, d3, d4, d5, d6, d7, d8, d9, d10, d11⟩ := HC6.out.box.cells; obtain ⟨k0, k1⟩ := HC6.out.pbox.cells; simp only at d0 d1 d2 d3 d4 d5 d6 d7 d8 d9 d10 d11; clear hb)
      | (go_at_call 52; refine (isAgg_at f.win f.agg _ H8.out).mono ?_; rintro e w7 ⟨rfl, hb⟩; have HC7 := Lib.hid (HC6.out.grow hb); have HB7 := Lib.hid (HB6.out.trans (hb.mono HB6.out.size)); obtain ⟨d0, d1, d2, d3, d4, d5, d6, d7, d8, d9, d10, d11⟩ := HC7.out.box.cells; obtain ⟨k0, k1⟩ := HC7.out.pbox.cells; simp only at d0 d1 d2 d3 d4 d5 d6 d7 d8 d9 d10 d11; clear hb))
    go_ret
    exact ⟨ret_int (by rw [HR.out]; simp [*]), HB7.out⟩
  have hq' : ¬ (8 : Int) < (n2 : Int) := by omega
  by_cases hk : f.win.kind = 0
  · have ek := ibeq hk
    have HK := Lib.hid hk
    clear hk
    by_cases h0 : 0 < n2
    · have h0' : (0 : Int) < (n2 : Int) := by omega
      go_wp2_with (first
      | (go_at_call 49; refine (isBound_any HC3.out.flws ⟨f, .slice a1 n1 cap1, .slice a2 n2 cap2⟩ H5.out).mono ?_; rintro e w4 ⟨rfl, hb⟩; have HC4 := Lib.hid (HC3.out.grow hb); have HB4 := Lib.hid (HB3.out.trans (hb.mono HB3.out.size)); obtain ⟨d0, d1, d2, d3, d4, d5, d6, d7, d8, d9, d10, d11⟩ := HC4.out.box.cells; obtain ⟨k0, k1⟩ := HC4.out.pbox.cells; simp only at d0 d1 d2 d3 d4 d5 d6 d7 d8 d9 d10 d11; clear hb)
      | (go_at_call 50; refine (areCounts_any HC4.out.tops ⟨f, .slice a1 n1 cap1, .slice a2 n2 cap2⟩ H6.out).mono ?_; rintro e w5 ⟨rfl, hb⟩; have HC5 := Lib.hid (HC4.out.grow hb); have HB5 := Lib.hid (HB4.out.trans (hb.mono HB4.out.size)); obtain ⟨d0, d1, d2, d3, d4, d5, d6, d7, d8, d9, d10, d11⟩ := HC5.out.box.cells; obtain ⟨k0, k1⟩ := HC5.out.pbox.cells; simp only at d0 d1 d2 d3 d4 d5 d6 d7 d8 d9 d10 d11; clear hb)
      | (go_at_call 51; refine (isWindow_at f.win _ H7.out).mono ?_; rintro e w6 ⟨rfl, hb⟩; have HC6 := Lib.hid (HC5.out.grow hb); have HB6 := Lib.hid (HB5.out.trans (hb.mono HB5.out.size)); obtain ⟨d0, d1, d2, d3, d4, d5, d6, d7, d8, d9, d10, d11⟩ := HC6.out.box.cells; obtain ⟨k0, k1⟩ := HC6.out.pbox.cells; simp only at d0 d1 d2 d3 d4 d5 d6 d7 d8 d9 d10 d11; clear hb)
      | (go_at_call 52; refine (isAgg_at f.win f.agg _ H8.out).mono ?_; rintro e w7 ⟨rfl, hb⟩; have HC7 := Lib.hid (HC6.out.grow hb); have HB7 := Lib.hid (HB6.out.trans (hb.mono HB6.out.size)); obtain ⟨d0, d1, d2, d3, d4, d5, d6, d7, d8, d9, d10, d11⟩ := HC7.out.box.cells; obtain ⟨k0, k1⟩ := HC7.out.pbox.cells; simp only at d0 d1 d2 d3 d4 d5 d6 d7 d8 d9 d10 d11; clear hb))
      go_ret
      exact ⟨ret_int (by rw [HR.out]; simp [HK.out, hp, hq, h0]), HB7.out⟩
    · have h0' : ¬ (0 : Int) < (n2 : Int) := by omega
      go_wp2_with (first
      | (go_at_call 49; refine (isBound_any HC3.out.flws ⟨f, .slice a1 n1 cap1, .slice a2 n2 cap2⟩ H5.out).mono ?_; rintro e w4 ⟨rfl, hb⟩; have HC4 := Lib.hid (HC3.out.grow hb); have HB4 := Lib.hid (HB3.out.trans (hb.mono HB3.out.size)); obtain ⟨d0, d1, d2, d3, d4, d5, d6, d7, d8, d9, d10, d11⟩ := HC4.out.box.cells; obtain ⟨k0, k1⟩ := HC4.out.pbox.cells; simp only at d0 d1 d2 d3 d4 d5 d6 d7 d8 d9 d10 d11; clear hb)
      | (go_at_call 50; refine (areCounts_any HC4.out.tops ⟨f, .slice a1 n1 cap1, .slice a2 n2 cap2⟩ H6.out).mono ?_; rintro e w5 ⟨rfl, hb⟩; have HC5 := Lib.hid (HC4.out.grow hb); have HB5 := Lib.hid (HB4.out.trans (hb.mono HB4.out.size)); obtain ⟨d0, d1, d2, d3, d4, d5, d6, d7, d8, d9, d10, d11⟩ := HC5.out.box.cells; obtain ⟨k0, k1⟩ := HC5.out.pbox.cells; simp only at d0 d1 d2 d3 d4 d5 d6 d7 d8 d9 d10 d11; clear hb)
      | (go_at_call 51; refine (isWindow_at f.win _ H7.out).mono ?_; rintro e w6 ⟨rfl, hb⟩; have HC6 := Lib.hid (HC5.out.grow hb); have HB6 := Lib.hid (HB5.out.trans (hb.mono HB5.out.size)); obtain ⟨d0, d1, d2, d3, d4, d5, d6, d7, d8, d9, d10, d11⟩ := HC6.out.box.cells; obtain ⟨k0, k1⟩ := HC6.out.pbox.cells; simp only at d0 d1 d2 d3 d4 d5 d6 d7 d8 d9 d10 d11; clear hb)
      | (go_at_call 52; refine (isAgg_at f.win f.agg _ H8.out).mono ?_; rintro e w7 ⟨rfl, hb⟩; have HC7 := Lib.hid (HC6.out.grow hb); have HB7 := Lib.hid (HB6.out.trans (hb.mono HB6.out.size)); obtain ⟨d0, d1, d2, d3, d4, d5, d6, d7, d8, d9, d10, d11⟩ := HC7.out.box.cells; obtain ⟨k0, k1⟩ := HC7.out.pbox.cells; simp only at d0 d1 d2 d3 d4 d5 d6 d7 d8 d9 d10 d11; clear hb)
      | (go_at_call 53; refine (checkSteps_any ⟨f, .slice a1 n1 cap1, .slice a2 n2 cap2⟩ HC7.out.ok HC7.out.tab H9.out).mono ?_; rintro e w8 ⟨rfl, hb⟩; have HC8 := Lib.hid (HC7.out.grow hb); have HB8 := Lib.hid (HB7.out.trans (hb.mono HB7.out.size)); obtain ⟨d0, d1, d2, d3, d4, d5, d6, d7, d8, d9, d10, d11⟩ := HC8.out.box.cells; obtain ⟨k0, k1⟩ := HC8.out.pbox.cells; simp only at d0 d1 d2 d3 d4 d5 d6 d7 d8 d9 d10 d11; clear hb))
      go_ret
      exact ⟨ret_int (by rw [HR.out]; simp [HK.out, hp, hq, h0]), HB8.out⟩
  · have ek := ibne hk
    have HK := Lib.hid hk
    clear hk
    go_wp2_with (first
      | (go_at_call 49; refine (isBound_any HC3.out.flws ⟨f, .slice a1 n1 cap1, .slice a2 n2 cap2⟩ H5.out).mono ?_; rintro e w4 ⟨rfl, hb⟩; have HC4 := Lib.hid (HC3.out.grow hb); have HB4 := Lib.hid (HB3.out.trans (hb.mono HB3.out.size)); obtain ⟨d0, d1, d2, d3, d4, d5, d6, d7, d8, d9, d10, d11⟩ := HC4.out.box.cells; obtain ⟨k0, k1⟩ := HC4.out.pbox.cells; simp only at d0 d1 d2 d3 d4 d5 d6 d7 d8 d9 d10 d11; clear hb)
      | (go_at_call 50; refine (areCounts_any HC4.out.tops ⟨f, .slice a1 n1 cap1, .slice a2 n2 cap2⟩ H6.out).mono ?_; rintro e w5 ⟨rfl, hb⟩; have HC5 := Lib.hid (HC4.out.grow hb); have HB5 := Lib.hid (HB4.out.trans (hb.mono HB4.out.size)); obtain ⟨d0, d1, d2, d3, d4, d5, d6, d7, d8, d9, d10, d11⟩ := HC5.out.box.cells; obtain ⟨k0, k1⟩ := HC5.out.pbox.cells; simp only at d0 d1 d2 d3 d4 d5 d6 d7 d8 d9 d10 d11; clear hb)
      | (go_at_call 51; refine (isWindow_at f.win _ H7.out).mono ?_; rintro e w6 ⟨rfl, hb⟩; have HC6 := Lib.hid (HC5.out.grow hb); have HB6 := Lib.hid (HB5.out.trans (hb.mono HB5.out.size)); obtain ⟨d0, d1, d2, d3, d4, d5, d6, d7, d8, d9, d10, d11⟩ := HC6.out.box.cells; obtain ⟨k0, k1⟩ := HC6.out.pbox.cells; simp only at d0 d1 d2 d3 d4 d5 d6 d7 d8 d9 d10 d11; clear hb)
      | (go_at_call 52; refine (isAgg_at f.win f.agg _ H8.out).mono ?_; rintro e w7 ⟨rfl, hb⟩; have HC7 := Lib.hid (HC6.out.grow hb); have HB7 := Lib.hid (HB6.out.trans (hb.mono HB6.out.size)); obtain ⟨d0, d1, d2, d3, d4, d5, d6, d7, d8, d9, d10, d11⟩ := HC7.out.box.cells; obtain ⟨k0, k1⟩ := HC7.out.pbox.cells; simp only at d0 d1 d2 d3 d4 d5 d6 d7 d8 d9 d10 d11; clear hb)
      | (go_at_call 53; refine (checkSteps_any ⟨f, .slice a1 n1 cap1, .slice a2 n2 cap2⟩ HC7.out.ok HC7.out.tab H9.out).mono ?_; rintro e w8 ⟨rfl, hb⟩; have HC8 := Lib.hid (HC7.out.grow hb); have HB8 := Lib.hid (HB7.out.trans (hb.mono HB7.out.size)); obtain ⟨d0, d1, d2, d3, d4, d5, d6, d7, d8, d9, d10, d11⟩ := HC8.out.box.cells; obtain ⟨k0, k1⟩ := HC8.out.pbox.cells; simp only at d0 d1 d2 d3 d4 d5 d6 d7 d8 d9 d10 d11; clear hb))
    go_ret
    exact ⟨ret_int (by rw [HR.out]; simp [HK.out, hp, hq]), HB8.out⟩
end Go.Proofs.YtfoenfipefhpoaaGreatDoor.Pl
/-
  Check: the first error of any plan, and where. Conditions: the library's table of powers holds what it was laid with.
-/
namespace Go.Proofs.YtfoenfipefhpoaaGreatDoor.Pl
open Go.RowKit Go.Proofs.YtfoenfipefhpoaaGreatDoor.Ex

theorem topsErr_drop (L : List Top) (k : Nat) (hk : k < L.length) : topsErr (L.take k) (L.drop k) = if topErr (L.take k) L[k] = 0 then topsErr (L.take (k + 1)) (L.drop (k + 1)) else some (1 + k, topErr (L.take k) L[k]) := by
  have hl : (L.take k).length = k := by rw [List.length_take]; omega
  rw [List.drop_eq_getElem_cons hk]
  simp only [topsErr, hl]
  rw [List.take_succ_eq_append_getElem hk]
theorem flwsErr_drop (ts : List Top) (all L : List Flw) (k : Nat) (hk : k < L.length) : flwsErr ts all (L.take k) (L.drop k) = if flwErr ts all (L.take k) L[k] = 0 then flwsErr ts all (L.take (k + 1)) (L.drop (k + 1)) else some (101 + k, flwErr ts all (L.take k) L[k]) := by
  have hl : (L.take k).length = k := by rw [List.length_take]; omega
  rw [List.drop_eq_getElem_cons hk]
  simp only [flwsErr, hl]
  rw [List.take_succ_eq_append_getElem hk]
theorem checkFlow_at {w : World} {at_ : Option Addr} {nt ct : Nat} {af : Option Addr} {nf cf i : Nat} {ts : List Top} {es : List FE} (ht : TopsAt w (.slice at_ nt ct) ts) (hf : FlwsAt w (.slice af nf cf) es) (hT : Tab w) {fs : List Flw} (hfs : es.map FE.f = fs) (hi : i < fs.length)
    {R : Int} (hR : flwErr ts fs (fs.take i) fs[i] = R) :
    Calls Tryz.prog 37 #[.agg #[.slice at_ nt ct, .slice af nf cf], .int .i64 i] w fun e w' => e = .returned (.int .i64 R) ∧ Below w.heap.size w w' := by
  subst hfs
  have hi' : i < es.length := by simpa using hi
  refine checkFlow_any ht hf hT hi' ?_
  rw [← hR]
  simp [List.map_take]
def RetAt (r : Nat × Int) (e : Ending) : Prop := e = .returned (.tuple #[.int .i64 r.1, .int .i64 r.2])
set_option maxRecDepth 20000 in
set_option maxHeartbeats 4000000 in
theorem check_any {w : World} {v : Value} {p : Pln} (h : PlnAt w v p) (hT : Tab w) : Calls Tryz.prog 24 #[v] w fun e w' => RetAt (check p) e ∧ Below w.heap.size w w' := by
  obtain ⟨vt, vf, es, rfl, ht, hf, hes⟩ := h
  obtain ⟨ts, fs⟩ := p
  simp only at ht hes
  obtain ⟨at_, ct, rfl⟩ := Lst.val ht
  obtain ⟨af, cf, rfl⟩ := hf.1.val
  obtain ⟨-, -, hm1, -⟩ := Lst.len ht
  obtain ⟨-, -, hm2, -⟩ := hf.1.len
  have hlen : es.length = fs.length := by rw [← hes]; simp
  rw [hlen] at hm2 hf
  rw [hlen]
  obtain ⟨nt, hnt⟩ : ∃ n, ts.length = n := ⟨_, rfl⟩
  obtain ⟨nf, hnf⟩ : ∃ n, fs.length = n := ⟨_, rfl⟩
  rw [hnt] at ht hm1
  rw [hnf] at hf hm2
  rw [hnt, hnf]
  unfold maxLen at hm1 hm2
  have hb0 : Below w.heap.size w (w.alloc (.cells #[.slice at_ nt ct, .slice af nf cf] 25)) := (Below.refl _ _).alloc (Nat.le_refl _) _
  have hpb : PBox (w.alloc (.cells #[.slice at_ nt ct, .slice af nf cf] 25)) w.heap.size (.slice at_ nt ct) (.slice af nf cf) := heap_alloc_new w _
  obtain ⟨R, hR⟩ : ∃ R, check ⟨ts, fs⟩ = R := ⟨_, rfl⟩
  rw [hR]
  unfold check at hR
  simp only at hR
  rw [hnt, hnf] at hR
  have HB := Lib.hid hb0
  have HP := Lib.hid hpb
  have HT1 := Lib.hid (TopsAt.grow ht hb0)
  have HF1 := Lib.hid (hf.grow hb0)
  have HTab := Lib.hid (hT.below hb0)
  have HES := Lib.hid hes
  have HNT := Lib.hid hnt
  have HNF := Lib.hid hnf
  clear hb0 hpb ht hf hT hes hlen hnt hnf
  by_cases hbig : 16 < nt ∨ 8 < nf
  · rw [if_pos hbig] at hR
    have HR : Hid (RetAt R (.returned (.tuple #[.int .i64 0, .int .i64 5]))) := Lib.hid (by rw [← hR]; rfl)
    clear hR
    rcases hbig with hb | hb
    · have hb' : (16 : Int) < (nt : Int) := by omega
      go_enter Tryz.func24, Tryz.ntmps24
      go_wp2
      go_ret2
      exact ⟨HR.out, HB.out⟩
    · by_cases hb2 : 16 < nt
      · have hb' : (16 : Int) < (nt : Int) := by omega
        go_enter Tryz.func24, Tryz.ntmps24
        go_wp2
        go_ret2
        exact ⟨HR.out, HB.out⟩
      · have hb' : ¬ (16 : Int) < (nt : Int) := by omega
        have hb'' : (8 : Int) < (nf : Int) := by omega
        go_enter Tryz.func24, Tryz.ntmps24
        go_wp2
        go_ret2
        exact ⟨HR.out, HB.out⟩
  rw [if_neg hbig] at hR
  have hb1 : ¬ (16 : Int) < (nt : Int) := by omega
  have hb2 : ¬ (8 : Int) < (nf : Int) := by omega
  have HR := Lib.hid hR
  clear hR
  go_enter Tryz.func24, Tryz.ntmps24
  go_wp2
  generalize hW : w.alloc (.cells #[.slice at_ nt ct, .slice af nf cf] 25) = W at HB HP HT1 HF1 HTab ⊢
  clear hW
  obtain ⟨bp, hbp⟩ : ∃ bp, w.heap.size = bp := ⟨_, rfl⟩
  have HB0 := HB
  rw [hbp] at HP ⊢
  clear hbp
  obtain ⟨X, hX⟩ : ∃ X, topsErr [] ts = X := ⟨_, rfl⟩
  rw [hX] at HR
  have HX := Lib.hid hX
  clear hX
  go_loopw [21] (fun i wr => ∃ k : Nat, k ≤ nt ∧ i = .int .i64 k ∧ Hid (topsErr (ts.take k) (ts.drop k) = X) ∧ Hid (Below W.heap.size W wr)) (fun i _ => nt - (intOf i).toNat)
  case atStart => exact ⟨0, Nat.zero_le _, rfl, by simpa using HX, Below.refl _ _⟩
  case round =>
    obtain ⟨k, hk, rfl, hr, hb⟩ := hrel
    obtain ⟨p0, p1⟩ := (HP.out.grow hb.out).cells
    by_cases hlt : k < nt
    · have hkl : k < ts.length := by rw [HNT.out]; exact hlt
      have hd := topsErr_drop ts k hkl
      rw [hr.out] at hd
      obtain ⟨z, hz⟩ : ∃ z, topErr (ts.take k) ts[k] = z := ⟨_, rfl⟩
      rw [hz] at hd
      have HZ := Lib.hid hz
      have HD := Lib.hid hd
      have HTr := Lib.hid (HT1.out.grow hb.out)
      clear hz hd hr
      by_cases h0 : z = 0
      · have e0 := inebf h0
        have HD2 : Hid (topsErr (ts.take (k + 1)) (ts.drop (k + 1)) = X) := Lib.hid (by rw [HD.out, if_pos h0])
        clear h0
        go_wp2_with (go_at_call 36; refine (checkTopic_any HTr.out hkl HZ.out).mono ?_; rintro e w2 ⟨rfl, hb2⟩; have HB2 := Lib.hid (hb.out.trans (hb2.mono hb.out.size)); clear hb2)
        go_roundw
        case rel => exact ⟨k + 1, by omega, by go_num, HD2, HB2⟩
        case measure => simp [intOf]; omega
      · have e0 := inebt h0
        have HD2 : Hid (RetAt R (.returned (.tuple #[.int .i64 (1 + (k : Int)), .int .i64 z]))) := Lib.hid (by rw [← HR.out, HD.out, if_neg h0]; rfl)
        clear h0
        go_wp2_with (go_at_call 36; refine (checkTopic_any HTr.out hkl HZ.out).mono ?_; rintro e w2 ⟨rfl, hb2⟩; have HB2 := Lib.hid (hb.out.trans (hb2.mono hb.out.size)); clear hb2)
        go_ret2
        exact ⟨HD2.out, HB0.out.trans (HB2.out.mono HB0.out.size)⟩
    · have hkn : k = nt := by omega
      have HX0 : Hid (X = none) := Lib.hid (by rw [← hr.out, hkn, ← HNT.out, List.drop_length]; rfl)
      clear hr hkn
      obtain ⟨Y, hY⟩ : ∃ Y, flwsErr ts fs [] fs = Y := ⟨_, rfl⟩
      have hR2 := HR.out
      rw [HX0.out] at hR2
      simp only at hR2
      rw [hY] at hR2
      have HR2 := Lib.hid hR2
      have HY := Lib.hid hY
      clear hR2 hY
      go_wp2
      rename World => wq
      go_loopw [37] (fun i wr => ∃ k : Nat, k ≤ nf ∧ i = .int .i64 k ∧ Hid (flwsErr ts fs (fs.take k) (fs.drop k) = Y) ∧ Hid (Below W.heap.size W wr)) (fun i _ => nf - (intOf i).toNat)
      case atStart => exact ⟨0, Nat.zero_le _, rfl, by simpa using HY, hb⟩
      case round =>
        obtain ⟨j, hj, rfl, hr, hb'⟩ := hrel
        obtain ⟨p0, p1⟩ := (HP.out.grow hb'.out).cells
        by_cases hlt2 : j < nf
        · have hkl : j < fs.length := by rw [HNF.out]; exact hlt2
          have hd := flwsErr_drop ts fs fs j hkl
          rw [hr.out] at hd
          obtain ⟨z, hz⟩ : ∃ z, flwErr ts fs (fs.take j) fs[j] = z := ⟨_, rfl⟩
          rw [hz] at hd
          have HZ := Lib.hid hz
          have HD := Lib.hid hd
          have HTr := Lib.hid (HT1.out.grow hb'.out)
          have HFr := Lib.hid (HF1.out.grow hb'.out)
          have HTb := Lib.hid (HTab.out.below hb'.out)
          clear hz hd hr
          by_cases h0 : z = 0
          · have e0 := inebf h0
            have HD2 : Hid (flwsErr ts fs (fs.take (j + 1)) (fs.drop (j + 1)) = Y) := Lib.hid (by rw [HD.out, if_pos h0])
            clear h0
            go_wp2_with (go_at_call 37; refine (checkFlow_at HTr.out HFr.out HTb.out HES.out hkl HZ.out).mono ?_; rintro e w2 ⟨rfl, hb2⟩; have HB2 := Lib.hid (hb'.out.trans (hb2.mono hb'.out.size)); clear hb2)
            go_roundw
            case rel => exact ⟨j + 1, by omega, by go_num, HD2, HB2⟩
            case measure => simp [intOf]; omega
          · have e0 := inebt h0
            have HD2 : Hid (RetAt R (.returned (.tuple #[.int .i64 (101 + (j : Int)), .int .i64 z]))) := Lib.hid (by rw [← HR2.out, HD.out, if_neg h0]; rfl)
            clear h0
            go_wp2_with (go_at_call 37; refine (checkFlow_at HTr.out HFr.out HTb.out HES.out hkl HZ.out).mono ?_; rintro e w2 ⟨rfl, hb2⟩; have HB2 := Lib.hid (hb'.out.trans (hb2.mono hb'.out.size)); clear hb2)
            go_ret2
            exact ⟨HD2.out, HB0.out.trans (HB2.out.mono HB0.out.size)⟩
        · have hkn2 : j = nf := by omega
          have HD2 : Hid (RetAt R (.returned (.tuple #[.int .i64 0, .int .i64 0]))) := Lib.hid (by rw [← HR2.out, ← hr.out, hkn2, ← HNF.out, List.drop_length]; rfl)
          clear hr hkn2
          go_wp2
          go_ret2
          exact ⟨HD2.out, HB0.out.trans (hb'.out.mono HB0.out.size)⟩
end Go.Proofs.YtfoenfipefhpoaaGreatDoor.Pl
