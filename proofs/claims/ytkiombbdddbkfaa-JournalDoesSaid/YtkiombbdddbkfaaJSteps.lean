/-
  What Open and Add do to a disk's state, case by case. Conditions: none but those that each theorem names.
-/
import Derived.Test.YtkiombbdddbkfaaAdd
namespace Go.Proofs.Ytkiombbdddbkfaa.Jn
open Go.RowKit Go.Proofs.Ytkiombbdddbkfaa.Pk Go.Proofs.Ytkiombbdddbkfaa.Dk
set_option linter.unusedVariables false

def J : Nm := (⟨#[106]⟩ : ByteArray).data.toList
theorem j_name : isName J = true := by decide
theorem j_small : (⟨#[106]⟩ : ByteArray).size ≤ maxLen := by decide

section
variable {s : Ds} {k : Nm} {b : Bs}
theorem store_ok (ho : s.off = false) (h1 : s.fuse ≠ 1) (h2 : s.fuse ≠ 2) (hn : isName k = true) (hl : (dataOf s k).length + b.length ≤ 16777216) :
    ∃ t, store s k b = (0, t) ∧ t.off = false ∧ t.deeds = s.deeds + 2 ∧ t.fuse = s.fuse - 2 ∧ t.keep = s.keep ∧ get t.m k = some ⟨dataOf s k ++ b, (dataOf s k ++ b).length⟩ := by
  obtain ⟨t, e, t1, t2, t3, t4, t5⟩ := app_ok (b := b) ho h1 hn hl
  obtain ⟨p1, p2⟩ := fileOr_put t5
  obtain ⟨u, e', u1, u2, u3, u4, u5⟩ := syn_ok t1 (by omega) p2
  obtain ⟨q1, q2⟩ := fileOr_put u5
  refine ⟨u, ?_, u1, by omega, by omega, by rw [u4, t4], q2⟩
  unfold store
  rw [e]
  exact (if_neg (by simp)).trans e'
theorem store_hit1 (ho : s.off = false) (h1 : s.fuse = 1) (hn : isName k = true) (hl : (dataOf s k).length + b.length ≤ 16777216) :
    ∃ t, store s k b = (20, t) ∧ t.off = true ∧ t.deeds = s.deeds + 1 ∧ t.fuse = 0 ∧ get t.m k = some (lose s.keep ⟨dataOf s k ++ b, (fileOr s k).safe⟩) := by
  obtain ⟨t, e, t1, t2, t3, t4, t5⟩ := app_hit (b := b) ho h1 hn hl
  refine ⟨t, ?_, t1, t2, t3, ?_⟩
  · unfold store; rw [e]; exact if_pos (by show (20 : Int) ≠ 0; decide)
  · rw [t5, get_loseAll, get_put_same]; rfl
theorem store_hit2 (ho : s.off = false) (h1 : s.fuse = 2) (hn : isName k = true) (hl : (dataOf s k).length + b.length ≤ 16777216) :
    ∃ t, store s k b = (20, t) ∧ t.off = true ∧ t.deeds = s.deeds + 2 ∧ t.fuse = 0 ∧ get t.m k = some (lose s.keep ⟨dataOf s k ++ b, (fileOr s k).safe⟩) := by
  obtain ⟨t, e, t1, t2, t3, t4, t5⟩ := app_ok (b := b) ho (by omega) hn hl
  obtain ⟨p1, p2⟩ := fileOr_put t5
  obtain ⟨u, e', u1, u2, u3, u4, u5⟩ := syn_hit t1 (by omega) p2
  refine ⟨u, ?_, u1, by omega, u3, ?_⟩
  · unfold store; rw [e]; exact (if_neg (by simp)).trans e'
  · rw [u5, t4, get_loseAll, p2]; rfl
theorem cut_fine {f : Fl} {n : Nat} (ho : s.off = false) (hf : s.fuse ≠ 1) (hg : get s.m k = some f) (hn : n ≤ f.data.length) :
    ∃ t, cutD s k (n : Int) = (0, t) ∧ t.off = false ∧ t.deeds = s.deeds + 1 ∧ t.fuse = s.fuse - 1 ∧ t.keep = s.keep ∧ get t.m k = some ⟨f.data.take n, min f.safe n⟩ := by
  have h0 := find_zero ho hg
  have e : cutD s k (n : Int) = ends (strike s) fun t => withFile t k ⟨f.data.take n, min f.safe n⟩ := by
    unfold cutD
    rw [if_neg (by simp [h0]), fileOr_some hg, if_neg (by omega)]
    simp only [Int.toNat_natCast]
  rw [e, ends_ok (by rw [strike_fst, decide_eq_false hf]), strike_no hf]
  exact ⟨_, rfl, ho, rfl, rfl, rfl, get_put_same _ _ _⟩
theorem cut_struck {f : Fl} {n : Nat} (ho : s.off = false) (hf : s.fuse = 1) (hg : get s.m k = some f) (hn : n ≤ f.data.length) :
    ∃ t, cutD s k (n : Int) = (20, t) ∧ t.off = true ∧ t.deeds = s.deeds + 1 ∧ t.fuse = 0 ∧ get t.m k = some (lose s.keep f) := by
  have h0 := find_zero ho hg
  have e : cutD s k (n : Int) = ends (strike s) fun t => withFile t k ⟨f.data.take n, min f.safe n⟩ := by
    unfold cutD
    rw [if_neg (by simp [h0]), fileOr_some hg, if_neg (by omega)]
    simp only [Int.toNat_natCast]
  rw [e, ends_hit (by rw [strike_fst, decide_eq_true hf]), strike_yes hf ho]
  refine ⟨_, rfl, rfl, rfl, rfl, ?_⟩
  show get (loseAll s.keep s.m) k = _
  rw [get_loseAll, hg]; rfl
/-- Open when nothing fails in it. -/
theorem open_fine (ho : s.off = false) (hf : s.fuse ≠ 1 ∨ used (dataOf s k) = (dataOf s k).length) (hn : isName k = true) :
    ∃ t, openD s k = (0, t) ∧ t.off = false ∧ t.deeds ≤ s.deeds + 1 ∧ t.fuse ≤ s.fuse ∧ t.keep = s.keep ∧ dataOf t k = bytesOf (recs (dataOf s k)) := by
  have e : openD s k = openCut s k := by unfold openD; rw [if_neg (by simp [ho]), if_neg (by simp [hn])]
  have hle := used_le (dataOf s k)
  rw [e]
  unfold openCut
  by_cases hu : used (dataOf s k) < (dataOf s k).length
  · rw [if_pos hu]
    cases hg : get s.m k with
    | none =>
      have : dataOf s k = [] := by unfold dataOf fileOr; rw [hg]; rfl
      rw [this] at hu; simp at hu
    | some f =>
      have hd : dataOf s k = f.data := by unfold dataOf; rw [fileOr_some hg]
      obtain ⟨t, e1, t1, t2, t3, t4, t5⟩ := cut_fine ho (by omega) hg (n := used (dataOf s k)) (by rw [← hd]; exact hle)
      refine ⟨t, e1, t1, by omega, by omega, t4, ?_⟩
      show (fileOr t k).data = _
      rw [fileOr_some t5, ← take_used, hd]
  · rw [if_neg hu]
    refine ⟨s, rfl, ho, Nat.le_succ _, Nat.le_refl _, rfl, ?_⟩
    have h1 := take_used (dataOf s k)
    rw [List.take_of_length_le (by omega)] at h1
    exact h1
theorem dataOf_get {f : Fl} (h : get s.m k = some f) : dataOf s k = f.data := by unfold dataOf; rw [fileOr_some h]
theorem dataOf_new : dataOf newD k = [] := rfl
theorem add_store {r : Bs} (h : r.length ≤ 1048576) : addD s k false r = store s k (frame r) := by unfold addD; rw [if_neg (by decide), if_neg (by omega)]
/-- A calm Add. -/
theorem add_fine {r : Bs} (ho : s.off = false) (hf : s.fuse = 0) (hn : isName k = true) (hr : r.length ≤ 1048576) (hl : (dataOf s k).length + (8 + r.length) ≤ 16777216) :
    ∃ t, addD s k false r = (0, t) ∧ t.off = false ∧ t.deeds = s.deeds + 2 ∧ t.fuse = 0 ∧ dataOf t k = dataOf s k ++ frame r := by
  obtain ⟨t, e, t1, t2, t3, t4, t5⟩ := store_ok (b := frame r) ho (by omega) (by omega) hn (by rw [frame_length]; exact hl)
  exact ⟨t, by rw [add_store hr, e], t1, t2, by omega, dataOf_get t5⟩
end

/-! ### the calls at the laws' own name -/
section
variable {X : Nat → Prop} {w0 w w' : World} {d jb cnt : Nat} {s s' : Ds} {down : Bool}
theorem openJ {L : List Bs} (h : Fresh X w0 w d s) (hd : s.deeds < 1000000) (he : openD s J = (0, s')) (hL : recs (dataOf s J) = L) :
    Calls Try.prog 9 #[.pointer (some ⟨d, 0, none⟩), .string ⟨#[106]⟩] w (Opened X w0 w d ⟨#[106]⟩ L s') := open_ok h j_small (by omega) he hL
theorem openJ_no {r : Int} (h : Fresh X w0 w d s) (hd : s.deeds < 1000000) (he : openD s J = (r, s')) (hr : r ≠ 0) :
    Calls Try.prog 9 #[.pointer (some ⟨d, 0, none⟩), .string ⟨#[106]⟩] w (NotOpened X w0 w d s' r) := open_no h j_small (by omega) he hr
theorem addJ {A : Option Addr} {m c : Nat} {l : Bs} {r : Int} (h : Fresh X w0 w d s) (hX : X jb) (hjw : w0.heap.size ≤ jb) (hj : JAt w jb d ⟨#[106]⟩ cnt down) (hl : l.length = m) (hm : m ≤ maxLen) (hL : Lies w w.heap.size A l) (hd : s.deeds < 1000000) (hcnt : cnt < 4611686018427387904) (he : addD s J down l = (r, s')) :
    Calls Try.prog 12 #[.pointer (some ⟨jb, 0, none⟩), .slice A m c] w (Added X w0 w d jb ⟨#[106]⟩ (if r = 0 then cnt + 1 else cnt) (down || r == 20) r s') := add_any h hX hjw hj j_small hl hm hL (by omega) hcnt he
theorem addJ_ok {A : Option Addr} {m c : Nat} {l : Bs} (h : Fresh X w0 w d s) (hX : X jb) (hjw : w0.heap.size ≤ jb) (hj : JAt w jb d ⟨#[106]⟩ cnt false) (hl : l.length = m) (hm : m ≤ maxLen) (hL : Lies w w.heap.size A l) (hd : s.deeds < 1000000) (hcnt : cnt < 4611686018427387904) (he : addD s J false l = (0, s')) :
    Calls Try.prog 12 #[.pointer (some ⟨jb, 0, none⟩), .slice A m c] w (Added X w0 w d jb ⟨#[106]⟩ (cnt + 1) false 0 s') := addJ h hX hjw hj hl hm hL hd hcnt he
theorem appendJ {A : Option Addr} {m c : Nat} {l : Bs} {r : Int} (h : Fresh X w0 w d s) (hl : l.length = m) (hL : Lies w w.heap.size A l) (hd : s.deeds < 1000000) (he : appendD s J l = (r, s')) :
    Calls Try.prog 20 #[.pointer (some ⟨d, 0, none⟩), .string ⟨#[106]⟩, .slice A m c] w fun e w' => e = .returned (.int .i64 r) ∧ Fresh X w0 w' d s' ∧ Kept X w w' := h.append j_small hl hL (by omega) he
theorem readJ {r : Int} {l : Bs} (h : Fresh X w0 w d s) (he : findD s J = r) (hl : readD s J = l) :
    Calls Try.prog 27 #[.pointer (some ⟨d, 0, none⟩), .string ⟨#[106]⟩] w fun e w' => ∃ A c, e = .returned (.tuple #[.slice A l.length c, .int .i64 r]) ∧ w'.ownsRow w.heap.size 5 1 (.slice A l.length c) l.length (cells l) ∧ (∀ g, (Value.slice A l.length c).ownBlock = some g → More X w w' g) ∧ Fresh (More X w w') w0 w' d s ∧ Below w.heap.size w w' := h.read j_small he hl
end
end Go.Proofs.Ytkiombbdddbkfaa.Jn
