/-
  A journal of the program in memory; Len, checkName, contentOf; the law's helper that compares slices of records. Conditions: none but those that each theorem names.
-/
import Derived.Test.YtkiombbdddbkfaaRecs
import Derived.BigQuiet
namespace Go.Proofs.Ytkiombbdddbkfaa.Jn
open Go.RowKit Go.Proofs.Ytkiombbdddbkfaa.Pk Go.Proofs.Ytkiombbdddbkfaa.Dk
set_option linter.unusedVariables false

/-- Block jb is a journal. -/
def JAt (w : World) (jb d : Nat) (name : ByteArray) (cnt : Nat) (down : Bool) : Prop :=
  w.heap[jb]? = some (.cells #[.pointer (some ⟨d, 0, none⟩), .string name, .int .i64 (cnt : Int), .bool down] 65 (0, 0))
section
variable {w w' : World} {jb d cnt : Nat} {name : ByteArray} {down : Bool} {X : Nat → Prop}
theorem JAt.c0 (h : JAt w jb d name cnt down) : w.cell? ⟨jb, 0, none⟩ = some (.pointer (some ⟨d, 0, none⟩)) := by unfold JAt at h; simp [World.cell?, h]
theorem JAt.c1 (h : JAt w jb d name cnt down) : w.cell? ⟨jb, 1, none⟩ = some (.string name) := by unfold JAt at h; simp [World.cell?, h]
theorem JAt.c2 (h : JAt w jb d name cnt down) : w.cell? ⟨jb, 2, none⟩ = some (.int .i64 cnt) := by unfold JAt at h; simp [World.cell?, h]
theorem JAt.c3 (h : JAt w jb d name cnt down) : w.cell? ⟨jb, 3, none⟩ = some (.bool down) := by unfold JAt at h; simp [World.cell?, h]
theorem JAt.fz (h : JAt w jb d name cnt down) (o : Nat) : w.frozen? ⟨jb, o, none⟩ = false := by unfold JAt at h; simp [World.frozen?, h]
theorem JAt.set2 (h : JAt w jb d name cnt down) (n : Nat) : JAt (w.setCell ⟨jb, 2, none⟩ (.int .i64 (n : Int))) jb d name n down := by
  unfold JAt at h ⊢; simp [World.setCell, Array.getElem?_modify, h]
theorem JAt.set3 (h : JAt w jb d name cnt down) (u : Bool) : JAt (w.setCell ⟨jb, 3, none⟩ (.bool u)) jb d name cnt u := by
  unfold JAt at h ⊢; simp [World.setCell, Array.getElem?_modify, h]
theorem JAt.kept (h : JAt w jb d name cnt down) (hk : Kept X w w') (hX : X jb) : JAt w' jb d name cnt down := (hk jb hX).trans h
theorem JAt.below (h : JAt w jb d name cnt down) {B : Nat} (hb : Below B w w') (hB : jb < B) : JAt w' jb d name cnt down := (hb.block jb hB).trans h
theorem JAt.lt (h : JAt w jb d name cnt down) : jb < w.heap.size := (Array.getElem?_eq_some_iff.1 h).1

set_option maxHeartbeats 400000 in
theorem len_any (h : JAt w jb d name cnt down) : Calls Try.prog 14 #[.pointer (some ⟨jb, 0, none⟩)] w fun e w' => e = .returned (.int .i64 cnt) ∧ w = w' := by
  have c2 := h.c2
  go_enter Try.func14, Try.ntmps14
  go_wp2
  go_ret
  exact ⟨rfl, rfl⟩
set_option maxHeartbeats 400000 in
theorem len_nil (w : World) : Calls Try.prog 14 #[.pointer none] w fun e w' => e = .returned (.int .i64 0) ∧ w = w' := by
  go_enter Try.func14, Try.ntmps14
  go_wp2
  go_ret
  exact ⟨rfl, rfl⟩
set_option maxHeartbeats 400000 in
theorem add_nil (w : World) (v : Value) : Calls Try.prog 12 #[.pointer none, v] w fun e w' => e = .returned (.int .i64 3) ∧ w = w' := by
  go_enter Try.func12, Try.ntmps12
  go_wp2
  go_ret
  exact ⟨rfl, rfl⟩
end

/-! ### comparing -/
set_option maxRecDepth 20000 in
set_option maxHeartbeats 1000000 in
/-- Two slices of the same records are found to be the same. -/
theorem same_yes {w : World} {X Y : Nat → Prop} {A A' : Option Addr} {n n' c c' : Nat} {L : List Bs} (h : Recs w X A n L) (h' : Recs w Y A' n' L) (hn : n ≤ maxLen) :
    Calls Try.prog 11 #[.slice A n c, .slice A' n' c'] w fun e w' => e = .returned (.bool true) ∧ ∃ k, w' = w.drewN k := by
  unfold maxLen at hn
  obtain rfl : n = n' := h.1.symm.trans h'.1
  have H1 := Lib.hid h
  have H2 := Lib.hid h'
  clear h h'
  go_enter Try.func11, Try.ntmps11
  go_wp2
  go_loopw [5] (fun i wr => ∃ k d : Nat, k ≤ n ∧ i = .int .i64 k ∧ wr = w.drewN d) (fun i _ => n - (intOf i).toNat)
  case atStart => exact ⟨0, 0, Nat.zero_le _, rfl, rfl⟩
  case round =>
    obtain ⟨k, d, hk, rfl, rfl⟩ := hrel
    by_cases hlt : k < n
    · have hki : (k : Int) < (n : Int) := by omega
      obtain ⟨r, hr⟩ : ∃ r, L[k]? = some r := ⟨_, List.getElem?_eq_getElem (by rw [H1.out.1]; exact hlt)⟩
      obtain ⟨g, o, Ai, ci, rfl, -, hc, hl⟩ := H1.out.2 k r hr
      obtain ⟨g', o', Ai', ci', rfl, -, hc', hl'⟩ := H2.out.2 k r hr
      have hv1 : ∀ nq, (convert 23 9 (.slice Ai r.length ci)).run Try.prog (w.drewN nq) = .ok (.string ⟨r.toArray⟩) (w.drewN nq) := fun nq => conv_str rfl (hl.lies.drewN nq)
      have hv2 : ∀ nq, (convert 23 9 (.slice Ai' r.length ci')).run Try.prog (w.drewN nq) = .ok (.string ⟨r.toArray⟩) (w.drewN nq) := fun nq => conv_str rfl (hl'.lies.drewN nq)
      clear hr hl hl'
      go_wp2
      go_quiet (fail)
      go_wp2
      go_roundw
      case rel => exact ⟨k + 1, _, by omega, by go_num, rfl⟩
      case measure => simp [intOf]; omega
    · have hki : ¬ (k : Int) < (n : Int) := by omega
      go_wp2
      go_ret
      exact ⟨rfl, _, rfl⟩

/-! ### names and contents -/
theorem append_new {k : Nm} : appendD newD k [] = (if isName k = true then 0 else 51, (appendD newD k []).2) := by
  cases h : isName k with
  | true =>
    have : (appendD newD k []).1 = 0 := by unfold appendD; rw [if_neg (by decide), if_neg (by simp [h])]; rfl
    exact Prod.ext this rfl
  | false =>
    have : (appendD newD k []).1 = 51 := by unfold appendD; rw [if_neg (by decide), if_pos h]
    exact Prod.ext this rfl
set_option maxHeartbeats 400000 in
theorem checkName_any (name : ByteArray) (w : World) (hs : name.size ≤ maxLen) : Calls Try.prog 48 #[.string name] w fun e w' => e = .returned (.int .i64 (if isName name.data.toList = true then 0 else 51)) ∧ Below w.heap.size w w' := by
  have ha := append_new (k := name.data.toList)
  generalize (if isName name.data.toList = true then (0 : Int) else 51) = r at ha ⊢
  go_enter Try.func48, Try.ntmps48
  go_wp2_with (first
    | (go_at_call 8; refine (Fresh.new (X := fun _ => False) (fun _ h => h.elim) (Below.refl w.heap.size w)).mono ?_; rintro e w1 ⟨d, rfl, h0, -⟩)
    | (go_at_call 20; refine (h0.append (l' := []) hs rfl Lies.none_ (by decide) ha).mono ?_; rintro e w2 ⟨rfl, h1, -⟩))
  go_ret
  exact ⟨rfl, h1.bel⟩

/-- The code with which Open begins. -/
def contR (s : Ds) (k : Nm) : Int := if s.off then 20 else if isName k = false then 51 else 0
theorem read_on {s : Ds} {k : Nm} (ho : s.off = false) : readD s k = dataOf s k := by
  unfold dataOf
  cases h : get s.m k with
  | none =>
    have e : findD s k = 21 := by unfold findD; rw [if_neg (by simp [ho]), h]; rfl
    unfold readD fileOr
    rw [e, if_pos (by decide), h]; rfl
  | some f =>
    unfold readD
    rw [find_zero ho h, if_neg (by decide)]
theorem find_cases {s : Ds} (g : Dk.Good s) (k : Nm) : (s.off = true ∧ findD s k = 20 ∧ contR s k = 20 ∧ readD s k = []) ∨ (s.off = false ∧ findD s k = 21 ∧ readD s k = [] ∧ contR s k = if isName k = true then 0 else 51) ∨ (s.off = false ∧ findD s k = 0 ∧ contR s k = 0) := by
  cases ho : s.off with
  | true =>
    have e : findD s k = 20 := find_offD ho
    exact .inl ⟨rfl, e, by unfold contR; rw [if_pos ho], by unfold readD; rw [e, if_pos (by decide)]⟩
  | false =>
    cases hg : get s.m k with
    | none =>
      have e : findD s k = 21 := by unfold findD; rw [if_neg (by simp [ho]), hg]; rfl
      refine .inr (.inl ⟨rfl, e, by unfold readD; rw [e, if_pos (by decide)], ?_⟩)
      unfold contR
      rw [if_neg (by simp [ho])]
      cases isName k <;> rfl
    | some f =>
      have hn : isName k = true := g.names _ (get_mem hg)
      exact .inr (.inr ⟨rfl, find_zero ho hg, by unfold contR; rw [if_neg (by simp [ho]), if_neg (by simp [hn])]⟩)

section
variable {X : Nat → Prop} {w0 w w' : World} {d : Nat} {s s' : Ds}
/-- What contentOf hands back. -/
def Content (X : Nat → Prop) (w0 w : World) (d : Nat) (s : Ds) (r : Int) (l : Bs) (e : Ending) (w' : World) : Prop :=
  ∃ A c, e = .returned (.tuple #[.slice A l.length c, .int .i64 r]) ∧ w'.ownsRow w.heap.size 5 1 (.slice A l.length c) l.length (cells l) ∧ Fresh (More X w w') w0 w' d s ∧ Below w.heap.size w w'
set_option maxHeartbeats 1000000 in
theorem contentOf_any {name : ByteArray} (h : Fresh X w0 w d s) (hs : name.size ≤ maxLen) : Calls Try.prog 28 #[.pointer (some ⟨d, 0, none⟩), .string name] w (Content X w0 w d s (contR s name.data.toList) (readD s name.data.toList)) := by
  have HF := Lib.hid h
  rcases find_cases h.good name.data.toList with ⟨-, e1, e2, e3⟩ | ⟨-, e1, e3, e2⟩ | ⟨-, e1, e2⟩
  · rw [e2, e3]
    clear h e2
    go_enter Try.func28, Try.ntmps28
    go_wp2_with (go_at_call 27; refine (HF.out.read hs e1 e3).mono ?_; rintro e w1 ⟨A, c, rfl, hown, -, hF1, hb⟩)
    go_ret2
    exact ⟨A, c, rfl, hown, hF1, hb⟩
  · rw [e2, e3]
    clear h e2
    have HC := Lib.hid fun w => checkName_any name w hs
    generalize (if isName name.data.toList = true then (0 : Int) else 51) = r at HC ⊢
    go_enter Try.func28, Try.ntmps28
    go_wp2_with (first
      | (go_at_call 27; refine (HF.out.read hs e1 e3).mono ?_; rintro e w1 ⟨A, c, rfl, -, -, -, hb⟩)
      | (go_at_call 48; refine (HC.out _).mono ?_; rintro e w2 ⟨rfl, hb2⟩))
    go_ret2
    have hb' : Below w.heap.size w w2 := hb.trans (hb2.mono hb.size)
    exact ⟨none, 0, rfl, World.ownsRow_nil _ _ _ _, HF.out.keep hb', hb'⟩
  · rw [e2]
    clear h e2
    go_enter Try.func28, Try.ntmps28
    go_wp2_with (go_at_call 27; refine (HF.out.read hs e1 rfl).mono ?_; rintro e w1 ⟨A, c, rfl, hown, -, hF1, hb⟩)
    go_ret2
    exact ⟨A, c, rfl, hown, hF1, hb⟩
set_option maxHeartbeats 400000 in
theorem contentOf_nil (name : ByteArray) (w : World) : Calls Try.prog 28 #[.pointer none, .string name] w fun e w' => e = .returned (.tuple #[.slice none 0 0, .int .i64 3]) ∧ w = w' := by
  go_enter Try.func28, Try.ntmps28
  go_wp2_with (go_at_call 27; refine (read_err (r := 3) (by decide) (find_nil _ _)).mono ?_; rintro e w' ⟨rfl, rfl⟩)
  go_ret2
  exact ⟨rfl, rfl⟩
end
end Go.Proofs.Ytkiombbdddbkfaa.Jn
