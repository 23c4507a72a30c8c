/-
  Add of the program's journal, over a disk of a law's own. Conditions: few deeds, the record lies in memory.
-/
import Derived.Test.YtkiombbdddbkfaaOpen
namespace Go.Proofs.Ytkiombbdddbkfaa.Jn
open Go.RowKit Go.Proofs.Ytkiombbdddbkfaa.Pk Go.Proofs.Ytkiombbdddbkfaa.Dk
set_option linter.unusedVariables false

section
variable {X : Nat → Prop} {w0 w w' : World} {d jb cnt : Nat} {s s' : Ds} {name : ByteArray} {down : Bool}
theorem ends_deeds' (s : Ds) (f : Ds → Ds) (hf : ∀ t, (f t).deeds = t.deeds) : (ends (strike s) f).2.deeds = s.deeds + 1 := by
  unfold ends
  split
  · exact (strike_m s).2
  · show (f _).deeds = _
    rw [hf]; exact (strike_m s).2
theorem append_deeds {k : Nm} {b : Bs} {r : Int} (h : appendD s k b = (r, s')) : s'.deeds ≤ s.deeds + 1 := by
  have e : s' = (appendD s k b).2 := by rw [h]
  rw [e]
  unfold appendD
  split
  · exact Nat.le_succ _
  split
  · exact Nat.le_succ _
  split
  · exact Nat.le_succ _
  · exact Nat.le_of_eq (ends_deeds' _ _ (fun _ => rfl))
theorem store_cases {k : Nm} {b : Bs} {r : Int} (h : store s k b = (r, s')) : (∃ q, q ≠ 0 ∧ appendD s k b = (q, s') ∧ r = q) ∨ (∃ t, appendD s k b = (0, t) ∧ syncD t k = (r, s')) := by
  unfold store at h
  split at h
  · rename_i hq
    exact .inl ⟨r, by rw [h] at hq; exact hq, h, rfl⟩
  · rename_i hq
    exact .inr ⟨(appendD s k b).2, Prod.ext (by simpa using hq) rfl, h⟩

set_option maxRecDepth 20000 in
set_option maxHeartbeats 2000000 in
theorem store_any {A : Option Addr} {m c : Nat} {b : Bs} {r : Int} (h : Fresh X w0 w d s) (hX : X jb) (hj : JAt w jb d name cnt down) (hs : name.size ≤ maxLen) (hl : b.length = m) (hL : Lies w w.heap.size A b) (hd : s.deeds + 1 < 4611686018427387904) (he : store s name.data.toList b = (r, s')) :
    Calls Try.prog 35 #[.pointer (some ⟨jb, 0, none⟩), .slice A m c] w fun e w' => e = .returned (.int .i64 r) ∧ Fresh X w0 w' d s' ∧ Kept X w w' := by
  have c0 := hj.c0
  have c1 := hj.c1
  have HF := Lib.hid h
  have HJ := Lib.hid hj
  have HL := Lib.hid hL
  have Hl := Lib.hid hl
  rcases store_cases he with ⟨q, hq, ha, rfl⟩ | ⟨t, ha, hsy⟩
  · have hq' : (r != 0) = true := by simpa using hq
    have HA := Lib.hid ha
    clear h hj hl hL he ha hq
    go_enter Try.func35, Try.ntmps35
    go_wp2
    go_region_with (go_at_call 20; refine ((HF.out.drewN 1).append hs Hl.out (HL.out.drewN 1) (by omega) HA.out).mono ?_; rintro e w2 ⟨rfl, hF2, hK2⟩)
    all_goals
      go_wp2
      go_ret
      exact ⟨rfl, hF2, hK2⟩
  · have HA := Lib.hid ha
    have HS := Lib.hid hsy
    have hdt : t.deeds ≤ s.deeds + 1 := append_deeds ha
    have HX := Lib.hid hX
    clear h hj hl hL he ha hsy hX
    go_enter Try.func35, Try.ntmps35
    go_wp2
    go_region_with (go_at_call 20; refine ((HF.out.drewN 1).append hs Hl.out (HL.out.drewN 1) (by omega) HA.out).mono ?_; rintro e w2 ⟨rfl, hF2, hK2⟩)
    all_goals
      have c0' := ((show JAt (w.drewN 1) jb d name cnt down from HJ.out).kept hK2 HX.out).c0
      have c1' := ((show JAt (w.drewN 1) jb d name cnt down from HJ.out).kept hK2 HX.out).c1
      have HF2 := Lib.hid hF2
      have HK2 := Lib.hid hK2
      clear hF2 hK2
      go_wp2
      go_region_with (go_at_call 52; refine ((HF2.out.drewN 1).sync hs (by omega) HS.out).mono ?_; rintro e w3 ⟨rfl, hF3, hK3⟩)
    all_goals
      go_wp2
      go_ret
      exact ⟨rfl, hF3, fun b hb => (hK3 b hb).trans (HK2.out b hb)⟩

/-- All of X is as it was but block jb. -/
def KeptBut (X : Nat → Prop) (jb : Nat) (w w' : World) : Prop := ∀ b, X b → b ≠ jb → w'.heap[b]? = w.heap[b]?
theorem add_cases {k : Nm} {l : Bs} {r : Int} (h : addD s k false l = (r, s')) : (1048576 < l.length ∧ r = 2 ∧ s' = s) ∨ (l.length ≤ 1048576 ∧ store s k (frame l) = (r, s')) := by
  unfold addD at h
  rw [if_neg (by decide)] at h
  split at h
  · injection h with h1 h2; exact .inl ⟨by assumption, h1.symm, h2.symm⟩
  · exact .inr ⟨by omega, h⟩
theorem fresh_only (h : Fresh X w0 w d s) (ho : Only jb w w') (hX : X jb) (hj : w0.heap.size ≤ jb) : Fresh X w0 w' d s :=
  (h.grown ho.grown (fun g e => by injection e with e; subst e; exact ⟨hX, hj⟩)).low fun _ hb => .inl hb
/-- What Add leaves. -/
def Added (X : Nat → Prop) (w0 w : World) (d jb : Nat) (name : ByteArray) (cnt : Nat) (down : Bool) (r : Int) (s' : Ds) (e : Ending) (w' : World) : Prop :=
  e = .returned (.int .i64 r) ∧ Fresh X w0 w' d s' ∧ JAt w' jb d name cnt down ∧ KeptBut X jb w w'

set_option maxHeartbeats 1000000 in
theorem add_down {v : Value} (h : Fresh X w0 w d s) (hj : JAt w jb d name cnt true) : Calls Try.prog 12 #[.pointer (some ⟨jb, 0, none⟩), v] w (Added X w0 w d jb name cnt true 20 s) := by
  have c3 := hj.c3
  go_enter Try.func12, Try.ntmps12
  go_wp2
  go_ret
  exact ⟨rfl, h, hj, fun _ _ _ => rfl⟩
set_option maxHeartbeats 1000000 in
theorem add_long {A : Option Addr} {m c : Nat} (h : Fresh X w0 w d s) (hj : JAt w jb d name cnt false) (hm : 1048576 < m) (hm2 : m ≤ maxLen) : Calls Try.prog 12 #[.pointer (some ⟨jb, 0, none⟩), .slice A m c] w (Added X w0 w d jb name cnt false 2 s) := by
  have c3 := hj.c3
  unfold maxLen at hm2
  have hmi : (1048576 : Int) < (m : Int) := by omega
  go_enter Try.func12, Try.ntmps12
  go_wp2
  go_ret
  exact ⟨rfl, h, hj, fun _ _ _ => rfl⟩
set_option maxRecDepth 20000 in
set_option maxHeartbeats 2000000 in
theorem add_ok {A : Option Addr} {m c : Nat} {l : Bs} (h : Fresh X w0 w d s) (hX : X jb) (hjw : w0.heap.size ≤ jb) (hj : JAt w jb d name cnt false) (hs : name.size ≤ maxLen) (hl : l.length = m) (hm : m ≤ 1048576) (hL : Lies w w.heap.size A l) (hd : s.deeds + 1 < 4611686018427387904) (hcnt : cnt < 4611686018427387904) (he : store s name.data.toList (frame l) = (0, s')) :
    Calls Try.prog 12 #[.pointer (some ⟨jb, 0, none⟩), .slice A m c] w (Added X w0 w d jb name (cnt + 1) false 0 s') := by
  have c3 := hj.c3
  have HJ := Lib.hid hj
  have HF := Lib.hid h
  have HL := Lib.hid hL
  have Hl := Lib.hid hl
  have HE := Lib.hid he
  have HX := Lib.hid hX
  have hx := Lib.hid h.1
  have hmi : (m : Int) ≤ 1048576 := by omega
  have hfl : Hid ((frame l).length = 8 + m) := by show _ = _; rw [frame_length, hl]
  clear h hj hL hl he hX
  go_enter Try.func12, Try.ntmps12
  go_wp2_with (first
    | (go_at_call 36; refine (framed_any Hl.out hm HL.out).mono ?_; rintro e w1 ⟨rfl, hr1, hb1⟩; have HR1 := Lib.hid hr1; have HB1 := Lib.hid hb1; have HJ1 := Lib.hid (HJ.out.below hb1 HJ.out.lt); clear hr1 hb1)
    | (go_at_call 35; refine (store_any (HF.out.keep HB1.out) (.inl HX.out) HJ1.out hs hfl.out HR1.out.lies hd HE.out).mono ?_; rintro e w2 ⟨rfl, hF2, hK2⟩; have HJ2 := Lib.hid (HJ1.out.kept hK2 (.inl HX.out)); have cc2 := HJ2.out.c2; have ff2 := HJ2.out.fz 2; have HF2 := Lib.hid hF2; have HK2 := Lib.hid hK2; clear hF2 hK2))
  go_ret
  have ho : Only jb w2 (w2.setCell ⟨jb, 2, none⟩ (.int .i64 ((cnt + 1 : Nat) : Int))) := (Only.refl _ _).setCell _ _
  exact ⟨rfl, fresh_only (HF2.out.low fun _ hb => .inl hb) ho HX.out hjw, HJ2.out.set2 (cnt + 1), fun b hb hne => (ho.block b hne).trans ((HK2.out b (.inl hb)).trans (HB1.out.block b (hx.out b hb)))⟩
set_option maxRecDepth 20000 in
set_option maxHeartbeats 2000000 in
theorem add_err {A : Option Addr} {m c : Nat} {l : Bs} {r : Int} (h : Fresh X w0 w d s) (hX : X jb) (hjw : w0.heap.size ≤ jb) (hj : JAt w jb d name cnt false) (hs : name.size ≤ maxLen) (hl : l.length = m) (hm : m ≤ 1048576) (hL : Lies w w.heap.size A l) (hd : s.deeds + 1 < 4611686018427387904) (he : store s name.data.toList (frame l) = (r, s')) (hr : (r != 0) = true) :
    Calls Try.prog 12 #[.pointer (some ⟨jb, 0, none⟩), .slice A m c] w (Added X w0 w d jb name cnt (r == 20) r s') := by
  have c3 := hj.c3
  have HJ := Lib.hid hj
  have HF := Lib.hid h
  have HL := Lib.hid hL
  have Hl := Lib.hid hl
  have HE := Lib.hid he
  have HX := Lib.hid hX
  have hx := Lib.hid h.1
  have hmi : (m : Int) ≤ 1048576 := by omega
  have hfl : Hid ((frame l).length = 8 + m) := by show _ = _; rw [frame_length, hl]
  clear h hj hL hl he hX
  go_enter Try.func12, Try.ntmps12
  go_wp2_with (first
    | (go_at_call 36; refine (framed_any Hl.out hm HL.out).mono ?_; rintro e w1 ⟨rfl, hr1, hb1⟩; have HR1 := Lib.hid hr1; have HB1 := Lib.hid hb1; have HJ1 := Lib.hid (HJ.out.below hb1 HJ.out.lt); clear hr1 hb1)
    | (go_at_call 35; refine (store_any (HF.out.keep HB1.out) (.inl HX.out) HJ1.out hs hfl.out HR1.out.lies hd HE.out).mono ?_; rintro e w2 ⟨rfl, hF2, hK2⟩; have HJ2 := Lib.hid (HJ1.out.kept hK2 (.inl HX.out)); have cc3 := HJ2.out.c3; have ff3 := HJ2.out.fz 3; have HF2 := Lib.hid hF2; have HK2 := Lib.hid hK2; clear hF2 hK2))
  go_ret
  have ho : Only jb w2 (w2.setCell ⟨jb, 3, none⟩ (.bool (r == 20))) := (Only.refl _ _).setCell _ _
  exact ⟨rfl, fresh_only (HF2.out.low fun _ hb => .inl hb) ho HX.out hjw, HJ2.out.set3 (r == 20), fun b hb hne => (ho.block b hne).trans ((HK2.out b (.inl hb)).trans (HB1.out.block b (hx.out b hb)))⟩

/-- Add, as a whole. -/
theorem add_any {A : Option Addr} {m c : Nat} {l : Bs} {r : Int} (h : Fresh X w0 w d s) (hX : X jb) (hjw : w0.heap.size ≤ jb) (hj : JAt w jb d name cnt down) (hs : name.size ≤ maxLen) (hl : l.length = m) (hm : m ≤ maxLen) (hL : Lies w w.heap.size A l) (hd : s.deeds + 1 < 4611686018427387904) (hcnt : cnt < 4611686018427387904) (he : addD s name.data.toList down l = (r, s')) :
    Calls Try.prog 12 #[.pointer (some ⟨jb, 0, none⟩), .slice A m c] w (Added X w0 w d jb name (if r = 0 then cnt + 1 else cnt) (down || r == 20) r s') := by
  cases down with
  | true =>
    have e : addD s name.data.toList true l = (20, s) := rfl
    rw [e] at he
    injection he with h1 h2
    subst h1 h2
    exact add_down h hj
  | false =>
    rcases add_cases he with ⟨h1, rfl, rfl⟩ | ⟨h1, h2⟩
    · exact add_long h hj (by omega) hm
    · by_cases hr : r = 0
      · subst hr
        exact add_ok h hX hjw hj hs hl (by omega) hL hd hcnt h2
      · rw [if_neg hr]
        exact add_err h hX hjw hj hs hl (by omega) hL hd h2 (by simpa using hr)
end
end Go.Proofs.Ytkiombbdddbkfaa.Jn
