/-
  The document's own Add of journal. Conditions: the document's disk stands in memory, few deeds, the record lies in memory.
-/
import Derived.Test.YtkiombbdddbkfaaRefOpen
import Derived.Test.YtkiombbdddbkfaaAdd
import Derived.Deep.RegionHeld3
namespace Go.Proofs.Ytkiombbdddbkfaa.Jn
open Go.RowKit Go.Proofs.Ytkiombbdddbkfaa.Pk Go.Proofs.Ytkiombbdddbkfaa.Dk
set_option linter.unusedVariables false

section
variable {w w' : World} {T : Nat → Prop} {r rb cnt : Nat} {t t' : Ds} {name : ByteArray} {sick : Bool}
/-- T and one block more. -/
def Plus (T : Nat → Prop) (rb : Nat) (b : Nat) : Prop := T b ∨ b = rb
/-- What the document's Add leaves. -/
def RAdded (T : Nat → Prop) (w : World) (r rb : Nat) (name : ByteArray) (cnt : Nat) (sick : Bool) (q : Int) (t' : Ds) (e : Ending) (w' : World) : Prop :=
  e = .returned (.int .i64 q) ∧ ∃ T', RefD w' T' r t' ∧ ¬ T' rb ∧ RJAt w' rb r name cnt sick ∧ Upd (Plus T rb) (Plus T' rb) w w'
theorem upd_plus {T' : Nat → Prop} (h : Upd T T' w w') (rb : Nat) : Upd (Plus T rb) (Plus T' rb) w w' :=
  ⟨h.os, h.tape, h.output, h.size, fun b hb hs => h.block b hb fun ht => hs (.inl ht), fun b hb => hb.elim (fun ht => (h.foot b ht).elim (fun h => .inl (.inl h)) .inr) (fun e => .inl (.inr e))⟩
theorem upd_only (ho : Only rb w w') : Upd (Plus T rb) (Plus T rb) w w' := ⟨ho.os, ho.tape, ho.output, by rw [ho.size]; exact Nat.le_refl _, fun b _ hs => ho.block b fun e => hs (.inr e), fun _ h => .inl h⟩
theorem refd_only (h : RefD w T r t) (hrb : ¬ T rb) (ho : Only rb w w') : RefD w' T r t := h.keep (by rw [ho.size]; exact Nat.le_refl _) fun b hb => ho.block b fun e => hrb (e ▸ hb)
theorem rj_upd {T' : Nat → Prop} (h : RJAt w rb r name cnt sick) (hrb : ¬ T rb) (hu : Upd T T' w w') : RJAt w' rb r name cnt sick ∧ ¬ T' rb := by
  refine ⟨(hu.block rb h.lt hrb).trans h, fun ht => ?_⟩
  rcases hu.foot rb ht with h1 | h1
  · exact hrb h1
  · have := h.lt; omega
set_option maxHeartbeats 1000000 in
theorem radd_sick {v : Value} (h : RefD w T r t) (hrb : ¬ T rb) (hj : RJAt w rb r name cnt true) : Calls Try.prog 13 #[.pointer (some ⟨rb, 0, none⟩), v] w (RAdded T w r rb name cnt true 20 t) := by
  have c3 := hj.c3
  go_enter Try.func13, Try.ntmps13
  go_wp2
  go_ret
  exact ⟨rfl, T, h, hrb, hj, Upd.refl _ _⟩
set_option maxHeartbeats 1000000 in
theorem radd_long {A : Option Addr} {m c : Nat} (h : RefD w T r t) (hrb : ¬ T rb) (hj : RJAt w rb r name cnt false) (hm : 1048576 < m) (hm2 : m ≤ maxLen) : Calls Try.prog 13 #[.pointer (some ⟨rb, 0, none⟩), .slice A m c] w (RAdded T w r rb name cnt false 2 t) := by
  have c3 := hj.c3
  unfold maxLen at hm2
  have hmi : (1048576 : Int) < (m : Int) := by omega
  go_enter Try.func13, Try.ntmps13
  go_wp2
  go_ret
  exact ⟨rfl, T, h, hrb, hj, Upd.refl _ _⟩
/-- What the region with Frame and Append keeps. -/
def RS (rb r : Nat) (name : ByteArray) (W : World) : Prop := W.cell? ⟨rb, 0, none⟩ = some (.pointer (some ⟨r, 0, none⟩)) ∧ W.cell? ⟨rb, 1, none⟩ = some (.string name)
set_option maxRecDepth 20000 in
set_option maxHeartbeats 2000000 in
/-- The append fails. -/
theorem radd_app {A : Option Addr} {m c : Nat} {l : Bs} {q : Int} (h : RefD w T r t) (hrb : ¬ T rb) (hj : RJAt w rb r name cnt false) (hs : name.size ≤ maxLen) (hl : l.length = m) (hm : m ≤ 1048576) (hL : Lies w w.heap.size A l) (hd : t.deeds < 1000000) (he : appendD t name.data.toList (frame l) = (q, t')) (hq : (q == 0) = false) :
    Calls Try.prog 13 #[.pointer (some ⟨rb, 0, none⟩), .slice A m c] w (RAdded T w r rb name cnt (q == 20) q t') := by
  have c0 := hj.c0
  have c1 := hj.c1
  have c3 := hj.c3
  have HJ := Lib.hid hj
  have HD := Lib.hid h
  have HL := Lib.hid hL
  have Hl := Lib.hid hl
  have HE := Lib.hid he
  have HT := Lib.hid hrb
  have hmi : (m : Int) ≤ 1048576 := by omega
  have Hfl : Hid ((frame l).length = 8 + m) := by show _ = _; rw [frame_length, hl]
  clear h hj hL hl he hrb
  go_enter Try.func13, Try.ntmps13
  go_wp2
  go_region_held3 (fun W => W.cell? ⟨rb, 0, none⟩ = some (.pointer (some ⟨r, 0, none⟩)) ∧ W.cell? ⟨rb, 1, none⟩ = some (.string name)) (first | exact ⟨c0, c1⟩ | exact ⟨c01, c11⟩ | exact ⟨c02, c12⟩)
    (first
      | (go_at_call 37; refine (rFrame_any Hl.out (by omega) (show Lies w.drew w.drew.heap.size A l from HL.out)).mono ?_; unfold Framed; rw [Hl.out]; rintro e w1 ⟨A1, k1, rfl, ho1, hb1⟩; have hb1' : Below w.heap.size w w1 := ⟨hb1.os, hb1.tape, hb1.output, hb1.size, hb1.block⟩; have HL1 := Lib.hid (Lies.of_own ho1); have HB1 := Lib.hid hb1'; have HJ1 := Lib.hid (show RJAt w1 rb r name cnt false from (hb1'.block rb HJ.out.lt).trans HJ.out); have HD1 := Lib.hid (HD.out.keep hb1'.size fun b hb => hb1'.block b (HD.out.lt b hb)); have c01 := HJ1.out.c0; have c11 := HJ1.out.c1; clear ho1 hb1 hb1')
      | (go_at_call 21; refine (rappend_any HD1.out hs Hfl.out HL1.out hd).mono ?_; rw [HE.out]; rintro e w2 ⟨rfl, T2, hR2, hu2⟩; obtain ⟨hJ2, hT2⟩ := rj_upd HJ1.out HT.out hu2; have HR2 := Lib.hid hR2; have HU2 := Lib.hid hu2; have HJ2 := Lib.hid hJ2; have HT2 := Lib.hid hT2; have c02 := HJ2.out.c0; have c12 := HJ2.out.c1; have ff3 := HJ2.out.fz 3; have cc3 := HJ2.out.c3; clear hR2 hu2 hJ2 hT2))
  all_goals
    go_wp2
    go_ret
    have ho : Only rb w2 (w2.setCell ⟨rb, 3, none⟩ (.bool (q == 20))) := (Only.refl _ _).setCell _ _
    exact ⟨rfl, T2, refd_only HR2.out HT2.out ho, HT2.out, HJ2.out.set3 (q == 20), (upd_plus (Upd.of_below HB1.out) rb).trans ((upd_plus HU2.out rb).trans (upd_only ho))⟩
set_option maxRecDepth 20000 in
set_option maxHeartbeats 2000000 in
/-- The append goes well, the sync fails. -/
theorem radd_syn {A : Option Addr} {m c : Nat} {l : Bs} {t1 : Ds} {q : Int} (h : RefD w T r t) (hrb : ¬ T rb) (hj : RJAt w rb r name cnt false) (hs : name.size ≤ maxLen) (hl : l.length = m) (hm : m ≤ 1048576) (hL : Lies w w.heap.size A l) (hd : t.deeds < 1000000) (he : appendD t name.data.toList (frame l) = (0, t1)) (hsy : syncD t1 name.data.toList = (q, t')) (hd1 : t1.deeds < 1000000) (hq : (q == 0) = false) :
    Calls Try.prog 13 #[.pointer (some ⟨rb, 0, none⟩), .slice A m c] w (RAdded T w r rb name cnt (q == 20) q t') := by
  have c0 := hj.c0
  have c1 := hj.c1
  have c3 := hj.c3
  have HJ := Lib.hid hj
  have HD := Lib.hid h
  have HL := Lib.hid hL
  have Hl := Lib.hid hl
  have HE := Lib.hid he
  have HS := Lib.hid hsy
  have HT := Lib.hid hrb
  have hmi : (m : Int) ≤ 1048576 := by omega
  have Hfl : Hid ((frame l).length = 8 + m) := by show _ = _; rw [frame_length, hl]
  clear h hj hL hl he hrb hsy
  go_enter Try.func13, Try.ntmps13
  go_wp2
  go_region_held3 (fun W => W.cell? ⟨rb, 0, none⟩ = some (.pointer (some ⟨r, 0, none⟩)) ∧ W.cell? ⟨rb, 1, none⟩ = some (.string name)) (first | exact ⟨c0, c1⟩ | exact ⟨c01, c11⟩ | exact ⟨c02, c12⟩)
    (first
      | (go_at_call 37; refine (rFrame_any Hl.out (by omega) (show Lies w.drew w.drew.heap.size A l from HL.out)).mono ?_; unfold Framed; rw [Hl.out]; rintro e w1 ⟨A1, k1, rfl, ho1, hb1⟩; have hb1' : Below w.heap.size w w1 := ⟨hb1.os, hb1.tape, hb1.output, hb1.size, hb1.block⟩; have HL1 := Lib.hid (Lies.of_own ho1); have HB1 := Lib.hid hb1'; have HJ1 := Lib.hid (show RJAt w1 rb r name cnt false from (hb1'.block rb HJ.out.lt).trans HJ.out); have HD1 := Lib.hid (HD.out.keep hb1'.size fun b hb => hb1'.block b (HD.out.lt b hb)); have c01 := HJ1.out.c0; have c11 := HJ1.out.c1; clear ho1 hb1 hb1')
      | (go_at_call 21; refine (rappend_any HD1.out hs Hfl.out HL1.out hd).mono ?_; rw [HE.out]; rintro e w2 ⟨rfl, T2, hR2, hu2⟩; obtain ⟨hJ2, hT2⟩ := rj_upd HJ1.out HT.out hu2; have HR2 := Lib.hid hR2; have HU2 := Lib.hid hu2; have HJ2 := Lib.hid hJ2; have HT2 := Lib.hid hT2; have c02 := HJ2.out.c0; have c12 := HJ2.out.c1; have ff3 := HJ2.out.fz 3; have cc3 := HJ2.out.c3; clear hR2 hu2 hJ2 hT2))
  all_goals
    go_wp2
    go_region_held3 (fun W => W.cell? ⟨rb, 0, none⟩ = some (.pointer (some ⟨r, 0, none⟩)) ∧ W.cell? ⟨rb, 1, none⟩ = some (.string name)) (first | exact ⟨c02, c12⟩ | exact ⟨c03, c13⟩)
      (first
        | (go_at_call 38; refine (rsync_any (show RefD w2.drew T2 r t1 from HR2.out.keep (Nat.le_refl _) fun _ _ => rfl) hd1).mono ?_; rw [HS.out]; rintro e w3 ⟨rfl, T3, hR3, hu3'⟩; have hu3 : Upd T2 T3 w2 w3 := ⟨hu3'.os, hu3'.tape, hu3'.output, hu3'.size, hu3'.block, hu3'.foot⟩; obtain ⟨hJ3, hT3⟩ := rj_upd HJ2.out HT2.out hu3; have HR3 := Lib.hid hR3; have HU3 := Lib.hid hu3; have HJ3 := Lib.hid hJ3; have HT3 := Lib.hid hT3; have c03 := HJ3.out.c0; have c13 := HJ3.out.c1; have ff33 := HJ3.out.fz 3; have cc33 := HJ3.out.c3; have ff32 := HJ3.out.fz 2; have cc32 := HJ3.out.c2; clear hR3 hu3 hu3' hJ3 hT3))
  all_goals
    go_wp2
    go_ret
    have ho : Only rb w3 (w3.setCell ⟨rb, 3, none⟩ (.bool (q == 20))) := (Only.refl _ _).setCell _ _
    exact ⟨rfl, T3, refd_only HR3.out HT3.out ho, HT3.out, HJ3.out.set3 (q == 20), (upd_plus (Upd.of_below HB1.out) rb).trans ((upd_plus HU2.out rb).trans ((upd_plus HU3.out rb).trans (upd_only ho)))⟩
set_option maxRecDepth 20000 in
set_option maxHeartbeats 2000000 in
/-- The append goes well, the sync too. -/
theorem radd_ok {A : Option Addr} {m c : Nat} {l : Bs} {t1 : Ds} (h : RefD w T r t) (hrb : ¬ T rb) (hj : RJAt w rb r name cnt false) (hs : name.size ≤ maxLen) (hl : l.length = m) (hm : m ≤ 1048576) (hL : Lies w w.heap.size A l) (hd : t.deeds < 1000000) (he : appendD t name.data.toList (frame l) = (0, t1)) (hsy : syncD t1 name.data.toList = (0, t')) (hd1 : t1.deeds < 1000000) (hcnt : cnt < 4611686018427387904) :
    Calls Try.prog 13 #[.pointer (some ⟨rb, 0, none⟩), .slice A m c] w (RAdded T w r rb name (cnt + 1) false 0 t') := by
  have c0 := hj.c0
  have c1 := hj.c1
  have c3 := hj.c3
  have HJ := Lib.hid hj
  have HD := Lib.hid h
  have HL := Lib.hid hL
  have Hl := Lib.hid hl
  have HE := Lib.hid he
  have HS := Lib.hid hsy
  have HT := Lib.hid hrb
  have hmi : (m : Int) ≤ 1048576 := by omega
  have Hfl : Hid ((frame l).length = 8 + m) := by show _ = _; rw [frame_length, hl]
  clear h hj hL hl he hrb hsy
  go_enter Try.func13, Try.ntmps13
  go_wp2
  go_region_held3 (fun W => W.cell? ⟨rb, 0, none⟩ = some (.pointer (some ⟨r, 0, none⟩)) ∧ W.cell? ⟨rb, 1, none⟩ = some (.string name)) (first | exact ⟨c0, c1⟩ | exact ⟨c01, c11⟩ | exact ⟨c02, c12⟩)
    (first
      | (go_at_call 37; refine (rFrame_any Hl.out (by omega) (show Lies w.drew w.drew.heap.size A l from HL.out)).mono ?_; unfold Framed; rw [Hl.out]; rintro e w1 ⟨A1, k1, rfl, ho1, hb1⟩; have hb1' : Below w.heap.size w w1 := ⟨hb1.os, hb1.tape, hb1.output, hb1.size, hb1.block⟩; have HL1 := Lib.hid (Lies.of_own ho1); have HB1 := Lib.hid hb1'; have HJ1 := Lib.hid (show RJAt w1 rb r name cnt false from (hb1'.block rb HJ.out.lt).trans HJ.out); have HD1 := Lib.hid (HD.out.keep hb1'.size fun b hb => hb1'.block b (HD.out.lt b hb)); have c01 := HJ1.out.c0; have c11 := HJ1.out.c1; clear ho1 hb1 hb1')
      | (go_at_call 21; refine (rappend_any HD1.out hs Hfl.out HL1.out hd).mono ?_; rw [HE.out]; rintro e w2 ⟨rfl, T2, hR2, hu2⟩; obtain ⟨hJ2, hT2⟩ := rj_upd HJ1.out HT.out hu2; have HR2 := Lib.hid hR2; have HU2 := Lib.hid hu2; have HJ2 := Lib.hid hJ2; have HT2 := Lib.hid hT2; have c02 := HJ2.out.c0; have c12 := HJ2.out.c1; have ff3 := HJ2.out.fz 3; have cc3 := HJ2.out.c3; clear hR2 hu2 hJ2 hT2))
  all_goals
    go_wp2
    go_region_held3 (fun W => W.cell? ⟨rb, 0, none⟩ = some (.pointer (some ⟨r, 0, none⟩)) ∧ W.cell? ⟨rb, 1, none⟩ = some (.string name)) (first | exact ⟨c02, c12⟩ | exact ⟨c03, c13⟩)
      (first
        | (go_at_call 38; refine (rsync_any (show RefD w2.drew T2 r t1 from HR2.out.keep (Nat.le_refl _) fun _ _ => rfl) hd1).mono ?_; rw [HS.out]; rintro e w3 ⟨rfl, T3, hR3, hu3'⟩; have hu3 : Upd T2 T3 w2 w3 := ⟨hu3'.os, hu3'.tape, hu3'.output, hu3'.size, hu3'.block, hu3'.foot⟩; obtain ⟨hJ3, hT3⟩ := rj_upd HJ2.out HT2.out hu3; have HR3 := Lib.hid hR3; have HU3 := Lib.hid hu3; have HJ3 := Lib.hid hJ3; have HT3 := Lib.hid hT3; have c03 := HJ3.out.c0; have c13 := HJ3.out.c1; have ff33 := HJ3.out.fz 3; have cc33 := HJ3.out.c3; have ff32 := HJ3.out.fz 2; have cc32 := HJ3.out.c2; clear hR3 hu3 hu3' hJ3 hT3))
  all_goals
    go_wp2
    go_ret
    have ho : Only rb w3 (w3.setCell ⟨rb, 3, none⟩ (.bool false)) := (Only.refl _ _).setCell _ _
    have ho2 : Only rb (w3.setCell ⟨rb, 3, none⟩ (.bool false)) ((w3.setCell ⟨rb, 3, none⟩ (.bool false)).setCell ⟨rb, 2, none⟩ (.int .i64 ((cnt + 1 : Nat) : Int))) := (Only.refl _ _).setCell _ _
    exact ⟨rfl, T3, refd_only (refd_only HR3.out HT3.out ho) HT3.out ho2, HT3.out, (HJ3.out.set3 false).set2 (cnt + 1), (upd_plus (Upd.of_below HB1.out) rb).trans ((upd_plus HU2.out rb).trans ((upd_plus HU3.out rb).trans ((upd_only ho).trans (upd_only ho2))))⟩

/-- The document's Add, as a whole. -/
theorem radd_any {A : Option Addr} {m c : Nat} {l : Bs} {q : Int} (h : RefD w T r t) (hrb : ¬ T rb) (hj : RJAt w rb r name cnt sick) (hs : name.size ≤ maxLen) (hl : l.length = m) (hm : m ≤ maxLen) (hL : Lies w w.heap.size A l) (hd : t.deeds + 1 < 1000000) (hcnt : cnt < 4611686018427387904) (he : addD t name.data.toList sick l = (q, t')) :
    Calls Try.prog 13 #[.pointer (some ⟨rb, 0, none⟩), .slice A m c] w (RAdded T w r rb name (if q = 0 then cnt + 1 else cnt) (sick || q == 20) q t') := by
  cases sick with
  | true =>
    have e : addD t name.data.toList true l = (20, t) := rfl
    rw [e] at he
    injection he with h1 h2
    subst h1 h2
    exact radd_sick h hrb hj
  | false =>
    rcases add_cases he with ⟨h1, rfl, rfl⟩ | ⟨h1, h2⟩
    · exact radd_long h hrb hj (by omega) hm
    · rcases store_cases h2 with ⟨q', hq, ha, rfl⟩ | ⟨t1, ha, hsy⟩
      · rw [if_neg hq]
        exact radd_app h hrb hj hs hl (by omega) hL (by omega) ha (by simpa using hq)
      · have hd1 : t1.deeds < 1000000 := by have := append_deeds ha; omega
        by_cases hq : q = 0
        · subst hq
          exact radd_ok h hrb hj hs hl (by omega) hL (by omega) ha hsy hd1 hcnt
        · rw [if_neg hq]
          exact radd_syn h hrb hj hs hl (by omega) hL (by omega) ha hsy hd1 (by simpa using hq)
end
end Go.Proofs.Ytkiombbdddbkfaa.Jn
