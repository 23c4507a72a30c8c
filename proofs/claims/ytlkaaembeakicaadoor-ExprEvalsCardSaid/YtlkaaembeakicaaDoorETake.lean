/-
  take: a word is taken, or the error at it. whole: the expression at the end. Conditions: the parser keeps what it keeps.
-/
import Derived.Test.YtlkaaembeakicaaDoorEStep
namespace Go.Proofs.YtlkaaembeakicaaDoor.Ex
open Go.RowKit
theorem allows_at {w : World} {p k at_ : Nat} {s : St} {t : ByteArray} {b : Bool} (hp : p < w.heap.size) (c2 : w.cell? ⟨p, 2, none⟩ = some (.int .i64 s.opn)) (c4 : w.cell? ⟨p, 4, none⟩ = some (.bool s.complete)) (hb : s.allows k t.data.toList = b) :
    Calls Tryd.prog 31 #[ptr p, .agg #[.int .i64 k, .int .i64 at_, .string t]] w fun e w' => e = .returned (.bool b) ∧ Below w.heap.size w w' := by subst hb; exact allows_cells hp c2 c4
theorem isPart_at {w : World} {k at_ : Nat} {t : ByteArray} {b : Bool} (hb : isPart k t.data.toList = b) :
    Calls Tryd.prog 32 #[.agg #[.int .i64 k, .int .i64 at_, .string t]] w fun e w' => e = .returned (.bool b) ∧ Below w.heap.size w w' := by subst hb; exact isPart_any
theorem PS.tab {w0 w : World} {p : Nat} {s : St} (h : PS w0 p s w) (hT : Tab w0) : Tab w := by
  obtain ⟨_, _, _, hx⟩ := h; exact hT.below hx.below
theorem Way.parts {s : St} {k : Nat} {t : Bs} (h : Way s k t) (n : Nat) : Way { s with parts := n } k t := by
  cases h with
  | fin a b => exact .fin a b
  | num _ a b c d => exact .num _ a b c d
  | name _ a b => exact .name _ a b
  | opn a => exact .opn a
  | close a b => exact .close a b
  | bin _ a b => exact .bin _ a b
  | sign _ a b => exact .sign _ a b
/-- A token's block and the parser, told again in a later world. -/
structure TakeS (w0 wS : World) (p b : Nat) (s : St) (k at_ : Nat) (t : ByteArray) (w : World) : Prop where
  ps : PS w0 p s w
  keep : Keep wS w
  tok : w.heap[b]? = some (.cells #[.int .i64 k, .int .i64 at_, .string t] 46 (0, 0))
theorem TakeS.grow {w0 wS w w' : World} {p b k at_ : Nat} {s : St} {t : ByteArray} (h : TakeS w0 wS p b s k at_ t w) (hb : Below w.heap.size w w') : TakeS w0 wS p b s k at_ t w' :=
  ⟨h.ps.grow hb, h.keep.trans (Keep.of_below hb), by rw [hb.block b (lt_of_heap h.tok)]; exact h.tok⟩
theorem TakeS.facts {w0 wS w : World} {p b k at_ : Nat} {s : St} {t : ByteArray} (h : TakeS w0 wS p b s k at_ t w) :
    w.cell? ⟨p, 2, none⟩ = some (.int .i64 s.opn) ∧ w.cell? ⟨p, 3, none⟩ = some (.int .i64 s.parts) ∧ w.cell? ⟨p, 4, none⟩ = some (.bool s.complete) ∧ w.frozen? ⟨p, 3, none⟩ = false ∧ p < w.heap.size ∧
    w.cell? ⟨b, 0, none⟩ = some (.int .i64 k) ∧ w.cell? ⟨b, 1, none⟩ = some (.int .i64 at_) ∧ w.cell? ⟨b, 2, none⟩ = some (.string t) ∧ b < w.heap.size := by
  obtain ⟨vo, vp, es, hx⟩ := h.ps
  obtain ⟨d0, d1, d2, d3, d4, f0, f1, f2, f3, f4⟩ := p_cells hx.blk
  refine ⟨d2, d3, d4, f3, hx.lt, ?_, ?_, ?_, lt_of_heap h.tok⟩ <;> rw [cell_of_heap h.tok] <;> rfl
theorem TakeS.counted {w0 wS w : World} {p b k at_ : Nat} {s : St} {t : ByteArray} (h : TakeS w0 wS p b s k at_ t w) : TakeS w0 wS p b { s with parts := s.parts + 1 } k at_ t (w.setCell ⟨p, 3, none⟩ (.int .i64 ((s.parts : Int) + 1))) := by
  obtain ⟨vo, vp, es, hx⟩ := h.ps
  have ne : p ≠ b := fun e => by subst e; have := hx.blk; rw [h.tok] at this; injection this with this; injection this with _ this; cases this
  exact ⟨⟨vo, vp, es, hx.setField (s' := { s with parts := s.parts + 1 }) 3 _ (by rfl) rfl rfl⟩, h.keep.trans (keep_setCell hx.blk (.inl rfl) _), heap_setCell h.tok ne _⟩
set_option maxRecDepth 20000 in
set_option maxHeartbeats 2000000 in
theorem take_any {w0 w : World} {p at_ k : Nat} {s : St} {t : ByteArray} (h : PS w0 p s w) (hi : s.Inv) (hb : s.Bal) (hk : TokOK k t.data.toList) (hn : s.waits.length ≤ 900) (hT : Tab w0) :
    Calls Tryd.prog 21 #[ptr p, .agg #[.int .i64 k, .int .i64 at_, .string t]] w fun e w' => e = .returned (.int .i64 (s.errOf k t.data.toList)) ∧ Keep w w' ∧ (∃ s', PS w0 p s' w' ∧ (s.errOf k t.data.toList = 0 → s' = (s.count k t.data.toList).put k t.data.toList)) := by
  have hS : TakeS w0 w p w.heap.size s k at_ t (w.alloc (.cells #[.int .i64 k, .int .i64 at_, .string t] 46)) := ⟨h.grow ((Below.refl _ _).alloc (Nat.le_refl _) _), Keep.of_below ((Below.refl _ _).alloc (Nat.le_refl _) _), heap_alloc_new w _⟩
  obtain ⟨f2, f3, f4, f3f, fp, g0, g1, g2, gb⟩ := hS.facts
  have hpw : p < w.heap.size := by obtain ⟨_, _, _, hx⟩ := h; exact hx.lt
  obtain ⟨a, hal⟩ : ∃ a, s.allows k t.data.toList = a := ⟨_, rfl⟩
  obtain ⟨r, hr⟩ : ∃ r, s.errOf k t.data.toList = r := ⟨_, rfl⟩
  have hfew : s.parts ≤ 64 := by have := hi.few; unfold St.Bal at hb; omega
  rw [hr]
  unfold St.errOf at hr
  have HA := Lib.hid hal
  rw [hal] at hr
  have HS := Lib.hid hS
  clear hS h
  cases a
  · rw [if_pos rfl] at hr
    by_cases h1 : k = 1
    · subst h1
      rw [if_pos rfl] at hr
      subst hr
      clear hal
      go_enter Tryd.func21, Tryd.ntmps21
      go_wp2_with (go_at_call 31; refine (allows_at (s := s) (by simp; omega) (by first | exact f2 | simpa using f2) (by first | exact f4 | simpa using f4) HA.out).mono ?_; rintro e w1 ⟨rfl, hb1⟩; obtain ⟨z2, z3, z4, z3f, zp, y0, y1, y2, yb⟩ := (HS.out.grow hb1).facts; have HS1 := Lib.hid (HS.out.grow hb1); clear hb1)
      go_ret
      exact ⟨rfl, HS1.out.keep, s, HS1.out.ps, fun e => by cases e⟩
    · rw [if_neg h1] at hr
      subst hr
      have e1 : ((k : Int) == 1) = false := ne_beq (n := 1) h1
      clear hal
      go_enter Tryd.func21, Tryd.ntmps21
      go_wp2_with (go_at_call 31; refine (allows_at (s := s) (by simp; omega) (by first | exact f2 | simpa using f2) (by first | exact f4 | simpa using f4) HA.out).mono ?_; rintro e w1 ⟨rfl, hb1⟩; obtain ⟨z2, z3, z4, z3f, zp, y0, y1, y2, yb⟩ := (HS.out.grow hb1).facts; have HS1 := Lib.hid (HS.out.grow hb1); clear hb1)
      go_ret
      exact ⟨rfl, HS1.out.keep, s, HS1.out.ps, fun e => by cases e⟩
  · rw [if_neg (by simp)] at hr
    have hway := way_of hk hal
    have hI1 : ({ s with parts := s.parts + 1 } : St).Inv := Inv.parts hi _
    obtain ⟨q, hq⟩ : ∃ q, isPart k t.data.toList = q := ⟨_, rfl⟩
    have HQ := Lib.hid hq
    have hce := count_eq s k t.data.toList
    rw [hq] at hr hce
    have HT := Lib.hid hT
    have HI := Lib.hid hi
    have HI1 := Lib.hid hI1
    have HW := Lib.hid hway
    cases q
    · rw [if_neg (by simp)] at hr
      subst hr
      have HC : Hid (s.count k t.data.toList = s) := Lib.hid (by rw [hce]; simp)
      clear hal hq hce hi hI1 hway hT hb hk
      go_enter Tryd.func21, Tryd.ntmps21
      go_wp2_with (first
        | (go_at_call 31; refine (allows_at (s := s) (by simp; omega) (by first | exact f2 | simpa using f2) (by first | exact f4 | simpa using f4) HA.out).mono ?_; rintro e w1 ⟨rfl, hb1⟩; obtain ⟨z2, z3, z4, z3f, zp, y0, y1, y2, yb⟩ := (HS.out.grow hb1).facts; have HS1 := Lib.hid (HS.out.grow hb1); clear hb1)
        | (go_at_call 32; refine (isPart_at HQ.out).mono ?_; rintro e w2 ⟨rfl, hb2⟩; obtain ⟨x2, x3, x4, x3f, xp, u0, u1, u2, ub⟩ := (HS1.out.grow hb2).facts; have HS2 := Lib.hid (HS1.out.grow hb2); clear hb2)
        | (go_at_call 33; refine (put_any HS2.out.ps HI.out HW.out (by omega) (HS2.out.ps.tab HT.out)).mono ?_; rintro e w3 ⟨rfl, hp3, hk3⟩; have HP3 := Lib.hid hp3; have HK3 := Lib.hid (HS2.out.keep.trans hk3); clear hp3 hk3))
      go_ret
      exact ⟨rfl, HK3.out, _, HP3.out, fun _ => by rw [HC.out]⟩
    · by_cases h64 : s.parts = 64
      · rw [if_pos ⟨rfl, h64⟩] at hr
        subst hr
        rw [h64] at f3
        clear hal hq hce hi hI1 hway hT hb hk
        go_enter Tryd.func21, Tryd.ntmps21
        go_wp2_with (first
          | (go_at_call 31; refine (allows_at (s := s) (by simp; omega) (by first | exact f2 | simpa using f2) (by first | exact f4 | simpa using f4) HA.out).mono ?_; rintro e w1 ⟨rfl, hb1⟩; obtain ⟨z2, z3, z4, z3f, zp, y0, y1, y2, yb⟩ := (HS.out.grow hb1).facts; have HS1 := Lib.hid (HS.out.grow hb1); clear hb1)
          | (go_at_call 32; refine (isPart_at HQ.out).mono ?_; rintro e w2 ⟨rfl, hb2⟩; obtain ⟨x2, x3, x4, x3f, xp, u0, u1, u2, ub⟩ := (HS1.out.grow hb2).facts; rw [h64] at x3; have HS2 := Lib.hid (HS1.out.grow hb2); clear hb2))
        go_ret
        exact ⟨rfl, HS2.out.keep, s, HS2.out.ps, fun e => by cases e⟩
      · rw [if_neg (by simp [h64])] at hr
        subst hr
        have HC : Hid (s.count k t.data.toList = { s with parts := s.parts + 1 }) := Lib.hid (by rw [hce]; simp)
        have e64 : ((s.parts : Int) == 64) = false := ne_beq (n := 64) h64
        have HW1 := Lib.hid (hway.parts (s.parts + 1))
        clear hal hq hce hi hI1 hway hT hb hk HW
        go_enter Tryd.func21, Tryd.ntmps21
        go_wp2_with (first
          | (go_at_call 31; refine (allows_at (s := s) (by simp; omega) (by first | exact f2 | simpa using f2) (by first | exact f4 | simpa using f4) HA.out).mono ?_; rintro e w1 ⟨rfl, hb1⟩; obtain ⟨z2, z3, z4, z3f, zp, y0, y1, y2, yb⟩ := (HS.out.grow hb1).facts; have HS1 := Lib.hid (HS.out.grow hb1); clear hb1)
          | (go_at_call 32; refine (isPart_at HQ.out).mono ?_; rintro e w2 ⟨rfl, hb2⟩; obtain ⟨x2, x3, x4, x3f, xp, u0, u1, u2, ub⟩ := (HS1.out.grow hb2).facts; have HS2 := Lib.hid (HS1.out.grow hb2); have HS3 := Lib.hid HS2.out.counted; clear hb2)
          | (go_at_call 33; refine (put_any HS3.out.ps HI1.out HW1.out (by show s.waits.length ≤ 1000; omega) (HS3.out.ps.tab HT.out)).mono ?_; rintro e w3 ⟨rfl, hp3, hk3⟩; have HP3 := Lib.hid hp3; have HK3 := Lib.hid (HS3.out.keep.trans hk3); clear hp3 hk3))
        go_ret
        exact ⟨rfl, HK3.out, _, HP3.out, fun _ => by rw [HC.out]⟩
end Go.Proofs.YtlkaaembeakicaaDoor.Ex
