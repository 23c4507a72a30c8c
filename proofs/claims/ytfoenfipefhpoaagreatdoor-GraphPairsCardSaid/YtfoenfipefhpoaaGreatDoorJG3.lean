/-
  Texts joined into one file. Each part says in its own head what is proved there, and under which conditions.
-/
import Derived.Test.YtfoenfipefhpoaaGreatDoorJQ1
import Derived.Test.YtfoenfipefhpoaaGreatDoorJQ2
import Derived.Test.YtfoenfipefhpoaaGreatDoorJG1
import Derived.Deep.LoopGhost
set_option linter.unusedVariables false
set_option linter.unusedSimpArgs false
/-
  The document's Check of a plan, as a law of layer 6 and above calls it. Conditions: the plan lies in memory.
-/
namespace Go.Proofs.YtfoenfipefhpoaaGreatDoor.Gr
open Go.RowKit Go.Proofs.YtfoenfipefhpoaaGreatDoor.Ex Go.Proofs.YtfoenfipefhpoaaGreatDoor.Pl

theorem rcheck_at {w : World} {v : Value} {p : Pln} {l : Nat} {E : Int} (h : PlnAt w v p) (hc : check p = (l, E)) : Calls Tryz.prog 7 #[v] w fun e w' => e = .returned (.tuple #[.int .i64 l, .int .i64 E]) ∧ Below w.heap.size w w' := by
  refine (rcheck_any (fun ht hf hi hts _ hR => rflow_at ht hf hi rfl hts hR) h).mono ?_
  rintro e w' ⟨h1, h2⟩
  rw [hc] at h1
  exact ⟨h1, h2⟩
theorem pcheck_at {w : World} {v : Value} {p : Pln} {l : Nat} {E : Int} (h : PlnAt w v p) (hT : Tab w) (hc : check p = (l, E)) : Calls Tryz.prog 24 #[v] w fun e w' => e = .returned (.tuple #[.int .i64 l, .int .i64 E]) ∧ Below w.heap.size w w' := by
  refine (check_any h hT).mono ?_
  rintro e w' ⟨h1, h2⟩
  rw [hc] at h1
  exact ⟨h1, h2⟩
theorem pln_two {w : World} {v : Value} {p : Pln} (h : PlnAt w v p) : ∃ a n c b m d, v = .agg #[.slice a n c, .slice b m d] := by
  obtain ⟨vt, vf, es, rfl, ht, hf, -⟩ := h
  obtain ⟨a, c, rfl⟩ := ht.val
  obtain ⟨b, d, rfl⟩ := hf.1.val
  exact ⟨_, _, _, _, _, _, rfl⟩
theorem pln_len {w : World} {a b : Option Addr} {n c m d : Nat} {p : Pln} (h : PlnAt w (.agg #[.slice a n c, .slice b m d]) p) : m = p.flws.length ∧ m ≤ maxLen := by
  obtain ⟨vt, vf, es, e, ht, hf, he⟩ := h
  injection e with e
  injection e with e
  injection e with e1 e
  injection e with e2 _
  subst e1 e2
  obtain ⟨h1, -, h3, -⟩ := hf.1.len
  exact ⟨by rw [h1, ← he, List.length_map], h3⟩
/-- What a law of layer 6 carries along: its plan's box, the plan, the library's table. -/
structure GW (w0 : World) (v1 v2 : Value) (p : Pln) (w : World) : Prop where
  box : PBox w w0.heap.size v1 v2
  tab : Tab w
  pln : PlnAt w (.agg #[v1, v2]) p
  bel : Below w0.heap.size w0 w
theorem GW.grow {w0 w w' : World} {v1 v2 : Value} {p : Pln} (h : GW w0 v1 v2 p w) (hb : Below w.heap.size w w') : GW w0 v1 v2 p w' :=
  ⟨h.box.grow hb, h.tab.below hb, h.pln.grow hb, h.bel.trans (hb.mono h.bel.size)⟩
theorem GW.start {w : World} {v1 v2 : Value} {p : Pln} (hT : Tab w) (hp : PlnAt w (.agg #[v1, v2]) p) : GW w v1 v2 p (w.alloc (.cells #[v1, v2] 25)) :=
  have hb : Below w.heap.size w (w.alloc (.cells #[v1, v2] 25)) := (Below.refl _ _).alloc (Nat.le_refl _) _
  ⟨heap_alloc_new w _, hT.below hb, hp.grow hb, hb⟩
end Go.Proofs.YtfoenfipefhpoaaGreatDoor.Gr
/-
  The document's Source and Hangs. Conditions: the plan lies in memory; the flow is one of it.
-/
namespace Go.Proofs.YtfoenfipefhpoaaGreatDoor.Gr
open Go.RowKit Go.Proofs.YtfoenfipefhpoaaGreatDoor.Ex Go.Proofs.YtfoenfipefhpoaaGreatDoor.Pl

set_option maxRecDepth 20000 in
set_option maxHeartbeats 2000000 in
theorem rsource_at {w : World} {v : Value} {p : Pln} (h : PlnAt w v p) {i : Nat} (hi : i < p.flws.length) {r : Int} (hr : oI (srcOf p.flws i) = r) :
    Calls Tryz.prog 17 #[v, .int .i64 i] w fun e w' => e = .returned (.int .i64 r) ∧ Below w.heap.size w w' := by
  obtain ⟨a1, c1, a2, c2, rfl, k1, k2, ht, es, hf, he, hl⟩ := pln_form h
  obtain ⟨n, hn⟩ : ∃ n, p.tops.length = n := ⟨_, rfl⟩
  obtain ⟨m, hm⟩ : ∃ m, p.flws.length = m := ⟨_, rfl⟩
  rw [hn] at ht k1 h ⊢
  rw [hm] at hf k2 h hl hi ⊢
  unfold maxLen at k1 k2
  rw [srcOf_at (by rw [hm]; exact hi)] at hr
  have hie : i < es.length := by omega
  have hfi : p.flws[i]'(by rw [hm]; exact hi) = es[i].f := by simp [← he]
  rw [hfi] at hr
  obtain ⟨b, o, e0, hbl, -, x1, -⟩ := hf.cells hie
  subst e0
  obtain ⟨x, hx⟩ : ∃ x, es[i].f.frm = x := ⟨_, rfl⟩
  rw [hx] at hr x1
  have hr0 : oI (wrGo x (p.flws.drop 0) 0) = r := hr
  obtain ⟨W, hW⟩ : ∃ W, w.alloc (.cells #[.slice a1 n c1, .slice (some ⟨b, o, none⟩) m c2] 25) = W := ⟨_, rfl⟩
  have bw : Below w.heap.size w W := by rw [← hW]; exact (Below.refl _ _).alloc (Nat.le_refl _) _
  have hxb : PBox W w.heap.size (.slice a1 n c1) (.slice (some ⟨b, o, none⟩) m c2) := by rw [← hW]; exact heap_alloc_new w _
  have g0 : (0 : Int) ≤ (i : Int) := by omega
  have g1 : (i : Int) < (m : Int) := by omega
  have HX := Lib.hid hxb
  have HB := Lib.hid bw
  have HF := Lib.hid (hf.grow bw)
  have HE := Lib.hid he
  have HL := Lib.hid hl
  have HR := Lib.hid hr0
  have HX1 : Hid (∀ W', Below W.heap.size W W' → W'.cell? ⟨b, o + i * 12 + 1, none⟩ = some (sv x)) := Lib.hid (fun W' hb => by rw [(bw.trans (hb.mono bw.size)).cell (p := ⟨b, _, none⟩) hbl]; exact x1)
  have HML := Lib.hid hm
  clear h ht hf he hl hr hr0 bw hxb x1 hx hfi hie hn hm hi
  go_enter Tryz.func17, Tryz.ntmps17
  go_wp2
  clear hW
  go_loopw [5] (fun z wr => ∃ k : Nat, k ≤ m ∧ z = .int .i64 k ∧ Hid (oI (wrGo x (p.flws.drop k) k) = r) ∧ Hid (Below W.heap.size W wr)) (fun z _ => m - (intOf z).toNat)
  case atStart => exact ⟨0, Nat.zero_le _, rfl, HR, Lib.hid (Below.refl _ _)⟩
  case round =>
    clear HR
    obtain ⟨k, hk, rfl, hr, hb⟩ := hrel
    obtain ⟨p0, p1⟩ := (HX.out.grow hb.out).cells
    by_cases hlt : k < m
    · have hke : k < es.length := by rw [HL.out]; exact hlt
      have hd := wrGo_drop x p.flws k (by rw [HML.out]; exact hlt)
      have hfk : p.flws[k]'(by rw [HML.out]; exact hlt) = es[k].f := by simp [← HE.out]
      rw [hfk] at hd
      obtain ⟨b', o', e', hbl', -, -, y2, -⟩ := (HF.out.grow hb.out).cells hke
      injection e' with e'
      injection e' with e1 e2
      subst e1 e2
      have y1 := HX1.out _ hb.out
      have f0 : (0 : Int) ≤ (k : Int) := by omega
      have f1 : (k : Int) < (m : Int) := by omega
      obtain ⟨nk, hnk⟩ : ∃ nk, es[k].f.dest = nk := ⟨_, rfl⟩
      rw [hnk] at hd y2
      by_cases hq : nk = x
      · have HR : Hid (r = (k : Int)) := Lib.hid (by rw [← hr.out, hd, if_pos hq]; rfl)
        have e1 : (nk == x) = true := Pl.beq_of_eq hq
        clear hr hd hq hke hfk hnk
        go_wp2
        go_region_held3 (fun X => X.cell? ⟨w.heap.size, 1, none⟩ = some (.slice (some ⟨b, o, none⟩) m c2) ∧ X.cell? ⟨b, o + k * 12 + 2, none⟩ = some (sv nk) ∧ X.cell? ⟨b, o + i * 12 + 1, none⟩ = some (sv x)) (exact ⟨p1, y2, y1⟩) (fail)
        all_goals go_wp2
        all_goals go_ret
        all_goals exact ⟨ret_int HR.out.symm, HB.out.trans ((hb.out.trans (((Below.refl _ _).drew).mono hb.out.size)).mono HB.out.size)⟩
      · have HR : Hid (oI (wrGo x (p.flws.drop (k + 1)) (k + 1)) = r) := Lib.hid (by rw [← hr.out, hd, if_neg hq])
        have e1 : (nk == x) = false := Pl.beq_of_ne hq
        clear hr hd hq hke hfk hnk
        go_wp2
        go_region_held3 (fun X => X.cell? ⟨w.heap.size, 1, none⟩ = some (.slice (some ⟨b, o, none⟩) m c2) ∧ X.cell? ⟨b, o + k * 12 + 2, none⟩ = some (sv nk) ∧ X.cell? ⟨b, o + i * 12 + 1, none⟩ = some (sv x)) (exact ⟨p1, y2, y1⟩) (fail)
        all_goals go_wp2
        all_goals go_roundw
        case rel => exact ⟨k + 1, by omega, by go_num, HR, Lib.hid (hb.out.trans (((Below.refl _ _).drew).mono hb.out.size))⟩
        case measure => simp [intOf]; omega
    · have HR : Hid (r = -1) := Lib.hid (by rw [← hr.out, List.drop_eq_nil_of_le (by rw [HML.out]; omega)]; rfl)
      clear hr
      go_wp2
      go_ret
      exact ⟨ret_int HR.out.symm, HB.out.trans (hb.out.mono HB.out.size)⟩
/-- The plan's box, and the plan behind it. -/
structure PBx (W : World) (b : Nat) (v1 v2 : Value) (p : Pln) : Prop where
  box : PBox W b v1 v2
  pln : PlnAt W (.agg #[v1, v2]) p
theorem PBx.grow {W W' : World} {b : Nat} {v1 v2 : Value} {p : Pln} (h : PBx W b v1 v2 p) (hb : Below W.heap.size W W') : PBx W' b v1 v2 p := ⟨h.box.grow hb, h.pln.grow hb⟩
set_option maxRecDepth 20000 in
set_option maxHeartbeats 2000000 in
theorem rhangs_at {w : World} {v : Value} {p : Pln} (h : PlnAt w v p) {i k : Nat} (hi : i < p.flws.length) {r : Bool} (hr : hangsGo (srcOf p.flws) k p.flws.length i = r) :
    Calls Tryz.prog 33 #[v, .int .i64 i, .int .i64 k] w fun e w' => e = .returned (.bool r) ∧ Below w.heap.size w w' := by
  obtain ⟨a1, c1, a2, c2, rfl, k1, k2, -, -⟩ := pln_form h
  obtain ⟨n, hn⟩ : ∃ n, p.tops.length = n := ⟨_, rfl⟩
  obtain ⟨m, hm⟩ : ∃ m, p.flws.length = m := ⟨_, rfl⟩
  rw [hn] at k1 h ⊢
  rw [hm] at k2 h hi hr ⊢
  unfold maxLen at k1 k2
  obtain ⟨W, hW⟩ : ∃ W, w.alloc (.cells #[.slice a1 n c1, .slice a2 m c2] 25) = W := ⟨_, rfl⟩
  have bw : Below w.heap.size w W := by rw [← hW]; exact (Below.refl _ _).alloc (Nat.le_refl _) _
  have hxb : PBx W w.heap.size (.slice a1 n c1) (.slice a2 m c2) p := ⟨by rw [← hW]; exact heap_alloc_new w _, h.grow bw⟩
  have HX := Lib.hid hxb
  have HB := Lib.hid bw
  have HM := Lib.hid hm
  have HR : Hid (hangsGo (srcOf p.flws) k (m - 0) i = r) := Lib.hid hr
  clear h bw hxb hr hn hm
  go_enter Tryz.func33, Tryz.ntmps33
  go_wp2
  clear hW
  go_loopw [7, 8] (fun y z wr => ∃ (t a : Nat), t ≤ m ∧ a < m ∧ y = .int .i64 a ∧ z = .int .i64 t ∧ Hid (hangsGo (srcOf p.flws) k (m - t) a = r) ∧ Hid (Below W.heap.size W wr)) (fun _ z _ => m - (intOf z).toNat)
  case atStart => exact ⟨0, i, Nat.zero_le _, hi, rfl, rfl, HR, Lib.hid (Below.refl _ _)⟩
  case round =>
    clear HR
    obtain ⟨t, a, ht, ha, rfl, rfl, hr, hb⟩ := hrel
    have hx := HX.out.grow hb.out
    obtain ⟨p0, p1⟩ := hx.box.cells
    have HP := Lib.hid hx.pln
    clear hx
    by_cases hlt : t < m
    · have hd := hr.out
      rw [show m - t = (m - (t + 1)) + 1 by omega] at hd
      unfold hangsGo at hd
      have hal : a < p.flws.length := by rw [HM.out]; exact ha
      cases hs : srcOf p.flws a with
      | none =>
        rw [hs] at hd
        have HD := Lib.hid hd
        have HS : Hid (oI (srcOf p.flws a) = -1) := Lib.hid (by rw [hs]; rfl)
        clear hd hs hr
        go_wp2_with (go_at_call 17; refine (rsource_at HP.out hal HS.out).mono ?_; rintro e w2 ⟨rfl, hb2⟩; have HB2 := Lib.hid (hb.out.trans (hb2.mono hb.out.size)); clear hb2)
        go_ret
        exact ⟨ret_bool HD.out, HB.out.trans (HB2.out.mono HB.out.size)⟩
      | some s =>
        rw [hs] at hd
        simp only at hd
        have hsm : s < m := by rw [← HM.out]; exact srcOf_lt hs
        have HS : Hid (oI (srcOf p.flws a) = (s : Int)) := Lib.hid (by rw [hs]; rfl)
        have s0 : ¬ (s : Int) < 0 := by omega
        by_cases hq : s = k
        · rw [if_pos hq] at hd
          have HD := Lib.hid hd
          have e1 : ((s : Int) == (k : Int)) = true := ibeq (by omega)
          clear hd hs hr hq
          go_wp2_with (go_at_call 17; refine (rsource_at HP.out hal HS.out).mono ?_; rintro e w2 ⟨rfl, hb2⟩; have HB2 := Lib.hid (hb.out.trans (hb2.mono hb.out.size)); clear hb2)
          go_ret
          exact ⟨ret_bool HD.out, HB.out.trans (HB2.out.mono HB.out.size)⟩
        · rw [if_neg hq] at hd
          have HD := Lib.hid hd
          have e1 : ((s : Int) == (k : Int)) = false := ibne (by omega)
          clear hd hs hr hq
          go_wp2_with (go_at_call 17; refine (rsource_at HP.out hal HS.out).mono ?_; rintro e w2 ⟨rfl, hb2⟩; have HB2 := Lib.hid (hb.out.trans (hb2.mono hb.out.size)); clear hb2)
          go_roundw
          case rel => exact ⟨t + 1, s, by omega, hsm, rfl, by go_num, HD, HB2⟩
          case measure => simp [intOf]; omega
    · have HD : Hid (false = r) := Lib.hid (by rw [← hr.out, show m - t = 0 by omega]; rfl)
      clear hr
      go_wp2
      go_ret
      exact ⟨ret_bool HD.out, HB.out.trans (hb.out.mono HB.out.size)⟩
end Go.Proofs.YtfoenfipefhpoaaGreatDoor.Gr
/-
  The document's External. Conditions: the plan lies in memory and has at most 100 topics and 100 flows.
-/
namespace Go.Proofs.YtfoenfipefhpoaaGreatDoor.Gr
open Go.RowKit Go.Proofs.YtfoenfipefhpoaaGreatDoor.Ex Go.Proofs.YtfoenfipefhpoaaGreatDoor.Pl

def writtenIn (fs : List Flw) (x : Bs) : Bool := fs.any fun f => decide (f.dest = x)
def extOf (p : Pln) : List Bs := (p.tops.map Top.name).filter fun x => !writtenIn p.flws x
theorem ext_take (L : List Top) (P : Bs → Bool) {k : Nat} (hk : k < L.length) : ((L.take (k + 1)).map Top.name).filter P = ((L.take k).map Top.name).filter P ++ (if P L[k].name = true then [L[k].name] else []) := by
  rw [List.take_succ_eq_append_getElem hk, List.map_append, List.filter_append]
  cases h : P L[k].name <;> simp [h]
set_option maxRecDepth 20000 in
set_option maxHeartbeats 4000000 in
theorem rexternal_at {w : World} {v : Value} {p : Pln} (h : PlnAt w v p) (hs : p.flws.length ≤ 100) (hs2 : p.tops.length ≤ 100) {L : List Bs} (hL : extOf p = L) :
    Calls Tryz.prog 16 #[v] w fun e w' => ∃ v', e = .returned v' ∧ NamesAt w' v' L ∧ Below w.heap.size w w' := by
  obtain ⟨a1, c1, a2, c2, rfl, k1, k2, ht, es, hf, he, hl⟩ := pln_form h
  obtain ⟨n, hn⟩ : ∃ n, p.tops.length = n := ⟨_, rfl⟩
  obtain ⟨m, hm⟩ : ∃ m, p.flws.length = m := ⟨_, rfl⟩
  unfold extOf at hL
  rw [hn] at ht k1 h hs2 ⊢
  rw [hm] at hf k2 h hl hs ⊢
  unfold maxLen at k1 k2
  obtain ⟨P, hP⟩ : ∃ P : Bs → Bool, (fun x => !writtenIn p.flws x) = P := ⟨_, rfl⟩
  rw [hP] at hL
  have hPx : ∀ x, (!writtenIn p.flws x) = P x := fun x => by rw [← hP]
  obtain ⟨i0, hi0, hz0, hz1, hz2⟩ := info_parts info9
  obtain ⟨W, hW⟩ : ∃ W, w.alloc (.cells #[.slice a1 n c1, .slice a2 m c2] 25) = W := ⟨_, rfl⟩
  have bw : Below w.heap.size w W := by rw [← hW]; exact (Below.refl _ _).alloc (Nat.le_refl _) _
  have hxb : PBox W w.heap.size (.slice a1 n c1) (.slice a2 m c2) := by rw [← hW]; exact heap_alloc_new w _
  have HX := Lib.hid hxb
  have HB := Lib.hid bw
  have HF := Lib.hid (hf.grow bw)
  have HT := Lib.hid (Lst.grow ht bw)
  have HE := Lib.hid he
  have HLn := Lib.hid hl
  have HM := Lib.hid hm
  have HN := Lib.hid hn
  have HP := Lib.hid hPx
  have HL := Lib.hid hL
  clear h ht hf he hl bw hxb hn hm hP hPx hL
  go_enter Tryz.func16, Tryz.ntmps16
  go_wp2
  clear hW
  go_loopw [3, 4, 5, 6] (fun y z _ _ wr => ∃ (k : Nat) (acc : List Bs), k ≤ n ∧ z = .int .i64 k ∧ Hid (acc = ((p.tops.take k).map Top.name).filter P) ∧ Hid (wr.ownsRow W.heap.size 9 1 y acc.length (ncs acc)) ∧ Hid (Below W.heap.size W wr)) (fun _ z _ _ _ => n - (intOf z).toNat)
  case atStart => exact ⟨0, [], Nat.zero_le _, rfl, Lib.hid rfl, Lib.hid (World.ownsRow_nil _ _ _ _), Lib.hid (Below.refl _ _)⟩
  case round =>
    obtain ⟨k, acc, hk, rfl, hacc, hown, hb⟩ := hrel
    obtain ⟨p0, p1⟩ := (HX.out.grow hb.out).cells
    have hal : acc.length ≤ 100 := by
      rw [hacc.out]
      have h1 := List.length_filter_le P ((p.tops.take k).map Top.name)
      rw [List.length_map, List.length_take] at h1
      omega
    by_cases hlt : k < n
    · have hkl : k < p.tops.length := by rw [HN.out]; exact hlt
      have hnx := ext_take p.tops P hkl
      obtain ⟨x, hx⟩ : ∃ x, p.tops[k].name = x := ⟨_, rfl⟩
      rw [hx] at hnx
      obtain ⟨b1, o1, rfl, hbl, t0, -⟩ := TopsAt.cells (TopsAt.grow HT.out hb.out) hkl
      rw [hx] at t0
      have HTx : Hid (∀ W', Below W.heap.size W W' → W'.cell? ⟨b1, o1 + k * 2, none⟩ = some (sv x)) := Lib.hid (fun W' hb' => by
        obtain ⟨b', o', e', -, q0, -⟩ := TopsAt.cells (TopsAt.grow HT.out hb') hkl
        injection e' with e'
        injection e' with e1 e2
        subst e1 e2
        rw [hx] at q0
        exact q0)
      obtain ⟨wt, hwt⟩ : ∃ wt, writtenIn p.flws x = wt := ⟨_, rfl⟩
      have hpx : P x = !wt := by rw [← HP.out x, hwt]
      have H0 : Hid ((false || (p.flws.drop 0).any fun f => decide (f.dest = x)) = wt) := Lib.hid (by rw [Bool.false_or]; exact hwt)
      have g0 : (0 : Int) ≤ (k : Int) := by omega
      have g1 : (k : Int) < (n : Int) := by omega
      have HNX := Lib.hid hnx
      have HPX := Lib.hid hpx
      clear hnx hpx hwt hx hkl
      rename World => wq
      go_wp2
      go_loopw [5, 6] (fun y z wr => ∃ (j : Nat) (b : Bool), j ≤ m ∧ y = .bool b ∧ z = .int .i64 j ∧ Hid ((b || (p.flws.drop j).any fun f => decide (f.dest = x)) = wt) ∧ Hid (Below wq.heap.size wq wr)) (fun _ z _ => m - (intOf z).toNat)
      case atStart => exact ⟨0, false, Nat.zero_le _, rfl, rfl, H0, Lib.hid (Below.refl _ _)⟩
      case round =>
        clear H0
        obtain ⟨j, b, hj, rfl, rfl, hr, hb2⟩ := hrel
        have hbb := hb.out.trans (hb2.out.mono hb.out.size)
        obtain ⟨p0, p1⟩ := (HX.out.grow hbb).cells
        have t0 := HTx.out _ hbb
        by_cases hjm : j < m
        · have hje : j < es.length := by rw [HLn.out]; exact hjm
          obtain ⟨b2, o2, rfl, hbl2, -, -, y2, -⟩ := (HF.out.grow hbb).cells hje
          have hfj : p.flws[j]'(by rw [HM.out]; exact hjm) = es[j].f := by simp [← HE.out]
          have hd : (p.flws.drop j).any (fun f => decide (f.dest = x)) = (decide (es[j].f.dest = x) || (p.flws.drop (j + 1)).any fun f => decide (f.dest = x)) := by
            rw [List.drop_eq_getElem_cons (by rw [HM.out]; exact hjm), List.any_cons, hfj]
          obtain ⟨nk, hnk⟩ : ∃ nk, es[j].f.dest = nk := ⟨_, rfl⟩
          rw [hnk] at hd y2
          have f0 : (0 : Int) ≤ (j : Int) := by omega
          have f1 : (j : Int) < (m : Int) := by omega
          have HBB := Lib.hid hbb
          clear hbb
          cases b with
          | true =>
            have HR : Hid ((true || (p.flws.drop (j + 1)).any fun f => decide (f.dest = x)) = wt) := Lib.hid (by rw [← hr.out]; rfl)
            clear hr hd hnk hfj hje
            go_wp2
            go_quiet (fail)
            go_wp2
            go_roundw
            case rel => exact ⟨j + 1, true, by omega, rfl, by go_num, HR, Lib.hid (hb2.out.trans (drewN_below _ _))⟩
            case measure => simp [intOf]; omega
          | false =>
            by_cases hq : nk = x
            · have HR : Hid ((true || (p.flws.drop (j + 1)).any fun f => decide (f.dest = x)) = wt) := Lib.hid (by rw [← hr.out, hd, decide_eq_true hq]; rfl)
              have e1 : (nk == x) = true := Pl.beq_of_eq hq
              clear hr hd hnk hfj hje hq
              go_wp2
              go_quiet (fail)
              go_wp2
              go_roundw
              case rel => exact ⟨j + 1, true, by omega, rfl, by go_num, HR, Lib.hid (hb2.out.trans (drewN_below _ _))⟩
              case measure => simp [intOf]; omega
            · have HR : Hid ((false || (p.flws.drop (j + 1)).any fun f => decide (f.dest = x)) = wt) := Lib.hid (by rw [← hr.out, hd, decide_eq_false hq]; rfl)
              have e1 : (nk == x) = false := Pl.beq_of_ne hq
              clear hr hd hnk hfj hje hq
              go_wp2
              go_quiet (fail)
              go_wp2
              go_roundw
              case rel => exact ⟨j + 1, false, by omega, rfl, by go_num, HR, Lib.hid (hb2.out.trans (drewN_below _ _))⟩
              case measure => simp [intOf]; omega
        · have hbw : b = wt := by
            have h1 := hr.out
            rw [List.drop_eq_nil_of_le (by rw [HM.out]; omega)] at h1
            simpa using h1
          subst hbw
          have HBB := Lib.hid hbb
          have HOw := Lib.hid (ownsRow_below hown.out hb2.out)
          clear hr hbb
          cases b with
          | true =>
            have HN2 : Hid (acc = ((p.tops.take (k + 1)).map Top.name).filter P) := Lib.hid (by rw [HNX.out, HPX.out, ← hacc.out]; simp)
            go_wp2
            go_roundw
            case rel => exact ⟨k + 1, acc, by omega, by go_num, HN2, HOw, HBB⟩
            case measure => simp [intOf]; omega
          | false =>
            have HN2 : Hid (acc ++ [x] = ((p.tops.take (k + 1)).map Top.name).filter P) := Lib.hid (by rw [HNX.out, HPX.out, ← hacc.out]; rfl)
            rename World => wi
            have b5 : Below wi.heap.size wi (wi.alloc (.cells #[sv x] 9)) := (Below.refl _ _).alloc (Nat.le_refl _) _
            have HB4 := Lib.hid (HBB.out.trans (b5.mono HBB.out.size))
            have HO4 := Lib.hid (ownsRow_below HOw.out b5)
            have hBs : W.heap.size ≤ wi.heap.size := HBB.out.size
            clear b5
            go_wp2_with (refine wpList_append_lies _ (by rfl) (.tmp 39) (.tmp 46) 39 (by rfl) W.heap.size 9 i0 (.string ⟨#[]⟩) 1 16 Tryz.underlying39 hi0 hz0 hz1 hz2 rfl (by decide) _ acc.length (ncs acc) (by rfl) HO4.out ⟨wi.heap.size, 0, none⟩ 1 1 [sv x] (by rfl) rfl (World.news_of_block (heap_alloc_new wi _)) (one_name _) (by decide) (by unfold maxLen; omega) (by omega) (by simp; omega) _ rfl ?_; intro g2 cap2 w5 hown2 hgrow2 hat2 hlt2; have HO5 := Lib.hid hown2; have HB5 := Lib.hid (HB4.out.grown hgrow2 HB4.out.size (fun k e => (HO4.out.lt k e).1)); clear hown2 hgrow2 hat2 hlt2)
            go_roundw
            case rel => exact ⟨k + 1, acc ++ [x], by omega, by go_num, HN2, Lib.hid (by rw [ncs_snoc]; simpa using HO5.out), HB5⟩
            case measure => simp [intOf]; omega
    · obtain rfl : acc = L := by rw [hacc.out, ← HL.out, List.take_of_length_le (by rw [HN.out]; omega)]
      clear hacc
      go_wp2
      go_ret
      exact ⟨_, rfl, names_row hown.out, HB.out.trans (hb.out.mono HB.out.size)⟩
end Go.Proofs.YtfoenfipefhpoaaGreatDoor.Gr
/-
  The document's Ahead and Behind. Conditions: the plan lies in memory, has at most 100 flows; the flow is one of it.
-/
namespace Go.Proofs.YtfoenfipefhpoaaGreatDoor.Gr
open Go.RowKit Go.Proofs.YtfoenfipefhpoaaGreatDoor.Ex Go.Proofs.YtfoenfipefhpoaaGreatDoor.Pl

def aheadOf (fs : List Flw) (i : Nat) : List Nat := (List.range fs.length).filter fun k => hangsGo (srcOf fs) k fs.length i
def behindOf (fs : List Flw) (i : Nat) : List Nat := (List.range fs.length).filter fun k => hangsGo (srcOf fs) i fs.length k
theorem filt_succ (P : Nat → Bool) (k : Nat) : (List.range (k + 1)).filter P = (List.range k).filter P ++ (if P k = true then [k] else []) := by
  rw [List.range_succ, List.filter_append]
  cases h : P k <;> simp [h]
set_option maxRecDepth 20000 in
set_option maxHeartbeats 2000000 in
theorem rahead_at {w : World} {v : Value} {p : Pln} (h : PlnAt w v p) {i : Nat} (hi : i < p.flws.length) (hs : p.flws.length ≤ 100) {L : List Nat} (hL : aheadOf p.flws i = L) :
    Calls Tryz.prog 18 #[v, .int .i64 i] w fun e w' => ∃ v', e = .returned v' ∧ IntsAt w' v' L ∧ Below w.heap.size w w' := by
  obtain ⟨a1, c1, a2, c2, rfl, k1, k2, -, -⟩ := pln_form h
  obtain ⟨n, hn⟩ : ∃ n, p.tops.length = n := ⟨_, rfl⟩
  obtain ⟨m, hm⟩ : ∃ m, p.flws.length = m := ⟨_, rfl⟩
  unfold aheadOf at hL
  rw [hn] at k1 h ⊢
  rw [hm] at k2 h hi hs hL ⊢
  unfold maxLen at k1 k2
  obtain ⟨P, hP⟩ : ∃ P : Nat → Bool, (fun k => hangsGo (srcOf p.flws) k m i) = P := ⟨_, rfl⟩
  rw [hP] at hL
  have hPk : ∀ k, hangsGo (srcOf p.flws) k m i = P k := fun k => by rw [← hP]
  obtain ⟨i0, hi0, hz0, hz1, hz2⟩ := info_parts info3
  obtain ⟨W, hW⟩ : ∃ W, w.alloc (.cells #[.slice a1 n c1, .slice a2 m c2] 25) = W := ⟨_, rfl⟩
  have bw : Below w.heap.size w W := by rw [← hW]; exact (Below.refl _ _).alloc (Nat.le_refl _) _
  have hxb : PBx W w.heap.size (.slice a1 n c1) (.slice a2 m c2) p := ⟨by rw [← hW]; exact heap_alloc_new w _, h.grow bw⟩
  have HX := Lib.hid hxb
  have HB := Lib.hid bw
  have HM := Lib.hid hm
  have HP := Lib.hid hPk
  have HL := Lib.hid hL
  clear h bw hxb hn hm hP hPk hL
  go_enter Tryz.func18, Tryz.ntmps18
  go_wp2
  clear hW
  go_loopw [5, 6] (fun y z wr => ∃ (k : Nat) (acc : List Nat), k ≤ m ∧ z = .int .i64 k ∧ Hid (acc = (List.range k).filter P) ∧ Hid (wr.ownsRow W.heap.size 3 1 y acc.length (ics acc)) ∧ Hid (Below W.heap.size W wr)) (fun _ z _ => m - (intOf z).toNat)
  case atStart => exact ⟨0, [], Nat.zero_le _, rfl, Lib.hid rfl, Lib.hid (World.ownsRow_nil _ _ _ _), Lib.hid (Below.refl _ _)⟩
  case round =>
    obtain ⟨k, acc, hk, rfl, hacc, hown, hb⟩ := hrel
    have hx := HX.out.grow hb.out
    obtain ⟨p0, p1⟩ := hx.box.cells
    have HPl := Lib.hid hx.pln
    have hal : acc.length ≤ 100 := by
      rw [hacc.out]
      have := List.length_filter_le P (List.range k)
      rw [List.length_range] at this
      omega
    have HBs : W.heap.size ≤ wr.heap.size := hb.out.size
    clear hx
    by_cases hlt : k < m
    · have hil : i < p.flws.length := by rw [HM.out]; exact hi
      obtain ⟨b, hbP⟩ : ∃ b, P k = b := ⟨_, rfl⟩
      have HK : Hid (hangsGo (srcOf p.flws) k p.flws.length i = b) := Lib.hid (by rw [HM.out, ← hbP]; exact HP.out k)
      have hnx := filt_succ P k
      rw [hbP] at hnx
      cases b with
      | true =>
        have HN : Hid (acc ++ [k] = (List.range (k + 1)).filter P) := Lib.hid (by rw [hnx, ← hacc.out]; rfl)
        clear hnx hbP hacc
        go_wp2_with (first
          | (go_at_call 33; refine (rhangs_at HPl.out hil HK.out).mono ?_; rintro e w2 ⟨rfl, hb2⟩; have HO := Lib.hid (ownsRow_below (ownsRow_below hown.out hb2) ((Below.refl _ _).alloc (Nat.le_refl _) (.cells #[.int .i64 (k : Int)] 3))); have HB2 := Lib.hid ((hb.out.trans (hb2.mono hb.out.size)).trans (((Below.refl _ _).alloc (Nat.le_refl _) (.cells #[.int .i64 (k : Int)] 3)).mono (Nat.le_trans HBs hb2.size))); have q2 : W.heap.size ≤ w2.heap.size := Nat.le_trans HBs hb2.size; clear hb2)
          | (refine wpList_append_lies _ (by rfl) (.tmp 18) (.tmp 20) 30 (by rfl) W.heap.size 3 i0 (.int .i64 0) 1 8 Tryz.underlying30 hi0 hz0 hz1 hz2 rfl (by decide) _ acc.length (ics acc) (by rfl) HO.out ⟨w2.heap.size, 0, none⟩ 1 1 [.int .i64 (k : Int)] (by rfl) rfl (World.news_of_block (heap_alloc_new w2 _)) (one_int _) (by decide) (by unfold maxLen; omega) (by omega) (by simp; omega) _ rfl ?_; intro g2 cap2 w3 hown2 hgrow2 hat2 hlt2; have HO3 := Lib.hid hown2; have HB3 := Lib.hid (HB2.out.grown hgrow2 HB2.out.size (fun k e => (HO.out.lt k e).1)); clear hown2 hgrow2 hat2 hlt2))
        go_roundw
        case rel => exact ⟨k + 1, acc ++ [k], by omega, by go_num, HN, Lib.hid (by rw [ics_snoc]; simpa using HO3.out), HB3⟩
        case measure => simp [intOf]; omega
      | false =>
        have HN : Hid (acc = (List.range (k + 1)).filter P) := Lib.hid (by rw [hnx, ← hacc.out]; simp)
        clear hnx hbP hacc
        go_wp2_with (go_at_call 33; refine (rhangs_at HPl.out hil HK.out).mono ?_; rintro e w2 ⟨rfl, hb2⟩; have HO := Lib.hid (ownsRow_below hown.out hb2); have HB2 := Lib.hid (hb.out.trans (hb2.mono hb.out.size)); clear hb2)
        go_roundw
        case rel => exact ⟨k + 1, acc, by omega, by go_num, HN, HO, HB2⟩
        case measure => simp [intOf]; omega
    · obtain rfl : acc = L := by rw [hacc.out, ← HL.out, show k = m by omega]
      clear hacc
      go_wp2
      go_ret
      exact ⟨_, rfl, ints_row hown.out, HB.out.trans (hb.out.mono HB.out.size)⟩
set_option maxRecDepth 20000 in
set_option maxHeartbeats 2000000 in
theorem rbehind_at {w : World} {v : Value} {p : Pln} (h : PlnAt w v p) {i : Nat} (hi : i < p.flws.length) (hs : p.flws.length ≤ 100) {L : List Nat} (hL : behindOf p.flws i = L) :
    Calls Tryz.prog 19 #[v, .int .i64 i] w fun e w' => ∃ v', e = .returned v' ∧ IntsAt w' v' L ∧ Below w.heap.size w w' := by
  obtain ⟨a1, c1, a2, c2, rfl, k1, k2, -, -⟩ := pln_form h
  obtain ⟨n, hn⟩ : ∃ n, p.tops.length = n := ⟨_, rfl⟩
  obtain ⟨m, hm⟩ : ∃ m, p.flws.length = m := ⟨_, rfl⟩
  unfold behindOf at hL
  rw [hn] at k1 h ⊢
  rw [hm] at k2 h hi hs hL ⊢
  unfold maxLen at k1 k2
  obtain ⟨P, hP⟩ : ∃ P : Nat → Bool, (fun k => hangsGo (srcOf p.flws) i m k) = P := ⟨_, rfl⟩
  rw [hP] at hL
  have hPk : ∀ k, hangsGo (srcOf p.flws) i m k = P k := fun k => by rw [← hP]
  obtain ⟨i0, hi0, hz0, hz1, hz2⟩ := info_parts info3
  obtain ⟨W, hW⟩ : ∃ W, w.alloc (.cells #[.slice a1 n c1, .slice a2 m c2] 25) = W := ⟨_, rfl⟩
  have bw : Below w.heap.size w W := by rw [← hW]; exact (Below.refl _ _).alloc (Nat.le_refl _) _
  have hxb : PBx W w.heap.size (.slice a1 n c1) (.slice a2 m c2) p := ⟨by rw [← hW]; exact heap_alloc_new w _, h.grow bw⟩
  have HX := Lib.hid hxb
  have HB := Lib.hid bw
  have HM := Lib.hid hm
  have HP := Lib.hid hPk
  have HL := Lib.hid hL
  clear h bw hxb hn hm hP hPk hL
  go_enter Tryz.func19, Tryz.ntmps19
  go_wp2
  clear hW
  go_loopw [5, 6] (fun y z wr => ∃ (k : Nat) (acc : List Nat), k ≤ m ∧ z = .int .i64 k ∧ Hid (acc = (List.range k).filter P) ∧ Hid (wr.ownsRow W.heap.size 3 1 y acc.length (ics acc)) ∧ Hid (Below W.heap.size W wr)) (fun _ z _ => m - (intOf z).toNat)
  case atStart => exact ⟨0, [], Nat.zero_le _, rfl, Lib.hid rfl, Lib.hid (World.ownsRow_nil _ _ _ _), Lib.hid (Below.refl _ _)⟩
  case round =>
    obtain ⟨k, acc, hk, rfl, hacc, hown, hb⟩ := hrel
    have hx := HX.out.grow hb.out
    obtain ⟨p0, p1⟩ := hx.box.cells
    have HPl := Lib.hid hx.pln
    have hal : acc.length ≤ 100 := by
      rw [hacc.out]
      have := List.length_filter_le P (List.range k)
      rw [List.length_range] at this
      omega
    have HBs : W.heap.size ≤ wr.heap.size := hb.out.size
    clear hx
    by_cases hlt : k < m
    · have hil : k < p.flws.length := by rw [HM.out]; exact hlt
      obtain ⟨b, hbP⟩ : ∃ b, P k = b := ⟨_, rfl⟩
      have HK : Hid (hangsGo (srcOf p.flws) i p.flws.length k = b) := Lib.hid (by rw [HM.out, ← hbP]; exact HP.out k)
      have hnx := filt_succ P k
      rw [hbP] at hnx
      cases b with
      | true =>
        have HN : Hid (acc ++ [k] = (List.range (k + 1)).filter P) := Lib.hid (by rw [hnx, ← hacc.out]; rfl)
        clear hnx hbP hacc
        go_wp2_with (first
          | (go_at_call 33; refine (rhangs_at HPl.out hil HK.out).mono ?_; rintro e w2 ⟨rfl, hb2⟩; have HO := Lib.hid (ownsRow_below (ownsRow_below hown.out hb2) ((Below.refl _ _).alloc (Nat.le_refl _) (.cells #[.int .i64 (k : Int)] 3))); have HB2 := Lib.hid ((hb.out.trans (hb2.mono hb.out.size)).trans (((Below.refl _ _).alloc (Nat.le_refl _) (.cells #[.int .i64 (k : Int)] 3)).mono (Nat.le_trans HBs hb2.size))); have q2 : W.heap.size ≤ w2.heap.size := Nat.le_trans HBs hb2.size; clear hb2)
          | (refine wpList_append_lies _ (by rfl) (.tmp 18) (.tmp 20) 30 (by rfl) W.heap.size 3 i0 (.int .i64 0) 1 8 Tryz.underlying30 hi0 hz0 hz1 hz2 rfl (by decide) _ acc.length (ics acc) (by rfl) HO.out ⟨w2.heap.size, 0, none⟩ 1 1 [.int .i64 (k : Int)] (by rfl) rfl (World.news_of_block (heap_alloc_new w2 _)) (one_int _) (by decide) (by unfold maxLen; omega) (by omega) (by simp; omega) _ rfl ?_; intro g2 cap2 w3 hown2 hgrow2 hat2 hlt2; have HO3 := Lib.hid hown2; have HB3 := Lib.hid (HB2.out.grown hgrow2 HB2.out.size (fun k e => (HO.out.lt k e).1)); clear hown2 hgrow2 hat2 hlt2))
        go_roundw
        case rel => exact ⟨k + 1, acc ++ [k], by omega, by go_num, HN, Lib.hid (by rw [ics_snoc]; simpa using HO3.out), HB3⟩
        case measure => simp [intOf]; omega
      | false =>
        have HN : Hid (acc = (List.range (k + 1)).filter P) := Lib.hid (by rw [hnx, ← hacc.out]; simp)
        clear hnx hbP hacc
        go_wp2_with (go_at_call 33; refine (rhangs_at HPl.out hil HK.out).mono ?_; rintro e w2 ⟨rfl, hb2⟩; have HO := Lib.hid (ownsRow_below hown.out hb2); have HB2 := Lib.hid (hb.out.trans (hb2.mono hb.out.size)); clear hb2)
        go_roundw
        case rel => exact ⟨k + 1, acc, by omega, by go_num, HN, HO, HB2⟩
        case measure => simp [intOf]; omega
    · obtain rfl : acc = L := by rw [hacc.out, ← HL.out, show k = m by omega]
      clear hacc
      go_wp2
      go_ret
      exact ⟨_, rfl, ints_row hown.out, HB.out.trans (hb.out.mono HB.out.size)⟩
end Go.Proofs.YtfoenfipefhpoaaGreatDoor.Gr
/-
  The document's Order. Conditions: the plan lies in memory and has at most 100 flows.
-/
namespace Go.Proofs.YtfoenfipefhpoaaGreatDoor.Gr
open Go.RowKit Go.Proofs.YtfoenfipefhpoaaGreatDoor.Ex Go.Proofs.YtfoenfipefhpoaaGreatDoor.Pl

/-- The first that may be next, from k on, so many of them. -/
def pickGo (src : Nat → Option Nat) (told : List Nat) : Nat → Nat → Option Nat
  | 0, _ => none
  | c + 1, k => if free src told k = true then some k else pickGo src told c (k + 1)
theorem pickGo_range (src : Nat → Option Nat) (told : List Nat) : ∀ c k, pickGo src told c k = (List.range' k c).find? (free src told)
  | 0, k => rfl
  | c + 1, k => by
    rw [List.range'_succ, List.find?_cons, pickGo, pickGo_range src told c (k + 1)]
    cases free src told k <;> rfl
theorem pickGo_pick (src : Nat → Option Nat) (told : List Nat) (n : Nat) : pickGo src told n 0 = pick src n told := by
  rw [pickGo_range, pick, List.range_eq_range']
/-- Is what writes it told? -/
def mfree (told : List Nat) : Option Nat → Bool
  | none => true
  | some s => told.contains s
theorem free_eq (src : Nat → Option Nat) (told : List Nat) (i : Nat) : free src told i = (!told.contains i && mfree told (src i)) := by
  unfold free mfree
  cases src i <;> rfl
/-- Which ones are told, as they lie in memory. -/
def tcs (m : Nat) (acc : List Nat) : List Value := (List.range m).map fun i => Value.bool (acc.contains i)
theorem tcs_at {m : Nat} (acc : List Nat) {i : Nat} (hi : i < m) : (tcs m acc)[i]? = some (.bool (acc.contains i)) := by
  unfold tcs
  rw [List.getElem?_map, List.getElem?_range hi]; rfl
theorem tcs_start (m : Nat) : (madeCells #[.bool false] m) = (tcs m []).toArray := by
  apply Array.ext
  · simp [madeCells, tcs]
  · intro i h1 h2
    simp [madeCells, tcs, Nat.mod_one]
theorem tcs_set (m : Nat) (acc : List Nat) {k : Nat} : (tcs m acc).set k (.bool true) = tcs m (acc ++ [k]) := by
  apply List.ext_getElem?
  intro i
  by_cases hi : i < m
  · rw [tcs_at _ hi, List.getElem?_set]
    by_cases h : k = i
    · subst h
      rw [if_pos rfl, if_pos (by simp [tcs]; exact hi)]; simp
    · rw [if_neg h, tcs_at _ hi]
      have : ¬ i = k := fun e => h e.symm
      simp [this]
  · rw [List.getElem?_eq_none (by simp [tcs]; omega), List.getElem?_eq_none (by simp [tcs]; omega)]
def TB (w : World) (b m : Nat) (acc : List Nat) : Prop := w.heap[b]? = some (.cells (tcs m acc).toArray 4 (0, 0))
theorem TB.blk {w : World} {b m : Nat} {acc : List Nat} (h : TB w b m acc) : w.heap[b]? = some (.cells (tcs m acc).toArray 4 (0, 0)) := h
theorem TB.grow {w w' : World} {b m : Nat} {acc : List Nat} (h : TB w b m acc) (hb : Below w.heap.size w w') : TB w' b m acc := by
  unfold TB; rw [hb.block b (lt_of_heap h)]; exact h
theorem TB.cell {w : World} {b m : Nat} {acc : List Nat} (h : TB w b m acc) {i : Nat} (hi : i < m) : w.cell? ⟨b, i, none⟩ = some (.bool (acc.contains i)) := by
  rw [cell_of_heap h, List.getElem?_toArray, tcs_at _ hi]
theorem TB.free {w : World} {b m : Nat} {acc : List Nat} (h : TB w b m acc) (i : Nat) : w.frozen? ⟨b, i, none⟩ = false := free_of_heap h i
theorem TB.set {w : World} {b m : Nat} {acc : List Nat} (h : TB w b m acc) (k : Nat) : TB (w.setCell ⟨b, k, none⟩ (.bool true)) b m (acc ++ [k]) := by
  unfold TB
  rw [heap_setCell_same w b k _ _ _ h, List.setIfInBounds_toArray, tcs_set]
def OrdRet (O : Option (List Nat)) (e : Ending) (w' : World) : Prop := match O with
  | none => e = .returned (.tuple #[.slice none 0 0, .bool false])
  | some L => ∃ v', e = .returned (.tuple #[v', .bool true]) ∧ IntsAt w' v' L
theorem info4 : (Tryz.prog.info? 4).map (fun i => (i.zero, i.size, i.bytes)) = some (some (.bool false), 1, 1) := by kernel_rfl
theorem row_slice {w : World} {B n : Nat} {e : TypeId} {size : Nat} {v : Value} {xs : List Value} (h : w.ownsRow B e size v n xs) : ∃ a c, v = .slice a n c ∧ n ≤ maxLen := by
  rcases h.2 with ⟨rfl, h0⟩ | ⟨g, cap, cur, rfl, hb, hg, hnc, hcm, -⟩
  · exact ⟨none, 0, by rw [h0], by rw [h0]; exact Nat.zero_le _⟩
  · exact ⟨_, _, rfl, Nat.le_trans hnc hcm⟩
set_option maxRecDepth 20000 in
set_option maxHeartbeats 4000000 in
theorem rorder_at {w : World} {v : Value} {p : Pln} (h : PlnAt w v p) (hs : p.flws.length ≤ 100) {O : Option (List Nat)} (hO : order (srcOf p.flws) p.flws.length = O) :
    Calls Tryz.prog 10 #[v] w fun e w' => OrdRet O e w' ∧ Below w.heap.size w w' := by
  obtain ⟨a1, c1, a2, c2, rfl, k1, k2, -, -⟩ := pln_form h
  obtain ⟨n, hn⟩ : ∃ n, p.tops.length = n := ⟨_, rfl⟩
  obtain ⟨m, hm⟩ : ∃ m, p.flws.length = m := ⟨_, rfl⟩
  unfold order at hO
  rw [hn] at k1 h ⊢
  rw [hm] at k2 h hs hO ⊢
  unfold maxLen at k1 k2
  obtain ⟨i0, hi0, hz0, hz1, hz2⟩ := info_parts info3
  obtain ⟨j0, hj0, hy0, hy1, hy2⟩ := info_parts info4
  obtain ⟨W, hW⟩ : ∃ W, w.alloc (.cells #[.slice a1 n c1, .slice a2 m c2] 25) = W := ⟨_, rfl⟩
  have bw : Below w.heap.size w W := by rw [← hW]; exact (Below.refl _ _).alloc (Nat.le_refl _) _
  have hxb : PBx W w.heap.size (.slice a1 n c1) (.slice a2 m c2) p := ⟨by rw [← hW]; exact heap_alloc_new w _, h.grow bw⟩
  have hmk : (Instr.makeSlice 61 (.int .i64 (m : Int)) (.int .i64 (m : Int))).run Tryz.prog W = .ok (.slice (some ⟨W.heap.size, 0, none⟩) m m) (W.alloc (.cells (madeCells #[.bool false] m) 4)) := by
    have hr := run_make (P := Tryz.prog) W 61 4 j0 (.bool false) Tryz.underlying61 hj0 hy0 .i64 .i64 (m : Int) (m : Int) (by omega) (by omega) (by rw [hy2]; omega) (by omega)
    rw [hy1, Nat.mul_one, Int.toNat_natCast] at hr
    exact hr
  obtain ⟨W2, hW2⟩ : ∃ W2, W.alloc (.cells (madeCells #[.bool false] m) 4) = W2 := ⟨_, rfl⟩
  have bw2 : Below W.heap.size W W2 := by rw [← hW2]; exact (Below.refl _ _).alloc (Nat.le_refl _) _
  have htb : TB W2 W.heap.size m [] := by unfold TB; rw [← hW2, ← tcs_start]; exact heap_alloc_new W _
  rw [hW2] at hmk
  obtain ⟨p0, p1⟩ := hxb.box.cells
  have HX := Lib.hid hxb
  have HB := Lib.hid bw
  have HM := Lib.hid hm
  have HO0 : Hid (orderGo (srcOf p.flws) m (m - ([] : List Nat).length) ([] : List Nat) = O) := Lib.hid hO
  have HT0 := Lib.hid htb
  have HB2 := Lib.hid bw2
  clear h bw hxb hn hm hO hW2 bw2 htb hj0 hy0 hy1 hy2
  go_enter Tryz.func10, Tryz.ntmps10
  go_wp2
  clear hW hmk p0 p1
  go_loopg [4, 6, 7, 8] m (fun g y _ _ _ wr => ∃ acc : List Nat, acc.length + g = m ∧ Hid (orderGo (srcOf p.flws) m (m - acc.length) acc = O) ∧ Hid (wr.ownsRow W.heap.size 3 1 y acc.length (ics acc)) ∧ Hid (TB wr W.heap.size m acc) ∧ Hid (Below W.heap.size W wr))
  case atStart => exact ⟨[], by simp, HO0, Lib.hid (World.ownsRow_nil _ _ _ _), HT0, HB2⟩
  case round =>
    clear HO0 HT0 HB2
    obtain ⟨acc, hg, hr, hown, htb, hb⟩ := hrel
    obtain ⟨ya, yc, rfl, hym⟩ := row_slice hown.out
    have hx := HX.out.grow hb.out
    obtain ⟨p0, p1⟩ := hx.box.cells
    clear hx
    have hql : acc.length ≤ 100 := by omega
    by_cases hlt : acc.length < m
    · obtain ⟨R, hR⟩ : ∃ R, pick (srcOf p.flws) m acc = R := ⟨_, rfl⟩
      have HR0 : Hid (pickGo (srcOf p.flws) acc (m - 0) 0 = R) := Lib.hid (by rw [Nat.sub_zero, pickGo_pick]; exact hR)
      have hd := hr.out
      rw [show m - acc.length = (m - (acc.length + 1)) + 1 by omega] at hd
      unfold orderGo at hd
      rw [hR] at hd
      have HD := Lib.hid hd
      clear hd hR hr
      rename World => wq
      go_wp2
      go_loopw [6, 7, 8] (fun y z _ wr => ∃ k : Nat, k ≤ m ∧ z = .int .i64 k ∧ ((y = .int .i64 (-1) ∧ Hid (pickGo (srcOf p.flws) acc (m - k) k = R)) ∨ (∃ j : Nat, j < m ∧ y = .int .i64 j ∧ Hid (R = some j))) ∧ Hid (Below wq.heap.size wq wr)) (fun _ z _ _ => m - (intOf z).toNat)
      case atStart => exact ⟨0, Nat.zero_le _, rfl, .inl ⟨rfl, HR0⟩, Lib.hid (Below.refl _ _)⟩
      case round =>
        clear HR0
        obtain ⟨k, hk, rfl, hst, hb2⟩ := hrel
        have hbb := hb.out.trans (hb2.out.mono hb.out.size)
        have hx := HX.out.grow hbb
        have ht := htb.out.grow hb2.out
        have ho := ownsRow_below hown.out hb2.out
        obtain ⟨p0, p1⟩ := hx.box.cells
        have HBB := Lib.hid hbb
        have HPl := Lib.hid hx.pln
        have HT := Lib.hid ht
        have HOw := Lib.hid ho
        clear hx ht ho hbb
        rcases hst with ⟨rfl, hp⟩ | ⟨j, hj, rfl, hp⟩
        · by_cases hkm : k < m
          · have hd := hp.out
            rw [show m - k = (m - (k + 1)) + 1 by omega] at hd
            unfold pickGo at hd
            have hkl : k < p.flws.length := by rw [HM.out]; exact hkm
            have t0 := HT.out.cell hkm
            have e0 : (0 : Int) ≤ (k : Int) := by omega
            have e1 : (k : Int) < (m : Int) := by omega
            obtain ⟨tk, htk⟩ : ∃ tk, acc.contains k = tk := ⟨_, rfl⟩
            rw [htk] at t0
            obtain ⟨s, hs⟩ : ∃ s, srcOf p.flws k = s := ⟨_, rfl⟩
            have hfr : free (srcOf p.flws) acc k = (!tk && mfree acc s) := by rw [free_eq, htk, hs]
            rw [hfr] at hd
            have HS : Hid (oI (srcOf p.flws k) = oI s) := Lib.hid (by rw [hs])
            have hsm : ∀ j, s = some j → j < m := fun j e => by rw [← HM.out]; exact srcOf_lt (hs.trans e)
            clear hp hfr hs htk
            cases tk with
            | true =>
              have HD2 : Hid (pickGo (srcOf p.flws) acc (m - (k + 1)) (k + 1) = R) := Lib.hid (by rw [← hd]; rfl)
              clear hd
              go_wp2_with (go_at_call 17; refine (rsource_at HPl.out hkl HS.out).mono ?_; rintro e w2 ⟨rfl, hb3⟩; have t1 : w2.cell? ⟨W.heap.size, k, none⟩ = some (.bool true) := by { rw [hb3.cell (p := ⟨W.heap.size, k, none⟩) (lt_of_heap HT.out)]; exact t0 }; have HB3 := Lib.hid (hb2.out.trans (hb3.mono hb2.out.size)); clear hb3)
              go_roundw
              case rel => exact ⟨k + 1, by omega, by go_num, .inl ⟨rfl, HD2⟩, HB3⟩
              case measure => simp [intOf]; omega
            | false =>
              cases s with
              | none =>
                have HD2 : Hid (R = some k) := Lib.hid (by rw [← hd]; rfl)
                clear hd
                go_wp2_with (go_at_call 17; refine (rsource_at HPl.out hkl HS.out).mono ?_; rintro e w2 ⟨rfl, hb3⟩; have t1 : w2.cell? ⟨W.heap.size, k, none⟩ = some (.bool false) := by { rw [hb3.cell (p := ⟨W.heap.size, k, none⟩) (lt_of_heap HT.out)]; exact t0 }; have HB3 := Lib.hid (hb2.out.trans (hb3.mono hb2.out.size)); clear hb3; dsimp only [oI])
                go_roundw
                case rel => exact ⟨k + 1, by omega, by go_num, .inr ⟨k, hkm, rfl, HD2⟩, HB3⟩
                case measure => simp [intOf]; omega
              | some s =>
                have hs2 := hsm s rfl
                have u0 := HT.out.cell hs2
                have s0 : ¬ (s : Int) < 0 := by omega
                have s1 : (s : Int) < (m : Int) := by omega
                have s2 : (0 : Int) ≤ (s : Int) := by omega
                obtain ⟨ts, hts⟩ : ∃ ts, acc.contains s = ts := ⟨_, rfl⟩
                rw [hts] at u0
                simp only [mfree, hts] at hd
                cases ts with
                | true =>
                  have HD2 : Hid (R = some k) := Lib.hid (by rw [← hd]; rfl)
                  clear hd hsm
                  go_wp2_with (go_at_call 17; refine (rsource_at HPl.out hkl HS.out).mono ?_; rintro e w2 ⟨rfl, hb3⟩; have t1 : w2.cell? ⟨W.heap.size, k, none⟩ = some (.bool false) := by { rw [hb3.cell (p := ⟨W.heap.size, k, none⟩) (lt_of_heap HT.out)]; exact t0 }; have u1 : w2.cell? ⟨W.heap.size, s, none⟩ = some (.bool true) := by { rw [hb3.cell (p := ⟨W.heap.size, s, none⟩) (lt_of_heap HT.out)]; exact u0 }; have HB3 := Lib.hid (hb2.out.trans (hb3.mono hb2.out.size)); clear hb3; dsimp only [oI])
                  go_roundw
                  case rel => exact ⟨k + 1, by omega, by go_num, .inr ⟨k, hkm, rfl, HD2⟩, HB3⟩
                  case measure => simp [intOf]; omega
                | false =>
                  have HD2 : Hid (pickGo (srcOf p.flws) acc (m - (k + 1)) (k + 1) = R) := Lib.hid (by rw [← hd]; rfl)
                  clear hd hsm
                  go_wp2_with (go_at_call 17; refine (rsource_at HPl.out hkl HS.out).mono ?_; rintro e w2 ⟨rfl, hb3⟩; have t1 : w2.cell? ⟨W.heap.size, k, none⟩ = some (.bool false) := by { rw [hb3.cell (p := ⟨W.heap.size, k, none⟩) (lt_of_heap HT.out)]; exact t0 }; have u1 : w2.cell? ⟨W.heap.size, s, none⟩ = some (.bool false) := by { rw [hb3.cell (p := ⟨W.heap.size, s, none⟩) (lt_of_heap HT.out)]; exact u0 }; have HB3 := Lib.hid (hb2.out.trans (hb3.mono hb2.out.size)); clear hb3; dsimp only [oI])
                  go_roundw
                  case rel => exact ⟨k + 1, by omega, by go_num, .inl ⟨rfl, HD2⟩, HB3⟩
                  case measure => simp [intOf]; omega
          · have HD2 : Hid (none = O) := Lib.hid (by
              have h1 := hp.out
              rw [show m - k = 0 by omega] at h1
              rw [← HD.out, ← h1]; rfl)
            clear hp HD
            go_wp2
            go_ret2
            refine ⟨?_, HB.out.trans (HBB.out.mono HB.out.size)⟩
            rw [← HD2.out]; rfl
        · have HD2 : Hid (orderGo (srcOf p.flws) m (m - (acc.length + 1)) (acc ++ [j]) = O) := Lib.hid (by rw [← HD.out, hp.out])
          have t0 := HT.out.cell hj
          have f0 := HT.out.free j
          have e0 : (0 : Int) ≤ (j : Int) := by omega
          have e1 : (j : Int) < (m : Int) := by omega
          have e2 : ¬ (j : Int) < 0 := by omega
          rename World => wi
          obtain ⟨W4, hW4⟩ : ∃ W4, wi.setCell ⟨W.heap.size, j, none⟩ (.bool true) = W4 := ⟨_, rfl⟩
          have htb4 : TB W4 W.heap.size m (acc ++ [j]) := by rw [← hW4]; exact HT.out.set j
          have hbel4 : Below W.heap.size W W4 := by rw [← hW4]; exact HBB.out.setCell (Nat.le_refl _) _
          have hown4 : W4.ownsRow W.heap.size 3 1 (.slice ya acc.length yc) acc.length (ics acc) := by rw [← hW4]; exact ownsRow_setCell_other HOw.out (row_ne HOw.out HT.out.blk (by decide)) _
          have b5 : Below W4.heap.size W4 (W4.alloc (.cells #[.int .i64 (j : Int)] 3)) := (Below.refl _ _).alloc (Nat.le_refl _) _
          have HT4 := Lib.hid (htb4.grow b5)
          have HB4 := Lib.hid (hbel4.trans (b5.mono hbel4.size))
          have HOw4 := Lib.hid (ownsRow_below hown4 b5)
          have hBs : W.heap.size ≤ W4.heap.size := hbel4.size
          clear htb4 hbel4 hown4 b5 hp HD
          have key : True := trivial
          by_cases hkm : k < m
          all_goals
            go_wp2_with (refine wpList_append_lies _ (by rfl) (.tmp 54) (.tmp 56) 30 (by rfl) W.heap.size 3 i0 (.int .i64 0) 1 8 Tryz.underlying30 hi0 hz0 hz1 hz2 rfl (by decide) _ acc.length (ics acc) (by rfl) HOw4.out ⟨W4.heap.size, 0, none⟩ 1 1 [.int .i64 (j : Int)] (by rfl) rfl (World.news_of_block (heap_alloc_new W4 _)) (one_int _) (by decide) (by unfold maxLen; omega) (by omega) (by simp; omega) _ rfl ?_; intro g2 cap2 w5 hown2 hgrow2 hat2 hlt2; have HO5 := Lib.hid hown2; have HB5 := Lib.hid (HB4.out.grown hgrow2 HB4.out.size (fun k e => (HOw4.out.lt k e).1)); have HT5 : Hid (TB w5 W.heap.size m (acc ++ [j])) := Lib.hid (by unfold TB; rw [hgrow2.block W.heap.size (lt_of_heap HT4.out) (fun e => row_ne HOw4.out HT4.out.blk (by decide) e.symm)]; exact HT4.out); clear hown2 hgrow2 hat2 hlt2)
            go_roundg (m - (acc.length + 1))
            case measure => omega
            case rel => exact ⟨acc ++ [j], by simp; omega, Lib.hid (by rw [List.length_append]; exact HD2.out), Lib.hid (by rw [ics_snoc]; simpa using HO5.out), HT5, HB5⟩
    · have HD2 : Hid (some acc = O) := Lib.hid (by rw [← hr.out, show m - acc.length = 0 by omega]; rfl)
      clear hr
      go_wp2
      go_ret2
      refine ⟨?_, HB.out.trans (hb.out.mono HB.out.size)⟩
      rw [← HD2.out]
      exact ⟨_, rfl, ints_row hown.out⟩
end Go.Proofs.YtfoenfipefhpoaaGreatDoor.Gr
/-
  What each call of layer 6 answers, in mathematics, and the shapes of its answers. Conditions: none.
-/
namespace Go.Proofs.YtfoenfipefhpoaaGreatDoor.Gr
open Go.RowKit Go.Proofs.YtfoenfipefhpoaaGreatDoor.Ex Go.Proofs.YtfoenfipefhpoaaGreatDoor.Pl

/-- Is there no such flow? -/
def noFlow (p : Pln) (i : Int) : Bool := decide (i < 0) || decide ((p.flws.length : Int) ≤ i)
def ordRes : Option (List Nat) → List Nat × Int
  | none => ([], 60)
  | some L => (L, 0)
def gOrder (p : Pln) : List Nat × Int := if (check p).2 = 0 then ordRes (order (srcOf p.flws) p.flws.length) else ([], (check p).2)
def gSource (p : Pln) (i : Int) : Int × Int := if (check p).2 = 0 then (if noFlow p i = true then (0, 1) else (oI (srcOf p.flws i.toNat), 0)) else (0, (check p).2)
def gList (F : List Flw → Nat → List Nat) (p : Pln) (i : Int) : List Nat × Int := if (check p).2 = 0 then (if noFlow p i = true then ([], 1) else (F p.flws i.toNat, 0)) else ([], (check p).2)
def gExt (p : Pln) : List Bs × Int := if (check p).2 = 0 then (extOf p, 0) else ([], (check p).2)
def ListRet (L : List Nat) (E : Int) (w : World) (e : Ending) (w' : World) : Prop := ∃ v, e = .returned (.tuple #[v, .int .i64 E]) ∧ IntsAt w' v L ∧ Below w.heap.size w w'
def NameRet (L : List Bs) (E : Int) (w : World) (e : Ending) (w' : World) : Prop := ∃ v, e = .returned (.tuple #[v, .int .i64 E]) ∧ NamesAt w' v L ∧ Below w.heap.size w w'
theorem nil_ints (w : World) : IntsAt w (.slice none 0 0) [] := ⟨none, 0, rfl, Nat.le_refl _, Nat.zero_le _, Nat.zero_le _, fun h => absurd rfl h⟩
theorem nil_names (w : World) : NamesAt w (.slice none 0 0) [] := ⟨none, 0, rfl, Nat.le_refl _, Nat.zero_le _, Nat.zero_le _, fun h => absurd rfl h⟩
theorem ints_form {w : World} {v : Value} {L : List Nat} (h : IntsAt w v L) : ∃ a c, v = .slice a L.length c := h.val
theorem names_form {w : World} {v : Value} {L : List Bs} (h : NamesAt w v L) : ∃ a c, v = .slice a L.length c := h.val
theorem ncs_len : ∀ L : List Bs, (ncs L).length = L.length
  | [] => rfl
  | x :: r => by show ([sv x] ++ ncs r).length = _; rw [List.length_append, ncs_len r, List.length_cons]; simp; omega
/-- A row of texts that was just written out. -/
theorem names_lit (w : World) (L : List Bs) (h : L.length ≤ maxLen) : NamesAt (w.alloc (.cells (ncs L).toArray 9)) (.slice (some ⟨w.heap.size, 0, none⟩) L.length L.length) L :=
  names_row (World.ownsRow_lit (base := w.heap.size) w (ncs L).toArray L.length (Nat.le_refl _) h (by rw [Nat.mul_one, List.size_toArray]; exact ncs_len L))
end Go.Proofs.YtfoenfipefhpoaaGreatDoor.Gr
