/-
  Texts joined into one file. Each part says in its own head what is proved there, and under which conditions.
-/
import Derived.Test.YtfoenfipefhpoaaGreatDoorJQ1
import Derived.Test.YtfoenfipefhpoaaGreatDoorJP2
set_option linter.unusedVariables false
set_option linter.unusedSimpArgs false
/-
  The document's test of a flow. Conditions: as the statement says.
-/
namespace Go.Proofs.YtfoenfipefhpoaaGreatDoor.Pl
open Go.RowKit Go.Proofs.YtfoenfipefhpoaaGreatDoor.Ex

set_option maxRecDepth 20000 in
set_option maxHeartbeats 8000000 in
theorem rflow_at {w : World} {at_ af : Option Addr} {nt ct nf cf i : Nat} {ts : List Top} {es : List FE} (ht : TopsAt w (.slice at_ nt ct) ts) (hf : FlwsAt w (.slice af nf cf) es) (hi : i < es.length) {fs : List Flw} (hfs : es.map FE.f = fs) (hts : ∀ t ∈ ts, 1 ≤ t.parts) {R : Int} (hR : flwErr ts fs (fs.take i) es[i].f = R) :
    Calls Tryz.prog 23 #[.agg #[.slice at_ nt ct, .slice af nf cf], .int .i64 i] w fun e w' => e = .returned (.int .i64 R) ∧ Below w.heap.size w w' := by
  subst hfs
  have hok := hf.2 _ (List.getElem_mem hi)
  obtain ⟨b0, o0, e0, hbl, x0, x1, x2, x3, x4, x5, x6, x7, x8, x9, x10, x11⟩ := hf.cells hi
  obtain ⟨l1, m1, k1, j1⟩ := hf.1.len
  obtain ⟨lt1, mt1, kt1, jt1⟩ := ht.len
  have HEQ : Hid (∀ P : FE → Bool, es.any P = es.any P) := Lib.hid (fun _ => rfl)
  obtain ⟨q, hq⟩ : ∃ q, es[i] = q := ⟨_, rfl⟩
  rw [hq] at hR hok x0 x1 x2 x3 x4 x5 x6 x7 x8 x9 x10 x11
  obtain ⟨W, hW⟩ : ∃ W, (w.alloc (.cells #[.slice at_ nt ct, .slice af nf cf] 25)).alloc (.cells (flwC q).toArray 51) = W := ⟨_, rfl⟩
  have bw : Below w.heap.size w W := by rw [← hW]; exact ((Below.refl _ _).alloc (Nat.le_refl _) _).alloc (by simp) _
  have fx : FX w.heap.size (w.heap.size + 1) (.slice at_ nt ct) (.slice af nf cf) ts es q W := by
    refine ⟨?_, ?_, ht.grow bw, hf.grow bw, hok.grow bw⟩
    · rw [← hW]; have := Box.new (w.alloc (.cells #[.slice at_ nt ct, .slice af nf cf] 25)) q; rwa [World.size_alloc] at this
    · have h0 : PBox (w.alloc (.cells #[.slice at_ nt ct, .slice af nf cf] 25)) w.heap.size (.slice at_ nt ct) (.slice af nf cf) := heap_alloc_new w _
      rw [← hW]; exact h0.grow ((Below.refl _ _).alloc (Nat.le_refl _) _)
  obtain ⟨f, pre, post⟩ := q
  dsimp only at hR x0 x1 x2 x3 x4 x5 x7 x8 x9 x10
  obtain ⟨u1, c5, e5⟩ := hok.1.1.val
  obtain ⟨u2, c6, e6⟩ := hok.2.1.val
  dsimp only at e5 e6
  subst e5 e6
  dsimp only at x6 x11
  have hn1 : ¬ b0 = w.heap.size := Nat.ne_of_lt hbl
  have q1 : nf ≤ 9223372036854775807 := by unfold maxLen at k1; omega
  have q2 : nt ≤ 9223372036854775807 := by unfold maxLen at kt1; omega
  have hin : i < nf := by omega
  have g0 : (0 : Int) ≤ (i : Int) := by omega
  have g1 : (i : Int) < (nf : Int) := by omega
  have HLN := Lib.hid l1
  have HLT := Lib.hid lt1
  have HFX := Lib.hid fx
  have HBW := Lib.hid bw
  have HTS := Lib.hid hts
  have HLE : Hid (f.pre.length ≤ maxLen ∧ f.post.length ≤ maxLen) := Lib.hid ⟨hok.1.1.len.2.2.1, hok.2.1.len.2.2.1⟩
  dsimp only [flwC] at hW
  clear ht hf hok l1 m1 k1 j1 lt1 mt1 kt1 jt1 hq fx bw hts HEQ
  subst e0
  unfold flwErr at hR
  cases hnm : isName f.name with
  | false =>
    have HR : Hid (R = 51) := Lib.hid (by rw [← hR, if_pos hnm])
    have HNM := Lib.hid hnm
    clear hR hnm
    obtain ⟨p0, -⟩ := HFX.out.box.cells
    go_enter Tryz.func23, Tryz.ntmps23
    go_wp2_with (go_at_call 21; refine (rname_at _ _ HNM.out).mono ?_; rintro e w' ⟨rfl, rfl⟩)
    go_ret
    exact ⟨ret_int HR.out.symm, HBW.out⟩
  | true =>
  rw [if_neg (by rw [hnm]; decide)] at hR
  have HNM := Lib.hid hnm
  clear hnm
  unfold named writes at hR
  rw [map_take_any, map_take_any] at hR
  obtain ⟨B1, hB1⟩ : ∃ B, (es.take i).any (fun q => decide (q.f.name = f.name)) = B := ⟨_, rfl⟩
  obtain ⟨B2, hB2⟩ : ∃ B, (es.take i).any (fun q => decide (q.f.dest = f.dest)) = B := ⟨_, rfl⟩
  rw [hB1, hB2] at hR
  have HB1 : Hid (((es.take i).drop 0).any (fun q => decide (q.f.name = f.name)) = B1) := Lib.hid (by simpa using hB1)
  have HB2 : Hid (((es.take i).drop 0).any (fun q => decide (q.f.dest = f.dest)) = B2) := Lib.hid (by simpa using hB2)
  have HR := Lib.hid hR
  clear hR hB1 hB2
  obtain ⟨p0, -⟩ := HFX.out.box.cells
  go_enter Tryz.func23, Tryz.ntmps23
  go_wp2_with (go_at_call 21; refine (rname_at _ _ HNM.out).mono ?_; rintro e w' ⟨rfl, rfl⟩)
  clear p0 x0 x1 x2 x3 x4 x5 x6 x7 x8 x9 x10 x11 hW hn1
  go_loopw [6] (fun z wr => ∃ k : Nat, k ≤ i ∧ z = .int .i64 k ∧ Hid (((es.take i).drop k).any (fun q => decide (q.f.name = f.name)) = B1) ∧ Hid (Below W.heap.size W wr)) (fun z _ => i - (intOf z).toNat)
  case atStart => exact ⟨0, Nat.zero_le _, rfl, HB1, Lib.hid (Below.refl _ _)⟩
  case round =>
    clear HB1
    obtain ⟨k, hk, rfl, hr, hb⟩ := hrel
    have HF := Lib.hid (HFX.out.grow hb.out)
    by_cases hlt : k < i
    · have hke : k < es.length := by rw [← HLN.out]; omega
      have hd := take_any hlt (Nat.le_of_lt hi) (fun q => decide (q.f.name = f.name))
      obtain ⟨b', o', e', hbl', y0, -⟩ := HF.out.flws.cells hke
      obtain ⟨p0, -⟩ := HF.out.box.cells
      obtain ⟨pp0, pp1⟩ := HF.out.pbox.cells
      injection e' with e'
      injection e' with e1 e2
      subst e1 e2
      have hg0 : (0 : Int) ≤ (k : Int) := by omega
      have hg1 : (k : Int) < (nf : Int) := by omega
      generalize es[k] = qk at hd y0
      obtain ⟨nk, hnk⟩ : ∃ n, qk.f.name = n := ⟨_, rfl⟩
      rw [hnk] at hd y0
      by_cases he : nk = f.name
      · have HB : Hid (B1 = true) := Lib.hid (by rw [← hr.out, hd, decide_eq_true he]; rfl)
        have e1 : (nk == f.name) = true := beq_of_eq he
        have HR2 : Hid (R = 52) := Lib.hid (by have h := HR.out; rw [HB.out, if_pos rfl] at h; exact h.symm)
        clear hr hd he hke hi
        go_wp2
        go_region_held3 (fun X => X.cell? ⟨w.heap.size, 1, none⟩ = some (.slice (some ⟨b0, o0, none⟩) nf cf) ∧ X.cell? ⟨b0, o0 + k * 12, none⟩ = some (sv nk) ∧ X.cell? ⟨w.heap.size + 1, 0, none⟩ = some (sv f.name)) (exact ⟨pp1, y0, p0⟩) (fail)
        all_goals go_wp2
        all_goals go_ret
        all_goals exact ⟨ret_int HR2.out.symm, HBW.out.trans ((hb.out.trans (((Below.refl _ _).drew).mono hb.out.size)).mono HBW.out.size)⟩
      · have HB : Hid (((es.take i).drop (k + 1)).any (fun q => decide (q.f.name = f.name)) = B1) := Lib.hid (by rw [← hr.out, hd, decide_eq_false he]; rfl)
        have e1 : (nk == f.name) = false := beq_of_ne he
        clear hr hd he hke
        go_wp2
        go_region_held3 (fun X => X.cell? ⟨w.heap.size, 1, none⟩ = some (.slice (some ⟨b0, o0, none⟩) nf cf) ∧ X.cell? ⟨b0, o0 + k * 12, none⟩ = some (sv nk) ∧ X.cell? ⟨w.heap.size + 1, 0, none⟩ = some (sv f.name)) (exact ⟨pp1, y0, p0⟩) (fail)
        all_goals go_wp2
        all_goals go_roundw
        case rel => exact ⟨k + 1, by omega, by go_num, HB, Lib.hid (hb.out.trans (((Below.refl _ _).drew).mono hb.out.size))⟩
        case measure => simp [intOf]; omega
    · have HB : B1 = false := by rw [← hr.out, List.drop_eq_nil_of_le (by rw [List.length_take]; omega)]; rfl
      have hR := HR.out
      rw [HB, if_neg (by decide)] at hR
      have HR2 := Lib.hid hR
      clear hr hR HB HR
      obtain ⟨p0, p1, p2, p3, p4, p5, p6, p7, p8, p9, p10, p11⟩ := HF.out.box.cells
      obtain ⟨pp0, pp1⟩ := HF.out.pbox.cells
      rcases findT_cases ts f.frm 0 with ⟨hx, hxp⟩ | ⟨jx, hjx, hx, hxn, hxp⟩
      · have HX := Lib.hid hx
        obtain ⟨y, hy⟩ : ∃ y, findT ts f.dest 0 = y := ⟨_, rfl⟩
        have HY := Lib.hid hy
        have HR3 : Hid (R = 53) := Lib.hid (by
          have h := HR2.out
          rw [if_pos (.inl (by unfold areEnds; rw [hxp]; rfl))] at h
          exact h.symm)
        clear hx hxp hy
        go_wp2_with (first | (go_at_call 22; refine (rfind_at HF.out.tops HYY.out).mono ?_; rintro e w' ⟨rfl, rfl⟩) | (go_at_call 22; refine (rfind_at HF.out.tops HX.out).mono ?_; rintro e w' ⟨rfl, rfl⟩; have HYY := Lib.hid HY.out))
        go_ret
        exact ⟨ret_int HR3.out.symm, HBW.out.trans (hb.out.mono HBW.out.size)⟩
      rw [Nat.zero_add] at hx
      have a1 : ¬ (jx : Int) < 0 := by omega
      rcases findT_cases ts f.dest 0 with ⟨hy, hyp⟩ | ⟨jy, hjy, hy, hyn, hyp⟩
      · have HX := Lib.hid hx
        have HY := Lib.hid hy
        have HR3 : Hid (R = 53) := Lib.hid (by
          have h := HR2.out
          rw [if_pos (.inl (by unfold areEnds; rw [hyp]; simp))] at h
          exact h.symm)
        clear hx hxp hxn hy hyp
        go_wp2_with (first | (go_at_call 22; refine (rfind_at HF.out.tops HYY.out).mono ?_; rintro e w' ⟨rfl, rfl⟩) | (go_at_call 22; refine (rfind_at HF.out.tops HX.out).mono ?_; rintro e w' ⟨rfl, rfl⟩; have HYY := Lib.hid HY.out))
        go_ret
        exact ⟨ret_int HR3.out.symm, HBW.out.trans (hb.out.mono HBW.out.size)⟩
      rw [Nat.zero_add] at hy
      have a2 : ¬ (jy : Int) < 0 := by omega
      by_cases hxy : jx = jy
      · have hft : f.frm = f.dest := by subst hxy; rw [← hxn, ← hyn]
        have HX := Lib.hid hx
        have HY : Hid (findT ts f.dest 0 = (jx : Int)) := Lib.hid (by rw [hy, hxy])
        have HR3 : Hid (R = 53) := Lib.hid (by
          have h := HR2.out
          rw [if_pos (.inl (by unfold areEnds; rw [hft]; simp))] at h
          exact h.symm)
        clear hx hxp hxn hy hyp hyn hxy hft
        go_wp2_with (first | (go_at_call 22; refine (rfind_at HF.out.tops HYY.out).mono ?_; rintro e w' ⟨rfl, rfl⟩) | (go_at_call 22; refine (rfind_at HF.out.tops HX.out).mono ?_; rintro e w' ⟨rfl, rfl⟩; have HYY := Lib.hid HY.out))
        go_ret
        exact ⟨ret_int HR3.out.symm, HBW.out.trans (hb.out.mono HBW.out.size)⟩
      have hne : f.frm ≠ f.dest := fun h => by
        have h1 := hx
        rw [h, hy] at h1
        omega
      have a3 : ((jx : Int) == (jy : Int)) = false := by simp; omega
      obtain ⟨bt, ot, et, htl, d0, d1⟩ := TopsAt.cells HF.out.tops hjy
      subst et
      have a4 : (0 : Int) ≤ (jy : Int) := by omega
      have a5 : (jy : Int) < (nt : Int) := by have := HLT.out; omega
      have HX := Lib.hid hx
      have HY := Lib.hid hy
      by_cases hpt : ts[jy].parts = 16
      · have hae : areEnds ts f = true := by
          unfold areEnds
          rw [hyp, hpt, hxp, decide_eq_true hne, decide_eq_true (show 0 < ts[jx].parts from by have := HTS.out _ (List.getElem_mem hjx); omega)]; rfl
        have HR3 := HR2.out
        rw [hae] at HR3
        have HR3 := Lib.hid HR3
        rw [hpt] at d1
        have HXP := Lib.hid hxp
        have HJX : Hid (jx < ts.length) := Lib.hid hjx
        clear hx hxp hxn hy hyp hyn hxy hne hpt hae HR2 HF
        have HF := Lib.hid (HFX.out.grow hb.out)
        go_wp2_with (first | (go_at_call 22; refine (rfind_at HF.out.tops HYY.out).mono ?_; rintro e w' ⟨rfl, rfl⟩) | (go_at_call 22; refine (rfind_at HF.out.tops HX.out).mono ?_; rintro e w' ⟨rfl, rfl⟩; have HYY := Lib.hid HY.out))
        clear p0 p1 p2 p3 p4 p5 p6 p7 p8 p9 p10 p11 pp0 pp1 a1 a2 a3 d0 d1 HF
        rename World => wz
        go_loopw [9] (fun z wr => ∃ k : Nat, k ≤ i ∧ z = .int .i64 k ∧ Hid (((es.take i).drop k).any (fun q => decide (q.f.dest = f.dest)) = B2) ∧ Hid (Below W.heap.size W wr)) (fun z _ => i - (intOf z).toNat)
        case atStart => exact ⟨0, Nat.zero_le _, rfl, HB2, hb⟩
        case round =>
          clear HB2 hb
          obtain ⟨k2, hk2, rfl, hr, hb⟩ := hrel
          have HF := Lib.hid (HFX.out.grow hb.out)
          by_cases hlt2 : k2 < i
          · have hke : k2 < es.length := by rw [← HLN.out]; omega
            have hd := take_any hlt2 (Nat.le_of_lt hi) (fun q => decide (q.f.dest = f.dest))
            obtain ⟨b', o', e', hbl', -, -, y2, -⟩ := HF.out.flws.cells hke
            obtain ⟨-, -, p2, -⟩ := HF.out.box.cells
            obtain ⟨pp0, pp1⟩ := HF.out.pbox.cells
            injection e' with e'
            injection e' with e1 e2
            subst e1 e2
            have hg0 : (0 : Int) ≤ (k2 : Int) := by omega
            have hg1 : (k2 : Int) < (nf : Int) := by omega
            generalize es[k2] = qk at hd y2
            obtain ⟨nk, hnk⟩ : ∃ n, qk.f.dest = n := ⟨_, rfl⟩
            rw [hnk] at hd y2
            by_cases he : nk = f.dest
            · have HB : Hid (B2 = true) := Lib.hid (by rw [← hr.out, hd, decide_eq_true he]; rfl)
              have e1 : (nk == f.dest) = true := beq_of_eq he
              have HR4 : Hid (R = 53) := Lib.hid (by have h := HR3.out; rw [if_pos (.inr HB.out)] at h; exact h.symm)
              clear hr hd he hke hi
              go_wp2
              go_region_held3 (fun X => X.cell? ⟨w.heap.size, 1, none⟩ = some (.slice (some ⟨b0, o0, none⟩) nf cf) ∧ X.cell? ⟨b0, o0 + k2 * 12 + 2, none⟩ = some (sv nk) ∧ X.cell? ⟨w.heap.size + 1, 2, none⟩ = some (sv f.dest)) (exact ⟨pp1, y2, p2⟩) (fail)
              all_goals go_wp2
              all_goals go_ret
              all_goals exact ⟨ret_int HR4.out.symm, HBW.out.trans ((hb.out.trans (((Below.refl _ _).drew).mono hb.out.size)).mono HBW.out.size)⟩
            · have HB : Hid (((es.take i).drop (k2 + 1)).any (fun q => decide (q.f.dest = f.dest)) = B2) := Lib.hid (by rw [← hr.out, hd, decide_eq_false he]; rfl)
              have e1 : (nk == f.dest) = false := beq_of_ne he
              clear hr hd he hke
              go_wp2
              go_region_held3 (fun X => X.cell? ⟨w.heap.size, 1, none⟩ = some (.slice (some ⟨b0, o0, none⟩) nf cf) ∧ X.cell? ⟨b0, o0 + k2 * 12 + 2, none⟩ = some (sv nk) ∧ X.cell? ⟨w.heap.size + 1, 2, none⟩ = some (sv f.dest)) (exact ⟨pp1, y2, p2⟩) (fail)
              all_goals go_wp2
              all_goals go_roundw
              case rel => exact ⟨k2 + 1, by omega, by go_num, HB, Lib.hid (hb.out.trans (((Below.refl _ _).drew).mono hb.out.size))⟩
              case measure => simp [intOf]; omega
          · have HB : B2 = false := by rw [← hr.out, List.drop_eq_nil_of_le (by rw [List.length_take]; omega)]; rfl
            have hR := HR3.out
            rw [HB, if_neg (by decide)] at hR
            obtain ⟨B3, hB3⟩ : ∃ B, writes (es.map FE.f) f.frm = B := ⟨_, rfl⟩
            have hb3 : es.any (fun q => decide (q.f.dest = f.frm)) = B3 := by rw [← hB3]; exact (any_map es (fun f' => decide (f'.dest = f.frm))).symm
            have HB3 : Hid ((false || (es.drop 0).any (fun q => decide (q.f.dest = f.frm))) = B3) := Lib.hid (by simpa using hb3)
            have HW3 := Lib.hid hB3
            have HR4 := Lib.hid hR
            clear hr hR HB HR3 hB3 hb3
            go_wp2
            rename World => wy
            go_loopw [10, 11] (fun x z wr => ∃ (k : Nat) (b : Bool), k ≤ nf ∧ x = .bool b ∧ z = .int .i64 k ∧ Hid ((b || (es.drop k).any (fun q => decide (q.f.dest = f.frm))) = B3) ∧ Hid (Below W.heap.size W wr)) (fun _ z _ => nf - (intOf z).toNat)
            case atStart => exact ⟨0, false, Nat.zero_le _, rfl, rfl, HB3, hb⟩
            case round =>
              clear HB3 hb HF
              obtain ⟨k3, b3, hk3, rfl, rfl, hr, hb⟩ := hrel
              have HF := Lib.hid (HFX.out.grow hb.out)
              obtain ⟨pp0, pp1⟩ := HF.out.pbox.cells
              by_cases hlt3 : k3 < nf
              · have hke : k3 < es.length := by rw [← HLN.out]; exact hlt3
                have hd := any_drop (fun q => decide (q.f.dest = f.frm)) es k3 hke
                obtain ⟨b', o', e', hbl', -, -, y2, -⟩ := HF.out.flws.cells hke
                obtain ⟨-, p1, -⟩ := HF.out.box.cells
                injection e' with e'
                injection e' with e1 e2
                subst e1 e2
                have hg0 : (0 : Int) ≤ (k3 : Int) := by omega
                have hg1 : (k3 : Int) < (nf : Int) := by omega
                generalize es[k3] = qk at hd y2
                obtain ⟨nk, hnk⟩ : ∃ n, qk.f.dest = n := ⟨_, rfl⟩
                rw [hnk] at hd y2
                cases b3 with
                | true =>
                  have HB : Hid ((true || (es.drop (k3 + 1)).any (fun q => decide (q.f.dest = f.frm))) = B3) := Lib.hid (by rw [← hr.out]; rfl)
                  clear hr hd hke
                  go_wp2
                  go_quiet (fail)
                  all_goals go_wp2
                  all_goals go_roundw
                  case rel => exact ⟨k3 + 1, true, by omega, rfl, by go_num, HB, Lib.hid (below_drewN hb.out _)⟩
                  case measure => simp [intOf]; omega
                | false =>
                  by_cases he : nk = f.frm
                  · have HB : Hid ((true || (es.drop (k3 + 1)).any (fun q => decide (q.f.dest = f.frm))) = B3) := Lib.hid (by rw [← hr.out, hd, decide_eq_true he]; rfl)
                    have e1 : (nk == f.frm) = true := beq_of_eq he
                    clear hr hd hke he
                    go_wp2
                    go_quiet (fail)
                    all_goals go_wp2
                    all_goals go_roundw
                    case rel => exact ⟨k3 + 1, true, by omega, rfl, by go_num, HB, Lib.hid (below_drewN hb.out _)⟩
                    case measure => simp [intOf]; omega
                  · have HB : Hid ((false || (es.drop (k3 + 1)).any (fun q => decide (q.f.dest = f.frm))) = B3) := Lib.hid (by rw [← hr.out, hd, decide_eq_false he]; simp)
                    have e1 : (nk == f.frm) = false := beq_of_ne he
                    clear hr hd hke he
                    go_wp2
                    go_quiet (fail)
                    all_goals go_wp2
                    all_goals go_roundw
                    case rel => exact ⟨k3 + 1, false, by omega, rfl, by go_num, HB, Lib.hid (below_drewN hb.out _)⟩
                    case measure => simp [intOf]; omega
              · have HB : b3 = B3 := by rw [← hr.out, List.drop_eq_nil_of_le (by have := HLN.out; omega)]; simp
                subst HB
                clear hr
                go_upto_region 23 with fail
                obtain ⟨p0, p1, p2, p3, p4, p5, p6, p7, p8, p9, p10, p11⟩ := HF.out.box.cells
                obtain ⟨bt2, ot2, et2, htl2, d0, d1⟩ := TopsAt.cells HF.out.tops HJX.out
                injection et2 with et2
                injection et2 with e1 e2
                subst e1 e2
                have HJT : jx < nt := by have := HLT.out; have := HJX.out; omega
                have a4 : (0 : Int) ≤ (jx : Int) := by omega
                have a5 : (jx : Int) < (nt : Int) := by omega
                obtain ⟨px, d2, hpx⟩ : ∃ px, wr.cell? ⟨bt, ot + jx * 2 + 1, none⟩ = some (.int .i64 px) ∧ partsOf ts f.frm = px := ⟨_, d1, HXP.out⟩
                have HPX := Lib.hid hpx
                clear hpx d1
                obtain ⟨bad, hbad⟩ : ∃ b, b = (decide (isBound (es.map FE.f) f = false ∨ areCounts ts f = false ∨ isWindow f.win = false ∨ isAgg f.win f.agg = false)) := ⟨_, rfl⟩
                have HBD := Lib.hid hbad
                clear hbad
                go_cut [154] (fun v wx => v = .bool bad ∧ Hid (Below W.heap.size W wx))
                case first =>
                  refine region_still_tail 52 (by kernel_rfl) (by kernel_rfl) ?_
                  intro Y hY
                  have y3 := hY 3 103 (by kernel_rfl)
                  have y8 := hY 8 108 (by kernel_rfl)
                  have y10 := hY 10 110 (by kernel_rfl)
                  have y16 := hY 16 116 (by kernel_rfl)
                  have y21 := hY 21 121 (by kernel_rfl)
                  have y26 := hY 26 126 (by kernel_rfl)
                  have y37 := hY 37 137 (by kernel_rfl)
                  have y42 := hY 42 142 (by kernel_rfl)
                  have y47 := hY 47 147 (by kernel_rfl)
                  clear hY
                  simp only [List.take_succ_cons, List.take_zero, List.drop_succ_cons, List.drop_zero]
                  iterate 2 (refine wpY_step (fun K hK => ?_); go_simp; refine hK.out _ ?_; clear hK K)
                  by_cases f1 : f.bound < -1
                  · as_aux_lemma =>
                    iterate 50 (refine wpY_step (fun K hK => ?_); go_simp; refine hK.out _ ?_; clear hK K)
                    refine wpY_nil ?_
                    go_wp2
                    go_meet
                    case rel => exact ⟨congrArg Value.bool (by rw [HBD.out]; exact (decide_eq_true (.inl ((bound_eq _ _).2 (.inl f1)))).symm), Lib.hid (hb.out.trans (((Below.refl _ _).drew).mono hb.out.size))⟩
                  iterate 4 (refine wpY_step (fun K hK => ?_); go_simp; refine hK.out _ ?_; clear hK K)
                  by_cases f2 : 1000000 < f.bound
                  · as_aux_lemma =>
                    iterate 46 (refine wpY_step (fun K hK => ?_); go_simp; refine hK.out _ ?_; clear hK K)
                    refine wpY_nil ?_
                    go_wp2
                    go_meet
                    case rel => exact ⟨congrArg Value.bool (by rw [HBD.out]; exact (decide_eq_true (.inl ((bound_eq _ _).2 (.inr (.inl f2))))).symm), Lib.hid (hb.out.trans (((Below.refl _ _).drew).mono hb.out.size))⟩
                  iterate 3 (refine wpY_step (fun K hK => ?_); go_simp; refine hK.out _ ?_; clear hK K)
                  cases b3 with
                  | true =>
                    by_cases f3 : f.bound = -1
                    · have f3' := inebf f3
                      have HNB : Hid (¬ (f.bound < -1 ∨ 1000000 < f.bound ∨ (writes (es.map FE.f) f.frm = true ∧ f.bound ≠ -1))) := Lib.hid (by rintro (h | h | h); exact f1 h; exact f2 h; exact h.2 f3)
                      clear f3
                      iterate 10 (refine wpY_step (fun K hK => ?_); go_simp; refine hK.out _ ?_; clear hK K)
                      by_cases f4 : f.readers < 1
                      · as_aux_lemma =>
                        iterate 33 (refine wpY_step (fun K hK => ?_); go_simp; refine hK.out _ ?_; clear hK K)
                        refine wpY_nil ?_
                        go_wp2
                        go_meet
                        case rel => exact ⟨congrArg Value.bool (by rw [HBD.out]; exact (decide_eq_true (.inr (.inl ((counts_eq _ _ HPX.out).2 (.inl f4))))).symm), Lib.hid (hb.out.trans (((Below.refl _ _).drew).mono hb.out.size))⟩
                      iterate 5 (refine wpY_step (fun K hK => ?_); go_simp; refine hK.out _ ?_; clear hK K)
                      by_cases f5 : 8 < f.readers
                      · as_aux_lemma =>
                        iterate 28 (refine wpY_step (fun K hK => ?_); go_simp; refine hK.out _ ?_; clear hK K)
                        refine wpY_nil ?_
                        go_wp2
                        go_meet
                        case rel => exact ⟨congrArg Value.bool (by rw [HBD.out]; exact (decide_eq_true (.inr (.inl ((counts_eq _ _ HPX.out).2 (.inr (.inl f5)))))).symm), Lib.hid (hb.out.trans (((Below.refl _ _).drew).mono hb.out.size))⟩
                      iterate 11 (refine wpY_step (fun K hK => ?_); go_simp; refine hK.out _ ?_; clear hK K)
                      by_cases f6 : px < f.readers
                      · as_aux_lemma =>
                        iterate 17 (refine wpY_step (fun K hK => ?_); go_simp; refine hK.out _ ?_; clear hK K)
                        refine wpY_nil ?_
                        go_wp2
                        go_meet
                        case rel => exact ⟨congrArg Value.bool (by rw [HBD.out]; exact (decide_eq_true (.inr (.inl ((counts_eq _ _ HPX.out).2 (.inr (.inr (.inl f6))))))).symm), Lib.hid (hb.out.trans (((Below.refl _ _).drew).mono hb.out.size))⟩
                      iterate 5 (refine wpY_step (fun K hK => ?_); go_simp; refine hK.out _ ?_; clear hK K)
                      by_cases f7 : f.keepers < 1
                      · as_aux_lemma =>
                        iterate 12 (refine wpY_step (fun K hK => ?_); go_simp; refine hK.out _ ?_; clear hK K)
                        refine wpY_nil ?_
                        go_wp2
                        go_meet
                        case rel => exact ⟨congrArg Value.bool (by rw [HBD.out]; exact (decide_eq_true (.inr (.inl ((counts_eq _ _ HPX.out).2 (.inr (.inr (.inr (.inl f7)))))))).symm), Lib.hid (hb.out.trans (((Below.refl _ _).drew).mono hb.out.size))⟩
                      iterate 5 (refine wpY_step (fun K hK => ?_); go_simp; refine hK.out _ ?_; clear hK K)
                      by_cases f8 : 8 < f.keepers
                      · as_aux_lemma =>
                        iterate 7 (refine wpY_step (fun K hK => ?_); go_simp; refine hK.out _ ?_; clear hK K)
                        refine wpY_nil ?_
                        go_wp2
                        go_meet
                        case rel => exact ⟨congrArg Value.bool (by rw [HBD.out]; exact (decide_eq_true (.inr (.inl ((counts_eq _ _ HPX.out).2 (.inr (.inr (.inr (.inr f8)))))))).symm), Lib.hid (hb.out.trans (((Below.refl _ _).drew).mono hb.out.size))⟩
                      iterate 7 (refine wpY_step (fun K hK => ?_); go_simp; refine hK.out _ ?_; clear hK K)
                      refine wpY_nil ?_
                      obtain ⟨rw, hrw⟩ : ∃ r, rwin f.win f.agg = r := ⟨_, rfl⟩
                      have HRW := Lib.hid hrw
                      clear hrw
                      have HDR : Hid (Below wr.heap.size wr wr.drew) := Lib.hid (Below.refl _ _).drew
                      go_wp2_with (go_at_call 34; refine (rwin_at f.win f.agg _ HRW.out).mono ?_; rintro e w5 ⟨rfl, hb5⟩; have HB5 := Lib.hid (HDR.out.trans hb5); clear hb5)
                      go_meet
                      case rel =>
                        refine ⟨congrArg Value.bool ?_, Lib.hid (hb.out.trans (HB5.out.mono hb.out.size))⟩
                        rw [HBD.out]
                        have q := HRW.out
                        rw [rwin_eq] at q
                        have q1 : isBound (es.map FE.f) f = true := by cases hq : isBound (es.map FE.f) f with | true => rfl | false => exact absurd ((bound_eq _ _).1 hq) HNB.out
                        have q2 : areCounts ts f = true := by cases hq : areCounts ts f with | true => rfl | false => have := (counts_eq _ _ HPX.out).1 hq; omega
                        rw [q1, q2, ← q]
                        cases isWindow f.win <;> cases isAgg f.win f.agg <;> rfl
                    · have f3' := inebt f3
                      have HF3 : Hid (f.bound ≠ -1) := Lib.hid f3
                      clear f3
                      iterate 43 (refine wpY_step (fun K hK => ?_); go_simp; refine hK.out _ ?_; clear hK K)
                      refine wpY_nil ?_
                      go_wp2
                      go_meet
                      case rel => exact ⟨congrArg Value.bool (by rw [HBD.out]; exact (decide_eq_true (.inl ((bound_eq _ _).2 (.inr (.inr ⟨HW3.out, HF3.out⟩))))).symm), Lib.hid (hb.out.trans (((Below.refl _ _).drew).mono hb.out.size))⟩
                  | false =>
                    have HNB : Hid (¬ (f.bound < -1 ∨ 1000000 < f.bound ∨ (writes (es.map FE.f) f.frm = true ∧ f.bound ≠ -1))) := Lib.hid (by rintro (h | h | h); exact f1 h; exact f2 h; exact absurd (HW3.out.symm.trans h.1) (by decide))
                    iterate 10 (refine wpY_step (fun K hK => ?_); go_simp; refine hK.out _ ?_; clear hK K)
                    by_cases f4 : f.readers < 1
                    · as_aux_lemma =>
                      iterate 33 (refine wpY_step (fun K hK => ?_); go_simp; refine hK.out _ ?_; clear hK K)
                      refine wpY_nil ?_
                      go_wp2
                      go_meet
                      case rel => exact ⟨congrArg Value.bool (by rw [HBD.out]; exact (decide_eq_true (.inr (.inl ((counts_eq _ _ HPX.out).2 (.inl f4))))).symm), Lib.hid (hb.out.trans (((Below.refl _ _).drew).mono hb.out.size))⟩
                    iterate 5 (refine wpY_step (fun K hK => ?_); go_simp; refine hK.out _ ?_; clear hK K)
                    by_cases f5 : 8 < f.readers
                    · as_aux_lemma =>
                      iterate 28 (refine wpY_step (fun K hK => ?_); go_simp; refine hK.out _ ?_; clear hK K)
                      refine wpY_nil ?_
                      go_wp2
                      go_meet
                      case rel => exact ⟨congrArg Value.bool (by rw [HBD.out]; exact (decide_eq_true (.inr (.inl ((counts_eq _ _ HPX.out).2 (.inr (.inl f5)))))).symm), Lib.hid (hb.out.trans (((Below.refl _ _).drew).mono hb.out.size))⟩
                    iterate 11 (refine wpY_step (fun K hK => ?_); go_simp; refine hK.out _ ?_; clear hK K)
                    by_cases f6 : px < f.readers
                    · as_aux_lemma =>
                      iterate 17 (refine wpY_step (fun K hK => ?_); go_simp; refine hK.out _ ?_; clear hK K)
                      refine wpY_nil ?_
                      go_wp2
                      go_meet
                      case rel => exact ⟨congrArg Value.bool (by rw [HBD.out]; exact (decide_eq_true (.inr (.inl ((counts_eq _ _ HPX.out).2 (.inr (.inr (.inl f6))))))).symm), Lib.hid (hb.out.trans (((Below.refl _ _).drew).mono hb.out.size))⟩
                    iterate 5 (refine wpY_step (fun K hK => ?_); go_simp; refine hK.out _ ?_; clear hK K)
                    by_cases f7 : f.keepers < 1
                    · as_aux_lemma =>
                      iterate 12 (refine wpY_step (fun K hK => ?_); go_simp; refine hK.out _ ?_; clear hK K)
                      refine wpY_nil ?_
                      go_wp2
                      go_meet
                      case rel => exact ⟨congrArg Value.bool (by rw [HBD.out]; exact (decide_eq_true (.inr (.inl ((counts_eq _ _ HPX.out).2 (.inr (.inr (.inr (.inl f7)))))))).symm), Lib.hid (hb.out.trans (((Below.refl _ _).drew).mono hb.out.size))⟩
                    iterate 5 (refine wpY_step (fun K hK => ?_); go_simp; refine hK.out _ ?_; clear hK K)
                    by_cases f8 : 8 < f.keepers
                    · as_aux_lemma =>
                      iterate 7 (refine wpY_step (fun K hK => ?_); go_simp; refine hK.out _ ?_; clear hK K)
                      refine wpY_nil ?_
                      go_wp2
                      go_meet
                      case rel => exact ⟨congrArg Value.bool (by rw [HBD.out]; exact (decide_eq_true (.inr (.inl ((counts_eq _ _ HPX.out).2 (.inr (.inr (.inr (.inr f8)))))))).symm), Lib.hid (hb.out.trans (((Below.refl _ _).drew).mono hb.out.size))⟩
                    iterate 7 (refine wpY_step (fun K hK => ?_); go_simp; refine hK.out _ ?_; clear hK K)
                    refine wpY_nil ?_
                    obtain ⟨rw, hrw⟩ : ∃ r, rwin f.win f.agg = r := ⟨_, rfl⟩
                    have HRW := Lib.hid hrw
                    clear hrw
                    have HDR : Hid (Below wr.heap.size wr wr.drew) := Lib.hid (Below.refl _ _).drew
                    go_wp2_with (go_at_call 34; refine (rwin_at f.win f.agg _ HRW.out).mono ?_; rintro e w5 ⟨rfl, hb5⟩; have HB5 := Lib.hid (HDR.out.trans hb5); clear hb5)
                    go_meet
                    case rel =>
                      refine ⟨congrArg Value.bool ?_, Lib.hid (hb.out.trans (HB5.out.mono hb.out.size))⟩
                      rw [HBD.out]
                      have q := HRW.out
                      rw [rwin_eq] at q
                      have q1 : isBound (es.map FE.f) f = true := by cases hq : isBound (es.map FE.f) f with | true => rfl | false => exact absurd ((bound_eq _ _).1 hq) HNB.out
                      have q2 : areCounts ts f = true := by cases hq : areCounts ts f with | true => rfl | false => have := (counts_eq _ _ HPX.out).1 hq; omega
                      rw [q1, q2, ← q]
                      cases isWindow f.win <;> cases isAgg f.win f.agg <;> rfl
                case rest =>
                  obtain ⟨rfl, hb2⟩ := hcut
                  have hR5 := HR4.out
                  clear p0 p1 p2 p3 p4 p5 p6 p7 p8 p9 p10 p11 pp0 pp1 d0 d2 HF HR4
                  have HF := Lib.hid (HFX.out.grow hb2.out)
                  obtain ⟨-, -, -, -, -, -, p6, p7, -, -, -, p11⟩ := HF.out.box.cells
                  dsimp only at p6 p7 p11
                  cases bad with
                  | true =>
                    have HR6 : Hid (R = 1) := Lib.hid (by rw [if_pos (of_decide_eq_true HBD.out.symm)] at hR5; exact hR5.symm)
                    clear hR5
                    go_wp2
                    go_ret
                    exact ⟨ret_int HR6.out.symm, HBW.out.trans (hb2.out.mono HBW.out.size)⟩
                  | false =>
                    rw [if_neg (of_decide_eq_false HBD.out.symm)] at hR5
                    have k1 : f.pre.length ≤ 9223372036854775807 := by have := HLE.out; unfold maxLen at this; omega
                    have k2 : f.post.length ≤ 9223372036854775807 := by have := HLE.out; unfold maxLen at this; omega
                    by_cases c1 : 8 < f.pre.length
                    · have HR6 : Hid (R = 5) := Lib.hid (by rw [if_pos (.inl c1)] at hR5; exact hR5.symm)
                      have c1' : (8 : Int) < (f.pre.length : Int) := by omega
                      clear hR5 c1
                      go_wp2
                      go_ret
                      exact ⟨ret_int HR6.out.symm, HBW.out.trans (hb2.out.mono HBW.out.size)⟩
                    have c1' : ¬ (8 : Int) < (f.pre.length : Int) := by omega
                    by_cases c2 : 8 < f.post.length
                    · have HR6 : Hid (R = 5) := Lib.hid (by rw [if_pos (.inr c2)] at hR5; exact hR5.symm)
                      have c2' : (8 : Int) < (f.post.length : Int) := by omega
                      clear hR5 c1 c2
                      go_wp2
                      go_ret
                      exact ⟨ret_int HR6.out.symm, HBW.out.trans (hb2.out.mono HBW.out.size)⟩
                    have c2' : ¬ (8 : Int) < (f.post.length : Int) := by omega
                    rw [if_neg (by omega)] at hR5
                    have HC : Hid (f.pre.length ≤ 8 ∧ f.post.length ≤ 8) := Lib.hid (by omega)
                    clear c1 c2
                    by_cases c3 : f.win.kind = 0
                    · have c3' : (f.win.kind == 0) = true := ibeq c3
                      by_cases c4 : 0 < f.post.length
                      · have HR6 : Hid (R = 54) := Lib.hid (by rw [if_pos ⟨c3, c4⟩] at hR5; exact hR5.symm)
                        have c4' : (0 : Int) < (f.post.length : Int) := by omega
                        clear hR5 c3 c4
                        go_wp2
                        go_ret
                        exact ⟨ret_int HR6.out.symm, HBW.out.trans (hb2.out.mono HBW.out.size)⟩
                      · have c4' : ¬ (0 : Int) < (f.post.length : Int) := by omega
                        have HR6 : Hid (stepsErr f = R) := Lib.hid (by rw [if_neg (fun h => c4 h.2)] at hR5; exact hR5)
                        have HPE : Hid (f.post.length = 0) := Lib.hid (by omega)
                        clear hR5 c3 c4
                        go_wp2
                        clear p6 p7 p11 c3'
                        try clear c4'
                        rename World => wc2
                        go_loopw [12, 13] (fun x _ wr => ∃ k : Nat, k ≤ f.pre.length + f.post.length ∧ x = .int .i64 k ∧ Hid (firstI ((f.pre.map stepErr ++ f.post.map postErr).drop k) = R) ∧ Hid (Below W.heap.size W wr)) (fun x _ _ => f.pre.length + f.post.length - (intOf x).toNat)
                        case atStart => exact ⟨0, Nat.zero_le _, rfl, Lib.hid (by rw [List.drop_zero, ← steps_firstI]; exact HR6.out), hb2⟩
                        case round =>
                          clear HF
                          obtain ⟨k4, hk4, rfl, hr, hb3⟩ := hrel
                          have HF := Lib.hid (HFX.out.grow hb3.out)
                          obtain ⟨-, -, -, -, -, -, p6, -, -, -, -, p11⟩ := HF.out.box.cells
                          dsimp only at p6 p11
                          have hc1 : f.pre.length ≤ 8 := HC.out.1
                          have hc2 : f.post.length ≤ 8 := HC.out.2
                          have hll : (f.pre.map stepErr ++ f.post.map postErr).length = f.pre.length + f.post.length := by simp
                          by_cases hlt4 : k4 < f.pre.length + f.post.length
                          · have hd := firstI_drop (f.pre.map stepErr ++ f.post.map postErr) k4 (by rw [hll]; exact hlt4)
                            rw [hr.out] at hd
                            have h30 : (k4 : Int) < (f.pre.length : Int) + (f.post.length : Int) := by omega
                            by_cases hlt5 : k4 < f.pre.length
                            · have h33 : (k4 : Int) < (f.pre.length : Int) := by omega
                              have h34 : (0 : Int) ≤ (k4 : Int) := by omega
                              rw [List.getElem_append_left (by simpa using hlt5), List.getElem_map] at hd
                              obtain ⟨bs, os, es', hsl, y0, y1, y2⟩ := StpsAt.cells HF.out.ok.1 hlt5
                              have HTX : Hid (f.pre[k4].text.length ≤ maxLen) := Lib.hid (HF.out.ok.1.2 _ (List.getElem_mem hlt5))
                              dsimp only at es' y0 y1 y2
                              subst es'
                              generalize f.pre[k4] = s at hd y0 y1 y2 HTX
                              obtain ⟨z, hz⟩ : ∃ z, stepErr s = z := ⟨_, rfl⟩
                              rw [hz] at hd
                              have HZ : Hid (rstepErr false s = z) := Lib.hid hz
                              clear hr hz hll
                              by_cases h0 : z = 0
                              · have e0 := inebf h0
                                have HD2 : Hid (firstI ((f.pre.map stepErr ++ f.post.map postErr).drop (k4 + 1)) = R) := Lib.hid (by rw [hd, if_pos h0])
                                clear h0 hd
                                go_wp2_with (go_at_call 35; refine (rstep_at s false HTX.out HZ.out).mono ?_; rintro e w2 ⟨rfl, hb5⟩; have HB5 := Lib.hid (hb3.out.trans (hb5.mono hb3.out.size)); clear hb5)
                                go_roundw
                                case rel => exact ⟨k4 + 1, by omega, by go_num, HD2, HB5⟩
                                case measure => simp [intOf]; omega
                              · have e0 := inebt h0
                                have HD2 : Hid (R = z) := Lib.hid (by rw [hd, if_neg h0])
                                clear h0 hd
                                go_wp2_with (go_at_call 35; refine (rstep_at s false HTX.out HZ.out).mono ?_; rintro e w2 ⟨rfl, hb5⟩; have HB5 := Lib.hid (hb3.out.trans (hb5.mono hb3.out.size)); clear hb5)
                                go_ret
                                exact ⟨ret_int HD2.out.symm, HBW.out.trans (HB5.out.mono HBW.out.size)⟩
                            · exact absurd hlt4 (by have := HPE.out; omega)
                          · have HD2 : Hid (R = 0) := Lib.hid (by rw [← hr.out, List.drop_eq_nil_of_le (by rw [hll]; omega)]; rfl)
                            have h30 : ¬ (k4 : Int) < (f.pre.length : Int) + (f.post.length : Int) := by omega
                            clear hr hll
                            go_wp2
                            go_ret
                            exact ⟨ret_int HD2.out.symm, HBW.out.trans (hb3.out.mono HBW.out.size)⟩
                    · have c3' : (f.win.kind == 0) = false := ibne c3
                      have HR6 : Hid (stepsErr f = R) := Lib.hid (by rw [if_neg (fun h => c3 h.1)] at hR5; exact hR5)
                      clear hR5 c3
                      go_wp2
                      clear p6 p7 p11 c3'
                      try clear c4'
                      rename World => wc2
                      go_loopw [12, 13] (fun x _ wr => ∃ k : Nat, k ≤ f.pre.length + f.post.length ∧ x = .int .i64 k ∧ Hid (firstI ((f.pre.map stepErr ++ f.post.map postErr).drop k) = R) ∧ Hid (Below W.heap.size W wr)) (fun x _ _ => f.pre.length + f.post.length - (intOf x).toNat)
                      case atStart => exact ⟨0, Nat.zero_le _, rfl, Lib.hid (by rw [List.drop_zero, ← steps_firstI]; exact HR6.out), hb2⟩
                      case round =>
                        clear HF
                        obtain ⟨k4, hk4, rfl, hr, hb3⟩ := hrel
                        have HF := Lib.hid (HFX.out.grow hb3.out)
                        obtain ⟨-, -, -, -, -, -, p6, -, -, -, -, p11⟩ := HF.out.box.cells
                        dsimp only at p6 p11
                        have hc1 : f.pre.length ≤ 8 := HC.out.1
                        have hc2 : f.post.length ≤ 8 := HC.out.2
                        have hll : (f.pre.map stepErr ++ f.post.map postErr).length = f.pre.length + f.post.length := by simp
                        by_cases hlt4 : k4 < f.pre.length + f.post.length
                        · have hd := firstI_drop (f.pre.map stepErr ++ f.post.map postErr) k4 (by rw [hll]; exact hlt4)
                          rw [hr.out] at hd
                          have h30 : (k4 : Int) < (f.pre.length : Int) + (f.post.length : Int) := by omega
                          by_cases hlt5 : k4 < f.pre.length
                          · have h33 : (k4 : Int) < (f.pre.length : Int) := by omega
                            have h34 : (0 : Int) ≤ (k4 : Int) := by omega
                            rw [List.getElem_append_left (by simpa using hlt5), List.getElem_map] at hd
                            obtain ⟨bs, os, es', hsl, y0, y1, y2⟩ := StpsAt.cells HF.out.ok.1 hlt5
                            have HTX : Hid (f.pre[k4].text.length ≤ maxLen) := Lib.hid (HF.out.ok.1.2 _ (List.getElem_mem hlt5))
                            dsimp only at es' y0 y1 y2
                            subst es'
                            generalize f.pre[k4] = s at hd y0 y1 y2 HTX
                            obtain ⟨z, hz⟩ : ∃ z, stepErr s = z := ⟨_, rfl⟩
                            rw [hz] at hd
                            have HZ : Hid (rstepErr false s = z) := Lib.hid hz
                            clear hr hz hll
                            by_cases h0 : z = 0
                            · have e0 := inebf h0
                              have HD2 : Hid (firstI ((f.pre.map stepErr ++ f.post.map postErr).drop (k4 + 1)) = R) := Lib.hid (by rw [hd, if_pos h0])
                              clear h0 hd
                              go_wp2_with (go_at_call 35; refine (rstep_at s false HTX.out HZ.out).mono ?_; rintro e w2 ⟨rfl, hb5⟩; have HB5 := Lib.hid (hb3.out.trans (hb5.mono hb3.out.size)); clear hb5)
                              go_roundw
                              case rel => exact ⟨k4 + 1, by omega, by go_num, HD2, HB5⟩
                              case measure => simp [intOf]; omega
                            · have e0 := inebt h0
                              have HD2 : Hid (R = z) := Lib.hid (by rw [hd, if_neg h0])
                              clear h0 hd
                              go_wp2_with (go_at_call 35; refine (rstep_at s false HTX.out HZ.out).mono ?_; rintro e w2 ⟨rfl, hb5⟩; have HB5 := Lib.hid (hb3.out.trans (hb5.mono hb3.out.size)); clear hb5)
                              go_ret
                              exact ⟨ret_int HD2.out.symm, HBW.out.trans (HB5.out.mono HBW.out.size)⟩
                          · obtain ⟨j4, hj4⟩ : ∃ j, k4 = f.pre.length + j := ⟨k4 - f.pre.length, by omega⟩
                            have hjl : j4 < f.post.length := by omega
                            have h33 : ¬ (k4 : Int) < (f.pre.length : Int) := by omega
                            have h34 : (0 : Int) ≤ (j4 : Int) := by omega
                            have h35 : (j4 : Int) < (f.post.length : Int) := by omega
                            have h36 : (k4 : Int) - (f.pre.length : Int) = (j4 : Int) := by omega
                            have hg : (f.pre.map stepErr ++ f.post.map postErr)[k4]'(by rw [hll]; exact hlt4) = postErr f.post[j4] := by
                              subst hj4
                              rw [List.getElem_append_right (by simp)]
                              simp
                            rw [hg] at hd
                            obtain ⟨bs, os, es', hsl, y0, y1, y2⟩ := StpsAt.cells HF.out.ok.2 hjl
                            have HTX : Hid (f.post[j4].text.length ≤ maxLen) := Lib.hid (HF.out.ok.2.2 _ (List.getElem_mem hjl))
                            dsimp only at es' y0 y1 y2
                            subst es'
                            clear hg
                            generalize f.post[j4] = s at hd y0 y1 y2 HTX
                            obtain ⟨z, hz⟩ : ∃ z, postErr s = z := ⟨_, rfl⟩
                            rw [hz] at hd
                            have HZ : Hid (rstepErr true s = z) := Lib.hid hz
                            clear hr hz hll hj4
                            by_cases h0 : z = 0
                            · have e0 := inebf h0
                              have HD2 : Hid (firstI ((f.pre.map stepErr ++ f.post.map postErr).drop (k4 + 1)) = R) := Lib.hid (by rw [hd, if_pos h0])
                              clear h0 hd
                              go_wp2_with (go_at_call 35; refine (rstep_at s true HTX.out HZ.out).mono ?_; rintro e w2 ⟨rfl, hb5⟩; have HB5 := Lib.hid (hb3.out.trans (hb5.mono hb3.out.size)); clear hb5)
                              go_roundw
                              case rel => exact ⟨k4 + 1, by omega, by go_num, HD2, HB5⟩
                              case measure => simp [intOf]; omega
                            · have e0 := inebt h0
                              have HD2 : Hid (R = z) := Lib.hid (by rw [hd, if_neg h0])
                              clear h0 hd
                              go_wp2_with (go_at_call 35; refine (rstep_at s true HTX.out HZ.out).mono ?_; rintro e w2 ⟨rfl, hb5⟩; have HB5 := Lib.hid (hb3.out.trans (hb5.mono hb3.out.size)); clear hb5)
                              go_ret
                              exact ⟨ret_int HD2.out.symm, HBW.out.trans (HB5.out.mono HBW.out.size)⟩
                        · have HD2 : Hid (R = 0) := Lib.hid (by rw [← hr.out, List.drop_eq_nil_of_le (by rw [hll]; omega)]; rfl)
                          have h30 : ¬ (k4 : Int) < (f.pre.length : Int) + (f.post.length : Int) := by omega
                          clear hr hll
                          go_wp2
                          go_ret
                          exact ⟨ret_int HD2.out.symm, HBW.out.trans (hb3.out.mono HBW.out.size)⟩
      · have a6 := inebt hpt
        have HR3 : Hid (R = 53) := Lib.hid (by
          have h := HR2.out
          rw [if_pos (.inl (by unfold areEnds; rw [hyp, decide_eq_false hpt]; simp))] at h
          exact h.symm)
        clear hx hxp hxn hy hyp hyn hxy hne hpt
        go_wp2_with (first | (go_at_call 22; refine (rfind_at HF.out.tops HYY.out).mono ?_; rintro e w' ⟨rfl, rfl⟩) | (go_at_call 22; refine (rfind_at HF.out.tops HX.out).mono ?_; rintro e w' ⟨rfl, rfl⟩; have HYY := Lib.hid HY.out))
        go_ret
        exact ⟨ret_int HR3.out.symm, HBW.out.trans (hb.out.mono HBW.out.size)⟩
end Go.Proofs.YtfoenfipefhpoaaGreatDoor.Pl
/-
  small: is a plan looked at? Conditions: the plan lies in memory.
-/
namespace Go.Proofs.YtfoenfipefhpoaaGreatDoor.Pl
open Go.RowKit Go.Proofs.YtfoenfipefhpoaaGreatDoor.Ex

/-- A plan that is looked at. -/
structure Sm (p : Pln) : Prop where
  tops : p.tops.length ≤ 100
  flws : p.flws.length ≤ 100
  steps : ∀ f ∈ p.flws, f.pre.length ≤ 100 ∧ f.post.length ≤ 100
def SmallRet (w : World) (p : Pln) (e : Ending) (w' : World) : Prop := ∃ b : Bool, e = .returned (.bool b) ∧ (b = true → Sm p) ∧ Below w.heap.size w w'
set_option maxRecDepth 20000 in
set_option maxHeartbeats 2000000 in
theorem small_at {w : World} {v : Value} {p : Pln} (h : PlnAt w v p) : Calls Tryz.prog 6 #[v] w (SmallRet w p) := by
  obtain ⟨vt, vf, es, rfl, ht, hf, he⟩ := h
  have hb0 : Below w.heap.size w (w.alloc (.cells #[vt, vf] 25)) := (Below.refl _ _).alloc (Nat.le_refl _) _
  obtain ⟨a1, c1, rfl⟩ := ht.val
  obtain ⟨a2, c2, rfl⟩ := hf.1.val
  obtain ⟨-, -, k1, -⟩ := ht.len
  obtain ⟨-, -, k2, -⟩ := hf.1.len
  unfold maxLen at k1 k2
  have HB := Lib.hid hb0
  have HE := Lib.hid he
  obtain ⟨n, hn⟩ : ∃ n, p.tops.length = n := ⟨_, rfl⟩
  obtain ⟨m, hm⟩ : ∃ m, es.length = m := ⟨_, rfl⟩
  rw [hn] at ht hb0 HB k1 ⊢
  rw [hm] at hf hb0 HB k2 ⊢
  have HF := Lib.hid (hf.grow hb0)
  have HN := Lib.hid hn
  have HM := Lib.hid hm
  have hlen : p.flws.length = m := by rw [← he, List.length_map, hm]
  have HLF := Lib.hid hlen
  clear ht hf he hb0 hn hm hlen
  by_cases b1 : 100 < n
  · have b1' : (100 : Int) < (n : Int) := by omega
    go_enter Tryz.func6, Tryz.ntmps6
    go_wp2
    go_ret
    exact ⟨false, rfl, (fun h => by cases h), HB.out⟩
  by_cases b2 : 100 < m
  · have b1' : ¬ (100 : Int) < (n : Int) := by omega
    have b2' : (100 : Int) < (m : Int) := by omega
    go_enter Tryz.func6, Tryz.ntmps6
    go_wp2
    go_ret
    exact ⟨false, rfl, (fun h => by cases h), HB.out⟩
  have b1' : ¬ (100 : Int) < (n : Int) := by omega
  have b2' : ¬ (100 : Int) < (m : Int) := by omega
  obtain ⟨W, hW⟩ : ∃ W, w.alloc (.cells #[.slice a1 n c1, .slice a2 m c2] 25) = W := ⟨_, rfl⟩
  have hx : PBox W w.heap.size (.slice a1 n c1) (.slice a2 m c2) := by rw [← hW]; exact heap_alloc_new w _
  obtain ⟨p0, p1⟩ := hx.cells
  rw [hW] at HF HB
  clear hx
  go_enter Tryz.func6, Tryz.ntmps6
  go_wp2
  go_loop [3] (fun i => ∃ k : Nat, k ≤ m ∧ i = .int .i64 k ∧ Hid (∀ j, (hj : j < es.length) → j < k → es[j].f.pre.length ≤ 100 ∧ es[j].f.post.length ≤ 100)) (fun i => m - (intOf i).toNat)
  case atStart => exact ⟨0, Nat.zero_le _, rfl, Lib.hid (fun j _ h => by omega)⟩
  case round =>
    obtain ⟨k, hk, rfl, hr⟩ := hrel
    by_cases hlt : k < m
    · have hkl : k < es.length := by rw [HM.out]; exact hlt
      obtain ⟨b, o, rfl, hbl, -, -, -, -, -, -, y6, -, -, -, -, y11⟩ := HF.out.cells hkl
      have hok := HF.out.2 _ (List.getElem_mem hkl)
      obtain ⟨u1, c5, e5⟩ := hok.1.1.val
      obtain ⟨u2, c6, e6⟩ := hok.2.1.val
      rw [e5] at y6
      rw [e6] at y11
      obtain ⟨x, hx⟩ : ∃ x, es[k].f.pre.length = x := ⟨_, rfl⟩
      obtain ⟨y, hy⟩ : ∃ y, es[k].f.post.length = y := ⟨_, rfl⟩
      rw [hx] at y6
      rw [hy] at y11
      have HXY : Hid (∀ hj : k < es.length, es[k].f.pre.length = x ∧ es[k].f.post.length = y) := Lib.hid (fun _ => ⟨hx, hy⟩)
      have g0 : (0 : Int) ≤ (k : Int) := by omega
      have g1 : (k : Int) < (m : Int) := by omega
      clear hok e5 e6 hx hy hkl hbl
      by_cases f1 : 100 < x
      · have f1' : (100 : Int) < (x : Int) := by omega
        go_wp2
        go_ret
        exact ⟨false, rfl, (fun h => by cases h), HB.out⟩
      by_cases f2 : 100 < y
      · have f1' : ¬ (100 : Int) < (x : Int) := by omega
        have f2' : (100 : Int) < (y : Int) := by omega
        go_wp2
        go_ret
        exact ⟨false, rfl, (fun h => by cases h), HB.out⟩
      · have f1' : ¬ (100 : Int) < (x : Int) := by omega
        have f2' : ¬ (100 : Int) < (y : Int) := by omega
        go_wp2
        go_round
        case rel =>
          refine ⟨k + 1, by omega, by go_num, Lib.hid (fun j hj h => ?_)⟩
          by_cases e : j = k
          · subst e
            obtain ⟨q1, q2⟩ := HXY.out hj
            omega
          · exact hr.out j hj (by omega)
        case measure => simp [intOf]; omega
    · go_wp2
      go_ret
      refine ⟨true, rfl, (fun _ => ⟨by have := HN.out; omega, by have := HLF.out; omega, fun f hf => ?_⟩), HB.out⟩
      rw [← HE.out] at hf
      obtain ⟨q, hq, rfl⟩ := List.mem_map.1 hf
      obtain ⟨j, hj, rfl⟩ := List.getElem_of_mem hq
      exact hr.out j hj (by have := HM.out; omega)
end Go.Proofs.YtfoenfipefhpoaaGreatDoor.Pl
