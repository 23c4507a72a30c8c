/-
  The document's Text: a plan's text, or its first error. Conditions: the plan lies in memory; what the document's test of a flow says is handed in.
-/
import Derived.Test.YtogcickcodlepaaGreatDoorJQ4
import Derived.Test.YtogcickcodlepaaGreatDoorJQ1
import Derived.Deep.DeepCutAuto
import Derived.Deep.LoopGhost
set_option linter.unusedVariables false
set_option linter.unusedSimpArgs false
namespace Go.Proofs.YtogcickcodlepaaGreatDoor.Pl
open Go.RowKit Go.Proofs.YtogcickcodlepaaGreatDoor.Ex

theorem rcheck_of (HFD : FlowDoes) {w : World} {v : Value} {p : Pln} {l : Nat} {E : Int} (h : PlnAt w v p) (hc : check p = (l, E)) : Calls Tryz.prog 10 #[v] w fun e w' => e = .returned (.tuple #[.int .i64 l, .int .i64 E]) ∧ Below w.heap.size w w' := by
  refine (rcheck_any HFD h).mono ?_
  rintro e w' ⟨h1, h2⟩
  rw [hc] at h1
  exact ⟨h1, h2⟩
set_option maxRecDepth 20000 in
set_option maxHeartbeats 2000000 in
theorem rtext_bad (HFD : FlowDoes) {w : World} {v : Value} {p : Pln} (h : PlnAt w v p) {i : Nat} {E : Int} (hc : check p = (i, E)) (h0 : E ≠ 0) : Calls Tryz.prog 16 #[v] w fun e w' => e = .returned (.tuple #[sv [], .int .i64 E]) ∧ Below w.heap.size w w' := by
  have hpl := h
  obtain ⟨vt, vf, es, rfl, ht, hf, he⟩ := h
  have hb0 : Below w.heap.size w (w.alloc (.cells #[vt, vf] 25)) := (Below.refl _ _).alloc (Nat.le_refl _) _
  have HP := Lib.hid (PlnAt.grow hpl hb0)
  have HB0 := Lib.hid hb0
  have e0 := inebt h0
  have HC := Lib.hid hc
  obtain ⟨t1, t2, rfl⟩ := ht.val
  obtain ⟨t3, t4, rfl⟩ := hf.1.val
  clear ht hf he hb0 hc hpl
  go_enter Tryz.func16, Tryz.ntmps16
  go_wp2_with (go_at_call 10; refine (rcheck_of HFD HP.out HC.out).mono ?_; rintro e w1 ⟨rfl, hb1⟩; have HB1 := Lib.hid hb1; clear hb1)
  go_ret2
  exact ⟨rfl, HB0.out.trans (HB1.out.mono HB0.out.size)⟩
theorem app_le {x y s : ByteArray} {a b : Nat} (h : x ++ y = s) (hx : x.size ≤ a) (hy : y.size ≤ b) : s.size ≤ a + b := by
  rw [← h, ByteArray.size_append]; omega
theorem mk_le {l : Bs} {a : Nat} (h : l.length ≤ a) : (⟨l.toArray⟩ : ByteArray).size ≤ a := by
  show l.toArray.size ≤ a
  rw [List.size_toArray]; exact h
theorem Box.six {w : World} {b : Nat} {q : FE} (h : Box w b q) : w.cell? ⟨b, 0, none⟩ = some (sv q.f.name) ∧ w.cell? ⟨b, 1, none⟩ = some (sv q.f.frm) ∧ w.cell? ⟨b, 2, none⟩ = some (sv q.f.dest) ∧ w.cell? ⟨b, 4, none⟩ = some (.int .i64 q.f.readers) ∧ w.cell? ⟨b, 5, none⟩ = some (.int .i64 q.f.keepers) ∧ w.cell? ⟨b, 6, none⟩ = some q.pre := by
  obtain ⟨h0, h1, h2, -, h4, h5, h6, -⟩ := h.cells
  exact ⟨h0, h1, h2, h4, h5, h6⟩
theorem Box.win {w : World} {b : Nat} {f : Flw} {pre post : Value} {kd : Int} (h : Box w b ⟨f, pre, post⟩) (hk : f.win.kind = kd) : w.cell? ⟨b, 7, none⟩ = some (.int .i64 kd) ∧ w.cell? ⟨b, 8, none⟩ = some (.int .i64 f.win.size) ∧ w.cell? ⟨b, 9, none⟩ = some (.int .i64 f.win.slide) ∧ w.cell? ⟨b, 10, none⟩ = some (.int .i64 f.agg) ∧ w.cell? ⟨b, 11, none⟩ = some post := by
  obtain ⟨-, -, -, -, -, -, -, h7, h8, h9, h10, h11⟩ := h.cells
  subst hk
  exact ⟨h7, h8, h9, h10, h11⟩
set_option maxRecDepth 20000 in
set_option maxHeartbeats 8000000 in
theorem rtext_good (HFD : FlowDoes) {w : World} {v : Value} {p : Pln} (h : PlnAt w v p) {i : Nat} (hc : check p = (i, 0)) {r : Bs} (hr : planText p = r) : Calls Tryz.prog 16 #[v] w fun e w' => e = .returned (.tuple #[sv r, .int .i64 0]) ∧ Below w.heap.size w w' := by
  have hlen := planText_len (p := p) (by rw [hc])
  rw [hr] at hlen
  obtain ⟨-, -, s3, -⟩ := check_zero (p := p) (by rw [hc])
  have s4 := check_more (p := p) (by rw [hc])
  have hpl := h
  obtain ⟨vt, vf, es, rfl, ht, hf, he⟩ := h
  have hb0 : Below w.heap.size w (w.alloc (.cells #[vt, vf] 25)) := (Below.refl _ _).alloc (Nat.le_refl _) _
  have hx : PBox (w.alloc (.cells #[vt, vf] 25)) w.heap.size vt vf := heap_alloc_new w _
  have HP := Lib.hid (PlnAt.grow hpl hb0)
  have HX := Lib.hid hx
  have HB0 := Lib.hid hb0
  have HC := Lib.hid hc
  obtain ⟨t1, t2, rfl⟩ := ht.val
  obtain ⟨t3, t4, rfl⟩ := hf.1.val
  obtain ⟨n, hn⟩ : ∃ n, p.tops.length = n := ⟨_, rfl⟩
  obtain ⟨m, hm⟩ : ∃ m, es.length = m := ⟨_, rfl⟩
  obtain ⟨-, -, k1, -⟩ := ht.len
  obtain ⟨-, -, k2, -⟩ := hf.1.len
  rw [hn] at ht hx HX HP HB0 hb0 k1 ⊢
  rw [hm] at hf hx HX HP HB0 hb0 k2 ⊢
  have q1 : n ≤ 9223372036854775807 := by unfold maxLen at k1; omega
  have q2 : m ≤ 9223372036854775807 := by unfold maxLen at k2; omega
  have HTO := Lib.hid (ht.grow hb0)
  have HFL := Lib.hid (hf.grow hb0)
  have HN := Lib.hid hn
  have HM := Lib.hid hm
  have HE := Lib.hid he
  have HL := Lib.hid hlen
  have HS3 := Lib.hid s3
  have HS4 := Lib.hid s4
  have HR := Lib.hid hr
  clear hpl
  clear ht hf he hb0 hx hc hr hlen s3 s4 hn hm k1 k2
  go_enter Tryz.func16, Tryz.ntmps16
  go_wp2_with (go_at_call 10; refine (rcheck_of HFD HP.out HC.out).mono ?_; rintro e w1 ⟨rfl, hb1⟩; obtain ⟨c0, c1⟩ := (HX.out.grow hb1).cells; have HB1 := Lib.hid hb1; clear hb1)
  have HX1 := Lib.hid (HX.out.grow HB1.out)
  have HTO1 := Lib.hid (HTO.out.grow HB1.out)
  have HFL1 := Lib.hid (HFL.out.grow HB1.out)
  have HB2 := Lib.hid (HB0.out.trans (HB1.out.mono HB0.out.size))
  obtain ⟨bp, hbp⟩ : ∃ bp, w.heap.size = bp := ⟨_, rfl⟩
  have HBP := Lib.hid hbp
  rw [hbp] at HX1 ⊢
  clear HB0 HB1 HX HTO HFL HP c0 c1 hbp
  go_loopg [6, 7] n (fun g v z wr => ∃ (k : Nat) (acc : Bs), k ≤ n ∧ k + g = n ∧ z = .int .i64 k ∧ v = sv acc ∧ Hid (acc ++ ((p.tops.drop k).flatMap topText ++ p.flws.flatMap flwText) = r) ∧ Hid (Below w1.heap.size w1 wr))
  case atStart => exact ⟨0, [], Nat.zero_le _, by omega, rfl, rfl, Lib.hid HR.out, Lib.hid (Below.refl _ _)⟩
  case round =>
    obtain ⟨k, acc, hkn, hkg, rfl, rfl, hr, hbel⟩ := hrel
    obtain ⟨p0, p1⟩ := (HX1.out.grow hbel.out).cells
    have hlp : bp < wr.heap.size := lt_of_heap (HX1.out.grow hbel.out)
    by_cases hlt : k < n
    · have hkl : k < p.tops.length := by rw [HN.out]; exact hlt
      have hd := flat_drop topText p.tops k hkl
      obtain ⟨b, o, rfl, hbl, c0, c1⟩ := (TopsAt.grow HTO1.out hbel.out).cells hkl
      have hsm := HS3.out _ (List.getElem_mem hkl)
      obtain ⟨⟨nm, pa⟩, hs⟩ : ∃ s, p.tops[k] = s := ⟨_, rfl⟩
      rw [hs] at hd hsm c0 c1
      dsimp only at hsm c0 c1
      clear hs
      have hr2 : (acc ++ topText ⟨nm, pa⟩) ++ ((p.tops.drop (k + 1)).flatMap topText ++ p.flws.flatMap flwText) = r := by rw [← hr.out, hd]; simp only [List.append_assoc]
      have hal : acc.length ≤ 100000 := by
        have h1 := congrArg List.length hr2
        rw [List.length_append, List.length_append] at h1
        have := HL.out
        omega
      obtain ⟨x, hx⟩ : ∃ x, Lib.itoa pa = x := ⟨_, rfl⟩
      have hxl := itoa_len pa (by unfold Num64; omega)
      rw [hx] at hxl
      have R2 := Lib.hid hr2
      have HX0 := Lib.hid hx
      have HSM := Lib.hid hsm
      have g0 : (0 : Int) ≤ (k : Int) := by omega
      have g1 : (k : Int) < (n : Int) := by omega
      have z1 : ¬ 9223372036854775807 < acc.length + 6 := by omega
      have z2 : ¬ 9223372036854775807 < acc.length + 6 + nm.length := by omega
      have z3 : ¬ 9223372036854775807 < acc.length + 6 + nm.length + 1 := by omega
      have z4 : ¬ 9223372036854775807 < acc.length + 6 + nm.length + 1 + x.length := by omega
      have z5 : ¬ 9223372036854775807 < acc.length + 6 + nm.length + 1 + x.length + 1 := by omega
      have HKG := Lib.hid hkg
      clear hd hr hsm hr2 hx hal hkl hkg
      go_upto_region 8 with fail
      have HDC : Hid (Below wr.heap.size wr wr.drew) := Lib.hid (Below.refl _ _).drew
      have S0 : wr.drew.cell? ⟨bp, 0, none⟩ = some (.slice (some ⟨b, o, none⟩) n t2) ∧ wr.drew.cell? ⟨b, o + k * 2, none⟩ = some (sv nm) ∧ wr.drew.cell? ⟨b, o + k * 2 + 1, none⟩ = some (.int .i64 pa) := ⟨p0, c0, c1⟩
      go_region_held3 (fun X => X.cell? ⟨bp, 0, none⟩ = some (.slice (some ⟨b, o, none⟩) n t2) ∧ X.cell? ⟨b, o + k * 2, none⟩ = some (sv nm) ∧ X.cell? ⟨b, o + k * 2 + 1, none⟩ = some (.int .i64 pa))
        (first | exact S0 | exact S1)
        (first | (go_at_call 33; refine (dec_at (by have := HSM.out; omega) (by have := HSM.out; omega) HX0.out).mono ?_; rintro e w2 ⟨rfl, hb2⟩; have HB3 := Lib.hid (HDC.out.trans hb2); have S1 : w2.cell? ⟨bp, 0, none⟩ = some (.slice (some ⟨b, o, none⟩) n t2) ∧ w2.cell? ⟨b, o + k * 2, none⟩ = some (sv nm) ∧ w2.cell? ⟨b, o + k * 2 + 1, none⟩ = some (.int .i64 pa) := ⟨by rw [HB3.out.cell (p := ⟨bp, 0, none⟩) hlp]; exact p0, by rw [HB3.out.cell (p := ⟨b, o + k * 2, none⟩) hbl]; exact c0, by rw [HB3.out.cell (p := ⟨b, o + k * 2 + 1, none⟩) hbl]; exact c1⟩; clear hb2))
      all_goals go_wp2_with fail
      all_goals go_roundg (n - (k + 1))
      all_goals first
        | (case measure => have := HKG.out; omega)
        | skip
      all_goals exact ⟨k + 1, acc ++ topText ⟨nm, pa⟩, by omega, by omega, by go_num, congrArg Value.string (by apply ByteArray.ext; simp [ByteArray.data_append, topText, lineB, wTopic, HX0.out]), R2, Lib.hid (hbel.out.trans (HB3.out.mono hbel.out.size))⟩
    · have hkn2 : k = n := by omega
      have hr2 : Hid (acc ++ (p.flws.drop 0).flatMap flwText = r) := Lib.hid (by rw [← hr.out, hkn2, ← HN.out, List.drop_length]; simp)
      clear hr hkn2 hkg
      go_wp2
      clear p0 p1 hlp
      rename World => wq
      go_loopg [6, 8, 9, 10, 11] m (fun g v z _ _ _ wr => ∃ (k : Nat) (acc : Bs), k ≤ m ∧ k + g = m ∧ z = .int .i64 k ∧ v = sv acc ∧ Hid (acc ++ (p.flws.drop k).flatMap flwText = r) ∧ Hid (Below w1.heap.size w1 wr))
      case atStart => exact ⟨0, acc, Nat.zero_le _, by omega, rfl, rfl, hr2, hbel⟩
      case round =>
        clear hbel hr2
        obtain ⟨j, acc, hjm, hjg, rfl, rfl, hr, hbel⟩ := hrel
        obtain ⟨p0, p1⟩ := (HX1.out.grow hbel.out).cells
        by_cases hlt2 : j < m
        · have hjl : j < es.length := by rw [HM.out]; exact hlt2
          have hj2 : j < p.flws.length := by rw [← HE.out, List.length_map]; exact hjl
          have hfe : p.flws[j] = es[j].f := by simp [← HE.out]
          have hd := flat_drop flwText p.flws j hj2
          have hsm := HS4.out _ (List.getElem_mem hj2)
          rw [hfe] at hd hsm
          have hok := (HFL1.out.2 _ (List.getElem_mem hjl)).grow hbel.out
          obtain ⟨b, o, rfl, hbl, c0, c1, c2, c3, c4, c5, c6, c7, c8, c9, c10, c11⟩ := (HFL1.out.grow hbel.out).cells hjl
          obtain ⟨⟨f, pre, post⟩, hs⟩ : ∃ s, es[j] = s := ⟨_, rfl⟩
          rw [hs] at hd hsm hok c0 c1 c2 c3 c4 c5 c6 c7 c8 c9 c10 c11
          dsimp only at hd hsm c0 c1 c2 c3 c4 c5 c6 c7 c8 c9 c10 c11
          obtain ⟨u1, u2, e5⟩ := hok.1.1.val
          obtain ⟨u3, u4, e6⟩ := hok.2.1.val
          dsimp only at e5 e6
          clear hs hfe
          subst e5 e6
          have hr2 : (acc ++ flwText f) ++ (p.flws.drop (j + 1)).flatMap flwText = r := by rw [← hr.out, hd]; simp only [List.append_assoc]
          have hsz : (acc ++ flwText f).length ≤ 100000 := by
            have h1 := congrArg List.length hr2
            rw [List.length_append] at h1
            have := HL.out
            omega
          obtain ⟨tot, htot⟩ : ∃ x, acc ++ flwText f = x := ⟨_, rfl⟩
          rw [htot] at hr2 hsz
          have HTOT := Lib.hid htot
          have R2 := Lib.hid hr2
          have SZ := Lib.hid hsz
          have HRF := Lib.hid hsm
          have g0 : (0 : Int) ≤ (j : Int) := by omega
          have g1 : (j : Int) < (m : Int) := by omega
          have HJG := Lib.hid hjg
          clear hd hr hsm hr2 hsz hbl hjl hj2 htot hjg
          obtain ⟨W, hW⟩ : ∃ W, wr.alloc (.cells #[sv f.name, sv f.frm, sv f.dest, .int .i64 f.bound, .int .i64 f.readers, .int .i64 f.keepers, .slice u1 f.pre.length u2, .int .i64 f.win.kind, .int .i64 f.win.size, .int .i64 f.win.slide, .int .i64 f.agg, .slice u3 f.post.length u4] 43) = W := ⟨_, rfl⟩
          have bx : Box W wr.heap.size ⟨f, .slice u1 f.pre.length u2, .slice u3 f.post.length u4⟩ := by rw [← hW]; exact Box.new wr ⟨f, .slice u1 f.pre.length u2, .slice u3 f.post.length u4⟩
          have bw : Below wr.heap.size wr W := by rw [← hW]; exact (Below.refl _ _).alloc (Nat.le_refl _) _
          have HBX := Lib.hid bx
          have HBW := Lib.hid (hbel.out.trans (bw.mono hbel.out.size))
          have HOK := Lib.hid (FEok.grow hok bw)
          obtain ⟨b0, b1, b2, b3, b4, b5, b6, b7, b8, b9, b10, b11⟩ := bx.cells
          clear hok bw hbel
          obtain ⟨bo, hbo⟩ : ∃ x, boundWord f.bound = x := ⟨_, rfl⟩
          obtain ⟨rd, hrd⟩ : ∃ x, Lib.itoa f.readers = x := ⟨_, rfl⟩
          obtain ⟨kp, hkp⟩ : ∃ x, Lib.itoa f.keepers = x := ⟨_, rfl⟩
          have HBO := Lib.hid hbo
          have HRD := Lib.hid hrd
          have HKP := Lib.hid hkp
          clear hbo hrd hkp bx
          obtain ⟨bf, hbf⟩ : ∃ bf, wr.heap.size = bf := ⟨_, rfl⟩
          rw [hbf] at HBX b0 b1 b2 b3 b4 b5 b6 b7 b8 b9 b10 b11
          dsimp only at b0 b1 b2 b3 b4 b5 b6 b7 b8 b9 b10 b11
          obtain ⟨sp, hsp⟩ : ∃ x, stepsText f.pre = x := ⟨_, rfl⟩
          obtain ⟨sq, hsq⟩ : ∃ x, stepsText f.post = x := ⟨_, rfl⟩
          have hall := HTOT.out
          unfold flwText at hall
          rw [HBO.out, HRD.out, HKP.out, hsp, hsq] at hall
          obtain ⟨a1, ha1⟩ : ∃ x, acc ++ lineB [wFlow, f.name, wFrom, f.frm, wTo, f.dest, bo, wReaders, rd, wKeepers, kp] ++ sp = x := ⟨_, rfl⟩
          have hall2 : a1 ++ (if f.win.kind ≠ 0 then winText f.win ++ lineB [wAgg, aggWord f.agg] else []) ++ sq = tot := by rw [← hall, ← ha1]; simp only [List.append_assoc]
          have l1 := congrArg List.length hall2
          have l2 := congrArg List.length ha1
          simp only [List.length_append] at l1 l2
          have hA1 : a1.length ≤ 100000 := by have := SZ.out; omega
          have hSQ : sq.length ≤ 100000 := by have := SZ.out; omega
          have hSP : sp.length ≤ 100000 := by omega
          have hAC : acc.length ≤ 100000 := by omega
          have HALL := Lib.hid hall2
          have HA1 := Lib.hid ha1
          have HSP := Lib.hid hsp
          have HSQ := Lib.hid hsq
          clear hall hall2 l1 l2 ha1 hsp hsq
          go_upto_if 60 with fail
          go_cut [10] (fun x wx => x = sv bo ∧ Hid (Below W.heap.size W wx))
          case first =>
            by_cases hge : 0 ≤ f.bound
            · obtain ⟨x, hx⟩ : ∃ x, Lib.itoa f.bound = x := ⟨_, rfl⟩
              have HX := Lib.hid hx
              have hl := itoa_len f.bound HRF.out.sm.num.bound
              rw [hx] at hl
              clear hx
              have hb : Hid (wBound ++ [32] ++ x = bo) := Lib.hid (by rw [← HBO.out, ← HX.out]; unfold boundWord; rw [if_pos hge])
              have hsz : ¬ 9223372036854775807 < 6 + x.length := by omega
              go_wp2_with (first
                | (go_at_call 33; refine (dec_at hge (by have := HRF.out.bound; omega) HX.out).mono ?_; rintro e w2 ⟨rfl, hb1⟩; have HB3 := Lib.hid hb1; clear hb1))
              go_meet
              case rel => exact ⟨by rw [bound_str, hb.out], HB3⟩
            · have hb : Hid (wMarks = bo) := Lib.hid (by rw [← HBO.out]; unfold boundWord; rw [if_neg hge])
              go_wp2
              go_meet
              case rel => exact ⟨by rw [← hb.out]; rfl, Lib.hid (Below.refl _ _)⟩
          case rest =>
            obtain ⟨rfl, hbc⟩ := hcut
            clear b0 b1 b2 b3 b4 b5 b6 b7 b8 b9 b10 b11
            rename World => wc
            obtain ⟨b0, b1, b2, b3, b4, b5, b6, b7, b8, b9, b10, b11⟩ := (HBX.out.grow hbc.out).cells
            dsimp only at b0 b1 b2 b3 b4 b5 b6 b7 b8 b9 b10 b11
            have hlf : bf < wc.heap.size := lt_of_heap (HBX.out.grow hbc.out)
            have n1 := HRF.out.sm.name
            have n2 := HRF.out.sm.frm
            have n3 := HRF.out.sm.dest
            have n4 : bo.length ≤ 30 := by
              have := itoa_len _ HRF.out.sm.num.bound
              rw [← HBO.out]
              unfold boundWord
              split
              · simp only [List.length_append, show wBound.length = 5 from rfl, List.length_cons, List.length_nil]; omega
              · decide
            have n5 : rd.length ≤ 21 := by rw [← HRD.out]; exact itoa_len _ HRF.out.sm.num.readers
            have n6 : kp.length ≤ 21 := by rw [← HKP.out]; exact itoa_len _ HRF.out.sm.num.keepers
            have z0 : ¬ 9223372036854775807 < acc.length + 5 := by omega
            go_upto_region 16 with fail
            go_cut [6] (fun x wx => x = sv a1 ∧ Hid (Below W.heap.size W wx))
            case first =>
              have HDC : Hid (Below wc.heap.size wc wc.drew) := Lib.hid (Below.refl _ _).drew
              have S0 : wc.drew.cell? ⟨bf, 0, none⟩ = some (sv f.name) ∧ wc.drew.cell? ⟨bf, 1, none⟩ = some (sv f.frm) ∧ wc.drew.cell? ⟨bf, 2, none⟩ = some (sv f.dest) ∧ wc.drew.cell? ⟨bf, 4, none⟩ = some (.int .i64 f.readers) ∧ wc.drew.cell? ⟨bf, 5, none⟩ = some (.int .i64 f.keepers) ∧ wc.drew.cell? ⟨bf, 6, none⟩ = some (.slice u1 f.pre.length u2) := ⟨b0, b1, b2, b4, b5, b6⟩
              refine wp_region_held_drew (S := (fun X => X.cell? ⟨bf, 0, none⟩ = some (sv f.name) ∧ X.cell? ⟨bf, 1, none⟩ = some (sv f.frm) ∧ X.cell? ⟨bf, 2, none⟩ = some (sv f.dest) ∧ X.cell? ⟨bf, 4, none⟩ = some (.int .i64 f.readers) ∧ X.cell? ⟨bf, 5, none⟩ = some (.int .i64 f.keepers) ∧ X.cell? ⟨bf, 6, none⟩ = some (.slice u1 f.pre.length u2))) (by kernel_rfl) S0 (fun hHeld => ?_)
              refine wpAnyH_take (i := 0) (oi := ({ dst := some 65, op := Op.move (Operand.tmp 6), type := 9, pos := "ref.go:378", after := #[], guard := none } : Oper)) (v := ?_) rfl (by kernel_rfl) (by kernel_rfl) (by kernel_rfl) (fun _ _ _ h => h) (Or.inl ⟨by rfl, ?hy16_0⟩) hHeld ?_
              case hy16_0 => (intro W hSw; (try dsimp only at hSw); go_simp; (try with_reducible rfl))
              try simp only [Act.put, List.setIfInBounds_toArray, List.set_cons_zero, List.set_cons_succ]
              refine wpAnyH_take (i := 1) (oi := ({ dst := some 66, op := Op.binOp BinOp.add 9 (Operand.tmp 65) (Operand.const (Value.string { data := #[102, 108, 111, 119, 32] })) 9, type := 9, pos := "ref.go:378", after := #[{ on := 0, ground := Ground.data }], guard := none } : Oper)) (v := ?_) rfl (by kernel_rfl) (by kernel_rfl) (by kernel_rfl) (fun _ _ _ h => h) (Or.inl ⟨by rfl, ?hy16_1⟩) hHeld ?_
              case hy16_1 => (intro W hSw; (try dsimp only at hSw); go_simp; (try with_reducible rfl))
              try simp only [Act.put, List.setIfInBounds_toArray, List.set_cons_zero, List.set_cons_succ]
              generalize hs0 : (⟨acc.toArray⟩ : ByteArray) ++ (⟨#[102, 108, 111, 119, 32]⟩ : ByteArray) = s0
              have hl0 := app_le (b := 5) hs0 (mk_le hAC) (by decide)
              have HS0 := Lib.hid hs0
              have z1 : ¬ 9223372036854775807 < s0.size + f.name.length := by omega
              clear hs0 z0
              refine wpAnyH_take (i := 2) (oi := ({ dst := some 67, op := Op.fieldAddr 43 (Operand.tmp 9) 0, type := 0, pos := "ref.go:378", after := #[], guard := none } : Oper)) (v := ?_) rfl (by kernel_rfl) (by kernel_rfl) (by kernel_rfl) (fun _ _ _ h => h) (Or.inl ⟨by rfl, ?hy16_2⟩) hHeld ?_
              case hy16_2 => (intro W hSw; (try dsimp only at hSw); go_simp; (try with_reducible rfl))
              try simp only [Act.put, List.setIfInBounds_toArray, List.set_cons_zero, List.set_cons_succ]
              refine wpAnyH_take (i := 3) (oi := ({ dst := some 68, op := Op.load 9 (Operand.tmp 67), type := 9, pos := "ref.go:378", after := #[{ on := 2, ground := Ground.data }], guard := none } : Oper)) (v := ?_) rfl (by kernel_rfl) (by kernel_rfl) (by kernel_rfl) (fun _ _ _ h => h) (Or.inl ⟨by rfl, ?hy16_3⟩) hHeld ?_
              case hy16_3 => (intro W hSw; (try dsimp only at hSw); go_simp; (try with_reducible rfl))
              try simp only [Act.put, List.setIfInBounds_toArray, List.set_cons_zero, List.set_cons_succ]
              refine wpAnyH_take (i := 4) (oi := ({ dst := some 69, op := Op.binOp BinOp.add 9 (Operand.tmp 66) (Operand.tmp 68) 9, type := 9, pos := "ref.go:378", after := #[{ on := 1, ground := Ground.data }, { on := 3, ground := Ground.data }], guard := none } : Oper)) (v := ?_) rfl (by kernel_rfl) (by kernel_rfl) (by kernel_rfl) (fun _ _ _ h => h) (Or.inl ⟨by rfl, ?hy16_4⟩) hHeld ?_
              case hy16_4 => (intro W hSw; (try dsimp only at hSw); go_simp; (try with_reducible rfl))
              try simp only [Act.put, List.setIfInBounds_toArray, List.set_cons_zero, List.set_cons_succ]
              generalize hs1 : s0 ++ (⟨f.name.toArray⟩ : ByteArray) = s1
              have hl1 := app_le (b := 16) hs1 hl0 (mk_le n1)
              have HS1 := Lib.hid hs1
              have z2 : ¬ 9223372036854775807 < s1.size + 6 := by omega
              clear hs1 z1
              refine wpAnyH_take (i := 5) (oi := ({ dst := some 70, op := Op.binOp BinOp.add 9 (Operand.tmp 69) (Operand.const (Value.string { data := #[32, 102, 114, 111, 109, 32] })) 9, type := 9, pos := "ref.go:378", after := #[{ on := 4, ground := Ground.data }], guard := none } : Oper)) (v := ?_) rfl (by kernel_rfl) (by kernel_rfl) (by kernel_rfl) (fun _ _ _ h => h) (Or.inl ⟨by rfl, ?hy16_5⟩) hHeld ?_
              case hy16_5 => (intro W hSw; (try dsimp only at hSw); go_simp; (try with_reducible rfl))
              try simp only [Act.put, List.setIfInBounds_toArray, List.set_cons_zero, List.set_cons_succ]
              generalize hs2 : s1 ++ (⟨#[32, 102, 114, 111, 109, 32]⟩ : ByteArray) = s2
              have hl2 := app_le (b := 6) hs2 hl1 (by decide)
              have HS2 := Lib.hid hs2
              have z3 : ¬ 9223372036854775807 < s2.size + f.frm.length := by omega
              clear hs2 z2
              refine wpAnyH_take (i := 6) (oi := ({ dst := some 71, op := Op.fieldAddr 43 (Operand.tmp 9) 1, type := 0, pos := "ref.go:378", after := #[], guard := none } : Oper)) (v := ?_) rfl (by kernel_rfl) (by kernel_rfl) (by kernel_rfl) (fun _ _ _ h => h) (Or.inl ⟨by rfl, ?hy16_6⟩) hHeld ?_
              case hy16_6 => (intro W hSw; (try dsimp only at hSw); go_simp; (try with_reducible rfl))
              try simp only [Act.put, List.setIfInBounds_toArray, List.set_cons_zero, List.set_cons_succ]
              refine wpAnyH_take (i := 7) (oi := ({ dst := some 72, op := Op.load 9 (Operand.tmp 71), type := 9, pos := "ref.go:378", after := #[{ on := 6, ground := Ground.data }], guard := none } : Oper)) (v := ?_) rfl (by kernel_rfl) (by kernel_rfl) (by kernel_rfl) (fun _ _ _ h => h) (Or.inl ⟨by rfl, ?hy16_7⟩) hHeld ?_
              case hy16_7 => (intro W hSw; (try dsimp only at hSw); go_simp; (try with_reducible rfl))
              try simp only [Act.put, List.setIfInBounds_toArray, List.set_cons_zero, List.set_cons_succ]
              refine wpAnyH_take (i := 8) (oi := ({ dst := some 73, op := Op.binOp BinOp.add 9 (Operand.tmp 70) (Operand.tmp 72) 9, type := 9, pos := "ref.go:378", after := #[{ on := 5, ground := Ground.data }, { on := 7, ground := Ground.data }], guard := none } : Oper)) (v := ?_) rfl (by kernel_rfl) (by kernel_rfl) (by kernel_rfl) (fun _ _ _ h => h) (Or.inl ⟨by rfl, ?hy16_8⟩) hHeld ?_
              case hy16_8 => (intro W hSw; (try dsimp only at hSw); go_simp; (try with_reducible rfl))
              try simp only [Act.put, List.setIfInBounds_toArray, List.set_cons_zero, List.set_cons_succ]
              generalize hs3 : s2 ++ (⟨f.frm.toArray⟩ : ByteArray) = s3
              have hl3 := app_le (b := 16) hs3 hl2 (mk_le n2)
              have HS3 := Lib.hid hs3
              have z4 : ¬ 9223372036854775807 < s3.size + 4 := by omega
              clear hs3 z3
              refine wpAnyH_take (i := 9) (oi := ({ dst := some 74, op := Op.binOp BinOp.add 9 (Operand.tmp 73) (Operand.const (Value.string { data := #[32, 116, 111, 32] })) 9, type := 9, pos := "ref.go:378", after := #[{ on := 8, ground := Ground.data }], guard := none } : Oper)) (v := ?_) rfl (by kernel_rfl) (by kernel_rfl) (by kernel_rfl) (fun _ _ _ h => h) (Or.inl ⟨by rfl, ?hy16_9⟩) hHeld ?_
              case hy16_9 => (intro W hSw; (try dsimp only at hSw); go_simp; (try with_reducible rfl))
              try simp only [Act.put, List.setIfInBounds_toArray, List.set_cons_zero, List.set_cons_succ]
              generalize hs4 : s3 ++ (⟨#[32, 116, 111, 32]⟩ : ByteArray) = s4
              have hl4 := app_le (b := 4) hs4 hl3 (by decide)
              have HS4 := Lib.hid hs4
              have z5 : ¬ 9223372036854775807 < s4.size + f.dest.length := by omega
              clear hs4 z4
              refine wpAnyH_take (i := 10) (oi := ({ dst := some 75, op := Op.fieldAddr 43 (Operand.tmp 9) 2, type := 0, pos := "ref.go:378", after := #[], guard := none } : Oper)) (v := ?_) rfl (by kernel_rfl) (by kernel_rfl) (by kernel_rfl) (fun _ _ _ h => h) (Or.inl ⟨by rfl, ?hy16_10⟩) hHeld ?_
              case hy16_10 => (intro W hSw; (try dsimp only at hSw); go_simp; (try with_reducible rfl))
              try simp only [Act.put, List.setIfInBounds_toArray, List.set_cons_zero, List.set_cons_succ]
              refine wpAnyH_take (i := 11) (oi := ({ dst := some 76, op := Op.load 9 (Operand.tmp 75), type := 9, pos := "ref.go:378", after := #[{ on := 10, ground := Ground.data }], guard := none } : Oper)) (v := ?_) rfl (by kernel_rfl) (by kernel_rfl) (by kernel_rfl) (fun _ _ _ h => h) (Or.inl ⟨by rfl, ?hy16_11⟩) hHeld ?_
              case hy16_11 => (intro W hSw; (try dsimp only at hSw); go_simp; (try with_reducible rfl))
              try simp only [Act.put, List.setIfInBounds_toArray, List.set_cons_zero, List.set_cons_succ]
              refine wpAnyH_take (i := 12) (oi := ({ dst := some 77, op := Op.binOp BinOp.add 9 (Operand.tmp 74) (Operand.tmp 76) 9, type := 9, pos := "ref.go:378", after := #[{ on := 9, ground := Ground.data }, { on := 11, ground := Ground.data }], guard := none } : Oper)) (v := ?_) rfl (by kernel_rfl) (by kernel_rfl) (by kernel_rfl) (fun _ _ _ h => h) (Or.inl ⟨by rfl, ?hy16_12⟩) hHeld ?_
              case hy16_12 => (intro W hSw; (try dsimp only at hSw); go_simp; (try with_reducible rfl))
              try simp only [Act.put, List.setIfInBounds_toArray, List.set_cons_zero, List.set_cons_succ]
              generalize hs5 : s4 ++ (⟨f.dest.toArray⟩ : ByteArray) = s5
              have hl5 := app_le (b := 16) hs5 hl4 (mk_le n3)
              have HS5 := Lib.hid hs5
              have z6 : ¬ 9223372036854775807 < s5.size + 1 := by omega
              clear hs5 z5
              refine wpAnyH_take (i := 13) (oi := ({ dst := some 78, op := Op.binOp BinOp.add 9 (Operand.tmp 77) (Operand.const (Value.string { data := #[32] })) 9, type := 9, pos := "ref.go:378", after := #[{ on := 12, ground := Ground.data }], guard := none } : Oper)) (v := ?_) rfl (by kernel_rfl) (by kernel_rfl) (by kernel_rfl) (fun _ _ _ h => h) (Or.inl ⟨by rfl, ?hy16_13⟩) hHeld ?_
              case hy16_13 => (intro W hSw; (try dsimp only at hSw); go_simp; (try with_reducible rfl))
              try simp only [Act.put, List.setIfInBounds_toArray, List.set_cons_zero, List.set_cons_succ]
              generalize hs6 : s5 ++ (⟨#[32]⟩ : ByteArray) = s6
              have hl6 := app_le (b := 1) hs6 hl5 (by decide)
              have HS6 := Lib.hid hs6
              have z7 : ¬ 9223372036854775807 < s6.size + bo.length := by omega
              clear hs6 z6
              refine wpAnyH_take (i := 14) (oi := ({ dst := some 79, op := Op.move (Operand.tmp 10), type := 9, pos := "ref.go:378", after := #[], guard := none } : Oper)) (v := ?_) rfl (by kernel_rfl) (by kernel_rfl) (by kernel_rfl) (fun _ _ _ h => h) (Or.inl ⟨by rfl, ?hy16_14⟩) hHeld ?_
              case hy16_14 => (intro W hSw; (try dsimp only at hSw); go_simp; (try with_reducible rfl))
              try simp only [Act.put, List.setIfInBounds_toArray, List.set_cons_zero, List.set_cons_succ]
              refine wpAnyH_take (i := 15) (oi := ({ dst := some 80, op := Op.binOp BinOp.add 9 (Operand.tmp 78) (Operand.tmp 79) 9, type := 9, pos := "ref.go:378", after := #[{ on := 13, ground := Ground.data }, { on := 14, ground := Ground.data }], guard := none } : Oper)) (v := ?_) rfl (by kernel_rfl) (by kernel_rfl) (by kernel_rfl) (fun _ _ _ h => h) (Or.inl ⟨by rfl, ?hy16_15⟩) hHeld ?_
              case hy16_15 => (intro W hSw; (try dsimp only at hSw); go_simp; (try with_reducible rfl))
              try simp only [Act.put, List.setIfInBounds_toArray, List.set_cons_zero, List.set_cons_succ]
              generalize hs7 : s6 ++ (⟨bo.toArray⟩ : ByteArray) = s7
              have hl7 := app_le (b := 30) hs7 hl6 (mk_le n4)
              have HS7 := Lib.hid hs7
              have z8 : ¬ 9223372036854775807 < s7.size + 9 := by omega
              clear hs7 z7
              refine wpAnyH_take (i := 16) (oi := ({ dst := some 81, op := Op.binOp BinOp.add 9 (Operand.tmp 80) (Operand.const (Value.string { data := #[32, 114, 101, 97, 100, 101, 114, 115, 32] })) 9, type := 9, pos := "ref.go:378", after := #[{ on := 15, ground := Ground.data }], guard := none } : Oper)) (v := ?_) rfl (by kernel_rfl) (by kernel_rfl) (by kernel_rfl) (fun _ _ _ h => h) (Or.inl ⟨by rfl, ?hy16_16⟩) hHeld ?_
              case hy16_16 => (intro W hSw; (try dsimp only at hSw); go_simp; (try with_reducible rfl))
              try simp only [Act.put, List.setIfInBounds_toArray, List.set_cons_zero, List.set_cons_succ]
              generalize hs8 : s7 ++ (⟨#[32, 114, 101, 97, 100, 101, 114, 115, 32]⟩ : ByteArray) = s8
              have hl8 := app_le (b := 9) hs8 hl7 (by decide)
              have HS8 := Lib.hid hs8
              have z9 : ¬ 9223372036854775807 < s8.size + rd.length := by omega
              clear hs8 z8
              refine wpAnyH_take (i := 17) (oi := ({ dst := some 82, op := Op.fieldAddr 43 (Operand.tmp 9) 4, type := 0, pos := "ref.go:378", after := #[], guard := none } : Oper)) (v := ?_) rfl (by kernel_rfl) (by kernel_rfl) (by kernel_rfl) (fun _ _ _ h => h) (Or.inl ⟨by rfl, ?hy16_17⟩) hHeld ?_
              case hy16_17 => (intro W hSw; (try dsimp only at hSw); go_simp; (try with_reducible rfl))
              try simp only [Act.put, List.setIfInBounds_toArray, List.set_cons_zero, List.set_cons_succ]
              refine wpAnyH_take (i := 18) (oi := ({ dst := some 83, op := Op.load 3 (Operand.tmp 82), type := 3, pos := "ref.go:378", after := #[{ on := 17, ground := Ground.data }], guard := none } : Oper)) (v := ?_) rfl (by kernel_rfl) (by kernel_rfl) (by kernel_rfl) (fun _ _ _ h => h) (Or.inl ⟨by rfl, ?hy16_18⟩) hHeld ?_
              case hy16_18 => (intro W hSw; (try dsimp only at hSw); go_simp; (try with_reducible rfl))
              try simp only [Act.put, List.setIfInBounds_toArray, List.set_cons_zero, List.set_cons_succ]
              refine wpAnyH_take (i := 22) (oi := ({ dst := some 87, op := Op.fieldAddr 43 (Operand.tmp 9) 5, type := 0, pos := "ref.go:378", after := #[], guard := none } : Oper)) (v := ?_) rfl (by kernel_rfl) (by kernel_rfl) (by kernel_rfl) (fun _ _ _ h => h) (Or.inl ⟨by rfl, ?hy16_22⟩) hHeld ?_
              case hy16_22 => (intro W hSw; (try dsimp only at hSw); go_simp; (try with_reducible rfl))
              try simp only [Act.put, List.setIfInBounds_toArray, List.set_cons_zero, List.set_cons_succ]
              refine wpAnyH_take (i := 23) (oi := ({ dst := some 88, op := Op.load 3 (Operand.tmp 87), type := 3, pos := "ref.go:378", after := #[{ on := 22, ground := Ground.data }], guard := none } : Oper)) (v := ?_) rfl (by kernel_rfl) (by kernel_rfl) (by kernel_rfl) (fun _ _ _ h => h) (Or.inl ⟨by rfl, ?hy16_23⟩) hHeld ?_
              case hy16_23 => (intro W hSw; (try dsimp only at hSw); go_simp; (try with_reducible rfl))
              try simp only [Act.put, List.setIfInBounds_toArray, List.set_cons_zero, List.set_cons_succ]
              refine wpAnyH_take (i := 27) (oi := ({ dst := some 92, op := Op.fieldAddr 43 (Operand.tmp 9) 6, type := 0, pos := "ref.go:378", after := #[], guard := none } : Oper)) (v := ?_) rfl (by kernel_rfl) (by kernel_rfl) (by kernel_rfl) (fun _ _ _ h => h) (Or.inl ⟨by rfl, ?hy16_27⟩) hHeld ?_
              case hy16_27 => (intro W hSw; (try dsimp only at hSw); go_simp; (try with_reducible rfl))
              try simp only [Act.put, List.setIfInBounds_toArray, List.set_cons_zero, List.set_cons_succ]
              refine wpAnyH_take (i := 28) (oi := ({ dst := some 93, op := Op.load 39 (Operand.tmp 92), type := 39, pos := "ref.go:378", after := #[{ on := 27, ground := Ground.data }], guard := none } : Oper)) (v := ?_) rfl (by kernel_rfl) (by kernel_rfl) (by kernel_rfl) (fun _ _ _ h => h) (Or.inl ⟨by rfl, ?hy16_28⟩) hHeld ?_
              case hy16_28 => (intro W hSw; (try dsimp only at hSw); go_simp; (try with_reducible rfl))
              try simp only [Act.put, List.setIfInBounds_toArray, List.set_cons_zero, List.set_cons_succ]
              refine wpAnyH_ready (rs := [19]) (by kernel_rfl) (by simp) ?_
              refine AllReadyH.cons (o := ({ dst := some 84, op := Op.call { callee := Callee.value (Operand.func 33), args := #[Operand.tmp 83], argTypes := #[3] }, type := 9, pos := "ref.go:378", after := #[{ on := 18, ground := Ground.data }], guard := none } : Oper)) rfl (fun K hK => ?_) AllReadyH.nil
              go_simp
              refine (dec_at (by have := HRF.out.readers; omega) (by have := HRF.out.readers; omega) HRD.out).mono ?_
              rintro e w2 ⟨rfl, hb1⟩
              have HB3 := Lib.hid (HDC.out.trans hb1)
              have S1 := (HBX.out.grow (hbc.out.trans (HB3.out.mono hbc.out.size))).six
              clear hb1
              refine hK.out _ _ S1 (fun hHeld' => ?_)
              clear hK K hHeld
              have hHeld := hHeld'
              clear hHeld'
              try simp only [Act.put, List.setIfInBounds_toArray, List.set_cons_zero, List.set_cons_succ]
              refine wpAnyH_take (i := 20) (oi := ({ dst := some 85, op := Op.binOp BinOp.add 9 (Operand.tmp 81) (Operand.tmp 84) 9, type := 9, pos := "ref.go:378", after := #[{ on := 16, ground := Ground.data }, { on := 19, ground := Ground.data }], guard := none } : Oper)) (v := ?_) rfl (by kernel_rfl) (by kernel_rfl) (by kernel_rfl) (fun _ _ _ h => h) (Or.inl ⟨by rfl, ?hy16_20⟩) hHeld ?_
              case hy16_20 => (intro W hSw; (try dsimp only at hSw); go_simp; (try with_reducible rfl))
              try simp only [Act.put, List.setIfInBounds_toArray, List.set_cons_zero, List.set_cons_succ]
              generalize hs9 : s8 ++ (⟨rd.toArray⟩ : ByteArray) = s9
              have hl9 := app_le (b := 21) hs9 hl8 (mk_le n5)
              have HS9 := Lib.hid hs9
              have z10 : ¬ 9223372036854775807 < s9.size + 9 := by omega
              clear hs9 z9
              refine wpAnyH_take (i := 21) (oi := ({ dst := some 86, op := Op.binOp BinOp.add 9 (Operand.tmp 85) (Operand.const (Value.string { data := #[32, 107, 101, 101, 112, 101, 114, 115, 32] })) 9, type := 9, pos := "ref.go:378", after := #[{ on := 20, ground := Ground.data }], guard := none } : Oper)) (v := ?_) rfl (by kernel_rfl) (by kernel_rfl) (by kernel_rfl) (fun _ _ _ h => h) (Or.inl ⟨by rfl, ?hy16_21⟩) hHeld ?_
              case hy16_21 => (intro W hSw; (try dsimp only at hSw); go_simp; (try with_reducible rfl))
              try simp only [Act.put, List.setIfInBounds_toArray, List.set_cons_zero, List.set_cons_succ]
              generalize hs10 : s9 ++ (⟨#[32, 107, 101, 101, 112, 101, 114, 115, 32]⟩ : ByteArray) = s10
              have hl10 := app_le (b := 9) hs10 hl9 (by decide)
              have HS10 := Lib.hid hs10
              have z11 : ¬ 9223372036854775807 < s10.size + kp.length := by omega
              clear hs10 z10
              refine wpAnyH_ready (rs := [24]) (by kernel_rfl) (by simp) ?_
              refine AllReadyH.cons (o := ({ dst := some 89, op := Op.call { callee := Callee.value (Operand.func 33), args := #[Operand.tmp 88], argTypes := #[3] }, type := 9, pos := "ref.go:378", after := #[{ on := 23, ground := Ground.data }, { on := 19, ground := Ground.chain }], guard := none } : Oper)) rfl (fun K hK => ?_) AllReadyH.nil
              go_simp
              refine (dec_at (by have := HRF.out.keepers; omega) (by have := HRF.out.keepers; omega) HKP.out).mono ?_
              rintro e w3 ⟨rfl, hb1⟩
              have HB4 := Lib.hid (HB3.out.trans (hb1.mono HB3.out.size))
              have S2 := (HBX.out.grow (hbc.out.trans (HB4.out.mono hbc.out.size))).six
              clear hb1
              refine hK.out _ _ S2 (fun hHeld' => ?_)
              clear hK K hHeld
              have hHeld := hHeld'
              clear hHeld'
              try simp only [Act.put, List.setIfInBounds_toArray, List.set_cons_zero, List.set_cons_succ]
              refine wpAnyH_take (i := 25) (oi := ({ dst := some 90, op := Op.binOp BinOp.add 9 (Operand.tmp 86) (Operand.tmp 89) 9, type := 9, pos := "ref.go:378", after := #[{ on := 21, ground := Ground.data }, { on := 24, ground := Ground.data }], guard := none } : Oper)) (v := ?_) rfl (by kernel_rfl) (by kernel_rfl) (by kernel_rfl) (fun _ _ _ h => h) (Or.inl ⟨by rfl, ?hy16_25⟩) hHeld ?_
              case hy16_25 => (intro W hSw; (try dsimp only at hSw); go_simp; (try with_reducible rfl))
              try simp only [Act.put, List.setIfInBounds_toArray, List.set_cons_zero, List.set_cons_succ]
              generalize hs11 : s10 ++ (⟨kp.toArray⟩ : ByteArray) = s11
              have hl11 := app_le (b := 21) hs11 hl10 (mk_le n6)
              have HS11 := Lib.hid hs11
              have z12 : ¬ 9223372036854775807 < s11.size + 1 := by omega
              clear hs11 z11
              refine wpAnyH_take (i := 26) (oi := ({ dst := some 91, op := Op.binOp BinOp.add 9 (Operand.tmp 90) (Operand.const (Value.string { data := #[10] })) 9, type := 9, pos := "ref.go:378", after := #[{ on := 25, ground := Ground.data }], guard := none } : Oper)) (v := ?_) rfl (by kernel_rfl) (by kernel_rfl) (by kernel_rfl) (fun _ _ _ h => h) (Or.inl ⟨by rfl, ?hy16_26⟩) hHeld ?_
              case hy16_26 => (intro W hSw; (try dsimp only at hSw); go_simp; (try with_reducible rfl))
              try simp only [Act.put, List.setIfInBounds_toArray, List.set_cons_zero, List.set_cons_succ]
              generalize hs12 : s11 ++ (⟨#[10]⟩ : ByteArray) = s12
              have hl12 := app_le (b := 1) hs12 hl11 (by decide)
              have HS12 := Lib.hid hs12
              have z13 : ¬ 9223372036854775807 < s12.size + sp.length := by omega
              clear hs12 z12
              refine wpAnyH_ready (rs := [29]) (by kernel_rfl) (by simp) ?_
              refine AllReadyH.cons (o := ({ dst := some 94, op := Op.call { callee := Callee.value (Operand.func 34), args := #[Operand.tmp 93], argTypes := #[39] }, type := 9, pos := "ref.go:378", after := #[{ on := 28, ground := Ground.data }, { on := 24, ground := Ground.chain }], guard := none } : Oper)) rfl (fun K hK => ?_) AllReadyH.nil
              go_simp
              refine (rsteps_at (HOK.out.1.grow (hbc.out.trans (HB4.out.mono hbc.out.size))) HRF.out.pre HSP.out (by omega)).mono ?_
              rintro e w4 ⟨rfl, hb1⟩
              have HB5 := Lib.hid (HB4.out.trans (hb1.mono HB4.out.size))
              have S3 := (HBX.out.grow (hbc.out.trans (HB5.out.mono hbc.out.size))).six
              clear hb1
              refine hK.out _ _ S3 (fun hHeld' => ?_)
              clear hK K hHeld
              have hHeld := hHeld'
              clear hHeld'
              try simp only [Act.put, List.setIfInBounds_toArray, List.set_cons_zero, List.set_cons_succ]
              refine wpAnyH_take (i := 30) (oi := ({ dst := some 95, op := Op.binOp BinOp.add 9 (Operand.tmp 91) (Operand.tmp 94) 9, type := 9, pos := "ref.go:378", after := #[{ on := 26, ground := Ground.data }, { on := 29, ground := Ground.data }], guard := none } : Oper)) (v := ?_) rfl (by kernel_rfl) (by kernel_rfl) (by kernel_rfl) (fun _ _ _ h => h) (Or.inl ⟨by rfl, ?hy16_30⟩) hHeld ?_
              case hy16_30 => (intro W hSw; (try dsimp only at hSw); go_simp; (try with_reducible rfl))
              try simp only [Act.put, List.setIfInBounds_toArray, List.set_cons_zero, List.set_cons_succ]
              generalize hs13 : s12 ++ (⟨sp.toArray⟩ : ByteArray) = s13
              have hl13 := app_le (b := 100000) hs13 hl12 (mk_le hSP)
              have HS13 := Lib.hid hs13
              clear hs13 z13
              refine wpAnyH_take (i := 31) (oi := ({ dst := some 6, op := Op.assign (Operand.tmp 95), type := 9, pos := "ref.go:378", after := #[{ on := 30, ground := Ground.data }, { on := 29, ground := Ground.chain }, { on := 0, ground := Ground.phase }, { on := 1, ground := Ground.phase }, { on := 2, ground := Ground.phase }, { on := 3, ground := Ground.phase }, { on := 4, ground := Ground.phase }, { on := 5, ground := Ground.phase }, { on := 6, ground := Ground.phase }, { on := 7, ground := Ground.phase }, { on := 8, ground := Ground.phase }, { on := 9, ground := Ground.phase }, { on := 10, ground := Ground.phase }, { on := 11, ground := Ground.phase }, { on := 12, ground := Ground.phase }, { on := 13, ground := Ground.phase }, { on := 14, ground := Ground.phase }, { on := 15, ground := Ground.phase }, { on := 16, ground := Ground.phase }, { on := 17, ground := Ground.phase }, { on := 18, ground := Ground.phase }, { on := 19, ground := Ground.phase }, { on := 20, ground := Ground.phase }, { on := 21, ground := Ground.phase }, { on := 22, ground := Ground.phase }, { on := 23, ground := Ground.phase }, { on := 24, ground := Ground.phase }, { on := 25, ground := Ground.phase }, { on := 26, ground := Ground.phase }, { on := 27, ground := Ground.phase }, { on := 28, ground := Ground.phase }, { on := 29, ground := Ground.phase }, { on := 30, ground := Ground.phase }], guard := none } : Oper)) (v := ?_) rfl (by kernel_rfl) (by kernel_rfl) (by kernel_rfl) (fun _ _ _ h => h) (Or.inl ⟨by rfl, ?hy16_31⟩) hHeld ?_
              case hy16_31 => (intro W hSw; (try dsimp only at hSw); go_simp; (try with_reducible rfl))
              try simp only [Act.put, List.setIfInBounds_toArray, List.set_cons_zero, List.set_cons_succ]
              refine wpAnyH_done (by kernel_rfl) ?_ _
              go_wp2_with fail
              go_meet
              case rel => exact ⟨congrArg Value.string (by rw [← HA1.out, ← HS13.out, ← HS12.out, ← HS11.out, ← HS10.out, ← HS9.out, ← HS8.out, ← HS7.out, ← HS6.out, ← HS5.out, ← HS4.out, ← HS3.out, ← HS2.out, ← HS1.out, ← HS0.out]; apply ByteArray.ext; simp [ByteArray.data_append, lineB, wFlow, wFrom, wTo, wReaders, wKeepers]), Lib.hid (hbc.out.trans (HB5.out.mono hbc.out.size))⟩
            case rest =>
              clear b0 b1 b2 b3 b4 b5 b6 b7 b8 b9 b10 b11 hbc hlf
              clear z0
              obtain ⟨rfl, hbc⟩ := hcut
              rename World => wd
              obtain ⟨xs, hxs⟩ : ∃ x, Lib.itoa f.win.size = x := ⟨_, rfl⟩
              obtain ⟨xl, hxl⟩ : ∃ x, Lib.itoa f.win.slide = x := ⟨_, rfl⟩
              obtain ⟨ag, hag⟩ : ∃ x, aggWord f.agg = x := ⟨_, rfl⟩
              have e1 : xs.length ≤ 21 := by rw [← hxs]; exact itoa_len _ HRF.out.sm.num.size
              have e2 : xl.length ≤ 21 := by rw [← hxl]; exact itoa_len _ HRF.out.sm.num.slide
              have e3 : ag.length ≤ 5 := by
                rw [← hag]
                unfold aggWord
                split
                · decide
                · split
                  · decide
                  · split <;> decide
              have HXS := Lib.hid hxs
              have HXL := Lib.hid hxl
              have HAG := Lib.hid hag
              clear hxs hxl hag
              have hkinds := HRF.out.kind
              obtain ⟨kd, hkd⟩ : ∃ x, f.win.kind = x := ⟨_, rfl⟩
              have hall := HALL.out
              unfold winText at hall
              rw [hkd] at hkinds hall
              rw [HXS.out, HXL.out, HAG.out] at hall
              have HKD := Lib.hid hkd
              clear hkd
              obtain ⟨d7, d8, d9, d10, d11⟩ := (HBX.out.grow hbc.out).win HKD.out
              have HSZ := Lib.hid HRF.out.size
              have HSL := Lib.hid HRF.out.slide
              rcases hkinds with rfl | rfl | rfl | rfl
              · have HV : Hid (a1 ++ sq = tot) := Lib.hid (by rw [← hall]; simp)
                have z1 : ¬ 9223372036854775807 < a1.length + sq.length := by omega
                clear hall hA1 hSP hAC e1 e2 e3
                go_wp2_with (first
                  | (go_at_call 34; refine (rsteps_at (HOK.out.2.grow HB5.out) HRF.out.post HSQ.out (by omega)).mono ?_; rintro e w8 ⟨rfl, hb1⟩; have HB8 := Lib.hid (HB5.out.trans (hb1.mono HB5.out.size)); clear hb1)
                  | (go_at_call 33; refine (dec_at HSZ.out.1 (by have := HSZ.out.2; omega) HXS.out).mono ?_; rintro e w5 ⟨rfl, hb1⟩; have HB5 := Lib.hid (hbc.out.trans (hb1.mono hbc.out.size)); clear d7 d8 d9 d10 d11; obtain ⟨d7, d8, d9, d10, d11⟩ := (HBX.out.grow HB5.out).win HKD.out; clear hb1))
                go_roundg (m - (j + 1))
                case measure => have := HJG.out; omega
                case rel => exact ⟨j + 1, tot, by omega, by omega, by go_num, congrArg Value.string (by rw [← HV.out]; apply ByteArray.ext; simp [ByteArray.data_append]), R2, Lib.hid (HBW.out.trans (HB8.out.mono HBW.out.size))⟩
              · have HV : Hid (a1 ++ (lineB [wWindow, wTumble, xs] ++ lineB [wAgg, ag]) ++ sq = tot) := Lib.hid (by rw [← hall]; simp)
                have z1 : ¬ 9223372036854775807 < a1.length + 14 := by omega
                have z2 : ¬ 9223372036854775807 < a1.length + 14 + xs.length := by omega
                have z3 : ¬ 9223372036854775807 < a1.length + 14 + xs.length + 1 := by omega
                have z4 : ¬ 9223372036854775807 < a1.length + 14 + xs.length + 1 + 4 := by omega
                have y4 : ¬ 9223372036854775807 < a1.length + 14 + xs.length + 5 := by omega
                have z5 : ¬ 9223372036854775807 < a1.length + 14 + xs.length + 1 + 4 + ag.length := by omega
                have y5 : ¬ 9223372036854775807 < a1.length + 14 + xs.length + 5 + ag.length := by omega
                have z6 : ¬ 9223372036854775807 < a1.length + 14 + xs.length + 1 + 4 + ag.length + 1 := by omega
                have y6 : ¬ 9223372036854775807 < a1.length + 14 + xs.length + 5 + ag.length + 1 := by omega
                have z7 : ¬ 9223372036854775807 < a1.length + 14 + xs.length + 1 + 4 + ag.length + 1 + sq.length := by omega
                have y7 : ¬ 9223372036854775807 < a1.length + 14 + xs.length + 5 + ag.length + 1 + sq.length := by omega
                clear hall hA1 hSP hAC e1 e2 e3
                go_wp2_with (first
                  | (go_at_call 34; refine (rsteps_at (HOK.out.2.grow HB5.out) HRF.out.post HSQ.out (by omega)).mono ?_; rintro e w8 ⟨rfl, hb1⟩; have HB8 := Lib.hid (HB5.out.trans (hb1.mono HB5.out.size)); clear hb1)
                  | (go_at_call 35; refine (aggName_at _ _ HAG.out).mono ?_; rintro e w7 ⟨rfl, rfl⟩)
                  | (go_at_call 33; refine (dec_at HSZ.out.1 (by have := HSZ.out.2; omega) HXS.out).mono ?_; rintro e w5 ⟨rfl, hb1⟩; have HB5 := Lib.hid (hbc.out.trans (hb1.mono hbc.out.size)); clear d7 d8 d9 d10 d11; obtain ⟨d7, d8, d9, d10, d11⟩ := (HBX.out.grow HB5.out).win HKD.out; clear hb1))
                go_roundg (m - (j + 1))
                case measure => have := HJG.out; omega
                case rel => exact ⟨j + 1, tot, by omega, by omega, by go_num, congrArg Value.string (by rw [← HV.out]; apply ByteArray.ext; simp [ByteArray.data_append, lineB, wWindow, wAgg, wTumble]), R2, Lib.hid (HBW.out.trans (HB8.out.mono HBW.out.size))⟩
              · have HV : Hid (a1 ++ (lineB [wWindow, wSlide, xs, xl] ++ lineB [wAgg, ag]) ++ sq = tot) := Lib.hid (by rw [← hall]; simp)
                have z1 : ¬ 9223372036854775807 < a1.length + 13 := by omega
                have z2 : ¬ 9223372036854775807 < a1.length + 13 + xs.length := by omega
                have z3 : ¬ 9223372036854775807 < a1.length + 13 + xs.length + 1 := by omega
                have z4 : ¬ 9223372036854775807 < a1.length + 13 + xs.length + 1 + xl.length := by omega
                have z5 : ¬ 9223372036854775807 < a1.length + 13 + xs.length + 1 + xl.length + 1 := by omega
                have z6 : ¬ 9223372036854775807 < a1.length + 13 + xs.length + 1 + xl.length + 1 + 4 := by omega
                have y6 : ¬ 9223372036854775807 < a1.length + 13 + xs.length + 1 + xl.length + 5 := by omega
                have z7 : ¬ 9223372036854775807 < a1.length + 13 + xs.length + 1 + xl.length + 1 + 4 + ag.length := by omega
                have y7 : ¬ 9223372036854775807 < a1.length + 13 + xs.length + 1 + xl.length + 5 + ag.length := by omega
                have z8 : ¬ 9223372036854775807 < a1.length + 13 + xs.length + 1 + xl.length + 1 + 4 + ag.length + 1 := by omega
                have y8 : ¬ 9223372036854775807 < a1.length + 13 + xs.length + 1 + xl.length + 5 + ag.length + 1 := by omega
                have z9 : ¬ 9223372036854775807 < a1.length + 13 + xs.length + 1 + xl.length + 1 + 4 + ag.length + 1 + sq.length := by omega
                have y9 : ¬ 9223372036854775807 < a1.length + 13 + xs.length + 1 + xl.length + 5 + ag.length + 1 + sq.length := by omega
                clear hall hA1 hSP hAC e1 e2 e3
                go_wp2_with (first
                  | (go_at_call 34; refine (rsteps_at (HOK.out.2.grow HB6.out) HRF.out.post HSQ.out (by omega)).mono ?_; rintro e w8 ⟨rfl, hb1⟩; have HB8 := Lib.hid (HB6.out.trans (hb1.mono HB6.out.size)); clear hb1)
                  | (go_at_call 35; refine (aggName_at _ _ HAG.out).mono ?_; rintro e w7 ⟨rfl, rfl⟩)
                  | (go_at_call 33; have hq5 := HB5; clear hq5; refine (dec_at HSL.out.1 (by have := HSL.out.2; omega) HXL.out).mono ?_; rintro e w6 ⟨rfl, hb1⟩; have HB6 := Lib.hid (HB5.out.trans (hb1.mono HB5.out.size)); clear d7 d8 d9 d10 d11; obtain ⟨d7, d8, d9, d10, d11⟩ := (HBX.out.grow HB6.out).win HKD.out; clear hb1)
                  | (go_at_call 33; refine (dec_at HSZ.out.1 (by have := HSZ.out.2; omega) HXS.out).mono ?_; rintro e w5 ⟨rfl, hb1⟩; have HB5 := Lib.hid (hbc.out.trans (hb1.mono hbc.out.size)); clear d7 d8 d9 d10 d11; obtain ⟨d7, d8, d9, d10, d11⟩ := (HBX.out.grow HB5.out).win HKD.out; clear hb1))
                go_roundg (m - (j + 1))
                case measure => have := HJG.out; omega
                case rel => exact ⟨j + 1, tot, by omega, by omega, by go_num, congrArg Value.string (by rw [← HV.out]; apply ByteArray.ext; simp [ByteArray.data_append, lineB, wWindow, wAgg, wSlide]), R2, Lib.hid (HBW.out.trans (HB8.out.mono HBW.out.size))⟩
              · have HV : Hid (a1 ++ (lineB [wWindow, wSession, xs] ++ lineB [wAgg, ag]) ++ sq = tot) := Lib.hid (by rw [← hall]; simp)
                have z1 : ¬ 9223372036854775807 < a1.length + 15 := by omega
                have z2 : ¬ 9223372036854775807 < a1.length + 15 + xs.length := by omega
                have z3 : ¬ 9223372036854775807 < a1.length + 15 + xs.length + 1 := by omega
                have z4 : ¬ 9223372036854775807 < a1.length + 15 + xs.length + 1 + 4 := by omega
                have y4 : ¬ 9223372036854775807 < a1.length + 15 + xs.length + 5 := by omega
                have z5 : ¬ 9223372036854775807 < a1.length + 15 + xs.length + 1 + 4 + ag.length := by omega
                have y5 : ¬ 9223372036854775807 < a1.length + 15 + xs.length + 5 + ag.length := by omega
                have z6 : ¬ 9223372036854775807 < a1.length + 15 + xs.length + 1 + 4 + ag.length + 1 := by omega
                have y6 : ¬ 9223372036854775807 < a1.length + 15 + xs.length + 5 + ag.length + 1 := by omega
                have z7 : ¬ 9223372036854775807 < a1.length + 15 + xs.length + 1 + 4 + ag.length + 1 + sq.length := by omega
                have y7 : ¬ 9223372036854775807 < a1.length + 15 + xs.length + 5 + ag.length + 1 + sq.length := by omega
                clear hall hA1 hSP hAC e1 e2 e3
                go_wp2_with (first
                  | (go_at_call 34; refine (rsteps_at (HOK.out.2.grow HB5.out) HRF.out.post HSQ.out (by omega)).mono ?_; rintro e w8 ⟨rfl, hb1⟩; have HB8 := Lib.hid (HB5.out.trans (hb1.mono HB5.out.size)); clear hb1)
                  | (go_at_call 35; refine (aggName_at _ _ HAG.out).mono ?_; rintro e w7 ⟨rfl, rfl⟩)
                  | (go_at_call 33; refine (dec_at HSZ.out.1 (by have := HSZ.out.2; omega) HXS.out).mono ?_; rintro e w5 ⟨rfl, hb1⟩; have HB5 := Lib.hid (hbc.out.trans (hb1.mono hbc.out.size)); clear d7 d8 d9 d10 d11; obtain ⟨d7, d8, d9, d10, d11⟩ := (HBX.out.grow HB5.out).win HKD.out; clear hb1))
                go_roundg (m - (j + 1))
                case measure => have := HJG.out; omega
                case rel => exact ⟨j + 1, tot, by omega, by omega, by go_num, congrArg Value.string (by rw [← HV.out]; apply ByteArray.ext; simp [ByteArray.data_append, lineB, wWindow, wAgg, wSession]), R2, Lib.hid (HBW.out.trans (HB8.out.mono HBW.out.size))⟩
        · have hjn : j = m := by omega
          have hr3 : acc = r := by rw [← hr.out, hjn, ← HM.out, ← List.length_map (f := FE.f), HE.out, List.drop_length]; simp
          subst hr3
          clear hr
          go_wp2
          go_ret2
          exact ⟨rfl, HB2.out.trans (hbel.out.mono HB2.out.size)⟩
end Go.Proofs.YtogcickcodlepaaGreatDoor.Pl
