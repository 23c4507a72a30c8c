/-
  Texts joined into one file. Each part says in its own head what is proved there, and under which conditions.
-/
import Derived.Test.YtogcickcodlepaaGreatDoorJP8
import Derived.Deep.RegionHeld3
import Derived.Test.YtogcickcodlepaaGreatDoorJP7
import Derived.Laws.IdiomStrings
import Derived.Test.YtogcickcodlepaaGreatDoorJP3
import Derived.Test.YtogcickcodlepaaGreatDoorJP1
import Derived.Test.YtogcickcodlepaaGreatDoorJE2
import Derived.Deep.CutRange
import Derived.Deep.DeepCutAuto
import Derived.BigRegion
import Derived.BigQuiet
import Derived.Deep.QuietTactic
import Derived.LaidMore
import Derived.Lay
import Derived.MakeChecks
import Derived.Stop.LaidErr
import Derived.Lib.LaidTab
import Derived.Shelf.Vars
import Derived.Handed
import Derived.SizedLaws
import Derived.Test.YtogcickcodlepaaGreatDoorRows
set_option linter.unusedVariables false
set_option linter.unusedSimpArgs false
/-
  The lines of a window, of a flow are put behind bytes. Conditions: the bytes, with the lines, are fewer than 2^40; the numbers are 64-bit.
-/
namespace Go.Proofs.YtogcickcodlepaaGreatDoor.Pl
open Go.RowKit Go.Proofs.YtogcickcodlepaaGreatDoor.Ex

theorem wbox {w X : World} {kd sz sl : Int} (hb : Below (w.alloc (.cells #[.int .i64 kd, .int .i64 sz, .int .i64 sl] 41)).heap.size (w.alloc (.cells #[.int .i64 kd, .int .i64 sz, .int .i64 sl] 41)) X) :
    X.cell? ⟨w.heap.size, 0, none⟩ = some (.int .i64 kd) ∧ X.cell? ⟨w.heap.size, 1, none⟩ = some (.int .i64 sz) ∧ X.cell? ⟨w.heap.size, 2, none⟩ = some (.int .i64 sl) := by
  have h : X.heap[w.heap.size]? = some (.cells #[.int .i64 kd, .int .i64 sz, .int .i64 sl] 41 (0, 0)) := (hb.block _ (by simp)).trans (heap_alloc_new w _)
  exact ⟨by rw [cell_of_heap h]; rfl, by rw [cell_of_heap h]; rfl, by rw [cell_of_heap h]; rfl⟩
set_option maxRecDepth 20000 in
set_option maxHeartbeats 1000000 in
theorem appendWindow_at {u : Value} {l : Bs} {w : World} {B : Nat} {v : Win} (h : w.ownsRow B 5 1 u l.length (bc l)) (hB : B ≤ w.heap.size) (hT : Tab w) (n1 : Num64 v.size) (n2 : Num64 v.slide) {r : Bs} (hr : l ++ winText v = r) (hs : r.length ≤ 1099511627776) :
    Calls Tryz.prog 61 #[u, winV v] w (GivesB B w r) := by
  obtain ⟨kd, sz, sl⟩ := v
  have hb0 : Below w.heap.size w (w.alloc (.cells #[.int .i64 kd, .int .i64 sz, .int .i64 sl] 41)) := (Below.refl _ _).alloc (Nat.le_refl _) _
  have HB0 := Lib.hid hb0
  have HT := Lib.hid (hT.below hb0)
  have HO := Lib.hid h
  have HS := Lib.hid hs
  obtain ⟨x, hx⟩ : ∃ x, Lib.itoa sz = x := ⟨_, rfl⟩
  obtain ⟨y, hy⟩ : ∃ y, Lib.itoa sl = y := ⟨_, rfl⟩
  have HX := Lib.hid hx
  have HY := Lib.hid hy
  have N1 := Lib.hid n1
  have N2 := Lib.hid n2
  clear hb0 hT h hs hx hy n1 n2
  by_cases k1 : kd = 1
  · subst k1
    have HR : Hid (l ++ lineB [wWindow, wTumble, x] = r) := Lib.hid (by rw [← hr, ← HX.out]; rfl)
    clear hr
    go_enter Tryz.func61, Tryz.ntmps61
    go_wp2_with (first
      | (go_at_call 59; refine (itoa_any N1.out.1 N1.out.2 _ HT.out rfl).mono ?_; rintro e w1 ⟨rfl, hb1⟩; rw [HX.out]; have HB1 := Lib.hid hb1; obtain ⟨d0, d1, d2⟩ := wbox hb1; clear hb1)
      | (go_at_call 58; refine (line_new HO.out hB (HB0.out.trans (HB1.out.mono HB0.out.size)) rfl [wWindow, wTumble, x] rfl (by simp) HR.out HS.out).mono ?_; rintro e w2 ⟨v2, rfl, ho2, hb2, hk2⟩; have HG := Lib.hid (And.intro ho2 (And.intro hb2 hk2)); clear ho2 hb2 hk2))
    go_ret
    exact ⟨v2, rfl, HG.out.1, HG.out.2.1, HG.out.2.2⟩
  have f1 := ibne k1
  by_cases k2 : kd = 2
  · subst k2
    have HR : Hid (l ++ lineB [wWindow, wSlide, x, y] = r) := Lib.hid (by rw [← hr, ← HX.out, ← HY.out]; rfl)
    clear hr
    go_enter Tryz.func61, Tryz.ntmps61
    go_wp2_with (first
      | (go_at_call 59; refine (itoa_any N2.out.1 N2.out.2 _ HT1.out rfl).mono ?_; rintro e w3 ⟨rfl, hb3⟩; rw [HY.out]; have HB3 := Lib.hid hb3; clear hb3)
      | (go_at_call 59; refine (itoa_any N1.out.1 N1.out.2 _ HT.out rfl).mono ?_; rintro e w1 ⟨rfl, hb1⟩; rw [HX.out]; have HB1 := Lib.hid hb1; obtain ⟨d0, d1, d2⟩ := wbox hb1; have HT1 := Lib.hid (HT.out.below hb1); clear hb1)
      | (go_at_call 58; refine (line_new HO.out hB (HB0.out.trans ((HB1.out.trans (HB3.out.mono HB1.out.size)).mono HB0.out.size)) rfl [wWindow, wSlide, x, y] rfl (by simp) HR.out HS.out).mono ?_; rintro e w2 ⟨v2, rfl, ho2, hb2, hk2⟩; have HG := Lib.hid (And.intro ho2 (And.intro hb2 hk2)); clear ho2 hb2 hk2))
    go_ret
    exact ⟨v2, rfl, HG.out.1, HG.out.2.1, HG.out.2.2⟩
  · have f2 := ibne k2
    have HR : Hid (l ++ lineB [wWindow, wSession, x] = r) := Lib.hid (by rw [← hr, ← HX.out]; unfold winText; rw [if_neg k1, if_neg k2])
    clear hr
    go_enter Tryz.func61, Tryz.ntmps61
    go_wp2_with (first
      | (go_at_call 59; refine (itoa_any N1.out.1 N1.out.2 _ HT.out rfl).mono ?_; rintro e w1 ⟨rfl, hb1⟩; rw [HX.out]; have HB1 := Lib.hid hb1; obtain ⟨d0, d1, d2⟩ := wbox hb1; clear hb1)
      | (go_at_call 58; refine (line_new HO.out hB (HB0.out.trans (HB1.out.mono HB0.out.size)) rfl [wWindow, wSession, x] rfl (by simp) HR.out HS.out).mono ?_; rintro e w2 ⟨v2, rfl, ho2, hb2, hk2⟩; have HG := Lib.hid (And.intro ho2 (And.intro hb2 hk2)); clear ho2 hb2 hk2))
    go_ret
    exact ⟨v2, rfl, HG.out.1, HG.out.2.1, HG.out.2.2⟩
theorem Box.ko {w w' : World} {b : Nat} {q : FE} (h : Box w b q) (hk : KO w w') : Box w' b q := hk _ _ _ _ h (by decide)
theorem Box.five {w : World} {b : Nat} {q : FE} (h : Box w b q) : w.cell? ⟨b, 0, none⟩ = some (sv q.f.name) ∧ w.cell? ⟨b, 1, none⟩ = some (sv q.f.frm) ∧ w.cell? ⟨b, 2, none⟩ = some (sv q.f.dest) ∧ w.cell? ⟨b, 4, none⟩ = some (.int .i64 q.f.readers) ∧ w.cell? ⟨b, 5, none⟩ = some (.int .i64 q.f.keepers) := by
  obtain ⟨h0, h1, h2, -, h4, h5, -⟩ := h.cells
  exact ⟨h0, h1, h2, h4, h5⟩
theorem bound_str (x : Bs) : ((⟨#[98, 111, 117, 110, 100, 32]⟩ : ByteArray) ++ (⟨x.toArray⟩ : ByteArray)) = ⟨(wBound ++ [32] ++ x).toArray⟩ := by
  apply ByteArray.ext
  simp [ByteArray.data_append, wBound]
set_option maxRecDepth 20000 in
set_option maxHeartbeats 4000000 in
theorem appendFlow_at {w0 : World} {u : Value} {l : Bs} {w : World} {B : Nat} {q : FE} (h : w.ownsRow B 5 1 u l.length (bc l)) (hB : B ≤ w.heap.size) (hb0 : Below w0.heap.size w0 w) (hB0 : w0.heap.size ≤ B) (hT : Tab w0) (hq : FEok w0 q) (hn : NumF q.f) {r : Bs} (hr : l ++ flwText q.f = r) (hs : r.length ≤ 1099511627776) :
    Calls Tryz.prog 32 #[u, flwV q] w (GivesB B w r) := by
  obtain ⟨W, hW⟩ : ∃ W, w.alloc (.cells #[sv q.f.name, sv q.f.frm, sv q.f.dest, .int .i64 q.f.bound, .int .i64 q.f.readers, .int .i64 q.f.keepers, q.pre, .int .i64 q.f.win.kind, .int .i64 q.f.win.size, .int .i64 q.f.win.slide, .int .i64 q.f.agg, q.post] 43) = W := ⟨_, rfl⟩
  have bx : Box W w.heap.size q := by rw [← hW]; exact Box.new w q
  have bw : Below w.heap.size w W := by rw [← hW]; exact (Below.refl _ _).alloc (Nat.le_refl _) _
  have hTW := (hT.below hb0).below bw
  have hOW := ownsRow_below h bw
  have hBW : B ≤ W.heap.size := Nat.le_trans hB bw.size
  obtain ⟨bo, hbo⟩ : ∃ x, boundWord q.f.bound = x := ⟨_, rfl⟩
  obtain ⟨rd, hrd⟩ : ∃ x, Lib.itoa q.f.readers = x := ⟨_, rfl⟩
  obtain ⟨kp, hkp⟩ : ∃ x, Lib.itoa q.f.keepers = x := ⟨_, rfl⟩
  obtain ⟨m1, hm1⟩ : ∃ m, l ++ lineB [wFlow, q.f.name, wFrom, q.f.frm, wTo, q.f.dest, bo, wReaders, rd, wKeepers, kp] = m := ⟨_, rfl⟩
  obtain ⟨m2, hm2⟩ : ∃ m, m1 ++ stepsText q.f.pre = m := ⟨_, rfl⟩
  obtain ⟨m3, hm3⟩ : ∃ m, m2 ++ (if q.f.win.kind ≠ 0 then winText q.f.win ++ lineB [wAgg, aggWord q.f.agg] else []) = m := ⟨_, rfl⟩
  have hm4 : m3 ++ stepsText q.f.post = r := by rw [← hr, ← hm3, ← hm2, ← hm1, ← hbo, ← hrd, ← hkp]; unfold flwText; simp only [List.append_assoc]
  have l4 := congrArg List.length hm4
  have l3 := congrArg List.length hm3
  have l2 := congrArg List.length hm2
  rw [List.length_append] at l2 l3 l4
  have s3 : m3.length ≤ 1099511627776 := by omega
  have s2 : m2.length ≤ 1099511627776 := by omega
  have s1 : m1.length ≤ 1099511627776 := by omega
  have HS := Lib.hid (And.intro s1 (And.intro s2 (And.intro s3 hs)))
  have HM := Lib.hid (And.intro hm1 (And.intro hm2 (And.intro hm3 hm4)))
  have HQ := Lib.hid (And.intro hq (And.intro hT (And.intro hb0 hB0)))
  have HNm := Lib.hid hn
  have HBO := Lib.hid hbo
  have HRD := Lib.hid hrd
  have HKP := Lib.hid hkp
  have HBX := Lib.hid bx
  have HBW := Lib.hid bw
  have HTW := Lib.hid hTW
  have HOW := Lib.hid hOW
  clear h hb0 hB0 hT hq hn hr hs hm1 hm2 hm3 hm4 l2 l3 l4 s1 s2 s3 hbo hrd hkp bw hTW hOW
  obtain ⟨b0, b1, b2, b3, b4, b5, b6, b7, b8, b9, b10, b11⟩ := bx.cells
  clear bx
  go_enter Tryz.func32, Tryz.ntmps32
  go_upto_if 8 with fail
  go_cut [5] (fun x wx => x = sv bo ∧ Hid (Below W.heap.size W wx))
  case first =>
    by_cases hge : 0 ≤ q.f.bound
    · obtain ⟨x, hx⟩ : ∃ x, Lib.itoa q.f.bound = x := ⟨_, rfl⟩
      have HX := Lib.hid hx
      have hl := Lib.itoa_length_le q.f.bound HNm.out.bound.1 HNm.out.bound.2
      rw [hx] at hl
      clear hx
      have hb : Hid (wBound ++ [32] ++ x = bo) := Lib.hid (by rw [← HBO.out, ← HX.out]; unfold boundWord; rw [if_pos hge])
      have hsz : ¬ 9223372036854775807 < 6 + x.length := by omega
      go_wp2_with (first
        | (go_at_call 59; refine (itoa_any HNm.out.bound.1 HNm.out.bound.2 _ HTW.out rfl).mono ?_; rintro e w1 ⟨rfl, hb1⟩; rw [HX.out]; have HB1 := Lib.hid hb1; clear hb1))
      go_meet
      case rel => exact ⟨by rw [bound_str, hb.out], HB1⟩
    · have hb : Hid (wMarks = bo) := Lib.hid (by rw [← HBO.out]; unfold boundWord; rw [if_neg hge])
      go_wp2
      go_meet
      case rel => exact ⟨by rw [← hb.out]; rfl, Lib.hid (Below.refl _ _)⟩
  case rest =>
    obtain ⟨rfl, hbc⟩ := hcut
    clear b0 b1 b2 b3 b4 b5 b6 b7 b8 b9 b10 b11
    rename World => wc
    obtain ⟨b0, b1, b2, b3, b4, b5, b6, b7, b8, b9, b10, b11⟩ := (HBX.out.grow hbc.out).cells
    go_upto_region 4 with fail
    go_cut [0] (fun v wx => Hid (wx.ownsRow B 5 1 v m1.length (bc m1)) ∧ Hid (Below B w wx) ∧ Hid (KO W wx))
    case first =>
      have HTC := Lib.hid ((HTW.out.below hbc.out).below (Below.refl _ _).drew)
      have HOC := Lib.hid (ownsRow_below HOW.out hbc.out)
      have hBC : B ≤ wc.heap.size := Nat.le_trans hBW hbc.out.size
      have HDC : Hid (Below wc.heap.size wc wc.drew) := Lib.hid (Below.refl _ _).drew
      have S0 : wc.drew.cell? ⟨w.heap.size, 0, none⟩ = some (sv q.f.name) ∧ wc.drew.cell? ⟨w.heap.size, 1, none⟩ = some (sv q.f.frm) ∧ wc.drew.cell? ⟨w.heap.size, 2, none⟩ = some (sv q.f.dest) ∧ wc.drew.cell? ⟨w.heap.size, 4, none⟩ = some (.int .i64 q.f.readers) ∧ wc.drew.cell? ⟨w.heap.size, 5, none⟩ = some (.int .i64 q.f.keepers) := ⟨b0, b1, b2, b4, b5⟩
      go_region_held3 (fun X => X.cell? ⟨w.heap.size, 0, none⟩ = some (sv q.f.name) ∧ X.cell? ⟨w.heap.size, 1, none⟩ = some (sv q.f.frm) ∧ X.cell? ⟨w.heap.size, 2, none⟩ = some (sv q.f.dest) ∧ X.cell? ⟨w.heap.size, 4, none⟩ = some (.int .i64 q.f.readers) ∧ X.cell? ⟨w.heap.size, 5, none⟩ = some (.int .i64 q.f.keepers))
        (first | exact S0 | exact S4 | exact S2 | exact S1 | (refine ⟨?_, ?_, ?_, ?_, ?_⟩ <;> go_simp))
        (first
        | (go_at_call 59; refine (itoa_any HNm.out.readers.1 HNm.out.readers.2 _ HTC.out rfl).mono ?_; rintro e w1 ⟨rfl, hb1⟩; rw [HRD.out]; have HB1 := Lib.hid (HDC.out.trans hb1); have HT1 := Lib.hid (HTC.out.below hb1); have S1 := (HBX.out.grow (hbc.out.trans (HB1.out.mono hbc.out.size))).five; clear hb1)
        | (go_at_call 59; refine (itoa_any HNm.out.keepers.1 HNm.out.keepers.2 _ HT1.out rfl).mono ?_; rintro e w2 ⟨rfl, hb2⟩; rw [HKP.out]; have HB2 := Lib.hid (HB1.out.trans (hb2.mono HB1.out.size)); have S2 := (HBX.out.grow (hbc.out.trans (HB2.out.mono hbc.out.size))).five; have lt2 : w.heap.size < w2.heap.size := lt_of_heap (HBX.out.grow (hbc.out.trans (HB2.out.mono hbc.out.size))); clear hb2)
        | (go_at_call 58; refine (line_new HOC.out hBC HB2.out rfl [wFlow, q.f.name, wFrom, q.f.frm, wTo, q.f.dest, bo, wReaders, rd, wKeepers, kp] rfl (by simp) HM.out.1 HS.out.1).mono ?_; rintro e w3 ⟨v3, rfl, ho3, hb3, hk3⟩; have HG := Lib.hid (And.intro ho3 (And.intro hb3 hk3)); have S4 := (HBX.out.ko ((KO.of_below hbc.out).trans hk3)).five; clear ho3 hb3 hk3))
      all_goals go_wp2_with fail
      all_goals go_meet
      all_goals exact ⟨Lib.hid HG.out.1, Lib.hid (((HBW.out.trans (hbc.out.mono HBW.out.size)).mono hB).trans HG.out.2.1), Lib.hid ((KO.of_below hbc.out).trans HG.out.2.2)⟩
    case rest =>
      clear b0 b1 b2 b3 b4 b5 b6 b7 b8 b9 b10 b11 hbc
      obtain ⟨ho, hbl, hko⟩ := hcut
      rename World => wd
      obtain ⟨b0, b1, b2, b3, b4, b5, b6, b7, b8, b9, b10, b11⟩ := (HBX.out.ko hko.out).cells
      have hBd : B ≤ wd.heap.size := Nat.le_trans hB hbl.out.size
      have HST := fun (v : Value) (x : World) (L : List Stp) (m m' : Bs) (v2 : Value) (ho : x.ownsRow B 5 1 v m.length (bc m)) (hbl : Below B w x) (hL : StpsAt w0 v2 L) (hN : ∀ s ∈ L, Num64 s.n) (hm : m ++ stepsText L = m') (hs : m'.length ≤ 1099511627776) => appendSteps_at ho (Nat.le_trans hB hbl.size) (HQ.out.2.2.1.trans (hbl.mono HQ.out.2.2.2)) HQ.out.2.2.2 HQ.out.2.1 hL hN hm hs
      have HST := Lib.hid HST
      by_cases k0 : q.f.win.kind = 0
      · have f0 := inebf k0
        have HM3 : Hid (m2 = m3) := Lib.hid (by have := HM.out.2.2.1; rw [if_neg (by simp [k0])] at this; simpa using this)
        clear k0
        go_wp2_with (first
          | (go_at_call 60; refine (HST.out _ _ _ _ _ _ HO2.out HB2.out HQ.out.1.2 HNm.out.post HM.out.2.2.2 HS.out.2.2.2).mono ?_; rintro e w5 ⟨v5, rfl, ho5, hb5, hk5⟩; have HG := Lib.hid (And.intro ho5 (HB2.out.trans hb5)); have HK5 := Lib.hid (HK2.out.trans hk5); clear ho5 hb5 hk5)
          | (go_at_call 60; refine (HST.out _ _ _ _ _ _ ho.out hbl.out HQ.out.1.1 HNm.out.pre HM.out.2.1 HS.out.2.1).mono ?_; rintro e w4 ⟨v4, rfl, ho4, hb4, hk4⟩; rw [HM3.out] at ho4; have HO2 := Lib.hid ho4; have HB2 := Lib.hid (hbl.out.trans hb4); have HK2 := Lib.hid (hko.out.trans hk4); obtain ⟨-, -, -, -, -, -, -, d7, d8, d9, d10, d11⟩ := (HBX.out.ko HK2.out).cells; clear ho4 hb4 hk4))
        go_ret
        exact ⟨v5, rfl, HG.out.1, HG.out.2, (KO.of_below HBW.out).trans HK5.out⟩
      · have f0 := inebt k0
        have HM3 : Hid (m2 ++ (winText q.f.win ++ lineB [wAgg, aggWord q.f.agg]) = m3) := Lib.hid (by have := HM.out.2.2.1; rw [if_pos k0] at this; exact this)
        obtain ⟨ag, hag⟩ : ∃ a, aggWord q.f.agg = a := ⟨_, rfl⟩
        obtain ⟨mw, hmw⟩ : ∃ a, m2 ++ winText q.f.win = a := ⟨_, rfl⟩
        have HAG := Lib.hid hag
        have HMW := Lib.hid hmw
        have HML : Hid (mw ++ lineB [wAgg, ag] = m3) := Lib.hid (by rw [← HM3.out, ← hag, ← hmw]; simp)
        have hsw : mw.length ≤ 1099511627776 := by have h1 := congrArg List.length HML.out; rw [List.length_append] at h1; have := HS.out.2.2.1; omega
        have HSW := Lib.hid hsw
        clear k0 hag hmw hsw
        go_wp2_with (first
          | (go_at_call 60; refine (HST.out _ _ _ _ _ _ HO5.out HB5.out HQ.out.1.2 HNm.out.post HM.out.2.2.2 HS.out.2.2.2).mono ?_; rintro e w7 ⟨v7, rfl, ho7, hb7, hk7⟩; have HG := Lib.hid (And.intro ho7 (HB5.out.trans hb7)); have HK7 := Lib.hid (HK5.out.trans hk7); clear ho7 hb7 hk7)
          | (go_at_call 58; refine (line_new HO3.out (Nat.le_trans hB HB3.out.size) (Below.refl _ _) rfl [wAgg, ag] rfl (by simp) HML.out HS.out.2.2.1).mono ?_; rintro e w6 ⟨v6, rfl, ho6, hb6, hk6⟩; have HO5 := Lib.hid ho6; have HB5 := Lib.hid (HB3.out.trans hb6); have HK5 := Lib.hid (HK3.out.trans hk6); obtain ⟨-, -, -, -, -, -, -, -, -, -, -, z11⟩ := (HBX.out.ko HK5.out).cells; clear ho6 hb6 hk6)
          | (go_at_call 62; refine (aggWord_at _ _ HAG.out).mono ?_; rintro e w8 ⟨rfl, rfl⟩)
          | (go_at_call 61; refine (appendWindow_at (v := q.f.win) HO2.out (Nat.le_trans hB HB2.out.size) (HQ.out.2.1.below (HQ.out.2.2.1.trans (HB2.out.mono HQ.out.2.2.2))) HNm.out.size HNm.out.slide HMW.out HSW.out).mono ?_; rintro e w5 ⟨v5, rfl, ho5, hb5, hk5⟩; have HO3 := Lib.hid ho5; have HB3 := Lib.hid (HB2.out.trans hb5); have HK3 := Lib.hid (HK2.out.trans hk5); obtain ⟨-, -, -, -, -, -, -, -, -, -, y10, y11⟩ := (HBX.out.ko HK3.out).cells; clear ho5 hb5 hk5)
          | (go_at_call 60; refine (HST.out _ _ _ _ _ _ ho.out hbl.out HQ.out.1.1 HNm.out.pre HM.out.2.1 HS.out.2.1).mono ?_; rintro e w4 ⟨v4, rfl, ho4, hb4, hk4⟩; have HO2 := Lib.hid ho4; have HB2 := Lib.hid (hbl.out.trans hb4); have HK2 := Lib.hid (hko.out.trans hk4); obtain ⟨-, -, -, -, -, -, -, d7, d8, d9, d10, d11⟩ := (HBX.out.ko HK2.out).cells; clear ho4 hb4 hk4))
        go_ret
        exact ⟨v7, rfl, HG.out.1, HG.out.2, (KO.of_below HBW.out).trans HK7.out⟩
end Go.Proofs.YtogcickcodlepaaGreatDoor.Pl
/-
  Text: a plan's text, or its first error. Conditions: the plan lies in memory; the library's tables hold what they were laid with.
-/
namespace Go.Proofs.YtogcickcodlepaaGreatDoor.Pl
open Go.RowKit Go.Proofs.YtogcickcodlepaaGreatDoor.Ex

def TextRet (p : Pln) (e : Ending) : Prop :=
  ((check p).2 = 0 → e = .returned (.tuple #[sv (planText p), .int .i64 0])) ∧ ((check p).2 ≠ 0 → e = .returned (.tuple #[sv [], .int .i64 (check p).2]))
theorem conv_row {w : World} {B : Nat} {v : Value} {l : Bs} (h : w.ownsRow B 5 1 v l.length (bc l)) : (convert 67 9 v).run Tryz.prog w = .ok (sv l) w := by
  rcases h.2 with ⟨rfl, h0⟩ | ⟨g, cap, cur, rfl, hb, hg, hnc, -⟩
  · obtain rfl : l = [] := List.length_eq_zero_iff.1 h0
    exact run_convert_bytes_nil (P := Tryz.prog) w 67 5 Tryz.underlying67 Tryz.underlying5 _ _ 9 Tryz.underlying9
  · exact run_convert_bytes_back (P := Tryz.prog) w 67 9 5 ⟨g, 0, none⟩ cap l Tryz.underlying67 Tryz.underlying5 Tryz.underlying9 (fun j hj => by
      have c := h.cellAt j (by omega)
      rw [Addr.add_lit, Nat.zero_add, c, bc, List.getElem?_map, List.getElem?_eq_getElem hj]
      rfl)
theorem flat_drop {α : Type} (g : α → Bs) (L : List α) (k : Nat) (hk : k < L.length) : (L.drop k).flatMap g = g L[k] ++ (L.drop (k + 1)).flatMap g := by
  rw [List.drop_eq_getElem_cons hk]; rfl
set_option maxRecDepth 20000 in
set_option maxHeartbeats 2000000 in
theorem text_bad {w : World} {v : Value} {p : Pln} (h : PlnAt w v p) (hT : Tab w) {i : Nat} {E : Int} (hc : check p = (i, E)) (h0 : E ≠ 0) : Calls Tryz.prog 15 #[v] w fun e w' => e = .returned (.tuple #[sv [], .int .i64 E]) ∧ Below w.heap.size w w' := by
  have hpl := h
  obtain ⟨vt, vf, es, rfl, ht, hf, he⟩ := h
  have hb0 : Below w.heap.size w (w.alloc (.cells #[vt, vf] 25)) := (Below.refl _ _).alloc (Nat.le_refl _) _
  have HP := Lib.hid (PlnAt.grow hpl hb0)
  have HT := Lib.hid (hT.below hb0)
  have HB0 := Lib.hid hb0
  have e0 := inebt h0
  have HC := Lib.hid hc
  obtain ⟨t1, t2, rfl⟩ := ht.val
  obtain ⟨t3, t4, rfl⟩ := hf.1.val
  clear ht hf he hT hb0 hc hpl
  go_enter Tryz.func15, Tryz.ntmps15
  go_wp2_with (go_at_call 9; refine (check_any HP.out HT.out).mono ?_; rintro e w1 ⟨he1, hb1⟩; rw [HC.out] at he1; subst he1; have HB1 := Lib.hid hb1; clear hb1)
  go_ret2
  exact ⟨rfl, HB0.out.trans (HB1.out.mono HB0.out.size)⟩
set_option maxRecDepth 20000 in
set_option maxHeartbeats 4000000 in
theorem text_good {w : World} {v : Value} {p : Pln} (h : PlnAt w v p) (hT : Tab w) {i : Nat} (hc : check p = (i, 0)) {r : Bs} (hr : planText p = r) : Calls Tryz.prog 15 #[v] w fun e w' => e = .returned (.tuple #[sv r, .int .i64 0]) ∧ Below w.heap.size w w' := by
  have hlen := planText_len (p := p) (by rw [hc])
  rw [hr] at hlen
  obtain ⟨-, -, s3, s4⟩ := check_zero (p := p) (by rw [hc])
  have hpl := h
  obtain ⟨vt, vf, es, rfl, ht, hf, he⟩ := h
  have hb0 : Below w.heap.size w (w.alloc (.cells #[vt, vf] 25)) := (Below.refl _ _).alloc (Nat.le_refl _) _
  have hx : PBox (w.alloc (.cells #[vt, vf] 25)) w.heap.size vt vf := heap_alloc_new w _
  have HP := Lib.hid (PlnAt.grow hpl hb0)
  have HT := Lib.hid (hT.below hb0)
  have HX := Lib.hid hx
  have HB0 := Lib.hid hb0
  have HC := Lib.hid hc
  obtain ⟨t1, t2, rfl⟩ := ht.val
  obtain ⟨t3, t4, rfl⟩ := hf.1.val
  obtain ⟨n, hn⟩ : ∃ n, p.tops.length = n := ⟨_, rfl⟩
  obtain ⟨m, hm⟩ : ∃ m, es.length = m := ⟨_, rfl⟩
  obtain ⟨-, -, k1, -⟩ := ht.len
  obtain ⟨-, -, k2, -⟩ := hf.1.len
  rw [hn] at ht hx HX HP HT HB0 hb0 k1 ⊢
  rw [hm] at hf hx HX HP HT HB0 hb0 k2 ⊢
  have q1 : n ≤ 9223372036854775807 := by unfold maxLen at k1; omega
  have q2 : m ≤ 9223372036854775807 := by unfold maxLen at k2; omega
  have HTO := Lib.hid (ht.grow hb0)
  have HFL := Lib.hid (hf.grow hb0)
  have HN := Lib.hid hn
  have HM := Lib.hid hm
  have HE := Lib.hid he
  have HL := Lib.hid hlen
  have HS3 := Lib.hid s3
  have HS4 := Lib.hid s4
  have HR := Lib.hid hr
  clear hpl
  clear ht hf he hT hb0 hx hc hr hlen s3 s4 hn hm k1 k2
  go_enter Tryz.func15, Tryz.ntmps15
  go_wp2_with (go_at_call 9; refine (check_any HP.out HT.out).mono ?_; rintro e w1 ⟨he1, hb1⟩; rw [HC.out] at he1; subst he1; obtain ⟨c0, c1⟩ := (HX.out.grow hb1).cells; have HB1 := Lib.hid hb1; clear hb1)
  have HX1 := Lib.hid (HX.out.grow HB1.out)
  have HT1 := Lib.hid (HT.out.below HB1.out)
  have HTO1 := Lib.hid (HTO.out.grow HB1.out)
  have HFL1 := Lib.hid (HFL.out.grow HB1.out)
  have HB2 := Lib.hid (HB0.out.trans (HB1.out.mono HB0.out.size))
  clear HB0 HB1 HX HT HTO HFL HP c0 c1
  go_loopw [6, 8, 22] (fun v _ z wr => ∃ (k : Nat) (acc : Bs), k ≤ n ∧ z = .int .i64 k ∧ Hid (acc ++ ((p.tops.drop k).flatMap topText ++ p.flws.flatMap flwText) = r) ∧ Hid (wr.ownsRow w1.heap.size 5 1 v acc.length (bc acc)) ∧ Hid (Below w1.heap.size w1 wr)) (fun _ _ z _ => n - (intOf z).toNat)
  case atStart => exact ⟨0, [], Nat.zero_le _, rfl, Lib.hid HR.out, Lib.hid (World.ownsRow_nil _ _ _ _), Lib.hid (Below.refl _ _)⟩
  case round =>
    obtain ⟨k, acc, hkn, rfl, hr, hown, hbel⟩ := hrel
    by_cases hlt : k < n
    · have hkl : k < p.tops.length := by rw [HN.out]; exact hlt
      have hd := flat_drop topText p.tops k hkl
      obtain ⟨b, o, rfl, hbl, c0, c1⟩ := (TopsAt.grow HTO1.out hbel.out).cells hkl
      have hsm := HS3.out _ (List.getElem_mem hkl)
      obtain ⟨⟨nm, pa⟩, hs⟩ : ∃ s, p.tops[k] = s := ⟨_, rfl⟩
      rw [hs] at hd hsm c0 c1
      dsimp only at hsm c0 c1
      clear hs
      have hr2 : (acc ++ topText ⟨nm, pa⟩) ++ ((p.tops.drop (k + 1)).flatMap topText ++ p.flws.flatMap flwText) = r := by rw [← hr.out, hd]; simp only [List.append_assoc]
      have hsz : (acc ++ topText ⟨nm, pa⟩).length ≤ 1099511627776 := by
        have h1 := congrArg List.length hr2
        rw [List.length_append] at h1
        have := HL.out
        omega
      have R2 := Lib.hid hr2
      have SZ := Lib.hid hsz
      have hbn : Below wr.heap.size wr (wr.alloc (.cells #[sv nm, .int .i64 pa] 47)) := (Below.refl _ _).alloc (Nat.le_refl _) _
      have HBN := Lib.hid hbn
      have HTN := Lib.hid ((HT1.out.below hbel.out).below hbn)
      have HSM := Lib.hid hsm
      have hBr : w1.heap.size ≤ wr.heap.size := hbel.out.size
      have g0 : (0 : Int) ≤ (k : Int) := by omega
      have g1 : (k : Int) < (n : Int) := by omega
      clear hd hr hsm hr2 hsz hbn hbl hkl
      go_wp2_with (go_at_call 31; refine (appendTopic_at (t := ⟨nm, pa⟩) (ownsRow_below hown.out HBN.out) (Nat.le_trans hBr HBN.out.size) HTN.out (by have := HSM.out; simp only; omega) (by have := HSM.out; simp only; omega) rfl SZ.out).mono ?_; rintro e w2 ⟨v2, rfl, ho2, hb2, hk2⟩; have HG := Lib.hid (And.intro ho2 ((HBN.out.mono hBr).trans hb2)); clear ho2 hb2 hk2)
      go_roundw
      case rel => exact ⟨k + 1, acc ++ topText ⟨nm, pa⟩, by omega, by go_num, R2, Lib.hid HG.out.1, Lib.hid (hbel.out.trans HG.out.2)⟩
      case measure => simp [intOf]; omega
    · have hkn2 : k = n := by omega
      have hr2 : Hid (acc ++ (p.flws.drop 0).flatMap flwText = r) := Lib.hid (by rw [← hr.out, hkn2, ← HN.out, List.drop_length]; simp)
      have hcs := (HX1.out.grow hbel.out).cells
      obtain ⟨c0, c1⟩ := hcs
      clear hr hkn2
      go_wp2
      clear c0 c1
      rename World => wq
      go_loopw [6, 10, 33] (fun v _ z wr => ∃ (k : Nat) (acc : Bs), k ≤ m ∧ z = .int .i64 k ∧ Hid (acc ++ (p.flws.drop k).flatMap flwText = r) ∧ Hid (wr.ownsRow w1.heap.size 5 1 v acc.length (bc acc)) ∧ Hid (Below w1.heap.size w1 wr)) (fun _ _ z _ => m - (intOf z).toNat)
      case atStart => exact ⟨0, acc, Nat.zero_le _, rfl, hr2, hown, hbel⟩
      case round =>
        clear hown hbel hr2
        obtain ⟨j, acc, hjm, rfl, hr, hown, hbel⟩ := hrel
        by_cases hlt2 : j < m
        · have hjl : j < es.length := by rw [HM.out]; exact hlt2
          have hj2 : j < p.flws.length := by rw [← HE.out, List.length_map]; exact hjl
          have hfe : p.flws[j] = es[j].f := by simp [← HE.out]
          have hd := flat_drop flwText p.flws j hj2
          have hsm := HS4.out _ (List.getElem_mem hj2)
          rw [hfe] at hd hsm
          have hok := HFL1.out.2 _ (List.getElem_mem hjl)
          obtain ⟨b, o, rfl, hbl, c0, c1, c2, c3, c4, c5, c6, c7, c8, c9, c10, c11⟩ := (HFL1.out.grow hbel.out).cells hjl
          obtain ⟨⟨f, pre, post⟩, hs⟩ : ∃ s, es[j] = s := ⟨_, rfl⟩
          rw [hs] at hd hsm hok c0 c1 c2 c3 c4 c5 c6 c7 c8 c9 c10 c11
          dsimp only at hd hsm c0 c1 c2 c3 c4 c5 c6 c7 c8 c9 c10 c11
          obtain ⟨u1, u2, e5⟩ := hok.1.1.val
          obtain ⟨u3, u4, e6⟩ := hok.2.1.val
          dsimp only at e5 e6
          clear hs hfe
          subst e5 e6
          have hr2 : (acc ++ flwText f) ++ (p.flws.drop (j + 1)).flatMap flwText = r := by rw [← hr.out, hd]; simp only [List.append_assoc]
          have hsz : (acc ++ flwText f).length ≤ 1099511627776 := by
            have h1 := congrArg List.length hr2
            rw [List.length_append] at h1
            have := HL.out
            omega
          have R2 := Lib.hid hr2
          have SZ := Lib.hid hsz
          have HOK := Lib.hid hok
          have HNU := Lib.hid hsm.num
          have hbn : Below wr.heap.size wr (wr.alloc (.cells (flwC ⟨f, .slice u1 f.pre.length u2, .slice u3 f.post.length u4⟩).toArray 43)) := (Below.refl _ _).alloc (Nat.le_refl _) _
          dsimp only [flwC] at hbn
          have HBN := Lib.hid hbn
          have hBr : w1.heap.size ≤ wr.heap.size := hbel.out.size
          have g0 : (0 : Int) ≤ (j : Int) := by omega
          have g1 : (j : Int) < (m : Int) := by omega
          clear hd hr hsm hr2 hsz hbn hbl hjl hj2 hok
          have hcs := (HX1.out.grow hbel.out).cells
          obtain ⟨z0, z1⟩ := hcs
          go_wp2_with (go_at_call 32; refine (appendFlow_at (w0 := w1) (q := ⟨f, .slice u1 f.pre.length u2, .slice u3 f.post.length u4⟩) (ownsRow_below hown.out HBN.out) (Nat.le_trans hBr HBN.out.size) (hbel.out.trans (HBN.out.mono hBr)) (Nat.le_refl _) HT1.out HOK.out HNU.out rfl SZ.out).mono ?_; rintro e w2 ⟨v2, rfl, ho2, hb2, hk2⟩; have HG := Lib.hid (And.intro ho2 ((HBN.out.mono hBr).trans hb2)); clear ho2 hb2 hk2)
          go_roundw
          case rel => exact ⟨j + 1, acc ++ flwText f, by omega, by go_num, R2, Lib.hid HG.out.1, Lib.hid (hbel.out.trans HG.out.2)⟩
          case measure => simp [intOf]; omega
        · have hjn : j = m := by omega
          have hr3 : acc = r := by rw [← hr.out, hjn, ← HM.out, ← List.length_map (f := FE.f), HE.out, List.drop_length]; simp
          subst hr3
          have hcv := conv_row hown.out
          clear hr
          go_wp2
          go_ret2
          exact ⟨rfl, HB2.out.trans (hbel.out.mono HB2.out.size)⟩
end Go.Proofs.YtogcickcodlepaaGreatDoor.Pl
/-
  The chapter's examples hold of the program: awake says yes. Conditions: the library's tables hold what they were laid with; a variable of bytealg is a number.
-/
namespace Go.Proofs.YtogcickcodlepaaGreatDoor.Pl
open Go.RowKit Go.Proofs.YtogcickcodlepaaGreatDoor.Ex

/-- What the program reads of the library's variables. -/
def Lb (w : World) : Prop := Tab w ∧ ∃ m, w.cell? ⟨0, 0, none⟩ = some (.int .i64 m)
theorem Lb.below {w w' : World} (h : Lb w) (hb : Below w.heap.size w w') : Lb w' := by
  obtain ⟨h1, m, h2⟩ := h
  have h0 := World.block_lt_of_cell? w _ h2
  exact ⟨h1.below hb, m, by rw [hb.cell (p := ⟨0, 0, none⟩) h0]; exact h2⟩
theorem pparse_ok {s : ByteArray} {w : World} {p : Pln} (h : Lb w) (hp : parsePlan s.data.toList = .ok p) : Calls Tryz.prog 13 #[.string s] w fun e w' => ∃ v, e = .returned (.tuple #[v, .int .i64 0, .int .i64 0]) ∧ PlnAt w' v p ∧ Below w.heap.size w w' := by
  obtain ⟨h1, m, h2⟩ := h
  refine (parse_at h1 h2 s hp).mono ?_
  rintro e w' ⟨⟨v, he, hv⟩, hb⟩
  exact ⟨v, he, hv, hb⟩
theorem pparse_err {s : ByteArray} {w : World} {l : Nat} {n : Int} (h : Lb w) (hp : parsePlan s.data.toList = .err l n) : Calls Tryz.prog 13 #[.string s] w fun e w' => e = .returned (.tuple #[.agg #[.slice none 0 0, .slice none 0 0], .int .i64 l, .int .i64 n]) ∧ Below w.heap.size w w' := by
  obtain ⟨h1, m, h2⟩ := h
  refine (parse_at h1 h2 s hp).mono ?_
  rintro e w' ⟨he, hb⟩
  exact ⟨he, hb⟩
def exB : ByteArray := ⟨#[116, 111, 112, 105, 99, 32, 99, 108, 105, 99, 107, 115, 32, 52, 10, 116, 111, 112, 105, 99, 32, 99, 111, 117, 110, 116, 115, 32, 49, 54, 10, 102, 108, 111, 119, 32, 102, 32, 102, 114, 111, 109, 32, 99, 108, 105, 99, 107, 115, 32, 116, 111, 32, 99, 111, 117, 110, 116, 115, 32, 98, 111, 117, 110, 100, 32, 53, 32, 114, 101, 97, 100, 101, 114, 115, 32, 50, 32, 107, 101, 101, 112, 101, 114, 115, 32, 51, 10, 102, 105, 108, 116, 101, 114, 32, 118, 32, 62, 32, 48, 10, 107, 101, 121, 32, 50, 10, 119, 105, 110, 100, 111, 119, 32, 115, 108, 105, 100, 101, 32, 49, 48, 32, 53, 10, 97, 103, 103, 32, 115, 117, 109, 10, 115, 101, 116, 32, 118, 32, 43, 32, 49, 10]⟩
def exF : Flw := ⟨[102], [99, 108, 105, 99, 107, 115], [99, 111, 117, 110, 116, 115], 5, 2, 3, [⟨1, [118, 32, 62, 32, 48], 0⟩, ⟨3, [], 2⟩], ⟨2, 10, 5⟩, 2, [⟨2, [118, 32, 43, 32, 49], 0⟩]⟩
def exP : Pln := ⟨[⟨[99, 108, 105, 99, 107, 115], 4⟩, ⟨[99, 111, 117, 110, 116, 115], 16⟩], [exF]⟩
set_option maxRecDepth 100000 in
theorem ex_parse : parsePlan exB.data.toList = .ok exP := by decide +kernel
theorem ex_bad : parsePlan (⟨#[116, 111, 112, 105, 99, 32, 65, 32, 49]⟩ : ByteArray).data.toList = .err 1 51 := by decide +kernel
set_option maxRecDepth 100000 in
theorem ex_check : check exP = (0, 0) := by decide +kernel
theorem it (i : Nat) : Lib.itoa (i : Int) = Lib.decDigits i := Lib.itoa_nonneg i
set_option maxRecDepth 100000 in
theorem ex_text : planText exP = exB.data.toList := by
  have a2 : Lib.itoa 2 = [50] := (it 2).trans (Lib.decDigits_one (by decide))
  have a3 : Lib.itoa 3 = [51] := (it 3).trans (Lib.decDigits_one (by decide))
  have a4 : Lib.itoa 4 = [52] := (it 4).trans (Lib.decDigits_one (by decide))
  have a5 : Lib.itoa 5 = [53] := (it 5).trans (Lib.decDigits_one (by decide))
  have a10 : Lib.itoa 10 = [49, 48] := (it 10).trans (Lib.decDigits_two (by decide) (by decide))
  have a16 : Lib.itoa 16 = [49, 54] := (it 16).trans (Lib.decDigits_two (by decide) (by decide))
  simp [planText, exP, exF, exB, topText, flwText, lineB, stepsText, stepText, winText, boundWord, aggWord, a2, a3, a4, a5, a10, a16, wTopic, wFlow, wFrom, wTo, wBound, wReaders, wKeepers, wFilter, wKey, wSet, wWindow, wSlide, wAgg, wSum]
/-- The example's plan in memory, cell by cell. -/
theorem ex_mem {w : World} {v : Value} (h : PlnAt w v exP) : ∃ a c b o c2 u1 c3 g o3 c4, v = .agg #[.slice a 2 c, .slice (some ⟨b, o, none⟩) 1 c2] ∧ b < w.heap.size ∧ g < w.heap.size ∧
    w.cell? ⟨b, o, none⟩ = some (sv [102]) ∧ w.cell? ⟨b, o + 1, none⟩ = some (sv [99, 108, 105, 99, 107, 115]) ∧ w.cell? ⟨b, o + 2, none⟩ = some (sv [99, 111, 117, 110, 116, 115]) ∧ w.cell? ⟨b, o + 3, none⟩ = some (.int .i64 5) ∧ w.cell? ⟨b, o + 4, none⟩ = some (.int .i64 2) ∧ w.cell? ⟨b, o + 5, none⟩ = some (.int .i64 3) ∧ w.cell? ⟨b, o + 6, none⟩ = some (.slice u1 2 c3) ∧ w.cell? ⟨b, o + 7, none⟩ = some (.int .i64 2) ∧ w.cell? ⟨b, o + 8, none⟩ = some (.int .i64 10) ∧ w.cell? ⟨b, o + 9, none⟩ = some (.int .i64 5) ∧ w.cell? ⟨b, o + 10, none⟩ = some (.int .i64 2) ∧ w.cell? ⟨b, o + 11, none⟩ = some (.slice (some ⟨g, o3, none⟩) 1 c4) ∧
    w.cell? ⟨g, o3 + 1, none⟩ = some (sv [118, 32, 43, 32, 49]) := by
  obtain ⟨vt, vf, es, rfl, ht, hf, he⟩ := h
  obtain ⟨a, c, rfl⟩ := ht.val
  obtain ⟨q, rfl⟩ : ∃ q, es = [q] := by
    match es, he with
    | [q], _ => exact ⟨q, rfl⟩
    | [], he => exact absurd (congrArg List.length he) (by decide)
    | _ :: _ :: _, he => exact absurd (congrArg List.length he) (by simp [exP])
  obtain ⟨f, pre, post⟩ := q
  have hff : f = exF := by simpa [exP] using he
  subst hff
  obtain ⟨hp1, hp2⟩ := hf.2 _ (List.mem_singleton.2 rfl)
  obtain ⟨b1, c2, rfl⟩ := hf.1.val
  obtain ⟨b, o, rfl, hbl, c0, c1, c3, c4, c5, c6, c7, c8, c9, c10, c11, c12⟩ := hf.cells (i := 0) (by simp)
  obtain ⟨u1, k1, e1⟩ := hp1.1.val
  obtain ⟨u2, k2, e2⟩ := hp2.1.val
  dsimp only at e1 e2
  subst e1 e2
  obtain ⟨g, o3, rfl, hgl, d0, d1, d2⟩ := hp2.cells (i := 0) (by simp [exF])
  exact ⟨a, c, b, o, c2, u1, k1, g, o3, k2, rfl, hbl, hgl, by simpa [exF] using c0, by simpa [exF] using c1, by simpa [exF] using c3, by simpa [exF] using c4, by simpa [exF] using c5, by simpa [exF] using c6, by simpa [exF] using c7, by simpa [exF] using c8, by simpa [exF] using c9, by simpa [exF] using c10, by simpa [exF] using c11, by simpa [exF] using c12, by simpa [exF] using d1⟩
set_option maxRecDepth 20000 in
set_option maxHeartbeats 4000000 in
theorem awake_any {w : World} (h : Lb w) : Calls Tryz.prog 11 #[] w fun e w' => e = .returned (.bool true) ∧ Below w.heap.size w w' := by
  have HL := Lib.hid h
  clear h
  go_enter Tryz.func11, Tryz.ntmps11
  go_wp2_with (go_at_call 13; refine (pparse_ok (s := exB) HL.out ex_parse).mono ?_; rintro e w1 ⟨v, rfl, hp1, hb1⟩; have HP1 := Lib.hid hp1; have HB1 := Lib.hid hb1; clear hp1 hb1; refine Hid.out ?_)
  have hp1 := HP1.out
  obtain ⟨a, c, b, o, c2, u1, c3, g, o3, c4, rfl, lb, lg, x0, x1, x2, x3, x4, x5, x6, x7, x8, x9, x10, x11, y1⟩ := ex_mem hp1
  have q : FE := ⟨exF, .slice u1 2 c3, .slice (some ⟨g, o3, none⟩) 1 c4⟩
  obtain ⟨W2, hW2⟩ : ∃ W2, (w1.alloc (.cells #[.slice a 2 c, .slice (some ⟨b, o, none⟩) 1 c2] 25)).alloc (.cells #[sv [102], sv [99, 108, 105, 99, 107, 115], sv [99, 111, 117, 110, 116, 115], .int .i64 5, .int .i64 2, .int .i64 3, .slice u1 2 c3, .int .i64 2, .int .i64 10, .int .i64 5, .int .i64 2, .slice (some ⟨g, o3, none⟩) 1 c4] 43) = W2 := ⟨_, rfl⟩
  have bw : Below w1.heap.size w1 W2 := by rw [← hW2]; exact ((Below.refl _ _).alloc (Nat.le_refl _) _).alloc (by simp) _
  have px : W2.heap[w1.heap.size]? = some (.cells #[.slice a 2 c, .slice (some ⟨b, o, none⟩) 1 c2] 25 (0, 0)) := by rw [← hW2]; exact (((Below.refl (w1.alloc (.cells #[.slice a 2 c, .slice (some ⟨b, o, none⟩) 1 c2] 25)).heap.size _).alloc (Nat.le_refl _) _).block _ (by simp)).trans (heap_alloc_new w1 _)
  have fx : W2.heap[w1.heap.size + 1]? = some (.cells #[sv [102], sv [99, 108, 105, 99, 107, 115], sv [99, 111, 117, 110, 116, 115], .int .i64 5, .int .i64 2, .int .i64 3, .slice u1 2 c3, .int .i64 2, .int .i64 10, .int .i64 5, .int .i64 2, .slice (some ⟨g, o3, none⟩) 1 c4] 43 (0, 0)) := by rw [← hW2]; have := heap_alloc_new (w1.alloc (.cells #[.slice a 2 c, .slice (some ⟨b, o, none⟩) 1 c2] 25)) (.cells #[sv [102], sv [99, 108, 105, 99, 107, 115], sv [99, 111, 117, 110, 116, 115], .int .i64 5, .int .i64 2, .int .i64 3, .slice u1 2 c3, .int .i64 2, .int .i64 10, .int .i64 5, .int .i64 2, .slice (some ⟨g, o3, none⟩) 1 c4] 43); rwa [World.size_alloc] at this
  have HFX := Lib.hid fx
  have HPL := Lib.hid (PlnAt.grow hp1 bw)
  have HL2 := Lib.hid ((HL.out.below HB1.out).below bw)
  have BW := Lib.hid bw
  have HY := Lib.hid (And.intro lg y1)
  have p0 : W2.cell? ⟨w1.heap.size, 0, none⟩ = some (.slice a 2 c) := by rw [cell_of_heap px]; rfl
  have p1 : W2.cell? ⟨w1.heap.size, 1, none⟩ = some (.slice (some ⟨b, o, none⟩) 1 c2) := by rw [cell_of_heap px]; rfl
  have n1 : ¬ b = w1.heap.size := Nat.ne_of_lt lb
  clear hp1 bw px fx lg y1 q
  refine Lib.hid ?_
  go_wp2_with (first
    | (go_at_call 15; refine (text_good HPL.out HL2.out.1 ex_check (ex_text.trans (show exB.data.toList = [116, 111, 112, 105, 99, 32, 99, 108, 105, 99, 107, 115, 32, 52, 10, 116, 111, 112, 105, 99, 32, 99, 111, 117, 110, 116, 115, 32, 49, 54, 10, 102, 108, 111, 119, 32, 102, 32, 102, 114, 111, 109, 32, 99, 108, 105, 99, 107, 115, 32, 116, 111, 32, 99, 111, 117, 110, 116, 115, 32, 98, 111, 117, 110, 100, 32, 53, 32, 114, 101, 97, 100, 101, 114, 115, 32, 50, 32, 107, 101, 101, 112, 101, 114, 115, 32, 51, 10, 102, 105, 108, 116, 101, 114, 32, 118, 32, 62, 32, 48, 10, 107, 101, 121, 32, 50, 10, 119, 105, 110, 100, 111, 119, 32, 115, 108, 105, 100, 101, 32, 49, 48, 32, 53, 10, 97, 103, 103, 32, 115, 117, 109, 10, 115, 101, 116, 32, 118, 32, 43, 32, 49, 10] from rfl))).mono ?_; rintro e w3 ⟨rfl, hb3⟩; have HB3 := Lib.hid hb3; have HL3 := Lib.hid (HL2.out.below hb3); clear hb3; refine Hid.out ?_))
  refine Lib.hid ?_
  go_wp2_with (first
    | (go_at_call 13; refine (pparse_err HL3.out ex_bad).mono ?_; rintro e w4 ⟨rfl, hb4⟩; have HB4 := Lib.hid hb4; clear hb4; refine Hid.out ?_))
  have hb24 : Below W2.heap.size W2 w4 := HB3.out.trans (HB4.out.mono HB3.out.size)
  have fx : w4.heap[w1.heap.size + 1]? = _ := (hb24.block _ (lt_of_heap HFX.out)).trans HFX.out
  have fxl := lt_of_heap fx
  have y0 : w4.cell? ⟨g, o3 + 1, none⟩ = some (sv [118, 32, 43, 32, 49]) := by
    rw [hb24.cell (p := ⟨g, o3 + 1, none⟩) (Nat.lt_of_lt_of_le HY.out.1 BW.out.size), BW.out.cell (p := ⟨g, o3 + 1, none⟩) HY.out.1]; exact HY.out.2
  have gl : g < w4.heap.size := Nat.lt_of_lt_of_le HY.out.1 (Nat.le_trans BW.out.size hb24.size)
  obtain ⟨z0, z1, z2, z3, z4, z5, z6, z7, z8, z9, z10, z11⟩ := cells12 fx
  have n2 : ¬ w1.heap.size + 1 = w4.heap.size := Nat.ne_of_lt fxl
  have n3 : ¬ g = w4.heap.size := Nat.ne_of_lt gl
  have HB := Lib.hid (HB1.out.trans ((BW.out.trans (hb24.mono BW.out.size)).mono HB1.out.size))
  clear hW2 p0 p1 x0 x1 x2 x3 x4 x5 x6 x7 x8 x9 x10 x11 hb24 fx HPL HL2 HL3 HB3 HB4 HFX HY
  refine Lib.hid ?_
  go_wp2
  go_ret
  exact ⟨rfl, HB.out.alloc HB.out.size _⟩
end Go.Proofs.YtogcickcodlepaaGreatDoor.Pl
/-
  Strings put behind one another, one byte of a string. Conditions: none.
-/
namespace Go.Proofs.YtogcickcodlepaaGreatDoor.Pl
open Go.RowKit Go.Proofs.YtogcickcodlepaaGreatDoor.Ex

theorem str_app (x y : Bs) : ((⟨x.toArray⟩ : ByteArray) ++ (⟨y.toArray⟩ : ByteArray)) = ⟨(x ++ y).toArray⟩ := by
  apply ByteArray.ext
  simp [ByteArray.data_append]
theorem ext_one (s : ByteArray) (k : Nat) (h : k < s.size) : s.extract k (k + 1) = ⟨[s[k]].toArray⟩ := by
  apply ByteArray.ext
  rw [ByteArray.data_extract]
  have h2 : k < s.data.size := h
  apply Array.ext'
  simp only [Array.toList_extract]
  rw [List.extract_eq_take_drop, show k + 1 - k = 1 by omega, List.drop_eq_getElem_cons (by simpa using h2)]
  rfl
end Go.Proofs.YtogcickcodlepaaGreatDoor.Pl
/-
  What the walks share: an empty plan, a plan's two rows, the parser's answer in one form. Conditions: the library's tables hold what they were laid with.
-/
namespace Go.Proofs.YtogcickcodlepaaGreatDoor.Pl
open Go.RowKit Go.Proofs.YtogcickcodlepaaGreatDoor.Ex

theorem PlnAt.empty (w : World) : PlnAt w (.agg #[.slice none 0 0, .slice none 0 0]) ⟨[], []⟩ := by
  refine ⟨_, _, [], rfl, ⟨none, 0, rfl, Nat.le_refl _, Nat.zero_le _, Nat.zero_le _, fun h => absurd rfl h⟩, ⟨⟨none, 0, rfl, Nat.le_refl _, Nat.zero_le _, Nat.zero_le _, fun h => absurd rfl h⟩, fun q hq => by cases hq⟩, rfl⟩
/-- A plan's value, its rows named. -/
theorem PlnAt.two {w : World} {v : Value} {p : Pln} (h : PlnAt w v p) : ∃ a n c b m d, v = .agg #[.slice a n c, .slice b m d] := by
  obtain ⟨vt, vf, es, rfl, ht, hf, _⟩ := h
  obtain ⟨a, c, rfl⟩ := ht.val
  obtain ⟨b, d, rfl⟩ := hf.1.val
  exact ⟨_, _, _, _, _, _, rfl⟩
def PRes.line : PRes → Nat
  | .ok _ => 0
  | .err l _ => l
def PRes.num : PRes → Int
  | .ok _ => 0
  | .err _ e => e
def PRes.plan : PRes → Pln
  | .ok p => p
  | .err _ _ => ⟨[], []⟩
theorem pparse_any {s : ByteArray} {w : World} {R : PRes} (h : Lb w) (hp : parsePlan s.data.toList = R) : Calls Tryz.prog 13 #[.string s] w fun e w' => ∃ v, e = .returned (.tuple #[v, .int .i64 R.line, .int .i64 R.num]) ∧ PlnAt w' v R.plan ∧ Below w.heap.size w w' := by
  cases R with
  | ok p => exact pparse_ok h hp
  | err l e =>
    refine (pparse_err h hp).mono ?_
    rintro x w' ⟨he, hb⟩
    exact ⟨_, he, PlnAt.empty w', hb⟩
end Go.Proofs.YtogcickcodlepaaGreatDoor.Pl
/-
  The document's comparison of plans says yes of two that are the same. Conditions: both lie in memory.
-/
namespace Go.Proofs.YtogcickcodlepaaGreatDoor.Pl
open Go.RowKit Go.Proofs.YtogcickcodlepaaGreatDoor.Ex

set_option maxRecDepth 20000 in
set_option maxHeartbeats 1000000 in
theorem sameSteps_yes {w : World} {a1 a2 : Option Addr} {n1 c1 n2 c2 : Nat} {L : List Stp} (h1 : StpsAt w (.slice a1 n1 c1) L) (h2 : StpsAt w (.slice a2 n2 c2) L) :
    Calls Tryz.prog 22 #[.slice a1 n1 c1, .slice a2 n2 c2] w fun e w' => e = .returned (.bool true) ∧ Below w.heap.size w w' := by
  obtain ⟨l1, m1, k1, j1⟩ := h1.1.len
  obtain ⟨l2, m2, k2, j2⟩ := h2.1.len
  have HL := Lib.hid l1
  obtain rfl : n2 = n1 := by omega
  have H1 := Lib.hid h1
  have H2 := Lib.hid h2
  have hm : n2 ≤ 9223372036854775807 := by unfold maxLen at k2; omega
  clear h1 h2 l1 l2
  go_enter Tryz.func22, Tryz.ntmps22
  go_wp2
  go_loopw [5] (fun i wr => ∃ k : Nat, k ≤ n2 ∧ i = .int .i64 k ∧ Hid (Below w.heap.size w wr)) (fun i _ => n2 - (intOf i).toNat)
  case atStart => exact ⟨0, Nat.zero_le _, rfl, Lib.hid (Below.refl _ _)⟩
  case round =>
    obtain ⟨k, hkn, rfl, hb⟩ := hrel
    by_cases hlt : k < n2
    · have hkl : k < L.length := by rw [← HL.out]; exact hlt
      obtain ⟨b, o, rfl, hbl, x0, x1, x2⟩ := (H1.out.grow hb.out).cells hkl
      obtain ⟨b', o', rfl, hbl', y0, y1, y2⟩ := (H2.out.grow hb.out).cells hkl
      generalize L[k] = s at x0 x1 x2 y0 y1 y2
      have g0 : (0 : Int) ≤ (k : Int) := by omega
      have g1 : (k : Int) < (n2 : Int) := by omega
      go_wp2
      go_region_held3 (fun X => X.cell? ⟨b, o + k * 3, none⟩ = some (.int .i64 s.kind) ∧ X.cell? ⟨b, o + k * 3 + 1, none⟩ = some (sv s.text) ∧ X.cell? ⟨b, o + k * 3 + 2, none⟩ = some (.int .i64 s.n) ∧ X.cell? ⟨b', o' + k * 3, none⟩ = some (.int .i64 s.kind) ∧ X.cell? ⟨b', o' + k * 3 + 1, none⟩ = some (sv s.text) ∧ X.cell? ⟨b', o' + k * 3 + 2, none⟩ = some (.int .i64 s.n)) (exact ⟨x0, x1, x2, y0, y1, y2⟩) (fail)
      all_goals go_wp2
      all_goals go_roundw
      case rel => exact ⟨k + 1, by omega, by go_num, Lib.hid (hb.out.trans (((Below.refl _ _).drew).mono hb.out.size))⟩
      case measure => simp [intOf]; omega
    · go_wp2
      go_ret
      exact ⟨rfl, hb.out⟩
theorem sameSteps_at {w : World} {v1 v2 : Value} {L : List Stp} (h1 : StpsAt w v1 L) (h2 : StpsAt w v2 L) :
    Calls Tryz.prog 22 #[v1, v2] w fun e w' => e = .returned (.bool true) ∧ Below w.heap.size w w' := by
  obtain ⟨a1, c1, rfl⟩ := h1.1.val
  obtain ⟨a2, c2, rfl⟩ := h2.1.val
  exact sameSteps_yes h1 h2
theorem map_at {es fs : List FE} (h : es.map FE.f = fs.map FE.f) {k : Nat} (hk : k < es.length) (hk2 : k < fs.length) : fs[k].f = es[k].f := by
  have := congrArg (fun l => l[k]?) h
  simp only [List.getElem?_map, List.getElem?_eq_getElem hk, List.getElem?_eq_getElem hk2, Option.map_some] at this
  injection this with this
  exact this.symm
set_option maxRecDepth 20000 in
set_option maxHeartbeats 4000000 in
theorem same_yes {w : World} {v1 v2 : Value} {p : Pln} (h1 : PlnAt w v1 p) (h2 : PlnAt w v2 p) :
    Calls Tryz.prog 12 #[v1, v2] w fun e w' => e = .returned (.bool true) ∧ Below w.heap.size w w' := by
  obtain ⟨vt, vf, es, rfl, ht, hf, he⟩ := h1
  obtain ⟨vt', vf', es', rfl, ht', hf', he'⟩ := h2
  obtain ⟨a1, c1, rfl⟩ := ht.val
  obtain ⟨a2, c2, rfl⟩ := ht'.val
  obtain ⟨b1, d1, rfl⟩ := hf.1.val
  obtain ⟨b2, d2, rfl⟩ := hf'.1.val
  have hlen : es'.length = es.length := by
    have := congrArg List.length (he.trans he'.symm); simpa using this.symm
  rw [hlen] at hf' ⊢
  obtain ⟨L, hL⟩ : ∃ L, p.tops = L := ⟨_, rfl⟩
  rw [hL] at ht ht' ⊢
  obtain ⟨-, -, k1, -⟩ := ht.len
  obtain ⟨-, -, k2, -⟩ := hf.1.len
  obtain ⟨n, hn⟩ : ∃ n, L.length = n := ⟨_, rfl⟩
  obtain ⟨m, hm⟩ : ∃ m, es.length = m := ⟨_, rfl⟩
  rw [hn] at ht ht' k1 ⊢
  rw [hm] at hf hf' hlen k2 ⊢
  have q1 : n ≤ 9223372036854775807 := by unfold maxLen at k1; omega
  have q2 : m ≤ 9223372036854775807 := by unfold maxLen at k2; omega
  have HN := Lib.hid hn
  have HM := Lib.hid hm
  have HM2 := Lib.hid hlen
  have HE := Lib.hid (he.trans he'.symm)
  have T1 := Lib.hid ht
  have T2 := Lib.hid ht'
  have F1 := Lib.hid hf
  have F2 := Lib.hid hf'
  have hb0 := ((Below.refl w.heap.size w).alloc (Nat.le_refl _) (.cells #[.slice a1 n c1, .slice b1 m d1] 25)).alloc (by simp) (.cells #[.slice a2 n c2, .slice b2 m d2] 25)
  obtain ⟨W0, hW0⟩ : ∃ W0, (w.alloc (.cells #[.slice a1 n c1, .slice b1 m d1] 25)).alloc (.cells #[.slice a2 n c2, .slice b2 m d2] 25) = W0 := ⟨_, rfl⟩
  have x1 : W0.heap[w.heap.size]? = some (.cells #[.slice a1 n c1, .slice b1 m d1] 25 (0, 0)) := by rw [← hW0]; exact (((Below.refl (w.alloc (.cells #[.slice a1 n c1, .slice b1 m d1] 25)).heap.size _).alloc (Nat.le_refl _) _).block _ (by simp)).trans (heap_alloc_new w _)
  have x2 : W0.heap[w.heap.size + 1]? = some (.cells #[.slice a2 n c2, .slice b2 m d2] 25 (0, 0)) := by rw [← hW0]; have := heap_alloc_new (w.alloc (.cells #[.slice a1 n c1, .slice b1 m d1] 25)) (.cells #[.slice a2 n c2, .slice b2 m d2] 25); rwa [World.size_alloc] at this
  rw [hW0] at hb0
  have X1 := Lib.hid x1
  have X2 := Lib.hid x2
  have HB0 := Lib.hid hb0
  have cx : ∀ W, Below W0.heap.size W0 W → W.cell? ⟨w.heap.size, 0, none⟩ = some (.slice a1 n c1) ∧ W.cell? ⟨w.heap.size, 1, none⟩ = some (.slice b1 m d1) ∧ W.cell? ⟨w.heap.size + 1, 0, none⟩ = some (.slice a2 n c2) ∧ W.cell? ⟨w.heap.size + 1, 1, none⟩ = some (.slice b2 m d2) := fun W hW => by
    have y1 : W.heap[w.heap.size]? = _ := (hW.block _ (lt_of_heap X1.out)).trans X1.out
    have y2 : W.heap[w.heap.size + 1]? = _ := (hW.block _ (lt_of_heap X2.out)).trans X2.out
    refine ⟨?_, ?_, ?_, ?_⟩
    · rw [cell_of_heap y1]; rfl
    · rw [cell_of_heap y1]; rfl
    · rw [cell_of_heap y2]; rfl
    · rw [cell_of_heap y2]; rfl
  have CX := Lib.hid cx
  clear ht ht' hf hf' he he' hn hm hL hlen hb0 x1 x2 cx k1 k2
  go_enter Tryz.func12, Tryz.ntmps12
  go_upto_region 1 with fail
  obtain ⟨z1, z2, z3, z4⟩ := CX.out W0 (Below.refl _ _)
  go_wp2
  clear z1 z2 z3 z4
  go_loopw [5] (fun i wr => ∃ k : Nat, k ≤ n ∧ i = .int .i64 k ∧ Hid (Below W0.heap.size W0 wr)) (fun i _ => n - (intOf i).toNat)
  case atStart => exact ⟨0, Nat.zero_le _, rfl, Lib.hid (Below.refl _ _)⟩
  case round =>
    obtain ⟨k, hkn, rfl, hb⟩ := hrel
    obtain ⟨z1, z2, z3, z4⟩ := CX.out wr hb.out
    by_cases hlt : k < n
    · have hkl : k < L.length := by rw [HN.out]; exact hlt
      have hB := HB0.out.trans (hb.out.mono HB0.out.size)
      obtain ⟨g, o, e1, hbl, x0, x1⟩ := (TopsAt.grow T1.out hB).cells hkl
      obtain ⟨g', o', e2, hbl', y0, y1⟩ := (TopsAt.grow T2.out hB).cells hkl
      generalize L[k] = s at x0 x1 y0 y1
      subst e1 e2
      clear hB hbl hbl'
      have g0 : (0 : Int) ≤ (k : Int) := by omega
      have g1 : (k : Int) < (n : Int) := by omega
      go_wp2
      go_region_held3 (fun X => X.cell? ⟨w.heap.size, 0, none⟩ = some (.slice (some ⟨g, o, none⟩) n c1) ∧ X.cell? ⟨w.heap.size + 1, 0, none⟩ = some (.slice (some ⟨g', o', none⟩) n c2) ∧ X.cell? ⟨g, o + k * 2, none⟩ = some (sv s.name) ∧ X.cell? ⟨g, o + k * 2 + 1, none⟩ = some (.int .i64 s.parts) ∧ X.cell? ⟨g', o' + k * 2, none⟩ = some (sv s.name) ∧ X.cell? ⟨g', o' + k * 2 + 1, none⟩ = some (.int .i64 s.parts)) (exact ⟨z1, z3, x0, x1, y0, y1⟩) (fail)
      all_goals go_wp2
      all_goals go_roundw
      case rel => exact ⟨k + 1, by omega, by go_num, Lib.hid (hb.out.trans (((Below.refl _ _).drew).mono hb.out.size))⟩
      case measure => simp [intOf]; omega
    · go_wp2
      rename World => wq
      clear z1 z2 z3 z4
      go_loopw [6, 7, 8] (fun i _ _ wr => ∃ k : Nat, k ≤ m ∧ i = .int .i64 k ∧ Hid (Below W0.heap.size W0 wr)) (fun i _ _ _ => m - (intOf i).toNat)
      case atStart => exact ⟨0, Nat.zero_le _, rfl, hb⟩
      case round =>
        clear hb
        obtain ⟨j, hjm, rfl, hb⟩ := hrel
        obtain ⟨z1, z2, z3, z4⟩ := CX.out wr hb.out
        by_cases hlt2 : j < m
        · have hk1 : j < es.length := by rw [HM.out]; exact hlt2
          have hk2 : j < es'.length := by rw [HM2.out]; exact hlt2
          have hB := HB0.out.trans (hb.out.mono HB0.out.size)
          have hm1 := ((F1.out.grow hB).2 _ (List.getElem_mem hk1))
          have hm2 := ((F2.out.grow hB).2 _ (List.getElem_mem hk2))
          have hff := map_at HE.out hk1 hk2
          obtain ⟨g, o, e1, hbl, x0, x1, x2, x3, x4, x5, x6, x7, x8, x9, x10, x11⟩ := (F1.out.grow hB).cells hk1
          obtain ⟨g', o', e2, hbl', y0, y1, y2, y3, y4, y5, y6, y7, y8, y9, y10, y11⟩ := (F2.out.grow hB).cells hk2
          generalize es'[j] = q' at hff hm2 y0 y1 y2 y3 y4 y5 y6 y7 y8 y9 y10 y11
          generalize es[j] = q at hff hm1 x0 x1 x2 x3 x4 x5 x6 x7 x8 x9 x10 x11
          obtain ⟨W1, hW1⟩ : ∃ W1, (wr.alloc (.cells (flwC q).toArray 43)).alloc (.cells (flwC q').toArray 43) = W1 := ⟨_, rfl⟩
          have bx1 : Box W1 wr.heap.size q := by rw [← hW1]; exact (Box.new wr q).grow ((Below.refl _ _).alloc (Nat.le_refl _) _)
          have bx2 : Box W1 (wr.heap.size + 1) q' := by rw [← hW1]; have := Box.new (wr.alloc (.cells (flwC q).toArray 43)) q'; rwa [World.size_alloc] at this
          have bw : Below wr.heap.size wr W1 := by rw [← hW1]; exact ((Below.refl _ _).alloc (Nat.le_refl _) _).alloc (by simp) _
          have hm1' := hm1.grow bw
          have hm2' := hm2.grow bw
          obtain ⟨f, pre1, post1⟩ := q
          obtain ⟨f', pre2, post2⟩ := q'
          dsimp only at hff
          subst hff
          subst e1 e2
          obtain ⟨u1, c5, e5⟩ := hm1.1.1.val
          obtain ⟨u2, c6, e6⟩ := hm1.2.1.val
          obtain ⟨u3, c7, e7⟩ := hm2.1.1.val
          obtain ⟨u4, c8, e8⟩ := hm2.2.1.val
          dsimp only at e5 e6 e7 e8
          subst e5 e6 e7 e8
          have g0 : (0 : Int) ≤ (j : Int) := by omega
          have g1 : (j : Int) < (m : Int) := by omega
          have P1 := Lib.hid hm1'.1
          have P2 := Lib.hid hm2'.1
          have Q1 := Lib.hid hm1'.2
          have Q2 := Lib.hid hm2'.2
          have BX1 := Lib.hid bx1
          have BX2 := Lib.hid bx2
          have BW := Lib.hid bw
          clear hB hm1 hm2 hm1' hm2' bx1 bx2 bw hbl
          dsimp only [flwC] at hW1
          have ne1 : w.heap.size + 1 < wr.heap.size := Nat.lt_of_lt_of_le (lt_of_heap X2.out) hb.out.size
          have ne2 : ¬ w.heap.size + 1 = wr.heap.size := Nat.ne_of_lt ne1
          have ne3 : ¬ g' = wr.heap.size := Nat.ne_of_lt hbl'
          obtain ⟨p0, p1, p2, p3, p4, p5, p6, p7, p8, p9, p10, p11⟩ := BX1.out.cells
          obtain ⟨t0, t1, t2, t3, t4, t5, t6, t7, t8, t9, t10, t11⟩ := BX2.out.cells
          go_wp2_with (first
            | (go_at_call 22; refine (sameSteps_at R1.out R2.out).mono ?_; rintro e w3 ⟨rfl, hb3⟩; have HB3 := Lib.hid hb3; clear hb3)
            | (go_at_call 22; refine (sameSteps_at P1.out P2.out).mono ?_; rintro e w2 ⟨rfl, hb2⟩; have HB2 := Lib.hid hb2; obtain ⟨-, -, -, -, -, -, -, -, -, -, -, r11⟩ := (BX1.out.grow hb2).cells; obtain ⟨-, -, -, -, -, -, -, -, -, -, -, s11⟩ := (BX2.out.grow hb2).cells; have R1 := Lib.hid (Q1.out.grow hb2); have R2 := Lib.hid (Q2.out.grow hb2); clear hb2))
          go_roundw
          case rel => exact ⟨j + 1, by omega, by go_num, Lib.hid (hb.out.trans ((BW.out.trans ((HB2.out.trans (HB3.out.mono HB2.out.size)).mono BW.out.size)).mono hb.out.size))⟩
          case measure => simp [intOf]; omega
        · go_wp2
          go_ret
          exact ⟨rfl, HB0.out.trans (hb.out.mono HB0.out.size)⟩
end Go.Proofs.YtogcickcodlepaaGreatDoor.Pl
/-
  What the listed variables give: the library's table of powers of ten; what the world's shape gives: bytealg's number. And a start that meets the list; and the wrap that hands a contract the list and the shape. Conditions: none.
-/
namespace Go.Proofs.YtogcickcodlepaaGreatDoor.Pl
open Go.RowKit Go.Proofs.YtogcickcodlepaaGreatDoor.Ex
abbrev laidList : List (String × DataW Unit) := Rows.planBlanksRow.laid
theorem door_met (os : Os) (args : Array Value) : laidMetH Tryz.prog laidList ((World.laidAll Tryz.prog os laidList).forCall (fun _ _ => 0) ⟨#[], args, []⟩).memory := by
  rw [MakeChecks.laidMetH_plain _ _ _ (by kernel_rfl)]; exact laidMet_laidAll _ (by kernel_rfl) (by kernel_rfl)
theorem tab_type : (Tryz.prog.globals[3]?).map (·.type) = some 184 := by kernel_rfl
theorem tab_of_laid {W : World} (h : laidMetH Tryz.prog laidList W) : Tab W := by
  rw [MakeChecks.laidMetH_plain _ _ _ (by kernel_rfl)] at h
  have h2 := h.tail.tail
  have ht : Lib.TabIs Tryz.prog W "internal/strconv.uint64pow10" .u64 Lib.pow10Tab :=
    Lib.tabIs_of_head tab_global tab_type Tryz.underlying184 Tryz.underlying155 (by kernel_rfl) (by kernel_rfl) h2
  exact ⟨ht, World.block_lt_of_cell? W _ (ht.cell tab_global 0 (by decide))⟩
theorem lb_of {W : World} (h : laidMetH Tryz.prog laidList W) (hsh : W.ShapedOpen Tryz.prog) : Lb W :=
  ⟨tab_of_laid h, Go.Proofs.cell_of_shapedOpen_int (P := Tryz.prog) (g := 0) (t := 3) (zero := #[.int .i64 0]) hsh (of_decide_eq_true (by kernel_rfl)) (by kernel_rfl) rfl (by kernel_rfl) (by kernel_rfl) Tryz.underlying3⟩
/-- A contract that asks for the listed variables, for the world's shape and for the reach gives the row's own word. -/
theorem handed_listed_shaped {H : Type} {enc : TypeId × Value → H} {a : Assume} {C : Checked} {os : Os} {f : FuncId} {fn : Func} {s : ChangeSpec} {conds : List PathCond} {apart fresh handsOn again : Bool} {X : World → Array Value → Prop}
    (hX : ∀ (w w' : World) (args : Array Value), w.heap = w'.heap → X w args → X w' args)
    (own : ownKnob C.prog.godebug = none) (started : os.Started) (noInit : C.prog.inits.idxOf? f = none) (hfn : C.prog.funcs[f]? = some fn)
    (witness : ∃ (w : World) (tape : Tape) (i : Input), w.os = os ∧ (w.forCall tape i).Shaped C.prog ∧ i.vars = [] ∧ Input.okWide C.prog (w.forCall tape i) .any w.heap.size f i ∧
      ((s.pre enc C.prog fn conds apart (w.forCall tape i).memory i.args ∧ X (w.forCall tape i).memory i.args) ∧ sizedMet enc C.prog fn (OpenSpec.ofChange s) apart (w.forCall tape i).memory i.args) ∧ a.holds C.prog (lone (Frame.enter C.prog f i.args .normal) [] (w.forCall tape i)))
    (contract : ∀ (W : World) (base : Nat) (args : Array Value) (ds gs : List (DataW H)) (before : List MemPlace),
      (∀ (j : Nat) t v, fn.params[j]? = some t → args[j]? = some v → Value.okWide C.prog W .any base t v) →
      DataW.Whole enc C.prog fn.params.toList s.vars apart W args.toList ds gs before →
      (DataW.weightsEach C.prog (fn.params.toList ++ s.plain.varTypes C.prog) (ds ++ gs)).all (· ≤ reachBytes) = true → X W args → W.ShapedOpen C.prog →
      Calls C.prog f args W fun e W' => ∃ v, e = .returned v ∧ s.post enc C.prog fn apart fresh handsOn again W args v W') :
    ReturnsInHanded a C os f .any (fun w args => (s.pre enc C.prog fn conds apart w args ∧ X w args) ∧ sizedMet enc C.prog fn (OpenSpec.ofChange s) apart w args) (s.post enc C.prog fn apart fresh handsOn again) := by
  refine returnsInHanded_of_calls own started noInit witness ?_
  intro w tape i _ hshape _ hok hpre _
  obtain ⟨_, _, _, fn', hfn', _, _, _, _, hval⟩ := hok
  cases Option.some.inj (hfn'.symm.trans hfn)
  obtain ⟨⟨⟨ds, gs, before, hwhole, _⟩, hx⟩, hsize⟩ := hpre
  have key := contract (w.forCall tape i) w.heap.size i.args ds gs before hval (DataW.Whole.of_heap (w' := w.forCall tape i) (by rfl) hwhole) (hsize.weights hwhole) (hX _ _ _ (by rfl) hx) hshape
  exact key.mono fun e W' ⟨v, he, hp⟩ => by
    subst he
    exact ChangeSpec.post_blind hp
end Go.Proofs.YtogcickcodlepaaGreatDoor.Pl
