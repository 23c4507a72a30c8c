/-
  Texts joined into one file. Each part says in its own head what is proved there, and under which conditions.
-/
import Derived.Test.YtogcickcodlepaaGreatDoorJQ1
import Derived.Test.YtogcickcodlepaaGreatDoorJP8
import Derived.Test.YtogcickcodlepaaGreatDoorJP7
import Derived.Test.YtogcickcodlepaaGreatDoorJP2
import Derived.Test.YtogcickcodlepaaGreatDoorJP1
import Derived.Test.YtogcickcodlepaaGreatDoorJP9
import Derived.Test.YtogcickcodlepaaGreatDoorJP5
import Derived.Laws.Tables
import Derived.Laws.Rows
import Derived.Laws.CopyOwn
set_option linter.unusedVariables false
set_option linter.unusedSimpArgs false
/-
  The document's Check. Conditions: the plan lies in memory; what the document's test of a flow says is handed in.
-/
namespace Go.Proofs.YtogcickcodlepaaGreatDoor.Pl
open Go.RowKit Go.Proofs.YtogcickcodlepaaGreatDoor.Ex

theorem findT_app (n : Bs) : ∀ (A B : List Top) (k : Nat), findT (A ++ B) n k = if findT A n k = -1 then findT B n (k + A.length) else findT A n k
  | [], B, k => by simp [findT]
  | t :: r, B, k => by
    by_cases h : t.name = n
    · have e1 : findT (t :: r ++ B) n k = (k : Int) := by simp [findT, h]
      have e2 : findT (t :: r) n k = (k : Int) := by simp [findT, h]
      rw [e1, e2, if_neg (by omega)]
    · have e1 : findT (t :: r ++ B) n k = findT (r ++ B) n (k + 1) := by simp [findT, h]
      have e2 : findT (t :: r) n k = findT r n (k + 1) := by simp [findT, h]
      rw [e1, e2, findT_app n r B (k + 1), List.length_cons, show k + 1 + r.length = k + (r.length + 1) by omega]
theorem find_lt {L : List Top} {i : Nat} (hi : i < L.length) (hp : ∀ t ∈ L.take i, 1 ≤ t.parts) : (findT L L[i].name 0 < (i : Int)) ↔ 0 < partsOf (L.take i) L[i].name := by
  obtain ⟨x, hx⟩ : ∃ x, L[i].name = x := ⟨_, rfl⟩
  rw [hx]
  have hl : (L.take i).length = i := by rw [List.length_take]; omega
  have h1 : findT L x 0 = if findT (L.take i) x 0 = -1 then findT (L.drop i) x (0 + (L.take i).length) else findT (L.take i) x 0 := by
    rw [← findT_app x (L.take i) (L.drop i) 0, List.take_append_drop]
  have h2 : findT (L.drop i) x (0 + (L.take i).length) = (i : Int) := by
    rw [List.drop_eq_getElem_cons hi, hl]; simp [findT, hx]
  rw [h1, h2]
  rcases findT_cases (L.take i) x 0 with ⟨a, b⟩ | ⟨j, hj, a, b, c⟩
  · rw [a, if_pos rfl, b]; omega
  · rw [a, if_neg (by omega), c]
    have := hp _ (List.getElem_mem hj)
    omega
theorem topErr_parts {e : List Top} {t : Top} (h : topErr e t = 0) : 1 ≤ t.parts := (topErr_zero h).2.1
/-- What the document's test of a flow does, as a premise. -/
def FlowDoes : Prop := ∀ {w : World} {at_ af : Option Addr} {nt ct nf cf i : Nat} {ts : List Top} {es : List FE}, TopsAt w (.slice at_ nt ct) ts → FlwsAt w (.slice af nf cf) es → ∀ (hi : i < es.length), (∀ t ∈ ts, 1 ≤ t.parts) → ∀ {R : Int}, flwErr ts (es.map FE.f) ((es.map FE.f).take i) es[i].f = R →
    Calls Tryz.prog 21 #[.agg #[.slice at_ nt ct, .slice af nf cf], .int .i64 i] w fun e w' => e = .returned (.int .i64 R) ∧ Below w.heap.size w w'
theorem flow_of (HFD : FlowDoes) {w : World} {at_ af : Option Addr} {nt ct nf cf i : Nat} {ts : List Top} {es : List FE} (ht : TopsAt w (.slice at_ nt ct) ts) (hf : FlwsAt w (.slice af nf cf) es) {fs : List Flw} (hfs : es.map FE.f = fs) (hi : i < fs.length) (hts : ∀ t ∈ ts, 1 ≤ t.parts)
    {R : Int} (hR : flwErr ts fs (fs.take i) fs[i] = R) :
    Calls Tryz.prog 21 #[.agg #[.slice at_ nt ct, .slice af nf cf], .int .i64 i] w fun e w' => e = .returned (.int .i64 R) ∧ Below w.heap.size w w' := by
  subst hfs
  have hi' : i < es.length := by simpa using hi
  refine HFD ht hf hi' hts ?_
  rw [← hR]
  simp [List.map_take]
theorem take_parts {L : List Top} {k : Nat} (hk : k < L.length) (h : ∀ t ∈ L.take k, 1 ≤ t.parts) (hz : 1 ≤ L[k].parts) : ∀ t ∈ L.take (k + 1), 1 ≤ t.parts := by
  rw [List.take_succ_eq_append_getElem hk]
  intro t ht
  rcases List.mem_append.1 ht with h1 | h1
  · exact h t h1
  · rw [List.mem_singleton.1 h1]; exact hz
set_option maxRecDepth 20000 in
set_option maxHeartbeats 4000000 in
theorem rcheck_any (HFD : FlowDoes) {w : World} {v : Value} {p : Pln} (h : PlnAt w v p) : Calls Tryz.prog 10 #[v] w fun e w' => RetAt (check p) e ∧ Below w.heap.size w w' := by
  obtain ⟨vt, vf, es, rfl, ht, hf, he⟩ := h
  obtain ⟨a1, c1, rfl⟩ := ht.val
  obtain ⟨a2, c2, rfl⟩ := hf.1.val
  obtain ⟨n, hn⟩ : ∃ n, p.tops.length = n := ⟨_, rfl⟩
  obtain ⟨m, hm⟩ : ∃ m, es.length = m := ⟨_, rfl⟩
  have hml : p.flws.length = m := by rw [← he, List.length_map, hm]
  obtain ⟨-, -, k1, -⟩ := ht.len
  obtain ⟨-, -, k2, -⟩ := hf.1.len
  unfold maxLen at k1 k2
  rw [hn] at ht k1 ⊢
  rw [hm] at hf k2 ⊢
  obtain ⟨W, hW⟩ : ∃ W, w.alloc (.cells #[.slice a1 n c1, .slice a2 m c2] 25) = W := ⟨_, rfl⟩
  have bw : Below w.heap.size w W := by rw [← hW]; exact (Below.refl _ _).alloc (Nat.le_refl _) _
  have hx : PBox W w.heap.size (.slice a1 n c1) (.slice a2 m c2) := by rw [← hW]; exact heap_alloc_new w _
  obtain ⟨X, hX⟩ : ∃ X, check p = X := ⟨_, rfl⟩
  rw [hX]
  unfold check at hX
  rw [hn, hml] at hX
  obtain ⟨p0, p1⟩ := hx.cells
  by_cases hbig : 16 < n ∨ 8 < m
  · rw [if_pos hbig] at hX
    rw [← hX]
    have HB := Lib.hid bw
    rcases Nat.lt_or_ge 16 n with hb | hb
    · have hb' : (16 : Int) < (n : Int) := by omega
      clear ht hf hX he hml bw hx hbig
      go_enter Tryz.func10, Tryz.ntmps10
      go_wp2
      go_ret2
      exact ⟨rfl, HB.out⟩
    · have hb' : ¬ (16 : Int) < (n : Int) := by omega
      have hc' : (8 : Int) < (m : Int) := by omega
      clear ht hf hX he hml bw hx hbig
      go_enter Tryz.func10, Tryz.ntmps10
      go_wp2
      go_ret2
      exact ⟨rfl, HB.out⟩
  · rw [if_neg hbig] at hX
    have hck := hX
    have hb' : ¬ (16 : Int) < (n : Int) := by omega
    have hc' : ¬ (8 : Int) < (m : Int) := by omega
    have HCK := Lib.hid hck
    have HB := Lib.hid bw
    have HX := Lib.hid hx
    have HT := Lib.hid (Lst.grow ht bw)
    have HF := Lib.hid (hf.grow bw)
    have HE := Lib.hid he
    have HN := Lib.hid (And.intro hn hm)
    have H0 : Hid (topsErr (p.tops.take 0) (p.tops.drop 0) = topsErr [] p.tops) := Lib.hid (by simp)
    have hn16 : n ≤ 16 := by omega
    have hm8 : m ≤ 8 := by omega
    clear ht hf hX he hml bw hx hck hn hm hbig k1 k2
    go_enter Tryz.func10, Tryz.ntmps10
    go_wp2
    obtain ⟨Y, hY⟩ : ∃ Y, topsErr [] p.tops = Y := ⟨_, rfl⟩
    have hc0 := HCK.out
    rw [hY] at hc0
    have HC0 := Lib.hid hc0
    have H1 : Hid (topsErr (p.tops.take 0) (p.tops.drop 0) = Y) := Lib.hid (by rw [H0.out, hY])
    have H2 : Hid (∀ t ∈ p.tops.take 0, 1 ≤ t.parts) := Lib.hid (by simp)
    have HW := Lib.hid hW
    clear hc0 hY hW HCK H0 p0 p1
    obtain ⟨bp, hbp⟩ : ∃ bp, w.heap.size = bp := ⟨_, rfl⟩
    have HB0 := HB
    rw [hbp] at HX ⊢
    clear hbp HW
    go_loopw [4, 5] (fun i _ wr => ∃ k : Nat, k ≤ n ∧ i = .int .i64 k ∧ Hid (topsErr (p.tops.take k) (p.tops.drop k) = Y) ∧ Hid (∀ t ∈ p.tops.take k, 1 ≤ t.parts) ∧ Hid (Below W.heap.size W wr)) (fun i _ _ => n - (intOf i).toNat)
    case atStart => exact ⟨0, Nat.zero_le _, rfl, H1, H2, Lib.hid (Below.refl _ _)⟩
    case round =>
      obtain ⟨k, hk, rfl, hr, hq, hb⟩ := hrel
      obtain ⟨p0, p1⟩ := (HX.out.grow hb.out).cells
      have bl : bp < wr.heap.size := lt_of_heap (HX.out.grow hb.out)
      have bn : ¬ bp = wr.heap.size := Nat.ne_of_lt bl
      by_cases hlt : k < n
      · have hkl : k < p.tops.length := by rw [HN.out.1]; exact hlt
        have hd := topsErr_drop p.tops k hkl
        rw [hr.out] at hd
        obtain ⟨b, o, rfl, hbl, c0, c1⟩ := TopsAt.cells (TopsAt.grow HT.out hb.out) hkl
        obtain ⟨nm, hnm⟩ : ∃ nm, p.tops[k].name = nm := ⟨_, rfl⟩
        obtain ⟨pt, hpt⟩ : ∃ pt, p.tops[k].parts = pt := ⟨_, rfl⟩
        have hf1 := find_lt hkl hq.out
        have hq1 := fun h => take_parts hkl hq.out h
        unfold topErr at hd
        rw [hnm] at hd hf1 c0
        rw [hpt] at hd hq1 c1
        obtain ⟨F, hF⟩ : ∃ F, findT p.tops nm 0 = F := ⟨_, rfl⟩
        rw [hF] at hf1
        have HFi := Lib.hid hF
        have HTk := Lib.hid (TopsAt.grow HT.out (hb.out.alloc hb.out.size (.cells #[sv nm, .int .i64 pt] 47)))
        have HB2 := Lib.hid (hb.out.alloc hb.out.size (.cells #[sv nm, .int .i64 pt] 47))
        clear hr hnm hpt hF
        by_cases g1 : isName nm = false
        · have HR : Hid (RetAt X (.returned (.tuple #[.int .i64 ((k : Int) + 1), .int .i64 51]))) := Lib.hid (by
            rw [if_pos g1, if_neg (by omega)] at hd
            rw [← HC0.out, hd]
            show _ = _
            simp only [Int.add_comm, Int.natCast_add]; rfl)
          have G1 := Lib.hid g1
          clear hd hf1 hq1 g1
          go_wp2_with (go_at_call 19; refine (rname_at nm _ G1.out).mono ?_; rintro e w2 ⟨rfl, rfl⟩)
          go_ret2
          exact ⟨HR.out, HB.out.trans (HB2.out.mono HB.out.size)⟩
        rw [if_neg g1] at hd
        have G1 : Hid (isName nm = true) := Lib.hid (by simpa using g1)
        clear g1
        by_cases g2 : F < (k : Int)
        · have HR : Hid (RetAt X (.returned (.tuple #[.int .i64 ((k : Int) + 1), .int .i64 52]))) := Lib.hid (by
            rw [if_pos (hf1.1 g2), if_neg (by omega)] at hd
            rw [← HC0.out, hd]
            show _ = _
            simp only [Int.add_comm, Int.natCast_add]; rfl)
          clear hd hf1 hq1
          go_wp2_with (first
            | (go_at_call 19; refine (rname_at nm _ G1.out).mono ?_; rintro e w2 ⟨rfl, rfl⟩)
            | (go_at_call 20; refine (rfind_at HTk.out HFi.out).mono ?_; rintro e w2 ⟨rfl, rfl⟩))
          go_ret2
          exact ⟨HR.out, HB.out.trans (HB2.out.mono HB.out.size)⟩
        rw [if_neg (fun h => g2 (hf1.2 h))] at hd
        by_cases g3 : pt < 1 ∨ 16 < pt
        · have HR : Hid (RetAt X (.returned (.tuple #[.int .i64 ((k : Int) + 1), .int .i64 1]))) := Lib.hid (by
            rw [if_pos g3, if_neg (by omega)] at hd
            rw [← HC0.out, hd]
            show _ = _
            simp only [Int.add_comm, Int.natCast_add]; rfl)
          clear hd hf1 hq1
          by_cases g4 : pt < 1
          · clear g3
            go_wp2_with (first
              | (go_at_call 19; refine (rname_at nm _ G1.out).mono ?_; rintro e w2 ⟨rfl, rfl⟩)
              | (go_at_call 20; refine (rfind_at HTk.out HFi.out).mono ?_; rintro e w2 ⟨rfl, rfl⟩))
            go_ret2
            exact ⟨HR.out, HB.out.trans (HB2.out.mono HB.out.size)⟩
          · have g5 : 16 < pt := by omega
            clear g3
            go_wp2_with (first
              | (go_at_call 19; refine (rname_at nm _ G1.out).mono ?_; rintro e w2 ⟨rfl, rfl⟩)
              | (go_at_call 20; refine (rfind_at HTk.out HFi.out).mono ?_; rintro e w2 ⟨rfl, rfl⟩))
            go_ret2
            exact ⟨HR.out, HB.out.trans (HB2.out.mono HB.out.size)⟩
        · have g4 : ¬ pt < 1 := fun h => g3 (.inl h)
          have g5 : ¬ 16 < pt := fun h => g3 (.inr h)
          have HD2 : Hid (topsErr (p.tops.take (k + 1)) (p.tops.drop (k + 1)) = Y) := Lib.hid (by rw [hd, if_neg g3, if_pos rfl])
          have HQ2 := Lib.hid (hq1 (by omega))
          clear hd hf1 hq1 g3
          go_wp2_with (first
            | (go_at_call 19; refine (rname_at nm _ G1.out).mono ?_; rintro e w2 ⟨rfl, rfl⟩)
            | (go_at_call 20; refine (rfind_at HTk.out HFi.out).mono ?_; rintro e w2 ⟨rfl, rfl⟩))
          go_roundw
          case rel => exact ⟨k + 1, by omega, by go_num, HD2, HQ2, HB2⟩
          case measure => simp [intOf]; omega
      · have hkn : k = n := by omega
        have HX0 : Hid (Y = none) := Lib.hid (by rw [← hr.out, hkn, ← HN.out.1, List.drop_length]; rfl)
        have HP2 : Hid (∀ t ∈ p.tops, 1 ≤ t.parts) := Lib.hid (by
          have := hq.out
          rw [hkn, ← HN.out.1, List.take_length] at this
          exact this)
        clear hr hq hkn
        obtain ⟨Z, hZ⟩ : ∃ Z, flwsErr p.tops p.flws [] p.flws = Z := ⟨_, rfl⟩
        have hc2 := HC0.out
        rw [HX0.out] at hc2
        simp only at hc2
        rw [hZ] at hc2
        have HC2 := Lib.hid hc2
        have H3 : Hid (flwsErr p.tops p.flws (p.flws.take 0) (p.flws.drop 0) = Z) := Lib.hid (by rw [← hZ]; rfl)
        have HNF : Hid (p.flws.length = m) := Lib.hid (by rw [← HE.out, List.length_map]; exact HN.out.2)
        clear hc2 hZ bl bn
        go_wp2
        rename World => wq
        go_loopw [6, 7] (fun i _ wr => ∃ k : Nat, k ≤ m ∧ i = .int .i64 k ∧ Hid (flwsErr p.tops p.flws (p.flws.take k) (p.flws.drop k) = Z) ∧ Hid (Below W.heap.size W wr)) (fun i _ _ => m - (intOf i).toNat)
        case atStart => exact ⟨0, Nat.zero_le _, rfl, H3, hb⟩
        case round =>
          obtain ⟨j, hj, rfl, hr, hb'⟩ := hrel
          obtain ⟨p0, p1⟩ := (HX.out.grow hb'.out).cells
          by_cases hlt2 : j < m
          · have hkl : j < p.flws.length := by rw [HNF.out]; exact hlt2
            have hd := flwsErr_drop p.tops p.flws p.flws j hkl
            rw [hr.out] at hd
            obtain ⟨z, hz⟩ : ∃ z, flwErr p.tops p.flws (p.flws.take j) p.flws[j] = z := ⟨_, rfl⟩
            rw [hz] at hd
            have HZ := Lib.hid hz
            have HD := Lib.hid hd
            have HTr := Lib.hid (TopsAt.grow HT.out hb'.out)
            have HFr := Lib.hid (FlwsAt.grow HF.out hb'.out)
            clear hz hd hr
            by_cases h0 : z = 0
            · have e0 := inebf h0
              have HD2 : Hid (flwsErr p.tops p.flws (p.flws.take (j + 1)) (p.flws.drop (j + 1)) = Z) := Lib.hid (by rw [HD.out, if_pos h0])
              clear h0
              go_wp2_with (go_at_call 21; refine (flow_of HFD HTr.out HFr.out HE.out hkl HP2.out HZ.out).mono ?_; rintro e w2 ⟨rfl, hb2⟩; have HB2 := Lib.hid (hb'.out.trans (hb2.mono hb'.out.size)); clear hb2)
              go_roundw
              case rel => exact ⟨j + 1, by omega, by go_num, HD2, HB2⟩
              case measure => simp [intOf]; omega
            · have e0 := inebt h0
              have HD2 : Hid (RetAt X (.returned (.tuple #[.int .i64 (101 + (j : Int)), .int .i64 z]))) := Lib.hid (by rw [← HC2.out, HD.out, if_neg h0]; rfl)
              clear h0
              go_wp2_with (go_at_call 21; refine (flow_of HFD HTr.out HFr.out HE.out hkl HP2.out HZ.out).mono ?_; rintro e w2 ⟨rfl, hb2⟩; have HB2 := Lib.hid (hb'.out.trans (hb2.mono hb'.out.size)); clear hb2)
              go_ret2
              exact ⟨HD2.out, HB.out.trans (HB2.out.mono HB.out.size)⟩
          · have hkn2 : j = m := by omega
            have HD2 : Hid (RetAt X (.returned (.tuple #[.int .i64 0, .int .i64 0]))) := Lib.hid (by rw [← HC2.out, ← hr.out, hkn2, ← HNF.out, List.drop_length]; rfl)
            clear hr hkn2
            go_wp2
            go_ret2
            exact ⟨HD2.out, HB.out.trans (hb'.out.mono HB.out.size)⟩
end Go.Proofs.YtogcickcodlepaaGreatDoor.Pl
/-
  The document's numbers of a word, of words. Conditions: the words lie in memory.
-/
namespace Go.Proofs.YtogcickcodlepaaGreatDoor.Pl
open Go.RowKit Go.Proofs.YtogcickcodlepaaGreatDoor.Ex

/-- A word as a number; below zero: it is none. -/
def rnum (l : Bs) : Int := if isNumber l = true then numOf l else -1
theorem rnum_ge (l : Bs) : (0 ≤ rnum l) ↔ isNumber l = true := by
  unfold rnum
  split
  · rename_i h; exact ⟨fun _ => h, fun _ => (numOf_small h).1⟩
  · rename_i h; exact ⟨fun h2 => by omega, fun h2 => absurd h2 h⟩
theorem rnum_num {l : Bs} (h : isNumber l = true) : rnum l = numOf l := if_pos h
theorem rnum_lt (l : Bs) : -1 ≤ rnum l ∧ rnum l < 1000000000000000000 := by
  unfold rnum
  split
  · rename_i h; have := numOf_small h; omega
  · omega
theorem fold_drop (s : ByteArray) (k acc : Nat) (h : k < s.size) : (s.data.toList.drop k).foldl (fun a (b : UInt8) => 10 * a + (b.toNat - 48)) acc = (s.data.toList.drop (k + 1)).foldl (fun a (b : UInt8) => 10 * a + (b.toNat - 48)) (10 * acc + (s[k].toNat - 48)) := by
  rw [List.drop_eq_getElem_cons (by simpa using h)]; rfl
theorem pow_step {acc k d : Nat} (h : acc < 10 ^ k) (hd : d ≤ 9) : 10 * acc + d < 10 ^ (k + 1) := by rw [Nat.pow_succ]; omega
theorem pow_nine {acc k : Nat} (h : acc < 10 ^ k) (hk : k ≤ 9) : acc < 1000000000 := Nat.lt_of_lt_of_le h (Nat.pow_le_pow_right (n := 10) (by decide) hk)
set_option maxHeartbeats 1000000 in
theorem rnumber_any (s : ByteArray) (w : World) : Calls Tryz.prog 54 #[.string s] w fun e w' => e = .returned (.int .i64 (rnum s.data.toList)) ∧ w = w' := by
  have hlen : s.data.toList.length = s.size := by simp
  by_cases hb : s.size < 1 ∨ 9 < s.size
  · have H : Hid (rnum s.data.toList = -1) := Lib.hid (by
      have : isNumber s.data.toList = false := by unfold isNumber; rw [hlen]; rcases hb with h | h <;> simp <;> omega
      unfold rnum; rw [this]; rfl)
    clear hlen
    rcases hb with h | h
    · go_enter Tryz.func54, Tryz.ntmps54
      go_wp2
      go_ret
      exact ⟨by rw [H.out]; rfl, rfl⟩
    · have h1 : ¬ s.size < 1 := by omega
      go_enter Tryz.func54, Tryz.ntmps54
      go_wp2
      go_ret
      exact ⟨by rw [H.out]; rfl, rfl⟩
  · have h1 : ¬ s.size < 1 := by omega
    have h2 : ¬ 9 < s.size := by omega
    have H : Hid (isNumber s.data.toList = s.data.toList.all isDig) := Lib.hid (by unfold isNumber; rw [hlen, decide_eq_true (by omega : 1 ≤ s.size), decide_eq_true (by omega : s.size ≤ 9)]; rfl)
    clear hlen hb
    go_enter Tryz.func54, Tryz.ntmps54
    go_wp2
    go_loop [3, 4] (fun n i => ∃ k acc : Nat, k ≤ s.size ∧ i = .int .i64 k ∧ n = .int .i64 acc ∧ Hid (acc < 10 ^ k) ∧ Hid (isNumber s.data.toList = (s.data.toList.drop k).all isDig) ∧ Hid (numVal s.data.toList = (s.data.toList.drop k).foldl (fun a (b : UInt8) => 10 * a + (b.toNat - 48)) acc)) (fun _ i => s.size - (intOf i).toNat)
    case atStart => exact ⟨0, 0, Nat.zero_le _, rfl, rfl, Lib.hid (by decide), by simpa using H, Lib.hid rfl⟩
    case round =>
      obtain ⟨k, acc, hk, rfl, rfl, hac, hr, hv⟩ := hrel
      have hacc := pow_nine hac.out (by omega)
      by_cases hlt : k < s.size
      · have hd := all_drop (P := isDig) s.data.toList k (by simpa using hlt)
        have hfd := fold_drop s k acc hlt
        obtain ⟨c, hc⟩ : ∃ c, s[k].toNat = c := ⟨_, rfl⟩
        rw [hc] at hfd
        cases hp : isDig s[k] with
        | true =>
          have HR : Hid (isNumber s.data.toList = (s.data.toList.drop (k + 1)).all isDig) := Lib.hid (by
            have : isDig s.data.toList[k] = true := hp
            rw [hr.out, hd, this]; rfl)
          simp only [isDig, Bool.and_eq_true, decide_eq_true_eq] at hp
          have HV : Hid (numVal s.data.toList = (s.data.toList.drop (k + 1)).foldl (fun a (b : UInt8) => 10 * a + (b.toNat - 48)) (10 * acc + (c - 48))) := Lib.hid (by rw [hv.out, hfd])
          have HA : Hid (10 * acc + (c - 48) < 10 ^ (k + 1)) := Lib.hid (pow_step hac.out (by omega))
          rw [hc] at hp
          have HC := Lib.hid hc
          have g1 : ¬ (s[k].toNat : Int) < 48 := by rw [hc]; omega
          have g2 : ¬ 57 < (s[k].toNat : Int) := by rw [hc]; omega
          clear hr hd hfd hv hac hc
          go_wp2
          go_round
          case rel => exact ⟨k + 1, 10 * acc + (c - 48), by omega, by go_num, (by have := HC.out; simp only [this]; go_num), HA, HR, HV⟩
          case measure => simp [intOf]; omega
        | false =>
          have HR : Hid (rnum s.data.toList = -1) := Lib.hid (by
            have : isDig s.data.toList[k] = false := hp
            have h0 : isNumber s.data.toList = false := by rw [hr.out, hd, this]; rfl
            unfold rnum; rw [h0]; rfl)
          have hp' : ¬ (48 ≤ s[k].toNat ∧ s[k].toNat ≤ 57) := by simpa [isDig] using hp
          clear hr hd hp hfd hc hv hac
          by_cases g1 : (s[k].toNat : Int) < 48
          · go_wp2
            go_ret
            exact ⟨by rw [HR.out]; rfl, rfl⟩
          · have g2 : 57 < (s[k].toNat : Int) := by omega
            clear hp'
            go_wp2
            go_ret
            exact ⟨by rw [HR.out]; rfl, rfl⟩
      · have hdr : s.data.toList.drop k = [] := List.drop_eq_nil_of_le (by simp; omega)
        have HR : Hid (rnum s.data.toList = acc) := Lib.hid (by
          have h0 : isNumber s.data.toList = true := by rw [hr.out, hdr]; rfl
          have h1 : numVal s.data.toList = acc := by rw [hv.out, hdr]; rfl
          rw [rnum_num h0]; unfold numOf; rw [h1])
        clear hr hv hac hdr
        go_wp2
        go_ret
        exact ⟨by rw [HR.out]; rfl, rfl⟩
theorem rnumber_at (l : Bs) (w : World) {r : Int} (hr : rnum l = r) : Calls Tryz.prog 54 #[sv l] w fun e w' => e = .returned (.int .i64 r) ∧ w = w' := by
  subst hr; exact rnumber_any ⟨l.toArray⟩ w
theorem all_dropN (L : List Bs) (k : Nat) (h : k < L.length) : (L.drop k).all isNumber = (isNumber L[k] && (L.drop (k + 1)).all isNumber) := by
  rw [List.drop_eq_getElem_cons h]; rfl
set_option maxHeartbeats 1000000 in
theorem rnumbers_at {w : World} {v : Value} {L : List Bs} (h : WdsAt w v L) {R : Bool} (hR : L.all isNumber = R) : Calls Tryz.prog 82 #[v] w fun e w' => e = .returned (.bool R) ∧ w = w' := by
  obtain ⟨a, c, rfl⟩ := Lst.val h
  obtain ⟨n, hn⟩ : ∃ n, L.length = n := ⟨_, rfl⟩
  obtain ⟨-, -, k2, -⟩ := Lst.len h
  rw [hn] at h k2 ⊢
  have q2 : n ≤ 9223372036854775807 := by unfold maxLen at k2; omega
  have HN := Lib.hid hn
  have HL := Lib.hid h
  have H0 : Hid ((L.drop 0).all isNumber = R) := Lib.hid (by simpa using hR)
  clear h hR hn k2
  go_enter Tryz.func82, Tryz.ntmps82
  go_wp2
  go_loop [3] (fun i => ∃ k : Nat, k ≤ n ∧ i = .int .i64 k ∧ Hid ((L.drop k).all isNumber = R)) (fun i => n - (intOf i).toNat)
  case atStart => exact ⟨0, Nat.zero_le _, rfl, H0⟩
  case round =>
    obtain ⟨k, hk, rfl, hr⟩ := hrel
    by_cases hlt : k < n
    · have hkl : k < L.length := by rw [HN.out]; exact hlt
      have hd := all_dropN L k hkl
      rw [hr.out] at hd
      obtain ⟨b, o, rfl, hbl, c0⟩ := WdsAt.cell HL.out hkl
      obtain ⟨x, hx⟩ : ∃ x, L[k] = x := ⟨_, rfl⟩
      rw [hx] at hd c0
      obtain ⟨y, hy⟩ : ∃ y, rnum x = y := ⟨_, rfl⟩
      have hg := rnum_ge x
      rw [hy] at hg
      have HY := Lib.hid hy
      have g0 : (0 : Int) ≤ (k : Int) := by omega
      have g1 : (k : Int) < (n : Int) := by omega
      clear hr hx hy hkl
      by_cases hp : y < 0
      · have HR : Hid (R = false) := Lib.hid (by
          have : isNumber x = false := by
            cases e : isNumber x with
            | false => rfl
            | true => have := hg.2 e; omega
          rw [hd, this]; rfl)
        clear hd hg
        go_wp2_with (go_at_call 54; refine (rnumber_at _ _ HY.out).mono ?_; rintro e w2 ⟨rfl, rfl⟩)
        go_ret
        exact ⟨by rw [HR.out]; rfl, rfl⟩
      · have HR : Hid ((L.drop (k + 1)).all isNumber = R) := Lib.hid (by
          have : isNumber x = true := hg.1 (by omega)
          rw [hd, this]; rfl)
        clear hd hg
        go_wp2_with (go_at_call 54; refine (rnumber_at _ _ HY.out).mono ?_; rintro e w2 ⟨rfl, rfl⟩)
        go_round
        case rel => exact ⟨k + 1, by omega, by go_num, HR⟩
        case measure => simp [intOf]; omega
    · have HR : Hid (R = true) := Lib.hid (by rw [← hr.out, List.drop_eq_nil_of_le (by have := HN.out; omega)]; rfl)
      clear hr
      go_wp2
      go_ret
      exact ⟨by rw [HR.out]; rfl, rfl⟩
end Go.Proofs.YtogcickcodlepaaGreatDoor.Pl
/-
  The document's words of a line, its lines of a text. Conditions: the text is no longer than 4096 bytes.
-/
namespace Go.Proofs.YtogcickcodlepaaGreatDoor.Pl
open Go.RowKit Go.Proofs.YtogcickcodlepaaGreatDoor.Ex

def wcs (L : List Bs) : List Value := L.flatMap fun x => [sv x]
theorem wcs_snoc (L : List Bs) (x : Bs) : wcs (L ++ [x]) = wcs L ++ [sv x] := by simp [wcs]
theorem one_str (x : Bs) : ∀ u ∈ [sv x], u.oneCell' = true := by
  intro u hu; simp only [List.mem_cons, List.not_mem_nil, or_false] at hu; rcases hu with rfl; rfl
theorem wds_row {w : World} {B : Nat} {v : Value} {L : List Bs} (h : w.ownsRow B 9 1 v L.length (wcs L)) : WdsAt w v L := lst_row h (fun _ _ => rfl)
def wrest (l : Bs) (k : Nat) (cur : Bs) : List Bs := if k ≤ l.length then wordsGo cur (l.drop k) else []
theorem wrest_le {l : Bs} {k : Nat} (cur : Bs) (h : k ≤ l.length) : wrest l k cur = wordsGo cur (l.drop k) := if_pos h
theorem wrest_in {l : Bs} {k : Nat} (cur : Bs) (h : k < l.length) : wrest l k cur = if l[k] = 32 then (if cur = [] then wrest l (k + 1) [] else cur :: wrest l (k + 1) []) else wrest l (k + 1) (cur ++ [l[k]]) := by
  have h1 : ∀ c, wrest l (k + 1) c = wordsGo c (l.drop (k + 1)) := fun c => wrest_le c (by omega)
  rw [wrest_le cur (by omega), h1, h1, List.drop_eq_getElem_cons h]
  simp only [wordsGo]
theorem wrest_end {l : Bs} {k : Nat} (cur : Bs) (h : k = l.length) : wrest l k cur = if cur = [] then wrest l (k + 1) [] else cur :: wrest l (k + 1) [] := by
  have h1 : wrest l (k + 1) [] = [] := if_neg (by omega)
  rw [wrest_le cur (by omega), h1, h, List.drop_length]
  simp only [wordsGo]
set_option maxRecDepth 20000 in
set_option maxHeartbeats 1000000 in
theorem rwords_any (s : ByteArray) (w : World) (hs : s.size ≤ 4096) {ws : List Bs} (hw : wordsOf s.data.toList = ws) :
    Calls Tryz.prog 29 #[.string s] w fun e w' => ∃ v, e = .returned v ∧ w'.ownsRow w.heap.size 9 1 v ws.length (wcs ws) ∧ Below w.heap.size w w' := by
  obtain ⟨l, hl⟩ : ∃ l, s.data.toList = l := ⟨_, rfl⟩
  have hll : l.length = s.size := by rw [← hl]; simp
  obtain ⟨i0, hi0, hz0, hz1, hz2⟩ := info_parts info9
  have HL := Lib.hid hl
  have HLL := Lib.hid hll
  have hwl : ws.length ≤ 4096 := by have := wordsOf_len s.data.toList; rw [hw, hl, hll] at this; omega
  have HWL := Lib.hid hwl
  have H0 : Hid ([] ++ wrest l 0 [] = ws) := Lib.hid (by rw [← hw, hl]; simp [wrest, wordsOf])
  clear hl hll hw hwl
  go_enter Tryz.func29, Tryz.ntmps29
  go_wp2
  go_loopw [3, 4, 5] (fun v x i wr => ∃ (k : Nat) (cur : Bs) (acc : List Bs), k ≤ s.size + 1 ∧ i = .int .i64 k ∧ x = sv cur ∧ cur.length ≤ k ∧ Hid (acc ++ wrest l k cur = ws) ∧ Hid (wr.ownsRow w.heap.size 9 1 v acc.length (wcs acc)) ∧ Hid (Below w.heap.size w wr)) (fun _ _ i _ => s.size + 1 - (intOf i).toNat)
  case atStart => exact ⟨0, [], [], Nat.zero_le _, rfl, rfl, Nat.le_refl _, H0, Lib.hid (World.ownsRow_nil _ _ _ _), Lib.hid (Below.refl _ _)⟩
  case round =>
    obtain ⟨k, cur, acc, hk, rfl, rfl, hcl, hr, hown, hbel⟩ := hrel
    by_cases hle : k ≤ s.size
    · by_cases hin : k < s.size ∧ ∃ h : k < s.size, s[k] ≠ 32
      · obtain ⟨hlt, _, hc⟩ := hin
        have hkl : k < l.length := by rw [HLL.out]; exact hlt
        have ec : l[k] = s[k] := by
          have e := HL.out
          subst e
          rfl
        have hd := wrest_in cur hkl
        rw [ec, if_neg hc] at hd
        have e1 := ext_one s k hlt
        obtain ⟨ch, hch⟩ : ∃ ch, s[k] = ch := ⟨_, rfl⟩
        rw [hch] at hd e1
        have f1 : ((s[k].toNat : Int) != 32) = true := by
          rw [hch] at hc ⊢
          have : ch.toNat ≠ 32 := fun h => hc (UInt8.toNat_inj.1 (by rw [h]; rfl))
          simp [bne]; omega
        have hr2 : Hid (acc ++ wrest l (k + 1) (cur ++ [ch]) = ws) := Lib.hid (by rw [← hd]; exact hr.out)
        have HE1 := Lib.hid e1
        have z1 : ¬ 9223372036854775807 < cur.length + (min (k + 1) s.size - k) := by omega
        have g0 : (0 : Int) ≤ (k : Int) := by omega
        have g1 : (k : Int) < (s.size : Int) := by omega
        clear hr hd ec hc hch e1 hkl
        go_wp2
        go_roundw
        case rel => exact ⟨k + 1, cur ++ [ch], acc, by omega, by go_num, by rw [HE1.out]; exact congrArg Value.string (by apply ByteArray.ext; simp [ByteArray.data_append]), by simp; omega, hr2, hown, hbel⟩
        case measure => simp [intOf]; omega
      · have hd : wrest l k cur = if cur = [] then wrest l (k + 1) [] else cur :: wrest l (k + 1) [] := by
          by_cases hlt : k < s.size
          · have hkl : k < l.length := by rw [HLL.out]; exact hlt
            have ec : l[k] = s[k] := by
              have e := HL.out
              subst e
              rfl
            have hc : s[k] = 32 := by
              rcases Classical.em (s[k] = 32) with h | h
              · exact h
              · exact absurd ⟨hlt, hlt, h⟩ hin
            have := wrest_in cur hkl
            rw [ec, if_pos hc] at this
            exact this
          · exact wrest_end cur (by rw [HLL.out]; omega)
        have f1 : ∀ h : k < s.size, ((s[k].toNat : Int) != 32) = false := fun h => by
          rcases Classical.em (s[k] = 32) with h2 | h2
          · rw [h2]; rfl
          · exact absurd ⟨h, h, h2⟩ hin
        clear hin
        match cur, hcl, hd with
        | [], _, hd =>
          have hr2 : Hid (acc ++ wrest l (k + 1) [] = ws) := Lib.hid (by rw [← hr.out, hd]; rfl)
          clear hr hd hcl
          by_cases hlt : k < s.size
          · have f2 := f1 hlt
            have g0 : (0 : Int) ≤ (k : Int) := by omega
            have g1 : (k : Int) < (s.size : Int) := by omega
            clear f1
            go_wp2
            go_roundw
            case rel => exact ⟨k + 1, [], acc, by omega, by go_num, rfl, Nat.zero_le _, hr2, hown, hbel⟩
            case measure => simp [intOf]; omega
          · clear f1
            go_wp2
            go_roundw
            case rel => exact ⟨k + 1, [], acc, by omega, by go_num, rfl, Nat.zero_le _, hr2, hown, hbel⟩
            case measure => simp [intOf]; omega
        | c :: cr, hcl2, hd =>
          have hr2 : (acc ++ [c :: cr]) ++ wrest l (k + 1) [] = ws := by rw [← hr.out, hd]; simp
          have hal : acc.length ≤ 4096 := by
            have h1 := congrArg List.length hr2
            have := HWL.out
            simp only [List.length_append] at h1
            omega
          have R2 := Lib.hid hr2
          have hB : w.heap.size ≤ wr.heap.size := hbel.out.size
          have hbn : Below wr.heap.size wr (wr.alloc (.cells #[sv (c :: cr)] 9)) := (Below.refl _ _).alloc (Nat.le_refl _) _
          have HO := Lib.hid (ownsRow_below hown.out hbn)
          have HBN := Lib.hid (hbel.out.trans (hbn.mono hB))
          clear hr hd hcl hr2 hcl2 hbn hown
          have harm : True := trivial
          by_cases hlt : k < s.size
          · have f2 := f1 hlt
            have g0 : (0 : Int) ≤ (k : Int) := by omega
            have g1 : (k : Int) < (s.size : Int) := by omega
            clear f1
            go_wp2_with (refine wpList_append_lies _ (by rfl) (.tmp 31) (.tmp 33) 58 (by rfl) w.heap.size 9 i0 (.string ⟨#[]⟩) 1 16 Tryz.underlying58 hi0 hz0 hz1 hz2 rfl (by decide) _ acc.length (wcs acc) (by rfl) HO.out ⟨wr.heap.size, 0, none⟩ 1 1 [sv (c :: cr)] (by rfl) rfl (World.news_of_block (heap_alloc_new wr _)) (one_str _) (by decide) (by unfold maxLen; omega) (by omega) (by simp; omega) _ rfl ?_; intro g2 cap2 w3 hown2 hgrow2 hat2 hlt2; have HO3 := Lib.hid hown2; have HB3 := Lib.hid (HBN.out.grown hgrow2 HBN.out.size (fun k e => (HO.out.lt k e).1)); clear hown2 hgrow2 hat2 hlt2)
            go_roundw
            case rel => exact ⟨k + 1, [], acc ++ [c :: cr], by omega, by go_num, rfl, Nat.zero_le _, R2, Lib.hid (by rw [wcs_snoc]; simpa using HO3.out), HB3⟩
            case measure => simp [intOf]; omega
          · clear f1
            go_wp2_with (refine wpList_append_lies _ (by rfl) (.tmp 31) (.tmp 33) 58 (by rfl) w.heap.size 9 i0 (.string ⟨#[]⟩) 1 16 Tryz.underlying58 hi0 hz0 hz1 hz2 rfl (by decide) _ acc.length (wcs acc) (by rfl) HO.out ⟨wr.heap.size, 0, none⟩ 1 1 [sv (c :: cr)] (by rfl) rfl (World.news_of_block (heap_alloc_new wr _)) (one_str _) (by decide) (by unfold maxLen; omega) (by omega) (by simp; omega) _ rfl ?_; intro g2 cap2 w3 hown2 hgrow2 hat2 hlt2; have HO3 := Lib.hid hown2; have HB3 := Lib.hid (HBN.out.grown hgrow2 HBN.out.size (fun k e => (HO.out.lt k e).1)); clear hown2 hgrow2 hat2 hlt2)
            go_roundw
            case rel => exact ⟨k + 1, [], acc ++ [c :: cr], by omega, by go_num, rfl, Nat.zero_le _, R2, Lib.hid (by rw [wcs_snoc]; simpa using HO3.out), HB3⟩
            case measure => simp [intOf]; omega
    · have hfin : acc = ws := by
        have h := hr.out
        unfold wrest at h
        rw [if_neg (by rw [HLL.out]; omega)] at h
        simpa using h
      subst hfin
      clear hr
      go_wp2
      go_ret
      exact ⟨_, rfl, hown.out, hbel.out⟩
end Go.Proofs.YtogcickcodlepaaGreatDoor.Pl
/-
  The document's lines of a text. Conditions: the text is no longer than 4096 bytes.
-/
namespace Go.Proofs.YtogcickcodlepaaGreatDoor.Pl
open Go.RowKit Go.Proofs.YtogcickcodlepaaGreatDoor.Ex

/-- The piece from a to b. -/
theorem ext_piece (s : ByteArray) (a b : Nat) (h1 : a ≤ b) : s.extract a b = ⟨((s.data.toList.drop a).take (b - a)).toArray⟩ := by
  apply ByteArray.ext
  rw [ByteArray.data_extract]
  apply Array.ext'
  simp [List.extract_eq_take_drop]
theorem linesGo_at {l : Bs} {a k : Nat} (h1 : a ≤ k) (h : k < l.length) : linesGo ((l.drop a).take (k - a)) (l.drop k) = if l[k] = 10 then (l.drop a).take (k - a) :: linesGo [] (l.drop (k + 1)) else linesGo ((l.drop a).take (k + 1 - a)) (l.drop (k + 1)) := by
  rw [List.drop_eq_getElem_cons h]
  simp only [linesGo]
  split
  · rfl
  · congr 1
    have h2 : k - a < (l.drop a).length := by rw [List.length_drop]; omega
    rw [show k + 1 - a = (k - a) + 1 by omega, List.take_succ_eq_append_getElem h2]
    congr 2
    simp [show a + (k - a) = k by omega]
set_option maxRecDepth 20000 in
set_option maxHeartbeats 1000000 in
theorem rsplit_any (s : ByteArray) (w : World) (hs : s.size ≤ 4096) {ls : List Bs} (hw : linesOf s.data.toList = ls) :
    Calls Tryz.prog 28 #[.string s, .int .u8 10] w fun e w' => ∃ v, e = .returned v ∧ w'.ownsRow w.heap.size 9 1 v ls.length (wcs ls) ∧ Below w.heap.size w w' := by
  obtain ⟨l, hl⟩ : ∃ l, s.data.toList = l := ⟨_, rfl⟩
  have hll : l.length = s.size := by rw [← hl]; simp
  obtain ⟨i0, hi0, hz0, hz1, hz2⟩ := info_parts info9
  have HL := Lib.hid hl
  have HLL := Lib.hid hll
  have hwl : ls.length ≤ 4097 := by have := (lines_len (t := l)).2; rw [← hl, hw, hl, hll] at this; omega
  have HWL := Lib.hid hwl
  have H0 : Hid ([] ++ linesGo ((l.drop 0).take (0 - 0)) (l.drop 0) = ls) := Lib.hid (by rw [← hw, hl]; simp [linesOf])
  clear hl hll hw hwl
  go_enter Tryz.func28, Tryz.ntmps28
  go_wp2
  go_loopw [5, 6, 7] (fun v x i wr => ∃ (k a : Nat) (acc : List Bs), k ≤ s.size ∧ a ≤ k ∧ i = .int .i64 k ∧ x = .int .i64 a ∧ Hid (acc ++ linesGo ((l.drop a).take (k - a)) (l.drop k) = ls) ∧ Hid (wr.ownsRow w.heap.size 9 1 v acc.length (wcs acc)) ∧ Hid (Below w.heap.size w wr)) (fun _ _ i _ => s.size - (intOf i).toNat)
  case atStart => exact ⟨0, 0, [], Nat.zero_le _, Nat.le_refl _, rfl, rfl, H0, Lib.hid (World.ownsRow_nil _ _ _ _), Lib.hid (Below.refl _ _)⟩
  case round =>
    obtain ⟨k, a, acc, hk, hak, rfl, rfl, hr, hown, hbel⟩ := hrel
    have hB : w.heap.size ≤ wr.heap.size := hbel.out.size
    by_cases hlt : k < s.size
    · have hkl : k < l.length := by rw [HLL.out]; exact hlt
      have ec : l[k] = s[k] := by
        have e := HL.out
        subst e
        rfl
      have hd := linesGo_at hak hkl
      rw [ec] at hd
      have g0 : (0 : Int) ≤ (k : Int) := by omega
      have g1 : (k : Int) < (s.size : Int) := by omega
      by_cases hc : s[k] = 10
      · rw [if_pos hc] at hd
        obtain ⟨pc, hpc⟩ : ∃ x, (l.drop a).take (k - a) = x := ⟨_, rfl⟩
        have hex : s.extract a k = ⟨pc.toArray⟩ := by rw [ext_piece s a k hak, HL.out, hpc]
        have hr2 : (acc ++ [pc]) ++ linesGo [] (l.drop (k + 1)) = ls := by
          have h := hr.out
          rw [hd, hpc] at h
          rw [← h]; simp
        have hal : acc.length ≤ 4097 := by
          have h1 := congrArg List.length hr2
          have := HWL.out
          simp only [List.length_append] at h1
          omega
        have R2 : Hid ((acc ++ [pc]) ++ linesGo ((l.drop (k + 1)).take (k + 1 - (k + 1))) (l.drop (k + 1)) = ls) := Lib.hid (by rw [Nat.sub_self, List.take_zero]; exact hr2)
        have f1 : ((s[k].toNat : Int) == 10) = true := by rw [hc]; rfl
        have hbn : Below wr.heap.size wr (wr.alloc (.cells #[sv pc] 9)) := (Below.refl _ _).alloc (Nat.le_refl _) _
        have HO := Lib.hid (ownsRow_below hown.out hbn)
        have HBN := Lib.hid (hbel.out.trans (hbn.mono hB))
        have ga : (0 : Int) ≤ (a : Int) := by omega
        have gk : (a : Int) ≤ (k : Int) := by omega
        clear hr hd hr2 hbn hown hc hpc ec hkl
        go_wp2_with (refine wpList_append_lies _ (by rfl) (.tmp 19) (.tmp 24) 58 (by rfl) w.heap.size 9 i0 (.string ⟨#[]⟩) 1 16 Tryz.underlying58 hi0 hz0 hz1 hz2 rfl (by decide) _ acc.length (wcs acc) (by rfl) HO.out ⟨wr.heap.size, 0, none⟩ 1 1 [sv pc] (by rfl) rfl (World.news_of_block (heap_alloc_new wr _)) (one_str _) (by decide) (by unfold maxLen; omega) (by omega) (by simp; omega) _ rfl ?_; intro g2 cap2 w3 hown2 hgrow2 hat2 hlt2; have HO3 := Lib.hid hown2; have HB3 := Lib.hid (HBN.out.grown hgrow2 HBN.out.size (fun k e => (HO.out.lt k e).1)); clear hown2 hgrow2 hat2 hlt2)
        go_roundw
        case rel => exact ⟨k + 1, k + 1, acc ++ [pc], by omega, Nat.le_refl _, by go_num, by go_num, R2, Lib.hid (by rw [wcs_snoc]; simpa using HO3.out), HB3⟩
        case measure => simp [intOf]; omega
      · rw [if_neg hc] at hd
        have R2 : Hid (acc ++ linesGo ((l.drop a).take (k + 1 - a)) (l.drop (k + 1)) = ls) := Lib.hid (by rw [← hd]; exact hr.out)
        have f1 : ((s[k].toNat : Int) == 10) = false := by
          have : s[k].toNat ≠ 10 := fun h => hc (UInt8.toNat_inj.1 (by rw [h]; rfl))
          simp; omega
        clear hr hd hc ec hkl
        go_wp2
        go_roundw
        case rel => exact ⟨k + 1, a, acc, by omega, by omega, by go_num, rfl, R2, hown, hbel⟩
        case measure => simp [intOf]; omega
    · have hks : k = s.size := by omega
      obtain ⟨pc, hpc⟩ : ∃ x, (l.drop a).take (s.size - a) = x := ⟨_, rfl⟩
      have hex : s.extract a s.size = ⟨pc.toArray⟩ := by rw [ext_piece s a s.size (by omega), HL.out, hpc]
      have hr2 : acc ++ [pc] = ls := by
        have h := hr.out
        rw [hks, hpc, List.drop_eq_nil_of_le (by rw [HLL.out]; exact Nat.le_refl _)] at h
        exact h
      have hal : acc.length ≤ 4097 := by
        have h1 := congrArg List.length hr2
        have := HWL.out
        simp only [List.length_append] at h1
        omega
      have R2 := Lib.hid hr2
      have hbn : Below wr.heap.size wr (wr.alloc (.cells #[sv pc] 9)) := (Below.refl _ _).alloc (Nat.le_refl _) _
      have HO := Lib.hid (ownsRow_below hown.out hbn)
      have HBN := Lib.hid (hbel.out.trans (hbn.mono hB))
      have ga : (0 : Int) ≤ (a : Int) := by omega
      have gk : (a : Int) ≤ (s.size : Int) := by omega
      clear hr hr2 hbn hown hpc hks
      go_wp2_with (refine wpList_append_lies _ (by rfl) (.tmp 28) (.tmp 32) 58 (by rfl) w.heap.size 9 i0 (.string ⟨#[]⟩) 1 16 Tryz.underlying58 hi0 hz0 hz1 hz2 rfl (by decide) _ acc.length (wcs acc) (by rfl) HO.out ⟨wr.heap.size, 0, none⟩ 1 1 [sv pc] (by rfl) rfl (World.news_of_block (heap_alloc_new wr _)) (one_str _) (by decide) (by unfold maxLen; omega) (by omega) (by simp; omega) _ rfl ?_; intro g2 cap2 w3 hown2 hgrow2 hat2 hlt2; have HO3 := Lib.hid hown2; have HB3 := Lib.hid (HBN.out.grown hgrow2 HBN.out.size (fun k e => (HO.out.lt k e).1)); clear hown2 hgrow2 hat2 hlt2)
      go_ret
      exact ⟨_, rfl, by rw [← R2.out, wcs_snoc]; simpa using HO3.out, HB3.out⟩
end Go.Proofs.YtogcickcodlepaaGreatDoor.Pl
/-
  What stands behind a line's first word, as the document takes it. Conditions: the line is no longer than 4096 bytes and has a word.
-/
namespace Go.Proofs.YtogcickcodlepaaGreatDoor.Pl
open Go.RowKit Go.Proofs.YtogcickcodlepaaGreatDoor.Ex

theorem left_stay {c : UInt8} (h : c ≠ 32) (r : Bs) : Lib.trimLeftB (c :: r) 32 = c :: r := by simp [Lib.trimLeftB, h]
theorem dw_app {P : UInt8 → Bool} {c : UInt8} (hc : P c = false) (b : Bs) : ∀ a : Bs, (a ++ c :: b).dropWhile P = a.dropWhile P ++ c :: b
  | [] => by simp [hc]
  | d :: a => by
    cases hd : P d with
    | true => simp only [List.cons_append, List.dropWhile_cons, hd, if_true]; exact dw_app hc b a
    | false => simp [hd]
theorem right_app {c : UInt8} (hc : c ≠ 32) (y t : Bs) : Lib.trimRightB (y ++ c :: t) 32 = y ++ c :: Lib.trimRightB t 32 := by
  unfold Lib.trimRightB
  rw [List.reverse_append, List.reverse_cons, List.append_assoc, List.singleton_append, dw_app (by simp [hc]), List.reverse_append, List.reverse_cons, List.reverse_reverse, List.append_assoc, List.singleton_append]
theorem right_nil : Lib.trimRightB [] 32 = [] := rfl
theorem first_go : ∀ (l cur : Bs), cur ≠ [] → (wordsGo cur l).getD 0 [] = cur ++ l.takeWhile (fun c => decide (c ≠ 32))
  | [], cur, h => by simp [wordsGo, h]
  | c :: r, cur, h => by
    by_cases hc : c = 32
    · simp [wordsGo, hc, h]
    · simp only [wordsGo, if_neg hc]
      rw [first_go r (cur ++ [c]) (by simp)]
      simp [hc]
theorem first_of {c : UInt8} {r : Bs} (hc : c ≠ 32) : wd (wordsOf (c :: r)) 0 = (c :: r).takeWhile (fun c => decide (c ≠ 32)) := by
  unfold wd wordsOf
  simp only [wordsGo, if_neg hc]
  rw [first_go r ([] ++ [c]) (by simp)]
  simp [hc]
theorem drop_first (P : UInt8 → Bool) : ∀ l : Bs, l.drop (l.takeWhile P).length = l.dropWhile P
  | [] => rfl
  | a :: r => by
    cases ha : P a with
    | true => simp only [List.takeWhile_cons, List.dropWhile_cons, ha, if_true, List.length_cons, List.drop_succ_cons]; exact drop_first P r
    | false => simp [ha]
theorem head_drop {P : UInt8 → Bool} {d : UInt8} {t : Bs} : ∀ l : Bs, l.dropWhile P = d :: t → P d = false
  | [], h => by cases h
  | a :: r, h => by
    cases ha : P a with
    | true => rw [List.dropWhile_cons, ha, if_pos rfl] at h; exact head_drop r h
    | false => rw [List.dropWhile_cons, ha] at h; simp at h; rw [← h.1]; exact ha
theorem restOf_first {c : UInt8} {r : Bs} (hc : c ≠ 32) : restOf (c :: r) = Lib.trimLeftB (Lib.trimRightB ((c :: r).dropWhile (fun c => decide (c ≠ 32))) 32) 32 := by
  obtain ⟨x, hx⟩ : ∃ x, (c :: r).takeWhile (fun c => decide (c ≠ 32)) = x := ⟨_, rfl⟩
  obtain ⟨t, ht⟩ : ∃ t, (c :: r).dropWhile (fun c => decide (c ≠ 32)) = t := ⟨_, rfl⟩
  have hl : c :: r = x ++ t := by rw [← hx, ← ht, List.takeWhile_append_dropWhile]
  have hall : ∀ d ∈ x, decide (d ≠ 32) = true := fun d hd => by
    rw [← hx] at hd
    have := List.all_takeWhile (p := fun c => decide (c ≠ 32)) (l := c :: r)
    exact List.all_eq_true.1 this d hd
  have hxn : x ≠ [] := by rw [← hx]; simp [hc]
  have ht0 : t = [] ∨ ∃ t', t = 32 :: t' := by
    cases t with
    | nil => exact .inl rfl
    | cons d t' =>
      right
      have := head_drop _ ht
      have hd : d = 32 := by simpa using this
      exact ⟨t', by rw [hd]⟩
  rw [ht, hl]
  obtain ⟨y, d, hyd⟩ : ∃ y d, x = y ++ [d] := ⟨x.dropLast, x.getLast hxn, (List.dropLast_concat_getLast hxn).symm⟩
  have hd : d ≠ 32 := by have := hall d (by rw [hyd]; simp); simpa using this
  have e1 : Lib.trimRightB (x ++ t) 32 = x ++ Lib.trimRightB t 32 := by
    rw [hyd, List.append_assoc, List.singleton_append, right_app hd, List.append_assoc, List.singleton_append]
  have e2 : Lib.trimLeftB (x ++ Lib.trimRightB t 32) 32 = x ++ Lib.trimRightB t 32 := by
    obtain ⟨a, x', rfl⟩ := List.exists_cons_of_ne_nil hxn
    have ha : a ≠ 32 := by have := hall a (by simp); simpa using this
    exact left_stay ha _
  have e3 : (x ++ Lib.trimRightB t 32).dropWhile (fun c => decide (c ≠ 32)) = Lib.trimRightB t 32 := by
    have e4 : ∀ (x z : Bs), (∀ d ∈ x, decide (d ≠ 32) = true) → (x ++ z).dropWhile (fun c => decide (c ≠ 32)) = z.dropWhile (fun c => decide (c ≠ 32)) := by
      intro x z hx
      induction x with
      | nil => rfl
      | cons a x ih =>
        rw [List.cons_append, List.dropWhile_cons, hx a (by simp), if_pos rfl]
        exact ih (fun d hd => hx d (by simp [hd]))
    rw [e4 x _ hall]
    obtain ⟨k, hk⟩ := dropR_split t
    cases hz : Lib.trimRightB t 32 with
    | nil => rfl
    | cons a z =>
      rw [hz] at hk
      rcases ht0 with h | ⟨t', h⟩
      · rw [h] at hk; cases hk
      · rw [h] at hk
        simp only [List.cons_append, List.cons.injEq] at hk
        rw [← hk.1]; simp
  unfold restOf
  unfold Lib.trimB
  rw [e1, e2, e3]
theorem drop_cons_at {l : Bs} {k : Nat} (h : k < l.length) : l.drop k = l[k] :: l.drop (k + 1) := List.drop_eq_getElem_cons h
theorem take_snoc_at {l : Bs} {a b : Nat} (h1 : a < b) (h2 : b ≤ l.length) : (l.drop a).take (b - a) = (l.drop a).take (b - 1 - a) ++ [l[b - 1]'(by omega)] := by
  have h3 : b - 1 - a < (l.drop a).length := by rw [List.length_drop]; omega
  rw [show b - a = b - 1 - a + 1 by omega, List.take_succ_eq_append_getElem h3]
  congr 2
  simp [show a + (b - 1 - a) = b - 1 by omega]
theorem u8_ne {c : UInt8} (h : c ≠ 32) : ((c.toNat : Int) == 32) = false := by
  have : c.toNat ≠ 32 := fun h2 => h (UInt8.toNat_inj.1 (by rw [h2]; rfl))
  simp; omega
theorem u8_eq {c : UInt8} (h : c = 32) : ((c.toNat : Int) == 32) = true := by rw [h]; rfl
set_option maxRecDepth 20000 in
set_option maxHeartbeats 1000000 in
theorem rrest_any (s : ByteArray) (w : World) (hs : s.size ≤ 4096) {fw R : Bs} (h0 : wordsOf s.data.toList ≠ []) (hf : wd (wordsOf s.data.toList) 0 = fw) (hR : restOf s.data.toList = R) :
    Calls Tryz.prog 56 #[.string s, sv fw] w fun e w' => e = .returned (sv R) ∧ w = w' := by
  obtain ⟨l, hl⟩ : ∃ l, s.data.toList = l := ⟨_, rfl⟩
  rw [hl] at h0 hf hR
  have hll : l.length = s.size := by rw [← hl]; simp
  have hat : ∀ k (h : k < s.size), ∃ h2 : k < l.length, l[k]'h2 = s[k] := fun k h => by
    subst hl
    exact ⟨by rw [hll]; exact h, rfl⟩
  have HAT := Lib.hid hat
  have HL := Lib.hid hl
  have HLL := Lib.hid hll
  have H0 := Lib.hid h0
  have G1 : Hid (wordsOf (l.drop 0) = wordsOf l) := Lib.hid rfl
  have G2 : Hid (restOf (l.drop 0) = R) := Lib.hid hR
  have HF := Lib.hid hf
  clear hl hll h0 hf hR hat
  go_enter Tryz.func56, Tryz.ntmps56
  go_wp2
  go_loop [5] (fun i => ∃ k : Nat, k ≤ s.size ∧ i = .int .i64 k ∧ Hid (wordsOf (l.drop k) = wordsOf l) ∧ Hid (restOf (l.drop k) = R)) (fun i => s.size - (intOf i).toNat)
  case atStart => exact ⟨0, Nat.zero_le _, rfl, G1, G2⟩
  case round =>
    obtain ⟨k, hk, rfl, g1, g2⟩ := hrel
    have hlt : k < s.size := by
      rcases Nat.lt_or_ge k s.size with h | h
      · exact h
      · exfalso
        have := g1.out
        rw [List.drop_eq_nil_of_le (by rw [HLL.out]; exact h)] at this
        exact H0.out this.symm
    obtain ⟨hkl, ec⟩ := HAT.out k hlt
    have hd := drop_cons_at hkl
    rw [ec] at hd
    have i0 : (0 : Int) ≤ (k : Int) := by omega
    have i1 : (k : Int) < (s.size : Int) := by omega
    by_cases hc : s[k] = 32
    · have f1 := u8_eq hc
      rw [hd, hc] at g1 g2
      have n1 : Hid (wordsOf (l.drop (k + 1)) = wordsOf l) := Lib.hid (by rw [← words_lead]; exact g1.out)
      have n2 : Hid (restOf (l.drop (k + 1)) = R) := Lib.hid (by rw [← restOf_lead]; exact g2.out)
      clear g1 g2 hd hc ec hkl
      go_wp2
      go_round
      case rel => exact ⟨k + 1, by omega, by go_num, n1, n2⟩
      case measure => simp [intOf]; omega
    · have f1 := u8_ne hc
      have e1 : fw = (l.drop k).takeWhile (fun c => decide (c ≠ 32)) := by rw [← HF.out, ← g1.out, hd, first_of hc]
      have e2 : Lib.trimLeftB (Lib.trimRightB (l.drop (k + fw.length)) 32) 32 = R := by
        rw [← g2.out]
        have e3 : l.drop (k + fw.length) = (l.drop k).dropWhile (fun c => decide (c ≠ 32)) := by rw [← List.drop_drop, e1, drop_first]
        rw [e3, hd, restOf_first hc]
      have e4 : k + fw.length ≤ s.size := by
        have h1 : ((l.drop k).takeWhile (fun c => decide (c ≠ 32))).length ≤ (l.drop k).length := (List.takeWhile_prefix _).length_le
        rw [← e1, List.length_drop, HLL.out] at h1
        omega
      have E2 := Lib.hid e2
      clear g1 g2 hd e1 e2 ec hkl hc
      go_wp2
      go_loop [5] (fun i => ∃ k : Nat, k ≤ s.size ∧ i = .int .i64 k ∧ Hid (Lib.trimLeftB (Lib.trimRightB (l.drop k) 32) 32 = R)) (fun i => s.size - (intOf i).toNat)
      case atStart => exact ⟨k + fw.length, e4, by go_num, E2⟩
      case round =>
        clear e4 E2
        obtain ⟨j, hj, rfl, g1⟩ := hrel
        by_cases hin : j < s.size ∧ ∃ h : j < s.size, s[j] = 32
        · obtain ⟨hlt2, _, hc⟩ := hin
          obtain ⟨hkl, ec⟩ := HAT.out j hlt2
          have hd := drop_cons_at hkl
          rw [ec, hc] at hd
          have f2 := u8_eq hc
          have i2 : (0 : Int) ≤ (j : Int) := by omega
          have i3 : (j : Int) < (s.size : Int) := by omega
          have n1 : Hid (Lib.trimLeftB (Lib.trimRightB (l.drop (j + 1)) 32) 32 = R) := Lib.hid (by rw [← trimRight_cons, ← hd]; exact g1.out)
          clear g1 hd hc ec hkl
          go_wp2
          go_round
          case rel => exact ⟨j + 1, by omega, by go_num, n1⟩
          case measure => simp [intOf]; omega
        · have hne : ∀ h : j < s.size, s[j] ≠ 32 := fun h h2 => hin ⟨h, h, h2⟩
          have HNE := Lib.hid hne
          have n1 : Hid (Lib.trimLeftB (Lib.trimRightB ((l.drop j).take (s.size - j)) 32) 32 = R) := Lib.hid (by rw [List.take_of_length_le (by rw [List.length_drop, HLL.out]; exact Nat.le_refl _)]; exact g1.out)
          clear hin g1
          rcases Nat.lt_or_ge j s.size with hlt2 | hlt2
          case' inl =>
            have f2 := u8_ne (hne hlt2)
            have i2 : (0 : Int) ≤ (j : Int) := by omega
            have i3 : (j : Int) < (s.size : Int) := by omega
          all_goals
            clear hne
            go_wp2
            go_loop [6] (fun i => ∃ b : Nat, j ≤ b ∧ b ≤ s.size ∧ i = .int .i64 b ∧ Hid (Lib.trimLeftB (Lib.trimRightB ((l.drop j).take (b - j)) 32) 32 = R)) (fun i => (intOf i).toNat)
            case atStart => exact ⟨s.size, hj, Nat.le_refl _, rfl, n1⟩
            case round =>
              clear n1
              obtain ⟨b, hjb, hb, rfl, g1⟩ := hrel
              by_cases hin : j < b ∧ ∃ h : b - 1 < s.size, s[b - 1] = 32
              · first
                | (exfalso; obtain ⟨hgt, -⟩ := hin; omega)
                | (obtain ⟨hgt, hb1, hc⟩ := hin
                   obtain ⟨b', rfl⟩ : ∃ b', b = b' + 1 := ⟨b - 1, by omega⟩
                   obtain ⟨hkl, ec⟩ := HAT.out b' (by omega)
                   have hd := take_snoc_at (l := l) hgt (by rw [HLL.out]; exact hb)
                   simp only [Nat.add_sub_cancel] at hd hc hb1
                   rw [ec, hc] at hd
                   have f3 := u8_eq hc
                   have i4 : (0 : Int) ≤ (b' : Int) := by omega
                   have i5 : (b' : Int) < (s.size : Int) := by omega
                   have n1 : Hid (Lib.trimLeftB (Lib.trimRightB ((l.drop j).take (b' - j)) 32) 32 = R) := Lib.hid (by rw [← trimRight_snoc, ← hd]; exact g1.out)
                   clear g1 hd hc ec hkl
                   have i6 : ((b' + 1 : Nat) : Int) - 1 = (b' : Int) := by omega
                   go_wp2
                   go_round
                   case rel => exact ⟨b', by omega, by omega, by go_num, n1⟩
                   case measure => simp [intOf])
              · by_cases hjb2 : j < b
                · first
                  | (exfalso; omega)
                  | (obtain ⟨b', rfl⟩ : ∃ b', b = b' + 1 := ⟨b - 1, by omega⟩
                     obtain ⟨hkl, ec⟩ := HAT.out b' (by omega)
                     obtain ⟨hjl, ej⟩ := HAT.out j (by omega)
                     have hd := take_snoc_at (l := l) hjb2 (by rw [HLL.out]; exact hb)
                     have hd2 := drop_cons_at hjl
                     simp only [Nat.add_sub_cancel] at hd
                     have hc : s[b'] ≠ 32 := fun h => hin ⟨hjb2, by simpa using (by omega : b' < s.size), by simpa using h⟩
                     have f3 := u8_ne hc
                     have i4 : (0 : Int) ≤ (b' : Int) := by omega
                     have i5 : (b' : Int) < (s.size : Int) := by omega
                     have hR2 : (l.drop j).take (b' + 1 - j) = R := by
                       have h1 : Lib.trimRightB ((l.drop j).take (b' + 1 - j)) 32 = (l.drop j).take (b' + 1 - j) := by
                         rw [hd, ec]; exact right_app hc _ []
                       have h2 : Lib.trimLeftB ((l.drop j).take (b' + 1 - j)) 32 = (l.drop j).take (b' + 1 - j) := by
                         rw [hd2, ej, show b' + 1 - j = (b' - j) + 1 by omega, List.take_succ_cons]
                         exact left_stay (HNE.out (by omega)) _
                       have h3 := g1.out
                       rw [h1, h2] at h3
                       exact h3
                     have hex : Hid (s.extract j (b' + 1) = ⟨R.toArray⟩) := Lib.hid (by rw [ext_piece s j (b' + 1) (by omega), HL.out, hR2])
                     clear g1 hd hd2 hc ec hkl ej hjl hR2 hin
                     have i6 : ((b' + 1 : Nat) : Int) - 1 = (b' : Int) := by omega
                     have i7 : (j : Int) ≤ ((b' + 1 : Nat) : Int) := by omega
                     go_wp2
                     go_ret
                     exact ⟨by rw [hex.out]; rfl, rfl⟩)
                · have hjb3 : b = j := by omega
                  have hex : Hid (R = []) := Lib.hid (by
                    have h3 := g1.out
                    rw [hjb3, Nat.sub_self, List.take_zero] at h3
                    rw [← h3]; rfl)
                  subst hjb3
                  clear g1 hin
                  go_wp2
                  go_ret
                  exact ⟨by rw [hex.out]; rfl, rfl⟩
end Go.Proofs.YtogcickcodlepaaGreatDoor.Pl
/-
  What a line says, as the document has it: its kind and what belongs to it. Conditions: none; nothing of a program but the order of the cells.
-/
namespace Go.Proofs.YtogcickcodlepaaGreatDoor.Pl
open Go.RowKit Go.Proofs.YtogcickcodlepaaGreatDoor.Ex

structure LnX where
  kind : Int
  top : Top
  flw : Flw
  stp : Stp
  win : Win
  agg : Int
def ln0 : LnX := ⟨0, ⟨[], 0⟩, ⟨[], [], [], 0, 0, 0, [], ⟨0, 0, 0⟩, 0, []⟩, ⟨0, [], 0⟩, ⟨0, 0, 0⟩, 0⟩
def lnCs (x : LnX) : List Value := [.int .i64 x.kind, sv x.top.name, .int .i64 x.top.parts, sv x.flw.name, sv x.flw.frm, sv x.flw.dest, .int .i64 x.flw.bound, .int .i64 x.flw.readers, .int .i64 x.flw.keepers, .slice none 0 0, .int .i64 x.flw.win.kind, .int .i64 x.flw.win.size, .int .i64 x.flw.win.slide, .int .i64 x.flw.agg, .slice none 0 0, .int .i64 x.stp.kind, sv x.stp.text, .int .i64 x.stp.n, .int .i64 x.win.kind, .int .i64 x.win.size, .int .i64 x.win.slide, .int .i64 x.agg]
def lnV (x : LnX) : Value := .agg (lnCs x).toArray
def windowX (ws : List Bs) : LnX :=
  if ws.length < 3 ∨ (ws.drop 2).all isNumber = false then ln0
  else if wd ws 1 = wTumble ∧ ws.length = 3 then { ln0 with kind := 119, win := ⟨1, numOf (wd ws 2), 0⟩ }
  else if wd ws 1 = wSlide ∧ ws.length = 4 then { ln0 with kind := 119, win := ⟨2, numOf (wd ws 2), numOf (wd ws 3)⟩ }
  else if wd ws 1 = wSession ∧ ws.length = 3 then { ln0 with kind := 119, win := ⟨3, numOf (wd ws 2), 0⟩ }
  else ln0
def flowX (hs ts : List Bs) (bound : Int) : LnX :=
  if wd hs 2 ≠ wFrom ∨ wd hs 4 ≠ wTo ∨ wd ts 0 ≠ wReaders ∨ wd ts 2 ≠ wKeepers ∨ isNumber (wd ts 1) = false ∨ isNumber (wd ts 3) = false then ln0
  else { ln0 with kind := 102, flw := { ln0.flw with name := wd hs 1, frm := wd hs 3, dest := wd hs 5, bound := bound, readers := numOf (wd ts 1), keepers := numOf (wd ts 3) } }
def lineX (l : Bs) (ws : List Bs) : LnX :=
  if wd ws 0 = wTopic then (if ws.length = 3 ∧ isNumber (wd ws 2) = true then { ln0 with kind := 116, top := ⟨wd ws 1, numOf (wd ws 2)⟩ } else ln0)
  else if wd ws 0 = wFlow then
    (if ws.length = 12 ∧ wd ws 6 = wBound ∧ isNumber (wd ws 7) = true then flowX (ws.take 6) (ws.drop 8) (numOf (wd ws 7))
     else if ws.length = 11 ∧ wd ws 6 = wMarks then flowX (ws.take 6) (ws.drop 7) (-1) else ln0)
  else if wd ws 0 = wFilter then (if 2 ≤ ws.length then { ln0 with kind := 115, stp := ⟨1, restOf l, 0⟩ } else ln0)
  else if wd ws 0 = wSet then (if 2 ≤ ws.length then { ln0 with kind := 115, stp := ⟨2, restOf l, 0⟩ } else ln0)
  else if wd ws 0 = wKey then (if ws.length = 2 ∧ isNumber (wd ws 1) = true then { ln0 with kind := 115, stp := ⟨3, [], numOf (wd ws 1)⟩ } else ln0)
  else if wd ws 0 = wWindow then windowX ws
  else if wd ws 0 = wAgg then (if ws.length = 2 ∧ aggOf (wd ws 1) ≠ 0 then { ln0 with kind := 97, agg := aggOf (wd ws 1) } else ln0)
  else ln0
/-- The words from place k on. -/
theorem WdsAt.drop {w : World} {b o n cap : Nat} {ws : List Bs} (h : WdsAt w (.slice (some ⟨b, o, none⟩) n cap) ws) {k : Nat} (hk : k ≤ n) : WdsAt w (.slice (some ⟨b, o + k, none⟩) (n - k) (cap - k)) (ws.drop k) := by
  obtain ⟨a', cap', h1, h2, h3, h3', h4⟩ := h
  injection h1 with e1 e2 e3
  subst e1 e3
  have hl : (ws.drop k).length = n - k := by rw [List.length_drop, e2]
  refine ⟨some ⟨b, o + k, none⟩, cap - k, by rw [hl], by omega, by omega, by omega, fun h0 => ?_⟩
  obtain ⟨b', o', e, hlt, hc⟩ := h4 (fun e => by rw [e] at h0; simp at h0)
  injection e with e
  injection e with e5 e6
  subst e5 e6
  refine ⟨b, o + k, rfl, hlt, fun j x hj u v hv => ?_⟩
  rw [List.getElem?_drop] at hj
  have := hc (k + j) x hj u v hv
  rw [show o + k + j * 1 + u = o + (k + j) * 1 + u by omega]
  exact this
end Go.Proofs.YtogcickcodlepaaGreatDoor.Pl
/-
  A struct handed back out of its own block, written whole. Conditions: as the statements say.
-/
namespace Go.Proofs.YtogcickcodlepaaGreatDoor.Pl
open Go.RowKit Go.Proofs.YtogcickcodlepaaGreatDoor.Ex

theorem res_cell {P : Program} {fn : Func} {tmps : Array Value} {w : World} {k g : Nat} {ty t : TypeId} {fr : Nat × Nat} {cs : Array Value} {fs : Array Field} (hf : fn.results = #[.cell k ty]) (ha : tmps.getD k undef = .pointer (some ⟨g, 0, none⟩)) (hg : w.heap[g]? = some (.cells cs t fr))
    (hu : P.underlying ty = some (.struct fs)) (hi : (P.info? ty).map (·.size) = some cs.size) : (results fn tmps).run P w = .ok (.agg cs) w := by
  have ha' : tmps[k]?.getD undef = .pointer (some ⟨g, 0, none⟩) := by simpa using ha
  unfold results
  rw [hf]
  simp [ha', asAddr, run_loadVar_row w g t ty cs fr _ hg hu rfl hi]
theorem info65 : (Tryz.prog.info? 65).map (·.size) = some 22 := by kernel_rfl
theorem one_ln (x : LnX) : (lnCs x).toArray.all (·.oneCell') = true := by
  simp [lnCs, Value.oneCell']
end Go.Proofs.YtogcickcodlepaaGreatDoor.Pl
