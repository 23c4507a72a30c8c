/-
  Texts joined into one file. Each part says in its own head what is proved there, and under which conditions.
-/
import Derived.Test.YtfoenfipefhpoaaGreatDoorJP2
import Derived.Test.YtfoenfipefhpoaaGreatDoorJP1
import Derived.Test.YtfoenfipefhpoaaGreatDoorJR3
import Derived.Deep.CutRange
import Derived.Deep.DeepCutAuto
import Derived.Test.YtfoenfipefhpoaaGreatDoorJP3
import Derived.StillTailTactics
import Derived.Lib.Hide
import Derived.Test.YtfoenfipefhpoaaGreatDoorJE1
set_option linter.unusedVariables false
set_option linter.unusedSimpArgs false
/-
  The document's small tests: a name, a topic's place, a window, a step. Conditions: as the statements say.
-/
namespace Go.Proofs.YtfoenfipefhpoaaGreatDoor.Pl
open Go.RowKit Go.Proofs.YtfoenfipefhpoaaGreatDoor.Ex

theorem nameB_false {c : UInt8} (h : nameB c = false) : ¬ (97 ≤ c.toNat ∧ c.toNat ≤ 122) ∧ ¬ (48 ≤ c.toNat ∧ c.toNat ≤ 57) ∧ c.toNat ≠ 45 := by
  unfold nameB at h
  simp only [Bool.or_eq_false_iff, Bool.and_eq_false_iff, decide_eq_false_iff_not] at h
  refine ⟨by omega, by omega, fun e => ?_⟩
  have : c = 45 := UInt8.toNat_inj.1 (by rw [e]; rfl)
  rw [this] at h
  exact absurd h.2.2 (by decide)
theorem nameB_true {c : UInt8} (h : nameB c = true) : (97 ≤ c.toNat ∧ c.toNat ≤ 122) ∨ (48 ≤ c.toNat ∧ c.toNat ≤ 57) ∨ c.toNat = 45 := by
  unfold nameB at h
  simp only [Bool.or_eq_true, Bool.and_eq_true, decide_eq_true_eq, beq_iff_eq] at h
  rcases h with h | h | h
  · exact .inl h
  · exact .inr (.inl h)
  · exact .inr (.inr (by rw [h]; rfl))
set_option maxHeartbeats 1000000 in
theorem rname_any (s : ByteArray) (w : World) : Calls Tryz.prog 21 #[.string s] w fun e w' => e = .returned (.bool (isName s.data.toList)) ∧ w = w' := by
  have hlen : s.data.toList.length = s.size := by simp
  by_cases hb : s.size < 1 ∨ 16 < s.size
  · have H : Hid (isName s.data.toList = false) := Lib.hid (by unfold isName; rw [hlen]; rcases hb with h | h <;> simp <;> omega)
    clear hlen
    rcases hb with h | h
    · go_enter Tryz.func21, Tryz.ntmps21
      go_wp2
      go_ret
      exact ⟨ret_bool H.out.symm, rfl⟩
    · have h1 : ¬ s.size < 1 := by omega
      go_enter Tryz.func21, Tryz.ntmps21
      go_wp2
      go_ret
      exact ⟨ret_bool H.out.symm, rfl⟩
  · have h1 : ¬ s.size < 1 := by omega
    have h2 : ¬ 16 < s.size := by omega
    have H : Hid (isName s.data.toList = s.data.toList.all nameB) := Lib.hid (by unfold isName; rw [hlen, decide_eq_true (by omega : 1 ≤ s.size), decide_eq_true (by omega : s.size ≤ 16)]; rfl)
    clear hlen hb
    go_enter Tryz.func21, Tryz.ntmps21
    go_wp2
    go_loop [3, 4] (fun i _ => ∃ k : Nat, k ≤ s.size ∧ i = .int .i64 k ∧ Hid (isName s.data.toList = (s.data.toList.drop k).all nameB)) (fun i _ => s.size - (intOf i).toNat)
    case atStart => exact ⟨0, Nat.zero_le _, rfl, by simpa using H⟩
    case round =>
      obtain ⟨k, hk, rfl, hr⟩ := hrel
      by_cases hlt : k < s.size
      · have hd := all_drop (P := nameB) s.data.toList k (by simpa using hlt)
        cases hp : nameB s[k] with
        | true =>
          have HR : Hid (isName s.data.toList = (s.data.toList.drop (k + 1)).all nameB) := Lib.hid (by
            have : nameB s.data.toList[k] = true := hp
            rw [hr.out, hd, this]; rfl)
          have hq := nameB_true hp
          clear hr hd hp
          rcases hq with hq | hq | hq
          · have g1 : ¬ (s[k].toNat : Int) < 97 := by omega
            have g2 : ¬ 122 < (s[k].toNat : Int) := by omega
            clear hq
            go_wp2
            go_round
            case rel => exact ⟨k + 1, by omega, by go_num, HR⟩
            case measure => simp [intOf]; omega
          · have g1 : (s[k].toNat : Int) < 97 := by omega
            have g2 : ¬ (s[k].toNat : Int) < 48 := by omega
            have g3 : ¬ 57 < (s[k].toNat : Int) := by omega
            clear hq
            go_wp2
            go_round
            case rel => exact ⟨k + 1, by omega, by go_num, HR⟩
            case measure => simp [intOf]; omega
          · have g1 : (s[k].toNat : Int) < 97 := by omega
            have g2 : (s[k].toNat : Int) < 48 := by omega
            have g3 : ((s[k].toNat : Int) != 45) = false := by simp [hq]
            clear hq
            go_wp2
            go_round
            case rel => exact ⟨k + 1, by omega, by go_num, HR⟩
            case measure => simp [intOf]; omega
        | false =>
          have HR : Hid (isName s.data.toList = false) := Lib.hid (by
            have : nameB s.data.toList[k] = false := hp
            rw [hr.out, hd, this]; rfl)
          obtain ⟨q1, q2, q3⟩ := nameB_false hp
          have g9 : ((s[k].toNat : Int) != 45) = true := by simp; omega
          clear hr hd hp
          by_cases g1 : (s[k].toNat : Int) < 97
          · by_cases g2 : (s[k].toNat : Int) < 48
            · clear q1 q2 q3
              go_wp2
              go_ret
              exact ⟨ret_bool HR.out.symm, rfl⟩
            · have g3 : 57 < (s[k].toNat : Int) := by omega
              clear q1 q2 q3
              go_wp2
              go_ret
              exact ⟨ret_bool HR.out.symm, rfl⟩
          · have g2 : 122 < (s[k].toNat : Int) := by omega
            have g3 : ¬ (s[k].toNat : Int) < 48 := by omega
            have g4 : 57 < (s[k].toNat : Int) := by omega
            clear q1 q2 q3
            go_wp2
            go_ret
            exact ⟨ret_bool HR.out.symm, rfl⟩
      · have HR : Hid (isName s.data.toList = true) := Lib.hid (by rw [hr.out, List.drop_eq_nil_of_le (by simp; omega)]; rfl)
        clear hr
        go_wp2
        go_ret
        exact ⟨ret_bool HR.out.symm, rfl⟩
theorem rname_at (l : Bs) (w : World) {r : Bool} (hr : isName l = r) : Calls Tryz.prog 21 #[sv l] w fun e w' => e = .returned (.bool r) ∧ w = w' := by
  subst hr; exact rname_any ⟨l.toArray⟩ w
/-- A topic's place, or what stands for none. -/
def findT : List Top → Bs → Nat → Int
  | [], _, _ => -1
  | t :: r, n, k => if t.name = n then k else findT r n (k + 1)
theorem findT_drop (L : List Top) (n : Bs) (k : Nat) (hk : k < L.length) : findT (L.drop k) n k = if L[k].name = n then (k : Int) else findT (L.drop (k + 1)) n (k + 1) := by
  rw [List.drop_eq_getElem_cons hk]; rfl
set_option maxHeartbeats 1000000 in
theorem rfind_at {w : World} {a : Option Addr} {n cap : Nat} {L : List Top} (h : TopsAt w (.slice a n cap) L) {l : Bs} {R : Int} (hR : findT L l 0 = R) :
    Calls Tryz.prog 22 #[.slice a n cap, sv l] w fun e w' => e = .returned (.int .i64 R) ∧ w = w' := by
  obtain ⟨hn, hcap, hmax, _⟩ := h.len
  unfold maxLen at hmax
  have HR : Hid (findT (L.drop 0) l 0 = R) := Lib.hid (by simpa using hR)
  have HN := Lib.hid hn
  have HT := Lib.hid h
  clear hR h hn
  go_enter Tryz.func22, Tryz.ntmps22
  go_wp2
  go_loop [5] (fun i => ∃ k : Nat, k ≤ n ∧ i = .int .i64 k ∧ Hid (findT (L.drop k) l k = R)) (fun i => n - (intOf i).toNat)
  case atStart => exact ⟨0, Nat.zero_le _, rfl, HR⟩
  case round =>
    obtain ⟨k, hk, rfl, hr⟩ := hrel
    by_cases hlt : k < n
    · have hkl : k < L.length := by rw [← HN.out]; exact hlt
      obtain ⟨b, o, rfl, hbl, c0, c1⟩ := TopsAt.cells HT.out hkl
      have hd := findT_drop L l k hkl
      by_cases he : L[k].name = l
      · have HD : Hid (R = (k : Int)) := Lib.hid (by rw [← hr.out, hd, if_pos he])
        have e1 : (L[k].name == l) = true := beq_of_eq he
        clear hr hd he
        go_wp2
        go_ret
        exact ⟨ret_int HD.out.symm, rfl⟩
      · have HD : Hid (findT (L.drop (k + 1)) l (k + 1) = R) := Lib.hid (by rw [← hr.out, hd, if_neg he])
        have e1 : (L[k].name == l) = false := beq_of_ne he
        clear hr hd he
        go_wp2
        go_round
        case rel => exact ⟨k + 1, by omega, by go_num, HD⟩
        case measure => simp [intOf]; omega
    · have HD : Hid (R = -1) := Lib.hid (by rw [← hr.out, List.drop_eq_nil_of_le (by have := HN.out; omega)]; rfl)
      clear hr
      go_wp2
      go_ret
      exact ⟨ret_int HD.out.symm, rfl⟩
/-- What the document asks of a window and its aggregate. -/
def rwin (v : Win) (g : Int) : Bool :=
  if v.kind = 0 then decide (v.size = 0) && (decide (v.slide = 0) && decide (g = 0))
  else if v.size < 1 ∨ 1000000 < v.size ∨ g < 1 ∨ 4 < g then false
  else if v.kind = 1 ∨ v.kind = 3 then decide (v.slide = 0)
  else if v.kind = 2 then decide (1 ≤ v.slide) && (decide (v.slide ≤ v.size) && decide (v.size ≤ 16 * v.slide))
  else false
theorem rwin_eq (v : Win) (g : Int) : rwin v g = (isWindow v && isAgg v g) := by
  unfold rwin isWindow isAgg
  by_cases h0 : v.kind = 0
  · simp [h0, Bool.and_assoc]
  · simp only [if_neg h0]
    by_cases hb : v.size < 1 ∨ 1000000 < v.size ∨ g < 1 ∨ 4 < g
    · rw [if_pos hb]
      symm
      rw [Bool.and_eq_false_iff]
      rcases hb with h | h | h | h
      · left; split
        · rw [Bool.and_eq_false_iff]; left; simp; omega
        · split
          · rw [Bool.and_eq_false_iff]; left; simp; omega
          · rfl
      · left; split
        · rw [Bool.and_eq_false_iff]; right; rw [Bool.and_eq_false_iff]; left; simp; omega
        · split
          · rw [Bool.and_eq_false_iff]; right; rw [Bool.and_eq_false_iff]; left; simp; omega
          · rfl
      · right; rw [Bool.and_eq_false_iff]; left; simp; omega
      · right; rw [Bool.and_eq_false_iff]; right; simp; omega
    · rw [if_neg hb]
      have d1 : decide (1 ≤ v.size) = true := by simp; omega
      have d2 : decide (v.size ≤ 1000000) = true := by simp; omega
      have d3 : decide (1 ≤ g) = true := by simp; omega
      have d4 : decide (g ≤ 4) = true := by simp; omega
      simp only [d1, d2, d3, d4, Bool.true_and, Bool.and_true]
end Go.Proofs.YtfoenfipefhpoaaGreatDoor.Pl
/-
  The document's tests of a window and of a step. Conditions: as the statements say.
-/
namespace Go.Proofs.YtfoenfipefhpoaaGreatDoor.Pl
open Go.RowKit Go.Proofs.YtfoenfipefhpoaaGreatDoor.Ex

set_option maxHeartbeats 2000000 in
theorem rwin_at (v : Win) (g : Int) (w : World) {r : Bool} (hr : rwin v g = r) : Calls Tryz.prog 34 #[winV v, .int .i64 g] w fun e w' => e = .returned (.bool r) ∧ Below w.heap.size w w' := by
  obtain ⟨kd, sz, sl⟩ := v
  subst hr
  unfold rwin
  dsimp only
  by_cases h0 : kd = 0
  · rw [if_pos h0]
    subst h0
    go_enter Tryz.func34, Tryz.ntmps34
    go_wp2
    all_goals go_ret
    all_goals exact ⟨ret_bool (by first | rfl | (rw [Bool.eq_iff_iff]; simp [*]; done) | (rw [Bool.eq_iff_iff]; simp [*]; intros; omega)), (Below.refl _ _).alloc (Nat.le_refl _) _⟩
  rw [if_neg h0]
  have f0 := ibne h0
  by_cases hb : sz < 1 ∨ 1000000 < sz ∨ g < 1 ∨ 4 < g
  · rw [if_pos hb]
    go_enter Tryz.func34, Tryz.ntmps34
    by_cases b1 : sz < 1
    · go_wp2
      go_ret
      exact ⟨rfl, (Below.refl _ _).alloc (Nat.le_refl _) _⟩
    by_cases b2 : 1000000 < sz
    · go_wp2
      go_ret
      exact ⟨rfl, (Below.refl _ _).alloc (Nat.le_refl _) _⟩
    by_cases b3 : g < 1
    · go_wp2
      go_ret
      exact ⟨rfl, (Below.refl _ _).alloc (Nat.le_refl _) _⟩
    · have b4 : 4 < g := by omega
      go_wp2
      go_ret
      exact ⟨rfl, (Below.refl _ _).alloc (Nat.le_refl _) _⟩
  rw [if_neg hb]
  have b1 : ¬ sz < 1 := fun h => hb (.inl h)
  have b2 : ¬ 1000000 < sz := fun h => hb (.inr (.inl h))
  have b3 : ¬ g < 1 := fun h => hb (.inr (.inr (.inl h)))
  have b4 : ¬ 4 < g := fun h => hb (.inr (.inr (.inr h)))
  clear hb
  by_cases h1 : kd = 1
  · rw [if_pos (.inl h1)]
    subst h1
    go_enter Tryz.func34, Tryz.ntmps34
    go_wp2
    all_goals go_ret
    all_goals exact ⟨ret_bool (by first | rfl | (rw [Bool.eq_iff_iff]; simp [*]; done) | (rw [Bool.eq_iff_iff]; simp [*]; intros; omega)), (Below.refl _ _).alloc (Nat.le_refl _) _⟩
  by_cases h3 : kd = 3
  · rw [if_pos (.inr h3)]
    subst h3
    go_enter Tryz.func34, Tryz.ntmps34
    go_wp2
    all_goals go_ret
    all_goals exact ⟨ret_bool (by first | rfl | (rw [Bool.eq_iff_iff]; simp [*]; done) | (rw [Bool.eq_iff_iff]; simp [*]; intros; omega)), (Below.refl _ _).alloc (Nat.le_refl _) _⟩
  rw [if_neg (by simp [h1, h3])]
  have f1 := ibne h1
  have f3 := ibne h3
  by_cases h2 : kd = 2
  · rw [if_pos h2]
    subst h2
    by_cases s1 : 1 ≤ sl
    · by_cases s2 : sl ≤ sz
      · have w1 : wrap64 (16 * sl) = 16 * sl := by unfold wrap64; omega
        go_enter Tryz.func34, Tryz.ntmps34
        go_wp2
        all_goals go_ret
        all_goals exact ⟨ret_bool (by first | rfl | (rw [Bool.eq_iff_iff]; simp [*]; done) | (rw [Bool.eq_iff_iff]; simp [*]; intros; omega)), (Below.refl _ _).alloc (Nat.le_refl _) _⟩
      · go_enter Tryz.func34, Tryz.ntmps34
        go_wp2
        all_goals go_ret
        all_goals exact ⟨ret_bool (by first | rfl | (rw [Bool.eq_iff_iff]; simp [*]; done) | (rw [Bool.eq_iff_iff]; simp [*]; intros; omega)), (Below.refl _ _).alloc (Nat.le_refl _) _⟩
    · go_enter Tryz.func34, Tryz.ntmps34
      go_wp2
      all_goals go_ret
      all_goals exact ⟨ret_bool (by first | rfl | (rw [Bool.eq_iff_iff]; simp [*]; done) | (rw [Bool.eq_iff_iff]; simp [*]; intros; omega)), (Below.refl _ _).alloc (Nat.le_refl _) _⟩
  · rw [if_neg h2]
    have f2 := ibne h2
    go_enter Tryz.func34, Tryz.ntmps34
    go_wp2
    all_goals go_ret
    all_goals exact ⟨rfl, (Below.refl _ _).alloc (Nat.le_refl _) _⟩
theorem rexpr_at {l : Bs} {w : World} (hs : l.length ≤ maxLen) {r : Int} (hr : exprErr l = r) :
    Calls Tryz.prog 42 #[sv l] w fun e w' => ∃ (p : Option Addr) (pos : Nat), e = .returned (.tuple #[.pointer p, .int .i64 pos, .int .i64 r]) ∧ Below w.heap.size w w' := by
  subst hr
  refine (rparse_any (s := ⟨l.toArray⟩) (by show l.toArray.size ≤ maxLen; rw [List.size_toArray]; exact hs)).mono ?_
  unfold exprErr RParsed
  intro e w' h
  change Below w.heap.size w w' ∧ (match parse l with | .ok T => _ | .err pos n => _) at h
  cases hp : parse l with
  | ok T =>
    rw [hp] at h
    obtain ⟨hb, -, -, x, he, -⟩ := h
    exact ⟨_, 0, he, hb⟩
  | err pos n =>
    rw [hp] at h
    exact ⟨none, pos, h.2, h.1⟩
def rstepErr (post : Bool) (s : Stp) : Int := if post = true then postErr s else stepErr s
set_option maxHeartbeats 2000000 in
theorem rstep_at (s : Stp) (post : Bool) {w : World} (hs : s.text.length ≤ maxLen) {R : Int} (hR : rstepErr post s = R) :
    Calls Tryz.prog 35 #[stpV s, .bool post] w fun e w' => e = .returned (.int .i64 R) ∧ Below w.heap.size w w' := by
  obtain ⟨kd, tx, n⟩ := s
  have hb0 : Below w.heap.size w (w.alloc (.cells #[.int .i64 kd, sv tx, .int .i64 n] 72)) := (Below.refl _ _).alloc (Nat.le_refl _) _
  have HB := Lib.hid hb0
  have HS := Lib.hid hs
  clear hb0 hs
  unfold rstepErr postErr stepErr at hR
  dsimp only at hR
  by_cases h3 : kd = 3
  · subst h3
    cases post with
    | true =>
      have HR : Hid (R = 54) := Lib.hid (by rw [← hR]; simp)
      clear hR
      go_enter Tryz.func35, Tryz.ntmps35
      go_wp2
      go_ret
      exact ⟨ret_int HR.out.symm, HB.out⟩
    | false =>
      rw [if_neg (by decide), if_pos rfl] at hR
      by_cases h4 : tx = []
      · subst h4
        by_cases h1 : n < 0
        · have HR : Hid (R = 54) := Lib.hid (by rw [← hR, if_pos (.inl h1)])
          clear hR
          go_enter Tryz.func35, Tryz.ntmps35
          go_wp2
          go_ret
          exact ⟨ret_int HR.out.symm, HB.out⟩
        by_cases h2 : 16 < n
        · have HR : Hid (R = 54) := Lib.hid (by rw [← hR, if_pos (.inr (.inl h2))])
          clear hR
          go_enter Tryz.func35, Tryz.ntmps35
          go_wp2
          go_ret
          exact ⟨ret_int HR.out.symm, HB.out⟩
        · have HR : Hid (R = 0) := Lib.hid (by rw [← hR, if_neg (by simp [h1, h2])])
          clear hR
          go_enter Tryz.func35, Tryz.ntmps35
          go_wp2
          go_ret
          exact ⟨ret_int HR.out.symm, HB.out⟩
      · have HR : Hid (R = 54) := Lib.hid (by rw [← hR, if_pos (.inr (.inr h4))])
        have e1 := (isEmpty_of tx).2 h4
        clear hR h4
        go_enter Tryz.func35, Tryz.ntmps35
        go_wp2
        go_ret
        exact ⟨ret_int HR.out.symm, HB.out⟩
  have hR2 : (if kd = 1 ∨ kd = 2 then (if n ≠ 0 ∨ tx.head? = some 32 ∨ tx.getLast? = some 32 then 54 else exprErr tx) else 54) = R := by
    rw [← hR]
    cases post <;> simp [h3]
  clear hR
  have f3 := ibne h3
  clear h3
  by_cases hk : kd = 1 ∨ kd = 2
  · rw [if_pos hk] at hR2
    by_cases hn : n = 0
    · subst hn
      match tx, HS, HB, hR2 with
      | [], HS, HB, hR2 =>
        have HE : Hid (exprErr [] = R) := Lib.hid (by rw [← hR2]; simp)
        clear hR2
        rcases hk with rfl | rfl
        · go_enter Tryz.func35, Tryz.ntmps35
          go_wp2_with (go_at_call 42; refine (rexpr_at (l := []) (by decide) HE.out).mono ?_; rintro e w1 ⟨p, pos, rfl, hb1⟩; have HB1 := Lib.hid (HB.out.trans (hb1.mono HB.out.size)); clear hb1)
          go_ret
          exact ⟨rfl, HB1.out⟩
        · go_enter Tryz.func35, Tryz.ntmps35
          go_wp2_with (go_at_call 42; refine (rexpr_at (l := []) (by decide) HE.out).mono ?_; rintro e w1 ⟨p, pos, rfl, hb1⟩; have HB1 := Lib.hid (HB.out.trans (hb1.mono HB.out.size)); clear hb1)
          go_ret
          exact ⟨rfl, HB1.out⟩
      | c :: r, HS, HB, hR2 =>
        obtain ⟨l1, hl1⟩ : ∃ m, r.length = m := ⟨_, rfl⟩
        have hsz : (⟨(c :: r).toArray⟩ : ByteArray).size = l1 + 1 := by show (c :: r).toArray.size = _; rw [List.size_toArray, List.length_cons, hl1]
        have i1 : ((l1 : Int) + 1) - 1 = (l1 : Int) := by omega
        have i2 : (0 : Int) ≤ (l1 : Int) := by omega
        have hz0 : 0 < (⟨(c :: r).toArray⟩ : ByteArray).size := by omega
        have hz1 : l1 < (⟨(c :: r).toArray⟩ : ByteArray).size := by omega
        have hle := HS.out
        simp only [List.length_cons, hl1] at hle
        unfold maxLen at hle
        have wr : wrap64 (l1 : Int) = (l1 : Int) := by unfold wrap64; omega
        have c0 : (⟨(c :: r).toArray⟩ : ByteArray)[0]'hz0 = c := rfl
        have c1 : (c :: r).getLast? = some ((⟨(c :: r).toArray⟩ : ByteArray)[l1]'hz1) := by
          rw [List.getLast?_eq_getElem?]
          have : (c :: r).length - 1 = l1 := by simp [hl1]
          rw [this]
          exact List.getElem?_eq_getElem (by simp; omega)
        by_cases g0 : (((⟨(c :: r).toArray⟩ : ByteArray)[0]'hz0).toNat : Int) = 32
        · have HR : Hid (R = 54) := Lib.hid (by
            have : c = 32 := UInt8.toNat_inj.1 (by rw [c0] at g0; show c.toNat = 32; omega)
            rw [← hR2, if_pos (.inr (.inl (by simp [this])))])
          have g0' := ibeq g0
          clear hR2 c0 c1 hle
          rcases hk with rfl | rfl
          · go_enter Tryz.func35, Tryz.ntmps35
            go_wp2
            go_ret
            exact ⟨ret_int HR.out.symm, HB.out⟩
          · go_enter Tryz.func35, Tryz.ntmps35
            go_wp2
            go_ret
            exact ⟨ret_int HR.out.symm, HB.out⟩
        · have g0' := ibne g0
          by_cases g1 : (((⟨(c :: r).toArray⟩ : ByteArray)[l1]'hz1).toNat : Int) = 32
          · have HR : Hid (R = 54) := Lib.hid (by
              have : ((⟨(c :: r).toArray⟩ : ByteArray)[l1]'hz1) = 32 := UInt8.toNat_inj.1 (by show _ = 32; omega)
              rw [← hR2, if_pos (.inr (.inr (by rw [c1, this])))])
            have g1' := ibeq g1
            clear hR2 c0 c1 hle
            rcases hk with rfl | rfl
            · go_enter Tryz.func35, Tryz.ntmps35
              go_wp2
              go_ret
              exact ⟨ret_int HR.out.symm, HB.out⟩
            · go_enter Tryz.func35, Tryz.ntmps35
              go_wp2
              go_ret
              exact ⟨ret_int HR.out.symm, HB.out⟩
          · have HE : Hid (exprErr (c :: r) = R) := Lib.hid (by
              rw [← hR2, if_neg]
              rintro (h | h | h)
              · exact h rfl
              · have : c = 32 := by simpa using h
                exact g0 (by rw [c0, this]; rfl)
              · rw [c1] at h
                injection h with h
                exact g1 (by rw [h]; rfl))
            have g1' := ibne g1
            clear hR2 c0 c1 hle
            rcases hk with rfl | rfl
            · go_enter Tryz.func35, Tryz.ntmps35
              go_wp2_with (go_at_call 42; refine (rexpr_at (l := c :: r) HS.out HE.out).mono ?_; rintro e w1 ⟨p, pos, rfl, hb1⟩; have HB1 := Lib.hid (HB.out.trans (hb1.mono HB.out.size)); clear hb1)
              go_ret
              exact ⟨rfl, HB1.out⟩
            · go_enter Tryz.func35, Tryz.ntmps35
              go_wp2_with (go_at_call 42; refine (rexpr_at (l := c :: r) HS.out HE.out).mono ?_; rintro e w1 ⟨p, pos, rfl, hb1⟩; have HB1 := Lib.hid (HB.out.trans (hb1.mono HB.out.size)); clear hb1)
              go_ret
              exact ⟨rfl, HB1.out⟩
    · have HR : Hid (R = 54) := Lib.hid (by rw [← hR2, if_pos (.inl hn)])
      have e1 := inebt hn
      clear hR2 hn
      rcases hk with rfl | rfl
      · go_enter Tryz.func35, Tryz.ntmps35
        go_wp2
        go_ret
        exact ⟨ret_int HR.out.symm, HB.out⟩
      · go_enter Tryz.func35, Tryz.ntmps35
        go_wp2
        go_ret
        exact ⟨ret_int HR.out.symm, HB.out⟩
  · have HR : Hid (R = 54) := Lib.hid (by rw [← hR2, if_neg hk])
    have f1 : (kd == 1) = false := ibne (fun h => hk (.inl h))
    have f2 : (kd == 2) = false := ibne (fun h => hk (.inr h))
    clear hR2 hk
    go_enter Tryz.func35, Tryz.ntmps35
    go_wp2
    go_ret
    exact ⟨ret_int HR.out.symm, HB.out⟩
end Go.Proofs.YtfoenfipefhpoaaGreatDoor.Pl
/-
  What the document's test of a flow says in plain words, and what its walk keeps. Conditions: as the statements say.
-/
namespace Go.Proofs.YtfoenfipefhpoaaGreatDoor.Pl
open Go.RowKit Go.Proofs.YtfoenfipefhpoaaGreatDoor.Ex

theorem findT_cases : ∀ (L : List Top) (n : Bs) (k : Nat), (findT L n k = -1 ∧ partsOf L n = 0) ∨ ∃ j, ∃ h : j < L.length, findT L n k = ((k + j : Nat) : Int) ∧ L[j].name = n ∧ partsOf L n = L[j].parts
  | [], n, k => .inl ⟨rfl, rfl⟩
  | t :: r, n, k => by
    by_cases h : t.name = n
    · exact .inr ⟨0, by simp, by simp [findT, h], h, by simp [partsOf, h]⟩
    · rcases findT_cases r n (k + 1) with ⟨h1, h2⟩ | ⟨j, hj, h1, h2, h3⟩
      · exact .inl ⟨by simp only [findT, if_neg h]; exact h1, by simp only [partsOf, if_neg h]; exact h2⟩
      · exact .inr ⟨j + 1, by simp; omega, by simp only [findT, if_neg h]; rw [h1]; congr 1; omega, by simpa using h2, by simp only [partsOf, if_neg h]; simpa using h3⟩
/-- The first of numbers that is not zero. -/
def firstI : List Int → Int
  | [] => 0
  | x :: r => if x = 0 then firstI r else x
theorem firstI_map (g : Stp → Int) (L : List Stp) (T : List Int) : firstI (L.map g ++ T) = if firstErr g L = 0 then firstI T else firstErr g L := by
  induction L with
  | nil => simp [firstErr]
  | cons s r ih =>
    by_cases h : g s = 0
    · have e1 : firstErr g (s :: r) = firstErr g r := if_pos h
      have e2 : firstI ((s :: r).map g ++ T) = firstI (r.map g ++ T) := if_pos h
      rw [e1, e2]; exact ih
    · have e1 : firstErr g (s :: r) = g s := if_neg h
      have e2 : firstI ((s :: r).map g ++ T) = g s := if_neg h
      rw [e1, e2, if_neg h]
theorem steps_firstI (f : Flw) : stepsErr f = firstI (f.pre.map stepErr ++ f.post.map postErr) := by
  rw [firstI_map]
  have := firstI_map postErr f.post []
  rw [List.append_nil] at this
  rw [this]
  unfold stepsErr
  split
  · split
    · rename_i h; rw [h]; rfl
    · rfl
  · rfl
theorem firstI_drop (L : List Int) (k : Nat) (hk : k < L.length) : firstI (L.drop k) = if L[k] = 0 then firstI (L.drop (k + 1)) else L[k] := by
  rw [List.drop_eq_getElem_cons hk]; rfl
/-- What the walk keeps of the world behind its first statement. -/
structure FX (bp bf : Nat) (vt vf : Value) (ts : List Top) (es : List FE) (q : FE) (X : World) : Prop where
  box : Box X bf q
  pbox : PBox X bp vt vf
  tops : TopsAt X vt ts
  flws : FlwsAt X vf es
  ok : FEok X q
theorem FX.grow {bp bf : Nat} {vt vf : Value} {ts : List Top} {es : List FE} {q : FE} {X Y : World} (h : FX bp bf vt vf ts es q X) (hb : Below X.heap.size X Y) : FX bp bf vt vf ts es q Y :=
  ⟨h.box.grow hb, h.pbox.grow hb, h.tops.grow hb, h.flws.grow hb, h.ok.grow hb⟩
theorem bound_eq (all : List Flw) (f : Flw) : isBound all f = false ↔ (f.bound < -1 ∨ 1000000 < f.bound ∨ (writes all f.frm = true ∧ f.bound ≠ -1)) := by
  unfold isBound
  cases hw : writes all f.frm with
  | true => simp; omega
  | false => simp; omega
theorem counts_eq (ts : List Top) (f : Flw) {x : Int} (hx : partsOf ts f.frm = x) : areCounts ts f = false ↔ (f.readers < 1 ∨ 8 < f.readers ∨ x < f.readers ∨ f.keepers < 1 ∨ 8 < f.keepers) := by
  unfold areCounts
  rw [hx]
  simp only [Bool.and_eq_false_iff, decide_eq_false_iff_not]
  omega
theorem take_any {es : List FE} {i k : Nat} (hk : k < i) (hi : i ≤ es.length) (P : FE → Bool) : ((es.take i).drop k).any P = (P (es[k]'(by omega)) || ((es.take i).drop (k + 1)).any P) := by
  rw [any_drop P (es.take i) k (by rw [List.length_take]; omega)]
  congr 2
  exact List.getElem_take
theorem map_take_any (es : List FE) (i : Nat) (P : Flw → Bool) : ((es.map FE.f).take i).any P = (es.take i).any (fun q => P q.f) := by
  rw [← List.map_take, any_map]
end Go.Proofs.YtfoenfipefhpoaaGreatDoor.Pl
/-
  The document's Check. Conditions: the plan lies in memory; what the document's test of a flow says is handed in.
-/
namespace Go.Proofs.YtfoenfipefhpoaaGreatDoor.Pl
open Go.RowKit Go.Proofs.YtfoenfipefhpoaaGreatDoor.Ex

theorem findT_app (n : Bs) : ∀ (A B : List Top) (k : Nat), findT (A ++ B) n k = if findT A n k = -1 then findT B n (k + A.length) else findT A n k
  | [], B, k => by simp [findT]
  | t :: r, B, k => by
    by_cases h : t.name = n
    · have e1 : findT (t :: r ++ B) n k = (k : Int) := by simp [findT, h]
      have e2 : findT (t :: r) n k = (k : Int) := by simp [findT, h]
      rw [e1, e2, if_neg (by omega)]
    · have e1 : findT (t :: r ++ B) n k = findT (r ++ B) n (k + 1) := by simp [findT, h]
      have e2 : findT (t :: r) n k = findT r n (k + 1) := by simp [findT, h]
      rw [e1, e2, findT_app n r B (k + 1), List.length_cons, show k + 1 + r.length = k + (r.length + 1) by omega]
theorem find_lt {L : List Top} {i : Nat} (hi : i < L.length) (hp : ∀ t ∈ L.take i, 1 ≤ t.parts) : (findT L L[i].name 0 < (i : Int)) ↔ 0 < partsOf (L.take i) L[i].name := by
  obtain ⟨x, hx⟩ : ∃ x, L[i].name = x := ⟨_, rfl⟩
  rw [hx]
  have hl : (L.take i).length = i := by rw [List.length_take]; omega
  have h1 : findT L x 0 = if findT (L.take i) x 0 = -1 then findT (L.drop i) x (0 + (L.take i).length) else findT (L.take i) x 0 := by
    rw [← findT_app x (L.take i) (L.drop i) 0, List.take_append_drop]
  have h2 : findT (L.drop i) x (0 + (L.take i).length) = (i : Int) := by
    rw [List.drop_eq_getElem_cons hi, hl]; simp [findT, hx]
  rw [h1, h2]
  rcases findT_cases (L.take i) x 0 with ⟨a, b⟩ | ⟨j, hj, a, b, c⟩
  · rw [a, if_pos rfl, b]; omega
  · rw [a, if_neg (by omega), c]
    have := hp _ (List.getElem_mem hj)
    omega
theorem topErr_parts {e : List Top} {t : Top} (h : topErr e t = 0) : 1 ≤ t.parts := (topErr_zero h).2.1
/-- What the document's test of a flow does, as a premise. -/
def FlowDoes : Prop := ∀ {w : World} {at_ af : Option Addr} {nt ct nf cf i : Nat} {ts : List Top} {es : List FE}, TopsAt w (.slice at_ nt ct) ts → FlwsAt w (.slice af nf cf) es → ∀ (hi : i < es.length), (∀ t ∈ ts, 1 ≤ t.parts) → ∀ {R : Int}, flwErr ts (es.map FE.f) ((es.map FE.f).take i) es[i].f = R →
    Calls Tryz.prog 23 #[.agg #[.slice at_ nt ct, .slice af nf cf], .int .i64 i] w fun e w' => e = .returned (.int .i64 R) ∧ Below w.heap.size w w'
theorem flow_of (HFD : FlowDoes) {w : World} {at_ af : Option Addr} {nt ct nf cf i : Nat} {ts : List Top} {es : List FE} (ht : TopsAt w (.slice at_ nt ct) ts) (hf : FlwsAt w (.slice af nf cf) es) {fs : List Flw} (hfs : es.map FE.f = fs) (hi : i < fs.length) (hts : ∀ t ∈ ts, 1 ≤ t.parts)
    {R : Int} (hR : flwErr ts fs (fs.take i) fs[i] = R) :
    Calls Tryz.prog 23 #[.agg #[.slice at_ nt ct, .slice af nf cf], .int .i64 i] w fun e w' => e = .returned (.int .i64 R) ∧ Below w.heap.size w w' := by
  subst hfs
  have hi' : i < es.length := by simpa using hi
  refine HFD ht hf hi' hts ?_
  rw [← hR]
  simp [List.map_take]
theorem take_parts {L : List Top} {k : Nat} (hk : k < L.length) (h : ∀ t ∈ L.take k, 1 ≤ t.parts) (hz : 1 ≤ L[k].parts) : ∀ t ∈ L.take (k + 1), 1 ≤ t.parts := by
  rw [List.take_succ_eq_append_getElem hk]
  intro t ht
  rcases List.mem_append.1 ht with h1 | h1
  · exact h t h1
  · rw [List.mem_singleton.1 h1]; exact hz
set_option maxRecDepth 20000 in
set_option maxHeartbeats 4000000 in
theorem rcheck_any (HFD : FlowDoes) {w : World} {v : Value} {p : Pln} (h : PlnAt w v p) : Calls Tryz.prog 7 #[v] w fun e w' => RetAt (check p) e ∧ Below w.heap.size w w' := by
  obtain ⟨vt, vf, es, rfl, ht, hf, he⟩ := h
  obtain ⟨a1, c1, rfl⟩ := ht.val
  obtain ⟨a2, c2, rfl⟩ := hf.1.val
  obtain ⟨n, hn⟩ : ∃ n, p.tops.length = n := ⟨_, rfl⟩
  obtain ⟨m, hm⟩ : ∃ m, es.length = m := ⟨_, rfl⟩
  have hml : p.flws.length = m := by rw [← he, List.length_map, hm]
  obtain ⟨-, -, k1, -⟩ := ht.len
  obtain ⟨-, -, k2, -⟩ := hf.1.len
  unfold maxLen at k1 k2
  rw [hn] at ht k1 ⊢
  rw [hm] at hf k2 ⊢
  obtain ⟨W, hW⟩ : ∃ W, w.alloc (.cells #[.slice a1 n c1, .slice a2 m c2] 25) = W := ⟨_, rfl⟩
  have bw : Below w.heap.size w W := by rw [← hW]; exact (Below.refl _ _).alloc (Nat.le_refl _) _
  have hx : PBox W w.heap.size (.slice a1 n c1) (.slice a2 m c2) := by rw [← hW]; exact heap_alloc_new w _
  obtain ⟨X, hX⟩ : ∃ X, check p = X := ⟨_, rfl⟩
  rw [hX]
  unfold check at hX
  rw [hn, hml] at hX
  obtain ⟨p0, p1⟩ := hx.cells
  by_cases hbig : 16 < n ∨ 8 < m
  · rw [if_pos hbig] at hX
    rw [← hX]
    have HB := Lib.hid bw
    rcases Nat.lt_or_ge 16 n with hb | hb
    · have hb' : (16 : Int) < (n : Int) := by omega
      clear ht hf hX he hml bw hx hbig
      go_enter Tryz.func7, Tryz.ntmps7
      go_wp2
      go_ret2
      exact ⟨rfl, HB.out⟩
    · have hb' : ¬ (16 : Int) < (n : Int) := by omega
      have hc' : (8 : Int) < (m : Int) := by omega
      clear ht hf hX he hml bw hx hbig
      go_enter Tryz.func7, Tryz.ntmps7
      go_wp2
      go_ret2
      exact ⟨rfl, HB.out⟩
  · rw [if_neg hbig] at hX
    have hck := hX
    have hb' : ¬ (16 : Int) < (n : Int) := by omega
    have hc' : ¬ (8 : Int) < (m : Int) := by omega
    have HCK := Lib.hid hck
    have HB := Lib.hid bw
    have HX := Lib.hid hx
    have HT := Lib.hid (Lst.grow ht bw)
    have HF := Lib.hid (hf.grow bw)
    have HE := Lib.hid he
    have HN := Lib.hid (And.intro hn hm)
    have H0 : Hid (topsErr (p.tops.take 0) (p.tops.drop 0) = topsErr [] p.tops) := Lib.hid (by simp)
    have hn16 : n ≤ 16 := by omega
    have hm8 : m ≤ 8 := by omega
    clear ht hf hX he hml bw hx hck hn hm hbig k1 k2
    go_enter Tryz.func7, Tryz.ntmps7
    go_wp2
    obtain ⟨Y, hY⟩ : ∃ Y, topsErr [] p.tops = Y := ⟨_, rfl⟩
    have hc0 := HCK.out
    rw [hY] at hc0
    have HC0 := Lib.hid hc0
    have H1 : Hid (topsErr (p.tops.take 0) (p.tops.drop 0) = Y) := Lib.hid (by rw [H0.out, hY])
    have H2 : Hid (∀ t ∈ p.tops.take 0, 1 ≤ t.parts) := Lib.hid (by simp)
    have HW := Lib.hid hW
    clear hc0 hY hW HCK H0 p0 p1
    obtain ⟨bp, hbp⟩ : ∃ bp, w.heap.size = bp := ⟨_, rfl⟩
    have HB0 := HB
    rw [hbp] at HX ⊢
    clear hbp HW
    go_loopw [4, 5] (fun i _ wr => ∃ k : Nat, k ≤ n ∧ i = .int .i64 k ∧ Hid (topsErr (p.tops.take k) (p.tops.drop k) = Y) ∧ Hid (∀ t ∈ p.tops.take k, 1 ≤ t.parts) ∧ Hid (Below W.heap.size W wr)) (fun i _ _ => n - (intOf i).toNat)
    case atStart => exact ⟨0, Nat.zero_le _, rfl, H1, H2, Lib.hid (Below.refl _ _)⟩
    case round =>
      obtain ⟨k, hk, rfl, hr, hq, hb⟩ := hrel
      obtain ⟨p0, p1⟩ := (HX.out.grow hb.out).cells
      have bl : bp < wr.heap.size := lt_of_heap (HX.out.grow hb.out)
      have bn : ¬ bp = wr.heap.size := Nat.ne_of_lt bl
      by_cases hlt : k < n
      · have hkl : k < p.tops.length := by rw [HN.out.1]; exact hlt
        have hd := topsErr_drop p.tops k hkl
        rw [hr.out] at hd
        obtain ⟨b, o, rfl, hbl, c0, c1⟩ := TopsAt.cells (TopsAt.grow HT.out hb.out) hkl
        obtain ⟨nm, hnm⟩ : ∃ nm, p.tops[k].name = nm := ⟨_, rfl⟩
        obtain ⟨pt, hpt⟩ : ∃ pt, p.tops[k].parts = pt := ⟨_, rfl⟩
        have hf1 := find_lt hkl hq.out
        have hq1 := fun h => take_parts hkl hq.out h
        unfold topErr at hd
        rw [hnm] at hd hf1 c0
        rw [hpt] at hd hq1 c1
        obtain ⟨F, hF⟩ : ∃ F, findT p.tops nm 0 = F := ⟨_, rfl⟩
        rw [hF] at hf1
        have HFi := Lib.hid hF
        have HTk := Lib.hid (TopsAt.grow HT.out (hb.out.alloc hb.out.size (.cells #[sv nm, .int .i64 pt] 53)))
        have HB2 := Lib.hid (hb.out.alloc hb.out.size (.cells #[sv nm, .int .i64 pt] 53))
        clear hr hnm hpt hF
        by_cases g1 : isName nm = false
        · have HR : Hid (RetAt X (.returned (.tuple #[.int .i64 ((k : Int) + 1), .int .i64 51]))) := Lib.hid (by
            rw [if_pos g1, if_neg (by omega)] at hd
            rw [← HC0.out, hd]
            show _ = _
            simp only [Int.add_comm, Int.natCast_add]; rfl)
          have G1 := Lib.hid g1
          clear hd hf1 hq1 g1
          go_wp2_with (go_at_call 21; refine (rname_at nm _ G1.out).mono ?_; rintro e w2 ⟨rfl, rfl⟩)
          go_ret2
          exact ⟨HR.out, HB.out.trans (HB2.out.mono HB.out.size)⟩
        rw [if_neg g1] at hd
        have G1 : Hid (isName nm = true) := Lib.hid (by simpa using g1)
        clear g1
        by_cases g2 : F < (k : Int)
        · have HR : Hid (RetAt X (.returned (.tuple #[.int .i64 ((k : Int) + 1), .int .i64 52]))) := Lib.hid (by
            rw [if_pos (hf1.1 g2), if_neg (by omega)] at hd
            rw [← HC0.out, hd]
            show _ = _
            simp only [Int.add_comm, Int.natCast_add]; rfl)
          clear hd hf1 hq1
          go_wp2_with (first
            | (go_at_call 21; refine (rname_at nm _ G1.out).mono ?_; rintro e w2 ⟨rfl, rfl⟩)
            | (go_at_call 22; refine (rfind_at HTk.out HFi.out).mono ?_; rintro e w2 ⟨rfl, rfl⟩))
          go_ret2
          exact ⟨HR.out, HB.out.trans (HB2.out.mono HB.out.size)⟩
        rw [if_neg (fun h => g2 (hf1.2 h))] at hd
        by_cases g3 : pt < 1 ∨ 16 < pt
        · have HR : Hid (RetAt X (.returned (.tuple #[.int .i64 ((k : Int) + 1), .int .i64 1]))) := Lib.hid (by
            rw [if_pos g3, if_neg (by omega)] at hd
            rw [← HC0.out, hd]
            show _ = _
            simp only [Int.add_comm, Int.natCast_add]; rfl)
          clear hd hf1 hq1
          by_cases g4 : pt < 1
          · clear g3
            go_wp2_with (first
              | (go_at_call 21; refine (rname_at nm _ G1.out).mono ?_; rintro e w2 ⟨rfl, rfl⟩)
              | (go_at_call 22; refine (rfind_at HTk.out HFi.out).mono ?_; rintro e w2 ⟨rfl, rfl⟩))
            go_ret2
            exact ⟨HR.out, HB.out.trans (HB2.out.mono HB.out.size)⟩
          · have g5 : 16 < pt := by omega
            clear g3
            go_wp2_with (first
              | (go_at_call 21; refine (rname_at nm _ G1.out).mono ?_; rintro e w2 ⟨rfl, rfl⟩)
              | (go_at_call 22; refine (rfind_at HTk.out HFi.out).mono ?_; rintro e w2 ⟨rfl, rfl⟩))
            go_ret2
            exact ⟨HR.out, HB.out.trans (HB2.out.mono HB.out.size)⟩
        · have g4 : ¬ pt < 1 := fun h => g3 (.inl h)
          have g5 : ¬ 16 < pt := fun h => g3 (.inr h)
          have HD2 : Hid (topsErr (p.tops.take (k + 1)) (p.tops.drop (k + 1)) = Y) := Lib.hid (by rw [hd, if_neg g3, if_pos rfl])
          have HQ2 := Lib.hid (hq1 (by omega))
          clear hd hf1 hq1 g3
          go_wp2_with (first
            | (go_at_call 21; refine (rname_at nm _ G1.out).mono ?_; rintro e w2 ⟨rfl, rfl⟩)
            | (go_at_call 22; refine (rfind_at HTk.out HFi.out).mono ?_; rintro e w2 ⟨rfl, rfl⟩))
          go_roundw
          case rel => exact ⟨k + 1, by omega, by go_num, HD2, HQ2, HB2⟩
          case measure => simp [intOf]; omega
      · have hkn : k = n := by omega
        have HX0 : Hid (Y = none) := Lib.hid (by rw [← hr.out, hkn, ← HN.out.1, List.drop_length]; rfl)
        have HP2 : Hid (∀ t ∈ p.tops, 1 ≤ t.parts) := Lib.hid (by
          have := hq.out
          rw [hkn, ← HN.out.1, List.take_length] at this
          exact this)
        clear hr hq hkn
        obtain ⟨Z, hZ⟩ : ∃ Z, flwsErr p.tops p.flws [] p.flws = Z := ⟨_, rfl⟩
        have hc2 := HC0.out
        rw [HX0.out] at hc2
        simp only at hc2
        rw [hZ] at hc2
        have HC2 := Lib.hid hc2
        have H3 : Hid (flwsErr p.tops p.flws (p.flws.take 0) (p.flws.drop 0) = Z) := Lib.hid (by rw [← hZ]; rfl)
        have HNF : Hid (p.flws.length = m) := Lib.hid (by rw [← HE.out, List.length_map]; exact HN.out.2)
        clear hc2 hZ bl bn
        go_wp2
        rename World => wq
        go_loopw [6, 7] (fun i _ wr => ∃ k : Nat, k ≤ m ∧ i = .int .i64 k ∧ Hid (flwsErr p.tops p.flws (p.flws.take k) (p.flws.drop k) = Z) ∧ Hid (Below W.heap.size W wr)) (fun i _ _ => m - (intOf i).toNat)
        case atStart => exact ⟨0, Nat.zero_le _, rfl, H3, hb⟩
        case round =>
          obtain ⟨j, hj, rfl, hr, hb'⟩ := hrel
          obtain ⟨p0, p1⟩ := (HX.out.grow hb'.out).cells
          by_cases hlt2 : j < m
          · have hkl : j < p.flws.length := by rw [HNF.out]; exact hlt2
            have hd := flwsErr_drop p.tops p.flws p.flws j hkl
            rw [hr.out] at hd
            obtain ⟨z, hz⟩ : ∃ z, flwErr p.tops p.flws (p.flws.take j) p.flws[j] = z := ⟨_, rfl⟩
            rw [hz] at hd
            have HZ := Lib.hid hz
            have HD := Lib.hid hd
            have HTr := Lib.hid (TopsAt.grow HT.out hb'.out)
            have HFr := Lib.hid (FlwsAt.grow HF.out hb'.out)
            clear hz hd hr
            by_cases h0 : z = 0
            · have e0 := inebf h0
              have HD2 : Hid (flwsErr p.tops p.flws (p.flws.take (j + 1)) (p.flws.drop (j + 1)) = Z) := Lib.hid (by rw [HD.out, if_pos h0])
              clear h0
              go_wp2_with (go_at_call 23; refine (flow_of HFD HTr.out HFr.out HE.out hkl HP2.out HZ.out).mono ?_; rintro e w2 ⟨rfl, hb2⟩; have HB2 := Lib.hid (hb'.out.trans (hb2.mono hb'.out.size)); clear hb2)
              go_roundw
              case rel => exact ⟨j + 1, by omega, by go_num, HD2, HB2⟩
              case measure => simp [intOf]; omega
            · have e0 := inebt h0
              have HD2 : Hid (RetAt X (.returned (.tuple #[.int .i64 (101 + (j : Int)), .int .i64 z]))) := Lib.hid (by rw [← HC2.out, HD.out, if_neg h0]; rfl)
              clear h0
              go_wp2_with (go_at_call 23; refine (flow_of HFD HTr.out HFr.out HE.out hkl HP2.out HZ.out).mono ?_; rintro e w2 ⟨rfl, hb2⟩; have HB2 := Lib.hid (hb'.out.trans (hb2.mono hb'.out.size)); clear hb2)
              go_ret2
              exact ⟨HD2.out, HB.out.trans (HB2.out.mono HB.out.size)⟩
          · have hkn2 : j = m := by omega
            have HD2 : Hid (RetAt X (.returned (.tuple #[.int .i64 0, .int .i64 0]))) := Lib.hid (by rw [← HC2.out, ← hr.out, hkn2, ← HNF.out, List.drop_length]; rfl)
            clear hr hkn2
            go_wp2
            go_ret2
            exact ⟨HD2.out, HB.out.trans (hb'.out.mono HB.out.size)⟩
end Go.Proofs.YtfoenfipefhpoaaGreatDoor.Pl
/-
  A region that draws its order, read operation by operation with the region's own text out of the way: what guards ask is told by a function that stands for the text. Conditions: as the statements say.
-/
namespace Go.Proofs.YtfoenfipefhpoaaGreatDoor.Pl
open Go.RowKit
section
variable {P : Program} {w : World}
/-- What a guard asks of slot d. -/
def gB (t : Array Value) (d : Nat) : Option Bool := match t[d]? with | some (.bool b) => some b | _ => none
def wpY (P : Program) (Y : Array Value → Nat → Option Bool) (w : World) (Q : Act → Prop) : List Oper → Act → Prop
  | [], a => Q a
  | o :: rest, a => if Region.wanted o (Y a.tmps) then o.still P a w (wpY P Y w Q rest) else wpY P Y w Q rest (a.put o.dst undef)
theorem wpY_eq (ops : Array Oper) (Q : Act → Prop) : ∀ (L : List Oper) (a : Act), wpY P (yielded ops) w Q L a = wpStill P ops w Q L a
  | [], _ => rfl
  | o :: rest, a => by
    have ih : wpY P (yielded ops) w Q rest = wpStill P ops w Q rest := funext (wpY_eq ops Q rest)
    simp only [wpY, wpStill, ih]
theorem wpY_nil {Y : Array Value → Nat → Option Bool} {Q : Act → Prop} {a : Act} (h : Q a) : wpY P Y w Q [] a := h
theorem wpY_step {Y : Array Value → Nat → Option Bool} {Q : Act → Prop} {a : Act} {o : Oper} {rest : List Oper}
    (h : ∀ K : Act → Prop, Hid (∀ a, wpY P Y w Q rest a → K a) → if Region.wanted o (Y a.tmps) then o.still P a w K else K (a.put o.dst undef)) : wpY P Y w Q (o :: rest) a :=
  h _ (Lib.hid (fun _ h => h))
theorem yielded_at {ops : Array Oper} {j d : Nat} (h : (ops[j]?.bind fun x => x.dst) = some d) (t : Array Value) : yielded ops t j = gB t d := by
  unfold yielded gB
  rw [h]
  rfl
theorem region_still_tail {id : Nat} {Q : Exit → Act → World → Prop} {a : Act} {l : List Oper} (n : Nat) (hm : P.follows .mixedOrders = true) (hB : Region.lexTailB .any l.toArray n = true)
    (h : ∀ Y : Array Value → Nat → Option Bool, (∀ j d, (l.toArray[j]?.bind fun x => x.dst) = some d → ∀ t, Y t j = gB t d) →
      wpY P Y w.drew (fun a' => wpList P l.toArray Q (l.drop n) a' w.drew) (l.take n) a) : (Code.region id l.toArray true).wp P Q a w := by
  refine wp_region_still_tail n hm hB ?_
  have := h (yielded l.toArray) (fun j d hj t => yielded_at hj t)
  rw [wpY_eq] at this
  exact this
end
end Go.Proofs.YtfoenfipefhpoaaGreatDoor.Pl
