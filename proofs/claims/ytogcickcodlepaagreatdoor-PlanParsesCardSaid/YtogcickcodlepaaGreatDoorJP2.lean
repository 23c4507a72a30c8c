/-
  Texts joined into one file. Each part says in its own head what is proved there, and under which conditions.
-/
import Derived.Test.YtogcickcodlepaaGreatDoorJP1
import Derived.Test.YtogcickcodlepaaGreatDoorJE2
import Derived.Test.YtogcickcodlepaaGreatDoorJShelf2
import Derived.Test.YtogcickcodlepaaGreatDoorJR2
import Derived.Deep.RegionHeld3
import Derived.RegionTactic
import Derived.Test.YtogcickcodlepaaGreatDoorJE5
set_option linter.unusedVariables false
set_option linter.unusedSimpArgs false
/-
  The program's words of a line, numbers, forms. Conditions: as the statements say.
-/
namespace Go.Proofs.YtogcickcodlepaaGreatDoor.Pl
open Go.RowKit Go.Proofs.YtogcickcodlepaaGreatDoor.Ex

/-- A slice of words. -/
def WdsAt (w : World) (v : Value) (ws : List Bs) : Prop := Lst 1 (fun x => [sv x]) w v ws
theorem WdsAt.grow {w w' : World} {v : Value} {ws : List Bs} (h : WdsAt w v ws) (hb : Below w.heap.size w w') : WdsAt w' v ws := Lst.grow h hb
theorem WdsAt.cell {w : World} {a : Option Addr} {n cap : Nat} {ws : List Bs} (h : WdsAt w (.slice a n cap) ws) {i : Nat} (hi : i < ws.length) : ∃ b o, a = some ⟨b, o, none⟩ ∧ b < w.heap.size ∧ w.cell? ⟨b, o + i, none⟩ = some (sv ws[i]) := by
  obtain ⟨b, o, e, hl, hc⟩ := Lst.at_ h hi
  exact ⟨b, o, e, hl, by simpa using hc 0 _ rfl⟩
theorem wd_at {ws : List Bs} {i : Nat} (h : i < ws.length) : wd ws i = ws[i] := by unfold wd; rw [List.getD_eq_getElem?_getD, List.getElem?_eq_getElem h]; rfl
theorem WdsAt.wd {w : World} {a : Option Addr} {n cap : Nat} {ws : List Bs} (h : WdsAt w (.slice a n cap) ws) {i : Nat} (hi : i < ws.length) : ∃ b o, a = some ⟨b, o, none⟩ ∧ b < w.heap.size ∧ w.cell? ⟨b, o + i, none⟩ = some (sv (Pl.wd ws i)) := by
  rw [wd_at hi]; exact h.cell hi
theorem WdsAt.lit {w : World} {b o n cap : Nat} {ws : List Bs} (h : WdsAt w (.slice (some ⟨b, o, none⟩) n cap) ws) {i : Nat} (hi : i < ws.length) : w.cell? ⟨b, o + i, none⟩ = some (sv (Pl.wd ws i)) := by
  obtain ⟨b', o', e, -, hc⟩ := h.wd hi
  obtain ⟨rfl, rfl⟩ : b = b' ∧ o = o' := by simpa using e
  exact hc
theorem wdsAt_own {w : World} {B : Nat} {A n : Nat} {ws : List Bs} (h : w.ownsRow B 9 1 (.slice (some ⟨A, 0, none⟩) n n) n (ws.map sv)) (hn : n = ws.length) (hm : n ≤ maxLen) (hA : A < w.heap.size) : WdsAt w (.slice (some ⟨A, 0, none⟩) n n) ws := by
  subst hn
  refine ⟨_, _, rfl, Nat.le_refl _, hm, hm, fun _ => ⟨A, 0, rfl, hA, fun i x hx j u hu => ?_⟩⟩
  obtain rfl : j = 0 := by
    cases j with
    | zero => rfl
    | succ j => simp at hu
  simp at hu
  subst hu
  have hi : i < ws.length := by
    rcases Nat.lt_or_ge i ws.length with h | h
    · exact h
    · rw [List.getElem?_eq_none h] at hx; cases hx
  have := h.cellAt i (by omega)
  rw [List.getElem?_map, hx] at this
  simpa [Addr.add] using this
set_option maxHeartbeats 400000 in
theorem blank_any (x : Nat) (w : World) : Calls Tryz.prog 72 #[.int .i32 x] w fun e w' => e = .returned (.bool (isBl x)) ∧ w' = w := by
  go_enter Tryz.func72, Tryz.ntmps72
  go_wp2
  all_goals go_ret
  all_goals exact ⟨ret_bool (by rw [Bool.eq_iff_iff]; simp [isBl]; omega), rfl⟩
theorem fields_cells (s : ByteArray) : (Lib.goFieldsP isBl s).map Value.string = (wordsOf s.data.toList).map sv := by
  rw [← fields_words, List.map_map]; rfl
theorem blank_pays (w : World) : PredAtRunes Tryz.prog 72 #[] isBl w := fun W x _ _ => (blank_any x W).mono fun _ _ ⟨he, hw⟩ => ⟨he, 0, hw⟩
theorem wordsGo_len : ∀ (l cur : Bs), (wordsGo cur l).length ≤ l.length + (if cur = [] then 0 else 1)
  | [], cur => by unfold wordsGo; split <;> simp
  | c :: r, cur => by
    have h1 := wordsGo_len r []
    have h2 := wordsGo_len r (cur ++ [c])
    simp only [wordsGo, List.length_cons]
    rw [if_pos rfl] at h1
    rw [if_neg (by simp)] at h2
    repeat' split
    all_goals (try simp only [List.length_cons])
    all_goals omega
theorem wordsOf_len (l : Bs) : (wordsOf l).length ≤ l.length := by have := wordsGo_len l []; rw [if_pos rfl] at this; exact this
theorem info126 : (Tryz.prog.info? 126).map (fun i => (i.zero, i.size, i.bytes)) = some (some (.agg #[.int .i64 0, .int .i64 0]), 2, 16) := by kernel_rfl
set_option maxHeartbeats 1000000 in
theorem wordsOf_any (s : ByteArray) (w : World) (hs : s.size ≤ 4294967296) {ws : List Bs} (hw : wordsOf s.data.toList = ws) :
    Calls Tryz.prog 50 #[.string s] w fun e w' => ∃ v, e = .returned v ∧ WdsAt w' v ws ∧ Below w.heap.size w w' := by
  have hcon := Any.strings_FieldsFunc_runes Tryz.lays229 72 #[] (enters_of Tryz.func72 (by kernel_rfl) rfl) isBl s w hs (blank_pays w) info126 info9
  change Calls Tryz.prog 71 #[.string s, .func (.func 72) #[] #[]] w _ at hcon
  have hlen : (Lib.goFieldsP isBl s).length = ws.length := by rw [← hw, ← fields_words, List.length_map]
  have hle : ws.length ≤ maxLen := by
    have := wordsOf_len s.data.toList
    rw [hw] at this
    simp at this
    unfold maxLen; omega
  rw [fields_cells, hw, hlen] at hcon
  have HC := Lib.hid hcon
  have HL := Lib.hid hle
  clear hcon hlen hle hw hs
  go_enter Tryz.func50, Tryz.ntmps50
  go_wp2_with (go_at_call 71; refine HC.out.mono ?_; rintro e w1 ⟨A, rfl, hA, hown, hb⟩; have HR := Lib.hid (wdsAt_own hown rfl HL.out ((hown.lt A rfl).2)); clear hown)
  go_ret
  exact ⟨_, rfl, HR.out, hb⟩
theorem wordsOf_at (s : ByteArray) (w : World) (hs : s.size ≤ 4294967296) {ws : List Bs} (hw : wordsOf s.data.toList = ws) {m : Nat} (hm : ws.length = m) :
    Calls Tryz.prog 50 #[.string s] w fun e w' => ∃ a c, e = .returned (.slice a m c) ∧ WdsAt w' (.slice a m c) ws ∧ Below w.heap.size w w' := by
  refine (wordsOf_any s w hs hw).mono ?_
  rintro e w' ⟨v, rfl, hv, hb⟩
  obtain ⟨a, c, rfl⟩ := Lst.val hv
  rw [hm] at hv ⊢
  exact ⟨a, c, rfl, hv, hb⟩
set_option maxHeartbeats 1000000 in
/-- The words of a line, in a block of their own. -/
theorem wordsOf_new (s : ByteArray) (w : World) (hs : s.size ≤ 4294967296) {ws : List Bs} (hw : wordsOf s.data.toList = ws) {m : Nat} (hm : ws.length = m) :
    Calls Tryz.prog 50 #[.string s] w fun e w' => ∃ A, e = .returned (.slice (some ⟨A, 0, none⟩) m m) ∧ w.heap.size ≤ A ∧ WdsAt w' (.slice (some ⟨A, 0, none⟩) m m) ws ∧ Below w.heap.size w w' := by
  have hcon := Any.strings_FieldsFunc_runes Tryz.lays229 72 #[] (enters_of Tryz.func72 (by kernel_rfl) rfl) isBl s w hs (blank_pays w) info126 info9
  change Calls Tryz.prog 71 #[.string s, .func (.func 72) #[] #[]] w _ at hcon
  have hlen : (Lib.goFieldsP isBl s).length = ws.length := by rw [← hw, ← fields_words, List.length_map]
  have hle : m ≤ maxLen := by
    have := wordsOf_len s.data.toList
    rw [hw] at this
    simp at this
    unfold maxLen; omega
  rw [fields_cells, hw, hlen, hm] at hcon
  have HC := Lib.hid hcon
  have HL := Lib.hid hle
  have HM := Lib.hid hm
  clear hcon hlen hle hw hs hm
  go_enter Tryz.func50, Tryz.ntmps50
  go_wp2_with (go_at_call 71; refine HC.out.mono ?_; rintro e w1 ⟨A, rfl, hA, hown, hb⟩; have HR := Lib.hid (And.intro hA (wdsAt_own hown HM.out.symm HL.out ((hown.lt A rfl).2))); clear hown hA)
  go_ret
  exact ⟨_, rfl, HR.out.1, HR.out.2, hb⟩
set_option maxHeartbeats 400000 in
theorem isNumber_any (s : ByteArray) (w : World) : Calls Tryz.prog 96 #[.string s] w fun e w' => e = .returned (.bool (isNumber s.data.toList)) ∧ w = w' := by
  have hlen : s.data.toList.length = s.size := by simp
  by_cases hb : s.size < 1 ∨ 9 < s.size
  · have H : Hid (isNumber s.data.toList = false) := Lib.hid (by unfold isNumber; rw [hlen]; rcases hb with h | h <;> simp <;> omega)
    clear hlen
    rcases hb with h | h
    · go_enter Tryz.func96, Tryz.ntmps96
      go_wp2
      go_ret
      exact ⟨ret_bool H.out.symm, rfl⟩
    · have h1 : ¬ s.size < 1 := by omega
      go_enter Tryz.func96, Tryz.ntmps96
      go_wp2
      go_ret
      exact ⟨ret_bool H.out.symm, rfl⟩
  · have h1 : ¬ s.size < 1 := by omega
    have h2 : ¬ 9 < s.size := by omega
    have H : Hid (isNumber s.data.toList = s.data.toList.all isDig) := Lib.hid (by unfold isNumber; rw [hlen, decide_eq_true (by omega : 1 ≤ s.size), decide_eq_true (by omega : s.size ≤ 9)]; rfl)
    clear hlen hb
    go_enter Tryz.func96, Tryz.ntmps96
    go_wp2
    go_loop [14] (fun i => ∃ k : Nat, k ≤ s.size ∧ i = .int .i64 k ∧ Hid (isNumber s.data.toList = (s.data.toList.drop k).all isDig)) (fun i => s.size - (intOf i).toNat)
    case atStart => exact ⟨0, Nat.zero_le _, rfl, by simpa using H⟩
    case round =>
      obtain ⟨k, hk, rfl, hr⟩ := hrel
      by_cases hlt : k < s.size
      · have hd := all_drop (P := isDig) s.data.toList k (by simpa using hlt)
        cases hp : isDig s[k] with
        | true =>
          have HR : Hid (isNumber s.data.toList = (s.data.toList.drop (k + 1)).all isDig) := Lib.hid (by
            have : isDig s.data.toList[k] = true := hp
            rw [hr.out, hd, this]; rfl)
          simp only [isDig, Bool.and_eq_true, decide_eq_true_eq] at hp
          have g1 : ¬ (s[k].toNat : Int) < 48 := by omega
          have g2 : ¬ 57 < (s[k].toNat : Int) := by omega
          clear hr hd hp
          go_wp2
          go_round
          case rel => exact ⟨k + 1, by omega, by go_num, HR⟩
          case measure => simp [intOf]; omega
        | false =>
          have HR : Hid (isNumber s.data.toList = false) := Lib.hid (by
            have : isDig s.data.toList[k] = false := hp
            rw [hr.out, hd, this]; rfl)
          have hp' : ¬ (48 ≤ s[k].toNat ∧ s[k].toNat ≤ 57) := by simpa [isDig] using hp
          clear hr hd hp
          by_cases g1 : (s[k].toNat : Int) < 48
          · go_wp2
            go_ret
            exact ⟨ret_bool HR.out.symm, rfl⟩
          · have g2 : 57 < (s[k].toNat : Int) := by omega
            clear hp'
            go_wp2
            go_ret
            exact ⟨ret_bool HR.out.symm, rfl⟩
      · have HR : Hid (isNumber s.data.toList = true) := Lib.hid (by rw [hr.out, List.drop_eq_nil_of_le (by simp; omega)]; rfl)
        clear hr
        go_wp2
        go_ret
        exact ⟨ret_bool HR.out.symm, rfl⟩
theorem isNumber_at (l : Bs) (w : World) {r : Bool} (hr : isNumber l = r) : Calls Tryz.prog 96 #[sv l] w fun e w' => e = .returned (.bool r) ∧ w = w' := by
  subst hr; exact isNumber_any ⟨l.toArray⟩ w
theorem number_parts {l : Bs} (h : isNumber l = true) : l ≠ [] ∧ l.length ≤ 9 ∧ ∀ c ∈ l, isDig c = true := by
  simp only [isNumber, Bool.and_eq_true, decide_eq_true_eq, List.all_eq_true] at h
  exact ⟨by rintro rfl; simp at h, h.2.1, h.2.2⟩
theorem numOf_small {l : Bs} (h : isNumber l = true) : 0 ≤ numOf l ∧ numOf l < 1000000000000000000 := by
  obtain ⟨h0, h1, h2⟩ := number_parts h
  have := numVal_small (l := l) (by omega) h2
  unfold numOf; omega
set_option maxHeartbeats 400000 in
theorem numberOf_at {l : Bs} (hl : isNumber l = true) (w : World) {r : Int} (hr : numOf l = r) : Calls Tryz.prog 77 #[sv l] w fun e w' => e = .returned (.int .i64 r) ∧ Below w.heap.size w w' := by
  obtain ⟨h0, h1, h2⟩ := number_parts hl
  have hA := atoi_digits h0 h2
  have hA' : Lib.atoi (⟨l.toArray⟩ : ByteArray).data.toList = some r := by rw [← hr]; exact hA
  have HA := Lib.hid hA'
  have HS : Hid ((⟨l.toArray⟩ : ByteArray).size ≤ 18) := Lib.hid (by show l.toArray.size ≤ 18; rw [List.size_toArray]; omega)
  clear hA hA' h0 h1 h2 hl hr
  go_enter Tryz.func77, Tryz.ntmps77
  go_wp2_with (go_at_call 98; refine (atoi_any HS.out HA.out _ rfl).mono ?_; rintro e w1 ⟨rfl, hb1⟩)
  go_ret
  exact ⟨rfl, hb1⟩
set_option maxHeartbeats 400000 in
theorem aggOf_at (l : Bs) (w : World) {r : Int} (hr : aggOf l = r) : Calls Tryz.prog 74 #[sv l] w fun e w' => e = .returned (.int .i64 r) ∧ w = w' := by
  have HR := Lib.hid hr
  clear hr
  by_cases h1 : l = wCount
  · subst h1
    go_enter Tryz.func74, Tryz.ntmps74
    go_wp2
    go_ret
    exact ⟨ret_int HR.out, rfl⟩
  by_cases h2 : l = wSum
  · subst h2
    clear h1
    go_enter Tryz.func74, Tryz.ntmps74
    go_wp2
    go_ret
    exact ⟨ret_int HR.out, rfl⟩
  by_cases h3 : l = wMin
  · subst h3
    clear h1 h2
    go_enter Tryz.func74, Tryz.ntmps74
    go_wp2
    go_ret
    exact ⟨ret_int HR.out, rfl⟩
  by_cases h4 : l = wMax
  · subst h4
    clear h1 h2 h3
    go_enter Tryz.func74, Tryz.ntmps74
    go_wp2
    go_ret
    exact ⟨ret_int HR.out, rfl⟩
  · have e1 : (l == [99, 111, 117, 110, 116]) = false := beq_of_ne h1
    have e2 : (l == [115, 117, 109]) = false := beq_of_ne h2
    have e3 : (l == [109, 105, 110]) = false := beq_of_ne h3
    have e4 : (l == [109, 97, 120]) = false := beq_of_ne h4
    have HZ : Hid (r = 0) := Lib.hid (by rw [← HR.out]; unfold aggOf; rw [if_neg h1, if_neg h2, if_neg h3, if_neg h4])
    clear h1 h2 h3 h4
    go_enter Tryz.func74, Tryz.ntmps74
    go_wp2
    go_ret
    exact ⟨ret_int HZ.out.symm, rfl⟩
end Go.Proofs.YtogcickcodlepaaGreatDoor.Pl
/-
  What the program makes of a line's words: expressions, windows, flows. Conditions: as the statements say.
-/
namespace Go.Proofs.YtogcickcodlepaaGreatDoor.Pl
open Go.RowKit Go.Proofs.YtogcickcodlepaaGreatDoor.Ex

set_option maxHeartbeats 400000 in
theorem clone_any (s : ByteArray) (w : World) (hs : s.size ≤ 281474976710656) : Calls Tryz.prog 76 #[.string s] w fun e w' => e = .returned (.string s) ∧ Below w.heap.size w w' := by
  have HS := Lib.hid hs
  clear hs
  go_enter Tryz.func76, Tryz.ntmps76
  go_wp2_with (go_at_call 97; refine (Any.stringslite_Clone Tryz.laysM316 _ _ HS.out).mono ?_; rintro e w1 ⟨rfl, hb1⟩)
  go_ret
  exact ⟨rfl, hb1⟩
theorem clone_at (l : Bs) (w : World) (hs : l.length ≤ 281474976710656) : Calls Tryz.prog 76 #[sv l] w fun e w' => e = .returned (sv l) ∧ Below w.heap.size w w' := clone_any ⟨l.toArray⟩ w (by show l.toArray.size ≤ _; rw [List.size_toArray]; exact hs)
/-- Where the first blank is. -/
theorem blank_in : ∀ {l : Bs}, 32 ∈ l → ∃ k : Nat, Lib.indexByte l 32 = k ∧ k < l.length ∧ l.drop k = l.dropWhile (fun c => decide (c ≠ 32))
  | c :: r, h => by
    by_cases hc : c = 32
    · subst hc; exact ⟨0, rfl, by simp, by simp⟩
    · have hr : 32 ∈ r := by
        rcases List.mem_cons.1 h with h | h
        · exact absurd h.symm hc
        · exact h
      obtain ⟨k, h1, h2, h3⟩ := blank_in hr
      refine ⟨k + 1, ?_, by simp; omega, ?_⟩
      · have e : (c == 32) = false := by simp [hc]
        simp only [Lib.indexByte, e]
        rw [h1]
        simp
      · rw [List.dropWhile_cons_of_pos (by simp [hc])]
        simpa using h3
  | [], h => by simp at h
theorem indexByte_at {t : Bs} (w : World) {k : Int} (h : Lib.indexByte t 32 = k) : Calls Tryz.prog 101 #[sv t, .int .u8 32] w fun e w' => e = .returned (.int .i64 k) ∧ w = w' := by
  refine (Any.strings_IndexByte Tryz.lays137 ⟨t.toArray⟩ 32 w).mono ?_
  rintro e w' ⟨rfl, rfl⟩
  exact ⟨ret_int h, rfl⟩
theorem trimLeft_any (s : ByteArray) (w : World) {r : Bs} (h : Lib.trimLeftB s.data.toList 32 = r) : Calls Tryz.prog 100 #[.string s, .string ⟨#[32]⟩] w fun e w' => e = .returned (sv r) ∧ w = w' := by
  refine (Any.strings_TrimLeft_one Tryz.lays161 s 32 (by decide) w).mono ?_
  rintro e w' ⟨rfl, rfl⟩
  exact ⟨by rw [h], rfl⟩
theorem dropWhile_len (P : UInt8 → Bool) (l : Bs) : (l.dropWhile P).length ≤ l.length := (List.dropWhile_suffix P).length_le
theorem trimB_len (l : Bs) : (Lib.trimB l 32).length ≤ l.length := by
  unfold Lib.trimB Lib.trimLeftB Lib.trimRightB
  refine Nat.le_trans (dropWhile_len _ _) ?_
  rw [List.length_reverse]
  refine Nat.le_trans (dropWhile_len _ _) ?_
  rw [List.length_reverse]; exact Nat.le_refl _
set_option maxHeartbeats 1000000 in
theorem expressionOf_at (s : ByteArray) (w : World) (hs : s.size ≤ 4096) (hb : 32 ∈ Lib.trimB s.data.toList 32) {r : Bs} (hr : restOf s.data.toList = r) :
    Calls Tryz.prog 80 #[.string s] w fun e w' => e = .returned (sv r) ∧ Below w.heap.size w w' := by
  obtain ⟨k, h1, h2, h3⟩ := blank_in hb
  have hl : (Lib.trimB s.data.toList 32).length ≤ 4096 := by have := trimB_len s.data.toList; simp at this; omega
  obtain ⟨t, ht⟩ : ∃ t, Lib.trimB s.data.toList 32 = t := ⟨_, rfl⟩
  have HTR := Lib.hid (Any.strings_Trim_one Tryz.lays160 s 32 (by decide) w (by omega))
  rw [ht] at h1 h2 h3 hl HTR
  have hr' : Lib.trimLeftB (t.drop k) 32 = r := by rw [← hr]; unfold restOf; rw [ht, h3]
  have hrl : r.length ≤ 4096 := by
    rw [← hr']; unfold Lib.trimLeftB
    have := dropWhile_len (fun x => x == (32 : UInt8)) (t.drop k)
    rw [List.length_drop] at this
    omega
  have HI := Lib.hid h1
  have HR := Lib.hid hr'
  have HRL := Lib.hid (show r.length ≤ 281474976710656 by omega)
  have hk1 : (k : Int) ≤ (t.length : Int) := by omega
  have hk2 : (0 : Int) ≤ (k : Int) := by omega
  have hk3 : k ≤ t.length := by omega
  clear h1 h3 hb hr hr' ht hrl
  go_enter Tryz.func80, Tryz.ntmps80
  go_wp2_with (go_at_call 99; refine HTR.out.mono ?_; rintro e w1 ⟨rfl, hw1⟩; have HB1 : Hid (Below w.heap.size w w1) := Lib.hid (by rcases hw1 with rfl | rfl; exact Below.refl _ _; exact (Below.refl _ _).drew); clear hw1)
  refine (indexByte_at w1 HI.out).mono ?_
  rintro e w2 ⟨rfl, rfl⟩
  go_wp2_with fail
  refine (trimLeft_any _ _ (r := r) (by rw [← HR.out]; simp; rw [List.take_of_length_le (by simp)])).mono ?_
  rintro e w2 ⟨rfl, rfl⟩
  go_wp2_with (go_at_call 76; refine (clone_at r _ HRL.out).mono ?_; rintro e w3 ⟨rfl, hb3⟩)
  go_ret
  exact ⟨rfl, HB1.out.trans (hb3.mono HB1.out.size)⟩
end Go.Proofs.YtogcickcodlepaaGreatDoor.Pl
/-
  The program's tests on a step, on a flow's steps. Conditions: the library's table of powers holds what it was laid with.
-/
namespace Go.Proofs.YtogcickcodlepaaGreatDoor.Pl
open Go.RowKit Go.Proofs.YtogcickcodlepaaGreatDoor.Ex

theorem expr_any {s : ByteArray} {w : World} (hs : s.size ≤ maxLen) (hT : Tab w) :
    Calls Tryz.prog 86 #[.string s] w fun e w' => ∃ (p : Option Addr) (pos : Nat), e = .returned (.tuple #[.pointer p, .int .i64 pos, .int .i64 (exprErr s.data.toList)]) ∧ Below w.heap.size w w' := by
  refine (parse_any hs hT).mono ?_
  unfold exprErr
  intro e w' h
  cases hp : parse s.data.toList with
  | ok T =>
    rw [hp] at h
    obtain ⟨hb, -, -, b, he, -⟩ := h
    exact ⟨_, 0, he, hb⟩
  | err pos n =>
    rw [hp] at h
    exact ⟨none, pos, h.2, h.1⟩
theorem expr_at {l : Bs} {w : World} (hs : l.length ≤ maxLen) (hT : Tab w) {r : Int} (hr : exprErr l = r) :
    Calls Tryz.prog 86 #[sv l] w fun e w' => ∃ (p : Option Addr) (pos : Nat), e = .returned (.tuple #[.pointer p, .int .i64 pos, .int .i64 r]) ∧ Below w.heap.size w w' := by
  subst hr; exact expr_any (s := ⟨l.toArray⟩) (by show l.toArray.size ≤ maxLen; rw [List.size_toArray]; exact hs) hT
theorem prefix_at (l : Bs) (w : World) {r : Bool} (hr : decide (l.head? = some 32) = r) : Calls Tryz.prog 84 #[sv l, .string ⟨#[32]⟩] w fun e w' => e = .returned (.bool r) ∧ w = w' := by
  refine (Any.strings_HasPrefix Tryz.lays99 ⟨l.toArray⟩ ⟨#[32]⟩ w).mono ?_
  rintro e w' ⟨rfl, rfl⟩
  refine ⟨ret_bool ?_, rfl⟩
  rw [← hr]
  cases l with
  | nil => rfl
  | cons c r => rw [Bool.eq_iff_iff]; simp [Lib.hasPrefix, List.isPrefixOf]; exact eq_comm
theorem suffix_at (l : Bs) (w : World) (hs : l.length ≤ maxLen) {r : Bool} (hr : decide (l.getLast? = some 32) = r) : Calls Tryz.prog 85 #[sv l, .string ⟨#[32]⟩] w fun e w' => e = .returned (.bool r) ∧ w = w' := by
  refine (Any.strings_HasSuffix Tryz.lays100 ⟨l.toArray⟩ ⟨#[32]⟩ w (by show l.toArray.size ≤ _; rw [List.size_toArray]; unfold maxLen at hs; omega)).mono ?_
  rintro e w' ⟨rfl, rfl⟩
  refine ⟨ret_bool ?_, rfl⟩
  rw [← hr, Bool.eq_iff_iff]
  simp only [Lib.hasSuffix, List.isSuffixOf_iff_suffix, decide_eq_true_eq]
  constructor
  · rintro ⟨t, ht⟩
    have : l = t ++ [32] := ht.symm
    rw [this]; simp
  · intro h
    obtain ⟨t, rfl⟩ := List.getLast?_eq_some_iff.1 h
    exact ⟨t, rfl⟩
abbrev stpV (s : Stp) : Value := .agg #[.int .i64 s.kind, sv s.text, .int .i64 s.n]
theorem isEmpty_of (l : Bs) : (l = [] → l.isEmpty = true) ∧ (l ≠ [] → l.isEmpty = false) := by cases l <;> simp
set_option maxHeartbeats 1000000 in
theorem checkStep_any (s : Stp) {w : World} (hs : s.text.length ≤ maxLen) (hT : Tab w) {R : Int} (hR : stepErr s = R) :
    Calls Tryz.prog 66 #[stpV s] w fun e w' => e = .returned (.int .i64 R) ∧ Below w.heap.size w w' := by
  have hb0 : Below w.heap.size w (w.alloc (.cells #[.int .i64 s.kind, sv s.text, .int .i64 s.n] 50)) := (Below.refl _ _).alloc (Nat.le_refl _) _
  have HB := Lib.hid hb0
  have HT := Lib.hid (hT.below hb0)
  have HS := Lib.hid hs
  clear hT hb0 hs
  unfold stepErr at hR
  by_cases h3 : s.kind = 3
  · rw [if_pos h3] at hR
    have e3 := ibeq h3
    clear h3
    by_cases h1 : s.n < 0
    · rw [if_pos (.inl h1)] at hR
      have HR := Lib.hid hR
      clear hR
      go_enter Tryz.func66, Tryz.ntmps66
      go_wp2
      go_ret
      exact ⟨ret_int HR.out, HB.out⟩
    by_cases h2 : 16 < s.n
    · rw [if_pos (.inr (.inl h2))] at hR
      have HR := Lib.hid hR
      clear hR
      go_enter Tryz.func66, Tryz.ntmps66
      go_wp2
      go_ret
      exact ⟨ret_int HR.out, HB.out⟩
    by_cases h4 : s.text = []
    · rw [if_neg (by simp [h1, h2, h4])] at hR
      have HR := Lib.hid hR
      have e1 := (isEmpty_of s.text).1 h4
      clear hR h4
      go_enter Tryz.func66, Tryz.ntmps66
      go_wp2
      go_ret
      exact ⟨ret_int HR.out, HB.out⟩
    · rw [if_pos (.inr (.inr h4))] at hR
      have HR := Lib.hid hR
      have e1 := (isEmpty_of s.text).2 h4
      clear hR h4
      go_enter Tryz.func66, Tryz.ntmps66
      go_wp2
      go_ret
      exact ⟨ret_int HR.out, HB.out⟩
  rw [if_neg h3] at hR
  have e3 := ibne h3
  clear h3
  by_cases h12 : s.kind = 1 ∨ s.kind = 2
  · rw [if_pos h12] at hR
    have hk : (s.kind == 1) = true ∨ ((s.kind == 1) = false ∧ (s.kind == 2) = true) := by
      by_cases h : s.kind = 1
      · exact .inl (ibeq h)
      · exact .inr ⟨ibne h, ibeq (by omega)⟩
    clear h12
    by_cases hn : s.n = 0
    · obtain ⟨p, hp⟩ : ∃ p, decide (s.text.head? = some 32) = p := ⟨_, rfl⟩
      obtain ⟨q, hq⟩ : ∃ q, decide (s.text.getLast? = some 32) = q := ⟨_, rfl⟩
      obtain ⟨x, hx⟩ : ∃ x, exprErr s.text = x := ⟨_, rfl⟩
      have hR' : R = if p = true ∨ q = true then 54 else x := by
        rw [← hR, ← hp, ← hq, ← hx]; simp [hn]
      have en : (s.n != 0) = false := by simp [bne, ibeq hn]
      have HR := Lib.hid hR'
      have HP := Lib.hid hp
      have HQ := Lib.hid hq
      have HX := Lib.hid hx
      clear hR hR' hp hq hx hn
      have HBx : Hid (∀ w2, Below (w.alloc (.cells #[.int .i64 s.kind, sv s.text, .int .i64 s.n] 50)).heap.size (w.alloc (.cells #[.int .i64 s.kind, sv s.text, .int .i64 s.n] 50)) w2 → Below w.heap.size w w2) := Lib.hid (fun w2 hb2 => HB.out.trans (hb2.mono HB.out.size))
      rcases hk with h1 | ⟨h1, h2⟩
      all_goals
        cases p <;> cases q
        all_goals
          go_enter Tryz.func66, Tryz.ntmps66
          go_wp2_with (first
            | (go_at_call 84; refine (prefix_at _ _ HP.out).mono ?_; rintro e w1 ⟨rfl, rfl⟩)
            | (go_at_call 85; refine (suffix_at _ _ HS.out HQ.out).mono ?_; rintro e w1 ⟨rfl, rfl⟩)
            | (go_at_call 86; refine (expr_at HS.out HT.out HX.out).mono ?_; rintro e w2 ⟨pp, pos, rfl, hb2⟩; have HB2 := Lib.hid (HBx.out _ hb2); clear hb2))
          go_ret
          exact ⟨ret_int (by rw [HR.out]; rfl), by first | exact HB2.out | exact HB.out⟩
    · rw [if_pos (.inl hn)] at hR
      have en : (s.n != 0) = true := by simp [bne, ibne hn]
      have HR := Lib.hid hR
      clear hR hn
      rcases hk with h1 | ⟨h1, h2⟩
      all_goals
        go_enter Tryz.func66, Tryz.ntmps66
        go_wp2
        go_ret
        exact ⟨ret_int HR.out, HB.out⟩
  · rw [if_neg h12] at hR
    have HR := Lib.hid hR
    have h1 := ibne (fun h => h12 (.inl h))
    have h2 := ibne (fun h => h12 (.inr h))
    clear hR h12
    go_enter Tryz.func66, Tryz.ntmps66
    go_wp2
    go_ret
    exact ⟨ret_int HR.out, HB.out⟩
end Go.Proofs.YtogcickcodlepaaGreatDoor.Pl
/-
  The program's test on a flow's steps. Conditions: the library's table of powers holds what it was laid with.
-/
namespace Go.Proofs.YtogcickcodlepaaGreatDoor.Pl
open Go.RowKit Go.Proofs.YtogcickcodlepaaGreatDoor.Ex

theorem firstErr_drop (g : Stp → Int) (L : List Stp) (k : Nat) (hk : k < L.length) : firstErr g (L.drop k) = if g L[k] = 0 then firstErr g (L.drop (k + 1)) else g L[k] := by
  rw [List.drop_eq_getElem_cons hk]; rfl
theorem firstErr_end (g : Stp → Int) (L : List Stp) : firstErr g (L.drop L.length) = 0 := by simp [firstErr]
theorem mem_at {α : Type} {L : List α} {k : Nat} (h : k < L.length) : L[k] ∈ L := List.getElem_mem h
set_option maxRecDepth 20000 in
set_option maxHeartbeats 2000000 in
theorem checkSteps_any (q : FE) {w : World} (hq : FEok w q) (hT : Tab w) {R : Int} (hR : stepsErr q.f = R) :
    Calls Tryz.prog 46 #[flwV q] w fun e w' => e = .returned (.int .i64 R) ∧ Below w.heap.size w w' := by
  obtain ⟨hp1, hp2⟩ := hq
  obtain ⟨f, v1, v2⟩ := q
  simp only at hp1 hp2 hR
  obtain ⟨a1, cap1, rfl⟩ := hp1.1.val
  obtain ⟨a2, cap2, rfl⟩ := hp2.1.val
  obtain ⟨n1, hn1⟩ : ∃ n, f.pre.length = n := ⟨_, rfl⟩
  obtain ⟨n2, hn2⟩ : ∃ n, f.post.length = n := ⟨_, rfl⟩
  obtain ⟨-, -, hm1, -⟩ := hp1.1.len
  obtain ⟨-, -, hm2, -⟩ := hp2.1.len
  rw [hn1] at hp1 hm1
  rw [hn2] at hp2 hm2
  unfold maxLen at hm1 hm2
  obtain ⟨x, hx⟩ : ∃ x, firstErr stepErr f.pre = x := ⟨_, rfl⟩
  obtain ⟨y, hy⟩ : ∃ y, firstErr postErr f.post = y := ⟨_, rfl⟩
  have hR' : R = if x = 0 then y else x := by rw [← hR, ← hx, ← hy]; rfl
  have hbx := Box.new w ⟨f, .slice a1 n1 cap1, .slice a2 n2 cap2⟩
  have hb0 : Below w.heap.size w (w.alloc (.cells #[sv f.name, sv f.frm, sv f.dest, .int .i64 f.bound, .int .i64 f.readers, .int .i64 f.keepers, .slice a1 n1 cap1, .int .i64 f.win.kind, .int .i64 f.win.size, .int .i64 f.win.slide, .int .i64 f.agg, .slice a2 n2 cap2] 43)) := (Below.refl _ _).alloc (Nat.le_refl _) _
  have HP1 := Lib.hid (hp1.grow hb0)
  have HP2 := Lib.hid (hp2.grow hb0)
  have HT := Lib.hid (hT.below hb0)
  have HB := Lib.hid hb0
  have HX := Lib.hid hbx
  have HR := Lib.hid hR'
  have HE1 := Lib.hid hx
  have HE2 := Lib.hid hy
  have HN1 := Lib.hid hn1
  have HN2 := Lib.hid hn2
  rw [hn1, hn2]
  clear hp1 hp2 hT hb0 hbx hR hR' hx hy hn1 hn2
  go_enter Tryz.func46, Tryz.ntmps46
  go_wp2
  generalize hW : w.alloc (.cells #[sv f.name, sv f.frm, sv f.dest, .int .i64 f.bound, .int .i64 f.readers, .int .i64 f.keepers, .slice a1 n1 cap1, .int .i64 f.win.kind, .int .i64 f.win.size, .int .i64 f.win.slide, .int .i64 f.agg, .slice a2 n2 cap2] 43) = W at HP1 HP2 HT HB HX ⊢
  clear hW
  go_loopw [12] (fun i wr => ∃ k : Nat, k ≤ n1 ∧ i = .int .i64 k ∧ Hid (firstErr stepErr (f.pre.drop k) = x) ∧ Hid (Below W.heap.size W wr)) (fun i _ => n1 - (intOf i).toNat)
  case atStart => exact ⟨0, Nat.zero_le _, rfl, by simpa using HE1, Below.refl _ _⟩
  case round =>
    obtain ⟨k, hk, rfl, hr, hb⟩ := hrel
    by_cases hlt : k < n1
    · have hkl : k < f.pre.length := by rw [HN1.out]; exact hlt
      obtain ⟨b, o, rfl, hbl, c0, c1, c2⟩ := (HP1.out.grow hb.out).cells hkl
      have HS := Lib.hid (HP1.out.2 _ (mem_at hkl))
      have hd := firstErr_drop stepErr f.pre k hkl
      obtain ⟨s, hs⟩ : ∃ s, f.pre[k] = s := ⟨_, rfl⟩
      rw [hs] at c0 c1 c2 hd HS
      obtain ⟨z, hz⟩ : ∃ z, stepErr s = z := ⟨_, rfl⟩
      rw [hz, hr.out] at hd
      have HZ := Lib.hid hz
      have HD := Lib.hid hd
      have HTr := Lib.hid ((HT.out.below hb.out).below ((Below.refl _ _).alloc (Nat.le_refl _) (.cells #[.int .i64 s.kind, sv s.text, .int .i64 s.n] 50)))
      clear hz hd hs hr
      by_cases h0 : z = 0
      · have e0 := inebf h0
        have HD2 : Hid (firstErr stepErr (f.pre.drop (k + 1)) = x) := Lib.hid (by rw [HD.out, if_pos h0])
        clear h0
        go_wp2_with (go_at_call 66; refine (checkStep_any s HS.out HTr.out HZ.out).mono ?_; rintro e w2 ⟨rfl, hb2⟩; have HB2 := Lib.hid (hb.out.trans ((((Below.refl _ _).alloc (Nat.le_refl _) _).trans (hb2.mono (by simp))).mono hb.out.size)); clear hb2)
        go_roundw
        case rel => exact ⟨k + 1, by omega, by go_num, HD2, HB2⟩
        case measure => simp [intOf]; omega
      · have e0 := inebt h0
        have HD2 : Hid (R = z) := Lib.hid (by rw [HR.out, HD.out, if_neg h0, if_neg h0])
        clear h0
        go_wp2_with (go_at_call 66; refine (checkStep_any s HS.out HTr.out HZ.out).mono ?_; rintro e w2 ⟨rfl, hb2⟩; have HB2 := Lib.hid (hb.out.trans ((((Below.refl _ _).alloc (Nat.le_refl _) _).trans (hb2.mono (by simp))).mono hb.out.size)); clear hb2)
        go_ret
        exact ⟨ret_int HD2.out.symm, HB.out.trans (HB2.out.mono HB.out.size)⟩
    · have hkn : k = n1 := by omega
      have HX0 : Hid (x = 0) := Lib.hid (by rw [← hr.out, hkn, ← HN1.out, firstErr_end])
      obtain ⟨-, -, -, -, -, -, -, -, -, -, -, b11⟩ := (HX.out.grow hb.out).cells
      clear hr hkn
      go_wp2
      rename World => wq
      go_loopw [25] (fun i wr => ∃ k : Nat, k ≤ n2 ∧ i = .int .i64 k ∧ Hid (firstErr postErr (f.post.drop k) = y) ∧ Hid (Below W.heap.size W wr)) (fun i _ => n2 - (intOf i).toNat)
      case atStart => exact ⟨0, Nat.zero_le _, rfl, by simpa using HE2, hb⟩
      case round =>
        obtain ⟨j, hj, rfl, hr, hb'⟩ := hrel
        clear b11
        by_cases hlt2 : j < n2
        · have hkl : j < f.post.length := by rw [HN2.out]; exact hlt2
          obtain ⟨b, o, rfl, hbl, c0, c1, c2⟩ := (HP2.out.grow hb'.out).cells hkl
          have HS := Lib.hid (HP2.out.2 _ (mem_at hkl))
          have hd := firstErr_drop postErr f.post j hkl
          obtain ⟨s, hs⟩ : ∃ s, f.post[j] = s := ⟨_, rfl⟩
          rw [hs] at c0 c1 c2 hd HS
          by_cases h3 : s.kind = 3
          · have hz : postErr s = 54 := by unfold postErr; rw [if_pos h3]
            rw [hz, if_neg (by decide), hr.out] at hd
            have HD2 : Hid (R = 54) := Lib.hid (by rw [HR.out, HX0.out, if_pos rfl, hd])
            have e3 := ibeq h3
            clear hz hd hs hr h3
            go_wp2
            go_ret
            exact ⟨ret_int HD2.out.symm, HB.out.trans ((hb'.out.trans (((Below.refl _ _).alloc (Nat.le_refl _) _).mono hb'.out.size)).mono HB.out.size)⟩
          · have hz3 : postErr s = stepErr s := by unfold postErr; rw [if_neg h3]
            have e3 := ibne h3
            obtain ⟨z, hz⟩ : ∃ z, stepErr s = z := ⟨_, rfl⟩
            rw [hz3, hz, hr.out] at hd
            have HZ := Lib.hid hz
            have HD := Lib.hid hd
            have HTr := Lib.hid ((HT.out.below hb'.out).below ((Below.refl _ _).alloc (Nat.le_refl _) (.cells #[.int .i64 s.kind, sv s.text, .int .i64 s.n] 50)))
            clear hz hd hs hr h3 hz3
            by_cases h0 : z = 0
            · have e0 := inebf h0
              have HD2 : Hid (firstErr postErr (f.post.drop (j + 1)) = y) := Lib.hid (by rw [HD.out, if_pos h0])
              clear h0
              go_wp2_with (go_at_call 66; refine (checkStep_any s HS.out HTr.out HZ.out).mono ?_; rintro e w2 ⟨rfl, hb2⟩; have HB2 := Lib.hid (hb'.out.trans ((((Below.refl _ _).alloc (Nat.le_refl _) _).trans (hb2.mono (by simp))).mono hb'.out.size)); clear hb2)
              go_roundw
              case rel => exact ⟨j + 1, by omega, by go_num, HD2, HB2⟩
              case measure => simp [intOf]; omega
            · have e0 := inebt h0
              have HD2 : Hid (R = z) := Lib.hid (by rw [HR.out, HX0.out, if_pos rfl, HD.out, if_neg h0])
              clear h0
              go_wp2_with (go_at_call 66; refine (checkStep_any s HS.out HTr.out HZ.out).mono ?_; rintro e w2 ⟨rfl, hb2⟩; have HB2 := Lib.hid (hb'.out.trans ((((Below.refl _ _).alloc (Nat.le_refl _) _).trans (hb2.mono (by simp))).mono hb'.out.size)); clear hb2)
              go_ret
              exact ⟨ret_int HD2.out.symm, HB.out.trans (HB2.out.mono HB.out.size)⟩
        · have hkn2 : j = n2 := by omega
          have HD2 : Hid (R = 0) := Lib.hid (by rw [HR.out, HX0.out, if_pos rfl, ← hr.out, hkn2, ← HN2.out, firstErr_end])
          clear hr hkn2
          go_wp2
          go_ret
          exact ⟨ret_int HD2.out.symm, HB.out.trans (hb'.out.mono HB.out.size)⟩
end Go.Proofs.YtogcickcodlepaaGreatDoor.Pl
