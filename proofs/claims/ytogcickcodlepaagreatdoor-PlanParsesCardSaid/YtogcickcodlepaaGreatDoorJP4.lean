/-
  Texts joined into one file. Each part says in its own head what is proved there, and under which conditions.
-/
import Derived.Test.YtogcickcodlepaaGreatDoorJP3
import Derived.Test.YtogcickcodlepaaGreatDoorJP1
import Derived.Test.YtogcickcodlepaaGreatDoorJR2
import Derived.Test.YtogcickcodlepaaGreatDoorJP2
import Derived.BigQuiet
import Derived.Deep.QuietTactic
import Derived.Test.YtogcickcodlepaaGreatDoorJE4
import Derived.Deep.RegionLaw
import Derived.Deep.AppendLies
import Derived.RegionTactic
import Derived.BigRegion
import Derived.Deep.DeepCutAuto
import Derived.Deep.CutRange
set_option linter.unusedVariables false
set_option linter.unusedSimpArgs false
/-
  hasForm: are the words of a line one of the forms? Conditions: there is a word.
-/
namespace Go.Proofs.YtogcickcodlepaaGreatDoor.Pl
open Go.RowKit Go.Proofs.YtogcickcodlepaaGreatDoor.Ex

def topicFormB : ByteArray := ⟨#[116, 111, 112, 105, 99, 32, 78, 65, 77, 69, 32, 78, 85, 77, 66, 69, 82]⟩
theorem topicForm_words : wordsOf topicFormB.data.toList = topicForm := by decide +kernel
theorem topicForm_at {w : World} {a : Option Addr} {n cap : Nat} {ws : List Bs} (h : WdsAt w (.slice a n cap) ws) {R : Bool} (hR : fitsL ws topicForm = R) :
    Calls Tryz.prog 73 #[.slice a n cap, .string ⟨#[116, 111, 112, 105, 99, 32, 78, 65, 77, 69, 32, 78, 85, 77, 66, 69, 82]⟩] w fun e w' => e = .returned (.bool R) ∧ Below w.heap.size w w' := fits_at h topicFormB (by decide) topicForm_words hR
def boundFormB : ByteArray := ⟨#[102, 108, 111, 119, 32, 78, 65, 77, 69, 32, 102, 114, 111, 109, 32, 78, 65, 77, 69, 32, 116, 111, 32, 78, 65, 77, 69, 32, 98, 111, 117, 110, 100, 32, 78, 85, 77, 66, 69, 82, 32, 114, 101, 97, 100, 101, 114, 115, 32, 78, 85, 77, 66, 69, 82, 32, 107, 101, 101, 112, 101, 114, 115, 32, 78, 85, 77, 66, 69, 82]⟩
theorem boundForm_words : wordsOf boundFormB.data.toList = boundForm := by decide +kernel
theorem boundForm_at {w : World} {a : Option Addr} {n cap : Nat} {ws : List Bs} (h : WdsAt w (.slice a n cap) ws) {R : Bool} (hR : fitsL ws boundForm = R) :
    Calls Tryz.prog 73 #[.slice a n cap, .string ⟨#[102, 108, 111, 119, 32, 78, 65, 77, 69, 32, 102, 114, 111, 109, 32, 78, 65, 77, 69, 32, 116, 111, 32, 78, 65, 77, 69, 32, 98, 111, 117, 110, 100, 32, 78, 85, 77, 66, 69, 82, 32, 114, 101, 97, 100, 101, 114, 115, 32, 78, 85, 77, 66, 69, 82, 32, 107, 101, 101, 112, 101, 114, 115, 32, 78, 85, 77, 66, 69, 82]⟩] w fun e w' => e = .returned (.bool R) ∧ Below w.heap.size w w' := fits_at h boundFormB (by decide) boundForm_words hR
def marksFormB : ByteArray := ⟨#[102, 108, 111, 119, 32, 78, 65, 77, 69, 32, 102, 114, 111, 109, 32, 78, 65, 77, 69, 32, 116, 111, 32, 78, 65, 77, 69, 32, 109, 97, 114, 107, 115, 32, 114, 101, 97, 100, 101, 114, 115, 32, 78, 85, 77, 66, 69, 82, 32, 107, 101, 101, 112, 101, 114, 115, 32, 78, 85, 77, 66, 69, 82]⟩
theorem marksForm_words : wordsOf marksFormB.data.toList = marksForm := by decide +kernel
theorem marksForm_at {w : World} {a : Option Addr} {n cap : Nat} {ws : List Bs} (h : WdsAt w (.slice a n cap) ws) {R : Bool} (hR : fitsL ws marksForm = R) :
    Calls Tryz.prog 73 #[.slice a n cap, .string ⟨#[102, 108, 111, 119, 32, 78, 65, 77, 69, 32, 102, 114, 111, 109, 32, 78, 65, 77, 69, 32, 116, 111, 32, 78, 65, 77, 69, 32, 109, 97, 114, 107, 115, 32, 114, 101, 97, 100, 101, 114, 115, 32, 78, 85, 77, 66, 69, 82, 32, 107, 101, 101, 112, 101, 114, 115, 32, 78, 85, 77, 66, 69, 82]⟩] w fun e w' => e = .returned (.bool R) ∧ Below w.heap.size w w' := fits_at h marksFormB (by decide) marksForm_words hR
def keyFormB : ByteArray := ⟨#[107, 101, 121, 32, 78, 85, 77, 66, 69, 82]⟩
theorem keyForm_words : wordsOf keyFormB.data.toList = keyForm := by decide +kernel
theorem keyForm_at {w : World} {a : Option Addr} {n cap : Nat} {ws : List Bs} (h : WdsAt w (.slice a n cap) ws) {R : Bool} (hR : fitsL ws keyForm = R) :
    Calls Tryz.prog 73 #[.slice a n cap, .string ⟨#[107, 101, 121, 32, 78, 85, 77, 66, 69, 82]⟩] w fun e w' => e = .returned (.bool R) ∧ Below w.heap.size w w' := fits_at h keyFormB (by decide) keyForm_words hR
def tumbleFormB : ByteArray := ⟨#[119, 105, 110, 100, 111, 119, 32, 116, 117, 109, 98, 108, 101, 32, 78, 85, 77, 66, 69, 82]⟩
theorem tumbleForm_words : wordsOf tumbleFormB.data.toList = tumbleForm := by decide +kernel
theorem tumbleForm_at {w : World} {a : Option Addr} {n cap : Nat} {ws : List Bs} (h : WdsAt w (.slice a n cap) ws) {R : Bool} (hR : fitsL ws tumbleForm = R) :
    Calls Tryz.prog 73 #[.slice a n cap, .string ⟨#[119, 105, 110, 100, 111, 119, 32, 116, 117, 109, 98, 108, 101, 32, 78, 85, 77, 66, 69, 82]⟩] w fun e w' => e = .returned (.bool R) ∧ Below w.heap.size w w' := fits_at h tumbleFormB (by decide) tumbleForm_words hR
def slideFormB : ByteArray := ⟨#[119, 105, 110, 100, 111, 119, 32, 115, 108, 105, 100, 101, 32, 78, 85, 77, 66, 69, 82, 32, 78, 85, 77, 66, 69, 82]⟩
theorem slideForm_words : wordsOf slideFormB.data.toList = slideForm := by decide +kernel
theorem slideForm_at {w : World} {a : Option Addr} {n cap : Nat} {ws : List Bs} (h : WdsAt w (.slice a n cap) ws) {R : Bool} (hR : fitsL ws slideForm = R) :
    Calls Tryz.prog 73 #[.slice a n cap, .string ⟨#[119, 105, 110, 100, 111, 119, 32, 115, 108, 105, 100, 101, 32, 78, 85, 77, 66, 69, 82, 32, 78, 85, 77, 66, 69, 82]⟩] w fun e w' => e = .returned (.bool R) ∧ Below w.heap.size w w' := fits_at h slideFormB (by decide) slideForm_words hR
def sessionFormB : ByteArray := ⟨#[119, 105, 110, 100, 111, 119, 32, 115, 101, 115, 115, 105, 111, 110, 32, 78, 85, 77, 66, 69, 82]⟩
theorem sessionForm_words : wordsOf sessionFormB.data.toList = sessionForm := by decide +kernel
theorem sessionForm_at {w : World} {a : Option Addr} {n cap : Nat} {ws : List Bs} (h : WdsAt w (.slice a n cap) ws) {R : Bool} (hR : fitsL ws sessionForm = R) :
    Calls Tryz.prog 73 #[.slice a n cap, .string ⟨#[119, 105, 110, 100, 111, 119, 32, 115, 101, 115, 115, 105, 111, 110, 32, 78, 85, 77, 66, 69, 82]⟩] w fun e w' => e = .returned (.bool R) ∧ Below w.heap.size w w' := fits_at h sessionFormB (by decide) sessionForm_words hR
def aggFormB : ByteArray := ⟨#[97, 103, 103, 32, 78, 65, 77, 69]⟩
theorem aggForm_words : wordsOf aggFormB.data.toList = aggForm := by decide +kernel
theorem aggForm_at {w : World} {a : Option Addr} {n cap : Nat} {ws : List Bs} (h : WdsAt w (.slice a n cap) ws) {R : Bool} (hR : fitsL ws aggForm = R) :
    Calls Tryz.prog 73 #[.slice a n cap, .string ⟨#[97, 103, 103, 32, 78, 65, 77, 69]⟩] w fun e w' => e = .returned (.bool R) ∧ Below w.heap.size w w' := fits_at h aggFormB (by decide) aggForm_words hR
theorem wd_zero {ws : List Bs} (h : 0 < ws.length) : wd ws 0 = ws[0] := by unfold wd; rw [List.getD_eq_getElem?_getD, List.getElem?_eq_getElem h]; rfl
theorem hasForm_w {ws : List Bs} {t : Bs} (h : wd ws 0 = t) : hasForm ws = if t = wTopic then fitsL ws topicForm
  else if t = wFlow then fitsL ws boundForm || fitsL ws marksForm
  else if t = wFilter ∨ t = wSet then decide (1 < ws.length)
  else if t = wKey then fitsL ws keyForm
  else if t = wWindow then fitsL ws tumbleForm || (fitsL ws slideForm || fitsL ws sessionForm)
  else if t = wAgg then fitsL ws aggForm && decide (aggOf (wd ws 1) ≠ 0)
  else false := by subst h; rfl
set_option maxRecDepth 20000 in
set_option maxHeartbeats 4000000 in
theorem hasForm_at {w : World} {a : Option Addr} {n cap : Nat} {ws : List Bs} (h : WdsAt w (.slice a n cap) ws) (h0 : 0 < ws.length) {R : Bool} (hR : hasForm ws = R) :
    Calls Tryz.prog 51 #[.slice a n cap] w fun e w' => e = .returned (.bool R) ∧ Below w.heap.size w w' := by
  obtain ⟨hn, hcap, hmax, -⟩ := Lst.len h
  unfold maxLen at hmax
  obtain ⟨b, o, rfl, hbl, c0⟩ := h.cell h0
  have hw0 := wd_zero h0
  obtain ⟨t, ht⟩ : ∃ t, ws[0] = t := ⟨_, rfl⟩
  rw [ht] at hw0 c0
  rw [hasForm_w hw0] at hR
  have hpos : (0 : Int) < (n : Int) := by omega
  have hposN : 0 < n := by omega
  simp only [Nat.add_zero] at c0
  have HT := Lib.hid h
  have HN := Lib.hid hn
  have HB0 : Hid (Below w.heap.size w w) := Below.refl _ _
  clear h hn hw0 ht h0
  by_cases h_topic : t = wTopic
  · subst h_topic
    rw [if_pos rfl] at hR
    obtain ⟨x1, hx1⟩ : ∃ x, fitsL ws topicForm = x := ⟨_, rfl⟩
    rw [hx1] at hR
    have HX1 := Lib.hid hx1
    clear hx1
    have HR := Lib.hid hR
    clear hR
    go_enter Tryz.func51, Tryz.ntmps51
    go_wp2_with (go_at_call 73; with_reducible refine (topicForm_at HT.out HX1.out).mono ?_; rintro e w1 ⟨rfl, hb⟩; have HT1 := Lib.hid (HT.out.grow hb); have HB1 := Lib.hid (HB0.out.trans (hb.mono HB0.out.size)); clear hb)
    go_ret
    exact ⟨ret_bool HR.out, HB1.out⟩
  rw [if_neg h_topic] at hR
  have e_topic : (t == [116, 111, 112, 105, 99]) = false := beq_of_ne h_topic
  by_cases h_flow : t = wFlow
  · subst h_flow
    clear e_topic h_topic
    rw [if_pos rfl] at hR
    obtain ⟨x1, hx1⟩ : ∃ x, fitsL ws boundForm = x := ⟨_, rfl⟩
    rw [hx1] at hR
    have HX1 := Lib.hid hx1
    clear hx1
    obtain ⟨x2, hx2⟩ : ∃ x, fitsL ws marksForm = x := ⟨_, rfl⟩
    rw [hx2] at hR
    have HX2 := Lib.hid hx2
    clear hx2
    have HR := Lib.hid hR
    clear hR
    cases x1 with
    | true =>
      go_enter Tryz.func51, Tryz.ntmps51
      go_wp2_with (go_at_call 73; with_reducible refine (boundForm_at HT.out HX1.out).mono ?_; rintro e w1 ⟨rfl, hb⟩; have HT1 := Lib.hid (HT.out.grow hb); have HB1 := Lib.hid (HB0.out.trans (hb.mono HB0.out.size)); clear hb)
      go_ret
      exact ⟨ret_bool (by rw [← HR.out]; rfl), HB1.out⟩
    | false =>
      go_enter Tryz.func51, Tryz.ntmps51
      go_wp2_with (first | (go_at_call 73; with_reducible refine (boundForm_at HT.out HX1.out).mono ?_; rintro e w1 ⟨rfl, hb⟩; have HT1 := Lib.hid (HT.out.grow hb); have HB1 := Lib.hid (HB0.out.trans (hb.mono HB0.out.size)); clear hb) | (go_at_call 73; with_reducible refine (marksForm_at HT1.out HX2.out).mono ?_; rintro e w2 ⟨rfl, hb⟩; have HT2 := Lib.hid (HT1.out.grow hb); have HB2 := Lib.hid (HB1.out.trans (hb.mono HB1.out.size)); clear hb))
      go_ret
      exact ⟨ret_bool (by rw [← HR.out]; rfl), HB2.out⟩
  rw [if_neg h_flow] at hR
  have e_flow : (t == [102, 108, 111, 119]) = false := beq_of_ne h_flow
  by_cases h_fs : t = wFilter ∨ t = wSet
  · rw [if_pos h_fs] at hR
    have hlen : (decide (1 < n)) = R := by rw [← hR, HN.out]
    have HR := Lib.hid hlen
    clear hR hlen h_topic h_flow
    rcases h_fs with rfl | rfl
    · clear e_topic e_flow
      by_cases h1 : 1 < n
      · have h1' : (1 : Int) < (n : Int) := by omega
        go_enter Tryz.func51, Tryz.ntmps51
        go_wp2
        go_ret
        exact ⟨ret_bool (by rw [← HR.out]; simp [h1]), HB0.out⟩
      · have h1' : ¬ (1 : Int) < (n : Int) := by omega
        go_enter Tryz.func51, Tryz.ntmps51
        go_wp2
        go_ret
        exact ⟨ret_bool (by rw [← HR.out]; simp [h1]), HB0.out⟩
    · clear e_topic e_flow
      by_cases h1 : 1 < n
      · have h1' : (1 : Int) < (n : Int) := by omega
        go_enter Tryz.func51, Tryz.ntmps51
        go_wp2
        go_ret
        exact ⟨ret_bool (by rw [← HR.out]; simp [h1]), HB0.out⟩
      · have h1' : ¬ (1 : Int) < (n : Int) := by omega
        go_enter Tryz.func51, Tryz.ntmps51
        go_wp2
        go_ret
        exact ⟨ret_bool (by rw [← HR.out]; simp [h1]), HB0.out⟩
  rw [if_neg h_fs] at hR
  have e_filter : (t == [102, 105, 108, 116, 101, 114]) = false := beq_of_ne (fun h => h_fs (.inl h))
  have e_set : (t == [115, 101, 116]) = false := beq_of_ne (fun h => h_fs (.inr h))
  clear h_fs
  by_cases h_key : t = wKey
  · subst h_key
    clear e_topic e_flow e_filter e_set h_topic h_flow
    rw [if_pos rfl] at hR
    obtain ⟨x1, hx1⟩ : ∃ x, fitsL ws keyForm = x := ⟨_, rfl⟩
    rw [hx1] at hR
    have HX1 := Lib.hid hx1
    clear hx1
    have HR := Lib.hid hR
    clear hR
    go_enter Tryz.func51, Tryz.ntmps51
    go_wp2_with (go_at_call 73; with_reducible refine (keyForm_at HT.out HX1.out).mono ?_; rintro e w1 ⟨rfl, hb⟩; have HT1 := Lib.hid (HT.out.grow hb); have HB1 := Lib.hid (HB0.out.trans (hb.mono HB0.out.size)); clear hb)
    go_ret
    exact ⟨ret_bool HR.out, HB1.out⟩
  rw [if_neg h_key] at hR
  have e_key : (t == [107, 101, 121]) = false := beq_of_ne h_key
  by_cases h_window : t = wWindow
  · subst h_window
    clear e_topic e_flow e_filter e_set h_topic h_flow e_key h_key
    rw [if_pos rfl] at hR
    obtain ⟨x1, hx1⟩ : ∃ x, fitsL ws tumbleForm = x := ⟨_, rfl⟩
    rw [hx1] at hR
    have HX1 := Lib.hid hx1
    clear hx1
    obtain ⟨x2, hx2⟩ : ∃ x, fitsL ws slideForm = x := ⟨_, rfl⟩
    rw [hx2] at hR
    have HX2 := Lib.hid hx2
    clear hx2
    obtain ⟨x3, hx3⟩ : ∃ x, fitsL ws sessionForm = x := ⟨_, rfl⟩
    rw [hx3] at hR
    have HX3 := Lib.hid hx3
    clear hx3
    have HR := Lib.hid hR
    clear hR
    cases x1 with
    | true =>
      go_enter Tryz.func51, Tryz.ntmps51
      go_wp2_with (go_at_call 73; with_reducible refine (tumbleForm_at HT.out HX1.out).mono ?_; rintro e w1 ⟨rfl, hb⟩; have HT1 := Lib.hid (HT.out.grow hb); have HB1 := Lib.hid (HB0.out.trans (hb.mono HB0.out.size)); clear hb)
      go_ret
      exact ⟨ret_bool (by rw [← HR.out]; rfl), HB1.out⟩
    | false =>
      cases x2 with
      | true =>
        go_enter Tryz.func51, Tryz.ntmps51
        go_wp2_with (first | (go_at_call 73; with_reducible refine (tumbleForm_at HT.out HX1.out).mono ?_; rintro e w1 ⟨rfl, hb⟩; have HT1 := Lib.hid (HT.out.grow hb); have HB1 := Lib.hid (HB0.out.trans (hb.mono HB0.out.size)); clear hb) | (go_at_call 73; with_reducible refine (slideForm_at HT1.out HX2.out).mono ?_; rintro e w2 ⟨rfl, hb⟩; have HT2 := Lib.hid (HT1.out.grow hb); have HB2 := Lib.hid (HB1.out.trans (hb.mono HB1.out.size)); clear hb))
        go_ret
        exact ⟨ret_bool (by rw [← HR.out]; rfl), HB2.out⟩
      | false =>
        go_enter Tryz.func51, Tryz.ntmps51
        go_wp2_with (first | (go_at_call 73; with_reducible refine (tumbleForm_at HT.out HX1.out).mono ?_; rintro e w1 ⟨rfl, hb⟩; have HT1 := Lib.hid (HT.out.grow hb); have HB1 := Lib.hid (HB0.out.trans (hb.mono HB0.out.size)); clear hb) | (go_at_call 73; with_reducible refine (slideForm_at HT1.out HX2.out).mono ?_; rintro e w2 ⟨rfl, hb⟩; have HT2 := Lib.hid (HT1.out.grow hb); have HB2 := Lib.hid (HB1.out.trans (hb.mono HB1.out.size)); clear hb) | (go_at_call 73; with_reducible refine (sessionForm_at HT2.out HX3.out).mono ?_; rintro e w3 ⟨rfl, hb⟩; have HT3 := Lib.hid (HT2.out.grow hb); have HB3 := Lib.hid (HB2.out.trans (hb.mono HB2.out.size)); clear hb))
        go_ret
        exact ⟨ret_bool (by rw [← HR.out]; rfl), HB3.out⟩
  rw [if_neg h_window] at hR
  have e_window : (t == [119, 105, 110, 100, 111, 119]) = false := beq_of_ne h_window
  by_cases h_agg : t = wAgg
  · subst h_agg
    clear e_topic e_flow e_filter e_set h_topic h_flow e_key h_key e_window h_window
    rw [if_pos rfl] at hR
    obtain ⟨x1, hx1⟩ : ∃ x, fitsL ws aggForm = x := ⟨_, rfl⟩
    rw [hx1] at hR
    have HX1 := Lib.hid hx1
    clear hx1
    cases x1 with
    | false =>
      have HR := Lib.hid hR
      clear hR
      go_enter Tryz.func51, Tryz.ntmps51
      go_wp2_with (go_at_call 73; with_reducible refine (aggForm_at HT.out HX1.out).mono ?_; rintro e w1 ⟨rfl, hb⟩; have HT1 := Lib.hid (HT.out.grow hb); have HB1 := Lib.hid (HB0.out.trans (hb.mono HB0.out.size)); clear hb)
      go_ret
      exact ⟨ret_bool (by rw [← HR.out]; rfl), HB1.out⟩
    | true =>
      have hl2 : ws.length = 2 := fitsL_len _ _ HX1.out
      have h1 : 1 < ws.length := by omega
      have hn2 : n = 2 := by rw [HN.out]; exact hl2
      have hi1 : (1 : Int) < (n : Int) := by omega
      obtain ⟨u, hu⟩ : ∃ u, wd ws 1 = u := ⟨_, rfl⟩
      rw [hu] at hR
      obtain ⟨z, hz⟩ : ∃ z, aggOf u = z := ⟨_, rfl⟩
      rw [hz] at hR
      have HZ := Lib.hid hz
      have HR := Lib.hid hR
      have HU := Lib.hid hu
      have HL := Lib.hid (show 1 < ws.length from h1)
      clear hz hR hu hl2 h1 hn2
      by_cases h0 : z = 0
      · have e0 := inebf h0
        have H0 := Lib.hid h0
        clear h0
        go_enter Tryz.func51, Tryz.ntmps51
        go_wp2_with (first | (go_at_call 73; with_reducible refine (aggForm_at HT.out HX1.out).mono ?_; rintro e w1 ⟨rfl, hb⟩; have HT1 := Lib.hid (HT.out.grow hb); have HB1 := Lib.hid (HB0.out.trans (hb.mono HB0.out.size)); clear hb; obtain ⟨b', o', he, -, c1⟩ := HT1.out.wd HL.out; rw [HU.out] at c1; obtain ⟨rfl, rfl⟩ : b = b' ∧ o = o' := (by simpa using he); clear he) | (go_at_call 74; refine (aggOf_at _ _ HZ.out).mono ?_; rintro e w' ⟨rfl, rfl⟩))
        go_ret
        exact ⟨ret_bool (by rw [← HR.out]; simp [H0.out]), HB1.out⟩
      · have e0 := inebt h0
        have H0 := Lib.hid h0
        clear h0
        go_enter Tryz.func51, Tryz.ntmps51
        go_wp2_with (first | (go_at_call 73; with_reducible refine (aggForm_at HT.out HX1.out).mono ?_; rintro e w1 ⟨rfl, hb⟩; have HT1 := Lib.hid (HT.out.grow hb); have HB1 := Lib.hid (HB0.out.trans (hb.mono HB0.out.size)); clear hb; obtain ⟨b', o', he, -, c1⟩ := HT1.out.wd HL.out; rw [HU.out] at c1; obtain ⟨rfl, rfl⟩ : b = b' ∧ o = o' := (by simpa using he); clear he) | (go_at_call 74; refine (aggOf_at _ _ HZ.out).mono ?_; rintro e w' ⟨rfl, rfl⟩))
        go_ret
        exact ⟨ret_bool (by rw [← HR.out]; simp [H0.out]), HB1.out⟩
  rw [if_neg h_agg] at hR
  have e_agg : (t == [97, 103, 103]) = false := beq_of_ne h_agg
  have HR := Lib.hid hR
  clear hR h_topic h_flow h_key h_window h_agg
  go_enter Tryz.func51, Tryz.ntmps51
  go_wp2
  go_ret
  exact ⟨ret_bool HR.out, HB0.out⟩
end Go.Proofs.YtogcickcodlepaaGreatDoor.Pl
/-
  The program's parser in memory: its five fields, its rows, the rows of its flows' steps. Conditions: as the statements say.
-/
namespace Go.Proofs.YtogcickcodlepaaGreatDoor.Pl
open Go.RowKit Go.Proofs.YtogcickcodlepaaGreatDoor.Ex

def ixs (L : List Nat) : List Value := L.map fun (i : Nat) => Value.int .i64 (i : Int)
def topCs (L : List Top) : List Value := L.flatMap topC
def stpCs (L : List Stp) : List Value := L.flatMap stpC
def flwCs (es : List FE) : List Value := es.flatMap flwC
theorem topCs_len (L : List Top) : (topCs L).length = L.length * 2 := by
  induction L with
  | nil => rfl
  | cons t r ih => rw [show topCs (t :: r) = topC t ++ topCs r by simp [topCs], List.length_append, ih]; simp [topC]; omega
theorem stpCs_len (L : List Stp) : (stpCs L).length = L.length * 3 := by
  induction L with
  | nil => rfl
  | cons t r ih => rw [show stpCs (t :: r) = stpC t ++ stpCs r by simp [stpCs], List.length_append, ih]; simp [stpC]; omega
theorem flwCs_len (L : List FE) : (flwCs L).length = L.length * 12 := by
  induction L with
  | nil => rfl
  | cons t r ih => rw [show flwCs (t :: r) = flwC t ++ flwCs r by simp [flwCs], List.length_append, ih]; simp [flwC]; omega
theorem topCs_snoc (L : List Top) (t : Top) : topCs (L ++ [t]) = topCs L ++ topC t := by simp [topCs]
theorem stpCs_snoc (L : List Stp) (t : Stp) : stpCs (L ++ [t]) = stpCs L ++ stpC t := by simp [stpCs]
theorem flwCs_snoc (L : List FE) (t : FE) : flwCs (L ++ [t]) = flwCs L ++ flwC t := by simp [flwCs]
theorem ixs_snoc (L : List Nat) (i : Nat) : ixs (L ++ [i]) = ixs L ++ [.int .i64 i] := by simp [ixs]
def Apt (a b : Value) : Prop := a.ownBlock = none ∨ a.ownBlock ≠ b.ownBlock
theorem Apt.symm {a b : Value} (h : Apt a b) : Apt b a := by
  unfold Apt at *
  rcases h with h | h
  · by_cases e : b.ownBlock = none
    · exact .inl e
    · exact .inr (by rw [h]; exact e)
  · by_cases e : b.ownBlock = none
    · exact .inl e
    · exact .inr (fun x => h x.symm)
def svals (es : List FE) : List Value := es.flatMap fun q => [q.pre, q.post]
theorem svals_snoc (es : List FE) (q : FE) : svals (es ++ [q]) = svals es ++ [q.pre, q.post] := by simp [svals]
/-- A flow's two rows of steps. -/
structure SR (B : Nat) (w : World) (q : FE) : Prop where
  pre : w.ownsRow B 50 3 q.pre q.f.pre.length (stpCs q.f.pre)
  post : w.ownsRow B 50 3 q.post q.f.post.length (stpCs q.f.post)
/-- A row of strings is kept. -/
def KAt (KL : Nat × Array Value) (w : World) : Prop := w.heap[KL.1]? = some (.cells KL.2 9 (0, 0))
theorem KAt.below {KL : Nat × Array Value} {w w' : World} (h : KAt KL w) (hb : Below w.heap.size w w') : KAt KL w' := (hb.block _ (lt_of_heap h)).trans h
theorem KAt.grown {KL : Nat × Array Value} {w w' : World} {B n size : Nat} {e : TypeId} {xs : List Value} {v : Value} (h : KAt KL w) (hr : w.ownsRow B e size v n xs) (he : e ≠ 9) (hg : w.grownBy w' v.ownBlock) : KAt KL w' :=
  (hg.block _ (lt_of_heap h) (fun e2 => row_ne hr h (Ne.symm he) e2.symm)).trans h
theorem KAt.set {KL : Nat × Array Value} {w : World} {g : Nat} {cs : Array Value} {e : TypeId} (h : KAt KL w) (hb : w.heap[g]? = some (.cells cs e (0, 0))) (he : e ≠ 9) (i : Nat) (v : Value) : KAt KL (w.setCell ⟨g, i, none⟩ v) :=
  heap_setCell h (fun x => by unfold KAt at h; rw [← x, hb] at h; injection h with h; injection h with _ h; exact he h) v
structure PX (KL : Nat × Array Value) (w0 : World) (p : Nat) (S : PSt) (vt vf va vb : Value) (es : List FE) (w : World) : Prop where
  below : Below w0.heap.size w0 w
  keep : KAt KL w
  hp : w0.heap.size ≤ p
  blk : w.heap[p]? = some (.cells #[vt, vf, va, vb, .int .i64 S.win] 57 (0, 0))
  flws : es.map FE.f = S.flws
  rowT : w.ownsRow w0.heap.size 47 2 vt S.tops.length (topCs S.tops)
  rowF : w.ownsRow w0.heap.size 43 12 vf es.length (flwCs es)
  rowA : w.ownsRow w0.heap.size 3 1 va S.tl.length (ixs S.tl)
  rowB : w.ownsRow w0.heap.size 3 1 vb S.fl.length (ixs S.fl)
  apart : Apt va vb
  steps : ∀ q ∈ es, SR w0.heap.size w q
  sapart : (svals es).Pairwise Apt
variable {KL : Nat × Array Value} {w0 w w1 w' : World} {p : Nat} {S : PSt} {vt vf va vb : Value} {es : List FE}
theorem SR.below {B : Nat} {q : FE} (h : SR B w q) (hb : Below w.heap.size w w') : SR B w' q := ⟨ownsRow_below h.pre hb, ownsRow_below h.post hb⟩
theorem PX.grow (h : PX KL w0 p S vt vf va vb es w) (hb : Below w.heap.size w w') : PX KL w0 p S vt vf va vb es w' :=
  ⟨h.below.trans (hb.mono h.below.size), h.keep.below hb, h.hp, by rw [hb.block p (lt_of_heap h.blk)]; exact h.blk, h.flws, ownsRow_below h.rowT hb, ownsRow_below h.rowF hb, ownsRow_below h.rowA hb, ownsRow_below h.rowB hb, h.apart, fun q hq => (h.steps q hq).below hb, h.sapart⟩
theorem PX.lt (h : PX KL w0 p S vt vf va vb es w) : p < w.heap.size := lt_of_heap h.blk
theorem px_cells {a b c d e : Value} (h : w.heap[p]? = some (.cells #[a, b, c, d, e] 57 (0, 0))) : w.cell? ⟨p, 0, none⟩ = some a ∧ w.cell? ⟨p, 1, none⟩ = some b ∧ w.cell? ⟨p, 2, none⟩ = some c ∧ w.cell? ⟨p, 3, none⟩ = some d ∧ w.cell? ⟨p, 4, none⟩ = some e ∧
    w.frozen? ⟨p, 0, none⟩ = false ∧ w.frozen? ⟨p, 1, none⟩ = false ∧ w.frozen? ⟨p, 2, none⟩ = false ∧ w.frozen? ⟨p, 3, none⟩ = false ∧ w.frozen? ⟨p, 4, none⟩ = false := by
  refine ⟨?_, ?_, ?_, ?_, ?_, free_of_heap h 0, free_of_heap h 1, free_of_heap h 2, free_of_heap h 3, free_of_heap h 4⟩ <;> rw [cell_of_heap h] <;> rfl
/-- A field of the parser's block is stored into. -/
theorem PX.setP {S' : PSt} {vt' vf' va' vb' : Value} {es' : List FE} (h : PX KL w0 p S' vt' vf' va' vb' es' w1 ∨ True) (hk : KAt KL w1) (hbel : Below w0.heap.size w0 w1) (hp : w0.heap.size ≤ p) {a b c d e : Value} (hblk : w1.heap[p]? = some (.cells #[a, b, c, d, e] 57 (0, 0))) (i : Nat) (v : Value)
    (hc : (#[a, b, c, d, e] : Array Value).setIfInBounds i v = #[vt', vf', va', vb', .int .i64 S'.win]) (hf : es'.map FE.f = S'.flws)
    (r1 : w1.ownsRow w0.heap.size 47 2 vt' S'.tops.length (topCs S'.tops)) (r2 : w1.ownsRow w0.heap.size 43 12 vf' es'.length (flwCs es')) (r3 : w1.ownsRow w0.heap.size 3 1 va' S'.tl.length (ixs S'.tl)) (r4 : w1.ownsRow w0.heap.size 3 1 vb' S'.fl.length (ixs S'.fl))
    (ha : Apt va' vb') (hs : ∀ q ∈ es', SR w0.heap.size w1 q) (hsa : (svals es').Pairwise Apt) : PX KL w0 p S' vt' vf' va' vb' es' (w1.setCell ⟨p, i, none⟩ v) where
  below := hbel.setCell hp v
  keep := hk.set hblk (by decide) i v
  hp := hp
  blk := by rw [heap_setCell_same w1 p i _ _ v hblk, hc]
  flws := hf
  rowT := ownsRow_setCell_other r1 (row_ne r1 hblk (by decide)) v
  rowF := ownsRow_setCell_other r2 (row_ne r2 hblk (by decide)) v
  rowA := ownsRow_setCell_other r3 (row_ne r3 hblk (by decide)) v
  rowB := ownsRow_setCell_other r4 (row_ne r4 hblk (by decide)) v
  apart := ha
  steps := fun q hq => ⟨ownsRow_setCell_other (hs q hq).pre (row_ne (hs q hq).pre hblk (by decide)) v, ownsRow_setCell_other (hs q hq).post (row_ne (hs q hq).post hblk (by decide)) v⟩
  sapart := hsa
/-- The window's line is stored. -/
theorem PX.setWin (h : PX KL w0 p S vt vf va vb es w) (n : Nat) : PX KL w0 p { S with win := n } vt vf va vb es (w.setCell ⟨p, 4, none⟩ (.int .i64 n)) :=
  PX.setP (.inr trivial) h.keep h.below h.hp h.blk 4 _ (by rfl) h.flws h.rowT h.rowF h.rowA h.rowB h.apart h.steps h.sapart
theorem SR.kept {B : Nat} {q : FE} {v : Value} {e : TypeId} {size n : Nat} {xs : List Value} (h : SR B w q) (hg : w.grownBy w1 v.ownBlock) (hr : w.ownsRow B e size v n xs) (he : 50 ≠ e) : SR B w1 q :=
  ⟨h.pre.kept hg (own_ne h.pre hr he), h.post.kept hg (own_ne h.post hr he)⟩
theorem PX.pushTop {v2 : Value} {t : Top} (h : PX KL w0 p S vt vf va vb es w) (hg : w.grownBy w1 vt.ownBlock) (ho : w1.ownsRow w0.heap.size 47 2 v2 (S.tops.length + 1) (topCs S.tops ++ topC t)) :
    w1.heap[p]? = some (.cells #[vt, vf, va, vb, .int .i64 S.win] 57 (0, 0)) ∧ PX KL w0 p { S with tops := S.tops ++ [t] } v2 vf va vb es (w1.setCell ⟨p, 0, none⟩ v2) := by
  have hb : w1.heap[p]? = some (.cells #[vt, vf, va, vb, .int .i64 S.win] 57 (0, 0)) := by rw [hg.block p h.lt (fun e => row_ne h.rowT h.blk (by decide) e.symm)]; exact h.blk
  have hbel : Below w0.heap.size w0 w1 := h.below.grown hg h.below.size (fun k e => (h.rowT.lt k e).1)
  rw [← topCs_snoc] at ho
  exact ⟨hb, PX.setP (.inr trivial) (h.keep.grown h.rowT (by decide) hg) hbel h.hp hb 0 v2 (by rfl) h.flws (by simpa using ho) (h.rowF.kept hg (own_ne h.rowF h.rowT (by decide))) (h.rowA.kept hg (own_ne h.rowA h.rowT (by decide))) (h.rowB.kept hg (own_ne h.rowB h.rowT (by decide))) h.apart (fun q hq => (h.steps q hq).kept hg h.rowT (by decide)) h.sapart⟩
theorem PX.pushFlow {v2 : Value} {f : Flw} (h : PX KL w0 p S vt vf va vb es w) (hg : w.grownBy w1 vf.ownBlock) (h0 : f.pre = []) (h1 : f.post = []) (ho : w1.ownsRow w0.heap.size 43 12 v2 (es.length + 1) (flwCs es ++ flwC ⟨f, .slice none 0 0, .slice none 0 0⟩)) :
    w1.heap[p]? = some (.cells #[vt, vf, va, vb, .int .i64 S.win] 57 (0, 0)) ∧ PX KL w0 p { S with flws := S.flws ++ [f] } vt v2 va vb (es ++ [⟨f, .slice none 0 0, .slice none 0 0⟩]) (w1.setCell ⟨p, 1, none⟩ v2) := by
  have hb : w1.heap[p]? = some (.cells #[vt, vf, va, vb, .int .i64 S.win] 57 (0, 0)) := by rw [hg.block p h.lt (fun e => row_ne h.rowF h.blk (by decide) e.symm)]; exact h.blk
  have hbel : Below w0.heap.size w0 w1 := h.below.grown hg h.below.size (fun k e => (h.rowF.lt k e).1)
  rw [← flwCs_snoc] at ho
  refine ⟨hb, PX.setP (.inr trivial) (h.keep.grown h.rowF (by decide) hg) hbel h.hp hb 1 v2 (by rfl) (by simp [h.flws]) (h.rowT.kept hg (own_ne h.rowT h.rowF (by decide))) (by simpa using ho) (h.rowA.kept hg (own_ne h.rowA h.rowF (by decide))) (h.rowB.kept hg (own_ne h.rowB h.rowF (by decide))) h.apart (fun q hq => ?_) ?_⟩
  · rcases List.mem_append.1 hq with hq | hq
    · exact (h.steps q hq).kept hg h.rowF (by decide)
    · simp only [List.mem_singleton] at hq
      subst hq
      exact ⟨by rw [h0]; exact World.ownsRow_nil _ _ _ _, by rw [h1]; exact World.ownsRow_nil _ _ _ _⟩
  · rw [svals_snoc, List.pairwise_append]
    refine ⟨h.sapart, ?_, fun a _ b hb => ?_⟩
    · simp [Apt, Value.ownBlock]
    · have : b.ownBlock = none := by
        simp only [List.mem_cons, List.not_mem_nil, or_false] at hb
        rcases hb with rfl | rfl <;> rfl
      exact Apt.symm (.inl this)
theorem PX.pushA {v2 : Value} {i : Nat} (h : PX KL w0 p S vt vf va vb es w) (hg : w.grownBy w1 va.ownBlock) (ho : w1.ownsRow w0.heap.size 3 1 v2 (S.tl.length + 1) (ixs S.tl ++ [.int .i64 i])) {g : Nat} (hv : v2.ownBlock = some g) (hat : va.ownBlock = some g ∨ g = w.heap.size) :
    w1.heap[p]? = some (.cells #[vt, vf, va, vb, .int .i64 S.win] 57 (0, 0)) ∧ PX KL w0 p { S with tl := S.tl ++ [i] } vt vf v2 vb es (w1.setCell ⟨p, 2, none⟩ v2) := by
  have hb : w1.heap[p]? = some (.cells #[vt, vf, va, vb, .int .i64 S.win] 57 (0, 0)) := by rw [hg.block p h.lt (fun e => row_ne h.rowA h.blk (by decide) e.symm)]; exact h.blk
  have hbel : Below w0.heap.size w0 w1 := h.below.grown hg h.below.size (fun k e => (h.rowA.lt k e).1)
  rw [← ixs_snoc] at ho
  refine ⟨hb, PX.setP (.inr trivial) (h.keep.grown h.rowA (by decide) hg) hbel h.hp hb 2 v2 (by rfl) h.flws (h.rowT.kept hg (own_ne h.rowT h.rowA (by decide))) (h.rowF.kept hg (own_ne h.rowF h.rowA (by decide))) (by simpa using ho) (h.rowB.kept hg h.apart.symm) ?_ (fun q hq => (h.steps q hq).kept hg h.rowA (by decide)) h.sapart⟩
  refine Apt.symm ?_
  unfold Apt
  rw [hv]
  rcases hat with e | e
  · rw [← e]; exact h.apart.symm
  · cases hk : vb.ownBlock with
    | none => exact .inl rfl
    | some k => right; intro e2; have := (h.rowB.lt k hk).2; injection e2 with e2; omega
theorem PX.pushB {v2 : Value} {i : Nat} (h : PX KL w0 p S vt vf va vb es w) (hg : w.grownBy w1 vb.ownBlock) (ho : w1.ownsRow w0.heap.size 3 1 v2 (S.fl.length + 1) (ixs S.fl ++ [.int .i64 i])) {g : Nat} (hv : v2.ownBlock = some g) (hat : vb.ownBlock = some g ∨ g = w.heap.size) :
    w1.heap[p]? = some (.cells #[vt, vf, va, vb, .int .i64 S.win] 57 (0, 0)) ∧ PX KL w0 p { S with fl := S.fl ++ [i] } vt vf va v2 es (w1.setCell ⟨p, 3, none⟩ v2) := by
  have hb : w1.heap[p]? = some (.cells #[vt, vf, va, vb, .int .i64 S.win] 57 (0, 0)) := by rw [hg.block p h.lt (fun e => row_ne h.rowB h.blk (by decide) e.symm)]; exact h.blk
  have hbel : Below w0.heap.size w0 w1 := h.below.grown hg h.below.size (fun k e => (h.rowB.lt k e).1)
  rw [← ixs_snoc] at ho
  refine ⟨hb, PX.setP (.inr trivial) (h.keep.grown h.rowB (by decide) hg) hbel h.hp hb 3 v2 (by rfl) h.flws (h.rowT.kept hg (own_ne h.rowT h.rowB (by decide))) (h.rowF.kept hg (own_ne h.rowF h.rowB (by decide))) (h.rowA.kept hg h.apart) (by simpa using ho) ?_ (fun q hq => (h.steps q hq).kept hg h.rowB (by decide)) h.sapart⟩
  unfold Apt
  rw [hv]
  rcases hat with e | e
  · rw [← e]; exact h.apart
  · cases hk : va.ownBlock with
    | none => exact .inl rfl
    | some k => right; intro e2; have := (h.rowA.lt k hk).2; injection e2 with e2; omega
/-- The last flow, looked at from above. -/
theorem PX.last {es : List FE} {q : FE} (h : PX KL w0 p S vt vf va vb (es ++ [q]) w) : ∃ g cap, vf = .slice (some ⟨g, 0, none⟩) (es.length + 1) cap ∧ g < w.heap.size ∧ w0.heap.size ≤ g ∧ g ≠ p ∧ es.length + 1 ≤ cap ∧
    (∀ j u, (flwC q)[j]? = some u → w.cell? ⟨g, es.length * 12 + j, none⟩ = some u) ∧ (∀ i, w.frozen? ⟨g, i, none⟩ = false) := by
  have r := h.rowF
  rw [List.length_append, List.length_singleton] at r
  rcases r.2 with ⟨_, h0⟩ | ⟨g, cap, cur, rfl, hb, hg, hnc, -⟩
  · omega
  · refine ⟨g, cap, rfl, lt_of_heap hg, hb, ?_, hnc, fun j u hj => ?_, fun i => r.frozenAt i⟩
    · intro e; subst e; have := h.blk; rw [hg] at this; injection this with this; injection this with _ this; cases this
    · have hl := flwCs_len es
      have hj12 : j < 12 := by
        rcases Nat.lt_or_ge j (flwC q).length with h | h
        · simpa [flwC] using h
        · rw [List.getElem?_eq_none h] at hj; cases hj
      have c := r.cellAt (es.length * 12 + j) (by omega)
      rw [flwCs_snoc, List.getElem?_append_right (by omega), hl] at c
      rw [show es.length * 12 + j - es.length * 12 = j by omega, hj] at c
      exact c
theorem set_tail {α : Type} (xs ys : List α) (j : Nat) (v : α) : (xs ++ ys).set (xs.length + j) v = xs ++ ys.set j v := by
  rw [List.set_append, if_neg (by omega)]; simp
/-- A cell of the last flow is stored into: the general form. -/
theorem PX.mkLast {es : List FE} {q q' : FE} {g cap : Nat} {S' : PSt} (hk : KAt KL w) (hbel : Below w0.heap.size w0 w) (hp : w0.heap.size ≤ p) (hblk : w.heap[p]? = some (.cells #[vt, .slice (some ⟨g, 0, none⟩) (es.length + 1) cap, va, vb, .int .i64 S'.win] 57 (0, 0)))
    (rT : w.ownsRow w0.heap.size 47 2 vt S'.tops.length (topCs S'.tops)) (rF : w.ownsRow w0.heap.size 43 12 (.slice (some ⟨g, 0, none⟩) (es.length + 1) cap) (es.length + 1) (flwCs (es ++ [q]))) (rA : w.ownsRow w0.heap.size 3 1 va S'.tl.length (ixs S'.tl)) (rB : w.ownsRow w0.heap.size 3 1 vb S'.fl.length (ixs S'.fl)) (ha : Apt va vb)
    (hst : ∀ q ∈ es, SR w0.heap.size w q) (hs : SR w0.heap.size w q') (hsa : (svals (es ++ [q'])).Pairwise Apt) (hf : (es ++ [q']).map FE.f = S'.flws) (j : Nat) (v : Value) (hc : (flwC q).set j v = flwC q') :
    PX KL w0 p S' vt (.slice (some ⟨g, 0, none⟩) (es.length + 1) cap) va vb (es ++ [q']) (w.setCell ⟨g, es.length * 12 + j, none⟩ v) := by
  obtain ⟨a1, b1⟩ := rF.stored (es.length * 12 + j) v
  have hl := flwCs_len es
  rw [flwCs_snoc, ← hl, set_tail, hc, ← flwCs_snoc, hl] at a1
  rcases rF.2 with ⟨h0, _⟩ | ⟨g', cap', cur, h0, hb, hg, -⟩
  · cases h0
  cases h0
  have np : g ≠ p := by intro e; subst e; have := hblk; rw [hg] at this; injection this with this; injection this with _ this; cases this
  refine ⟨hbel.setCell hb v, hk.set hg (by decide) _ v, hp, heap_setCell hblk np v, hf, ownsRow_setCell_other rT (row_ne rT hg (by decide)) v, by simpa using a1, ownsRow_setCell_other rA (row_ne rA hg (by decide)) v, ownsRow_setCell_other rB (row_ne rB hg (by decide)) v, ha, fun q2 hq2 => ?_, hsa⟩
  have hq : SR w0.heap.size w q2 := by
    rcases List.mem_append.1 hq2 with h | h
    · exact hst q2 h
    · simp only [List.mem_singleton] at h; rw [h]; exact hs
  exact ⟨ownsRow_setCell_other hq.pre (row_ne hq.pre hg (by decide)) v, ownsRow_setCell_other hq.post (row_ne hq.post hg (by decide)) v⟩
theorem PX.rowF' {es : List FE} {q : FE} (h : PX KL w0 p S vt vf va vb (es ++ [q]) w) : w.ownsRow w0.heap.size 43 12 vf (es.length + 1) (flwCs (es ++ [q])) := by
  have r := h.rowF
  rw [List.length_append, List.length_singleton] at r
  exact r
/-- The last flow's window or aggregate is stored. -/
theorem PX.setLast {es : List FE} {f f' : Flw} {v1 v2 : Value} {g cap : Nat} (h : PX KL w0 p S vt (.slice (some ⟨g, 0, none⟩) (es.length + 1) cap) va vb (es ++ [⟨f, v1, v2⟩]) w) (j : Nat) (v : Value) {fs : List Flw}
    (hc : (flwC ⟨f, v1, v2⟩).set j v = flwC ⟨f', v1, v2⟩) (h1 : f'.pre = f.pre) (h2 : f'.post = f.post) (hf : es.map FE.f ++ [f'] = fs) :
    PX KL w0 p { S with flws := fs } vt (.slice (some ⟨g, 0, none⟩) (es.length + 1) cap) va vb (es ++ [⟨f', v1, v2⟩]) (w.setCell ⟨g, es.length * 12 + j, none⟩ v) :=
  PX.mkLast (S' := { S with flws := fs }) h.keep h.below h.hp h.blk h.rowT h.rowF' h.rowA h.rowB h.apart (fun q hq => h.steps q (List.mem_append_left _ hq))
    ⟨by rw [h1]; exact (h.steps _ (List.mem_append_right _ (List.mem_singleton.2 rfl))).pre, by rw [h2]; exact (h.steps _ (List.mem_append_right _ (List.mem_singleton.2 rfl))).post⟩
    (by have := h.sapart; rw [svals_snoc] at this ⊢; exact this) (by simpa using hf) j v hc
theorem apt_new {v u : Value} {g : Nat} {B : Nat} {e : TypeId} {size n : Nat} {xs : List Value} {old : Value} (hv : v.ownBlock = some g) (hat : old.ownBlock = some g ∨ g = w.heap.size) (ho : Apt u old) (hr : w.ownsRow B e size u n xs) : Apt u v := by
  unfold Apt at *
  rw [hv]
  rcases hat with e | e
  · rw [← e]; exact ho
  · cases hk : u.ownBlock with
    | none => exact .inl rfl
    | some k => right; intro e2; have := (hr.lt k hk).2; injection e2 with e2; omega
theorem PX.pushPre {es : List FE} {f : Flw} {v1 v2 v3 : Value} {g cap gn : Nat} {s : Stp} (h : PX KL w0 p S vt (.slice (some ⟨g, 0, none⟩) (es.length + 1) cap) va vb (es ++ [⟨f, v1, v2⟩]) w) (hg : w.grownBy w1 v1.ownBlock)
    (ho : w1.ownsRow w0.heap.size 50 3 v3 (f.pre.length + 1) (stpCs f.pre ++ stpC s)) (hv : v3.ownBlock = some gn) (hat : v1.ownBlock = some gn ∨ gn = w.heap.size) :
    w1.cell? ⟨g, es.length * 12 + 6, none⟩ = some v1 ∧ w1.frozen? ⟨g, es.length * 12 + 6, none⟩ = false ∧
    PX KL w0 p { S with flws := es.map FE.f ++ [{ f with pre := f.pre ++ [s] }] } vt (.slice (some ⟨g, 0, none⟩) (es.length + 1) cap) va vb (es ++ [⟨{ f with pre := f.pre ++ [s] }, v3, v2⟩]) (w1.setCell ⟨g, es.length * 12 + 6, none⟩ v3) := by
  have hsr := h.steps _ (List.mem_append_right _ (List.mem_singleton.2 rfl))
  have hr := hsr.pre
  have hbel : Below w0.heap.size w0 w1 := h.below.grown hg h.below.size (fun k e => (hr.lt k e).1)
  have hblk : w1.heap[p]? = _ := (hg.block p h.lt (fun e => row_ne hr h.blk (by decide) e.symm)).trans h.blk
  have rF := h.rowF'.kept hg (own_ne h.rowF' hr (by decide))
  have hap := h.sapart
  rw [svals_snoc, List.pairwise_append] at hap
  obtain ⟨hap1, hap2, hap3⟩ := hap
  have h12 : Apt v2 v1 := by
    simp only [List.pairwise_cons, List.mem_singleton, forall_eq] at hap2
    exact hap2.1.symm
  have hpost : w1.ownsRow w0.heap.size 50 3 v2 f.post.length (stpCs f.post) := hsr.post.kept hg h12
  have hst : ∀ q ∈ es, SR w0.heap.size w1 q := fun q hq => by
    have hq' := h.steps q (List.mem_append_left _ hq)
    have m1 : q.pre ∈ svals es := List.mem_flatMap.2 ⟨q, hq, by simp⟩
    have m2 : q.post ∈ svals es := List.mem_flatMap.2 ⟨q, hq, by simp⟩
    exact ⟨hq'.pre.kept hg (hap3 _ m1 v1 (by simp)), hq'.post.kept hg (hap3 _ m2 v1 (by simp))⟩
  obtain ⟨_, _, ev, _, _, _, _, hcell, _⟩ := h.last
  have hc6 := hcell 6 v1 rfl
  injection ev with ev
  injection ev with ev
  injection ev with ev _
  subst ev
  have hne : v1.ownBlock ≠ some g := by
    rcases h.rowF'.2 with ⟨h0, _⟩ | ⟨g', cap', cur, h0, _, hgg, -⟩
    · cases h0
    · cases h0; exact row_ne hr hgg (by decide)
  refine ⟨?_, ?_, PX.mkLast (S' := { S with flws := es.map FE.f ++ [{ f with pre := f.pre ++ [s] }] }) (h.keep.grown hr (by decide) hg) hbel h.hp hblk (h.rowT.kept hg (own_ne h.rowT hr (by decide))) rF (h.rowA.kept hg (own_ne h.rowA hr (by decide))) (h.rowB.kept hg (own_ne h.rowB hr (by decide))) h.apart hst ⟨?_, hpost⟩ ?_ (by simp) 6 v3 rfl⟩
  · rw [rF.cellAt _ (by omega), ← h.rowF'.cellAt _ (by omega)]; exact hc6
  · exact rF.frozenAt _
  · rw [← stpCs_snoc] at ho; simpa using ho
  · rw [svals_snoc, List.pairwise_append]
    refine ⟨hap1, ?_, fun a ha b hb => ?_⟩
    · simp only [List.pairwise_cons, List.mem_singleton, forall_eq, List.not_mem_nil, List.Pairwise.nil, and_true, implies_true, false_imp_iff]
      exact (apt_new hv hat h12 hsr.post).symm
    · simp only [List.mem_cons, List.not_mem_nil, or_false] at hb
      rcases hb with hb | hb
      · rw [hb]
        obtain ⟨q, hq, hqa⟩ := List.mem_flatMap.1 ha
        have hq' := h.steps q (List.mem_append_left _ hq)
        have hx := hap3 a ha v1 (by simp)
        simp only [List.mem_cons, List.not_mem_nil, or_false] at hqa
        rcases hqa with rfl | rfl
        · exact apt_new hv hat hx hq'.pre
        · exact apt_new hv hat hx hq'.post
      · rw [hb]; exact hap3 a ha v2 (by simp)
theorem PX.pushPost {es : List FE} {f : Flw} {v1 v2 v3 : Value} {g cap gn : Nat} {s : Stp} (h : PX KL w0 p S vt (.slice (some ⟨g, 0, none⟩) (es.length + 1) cap) va vb (es ++ [⟨f, v1, v2⟩]) w) (hg : w.grownBy w1 v2.ownBlock)
    (ho : w1.ownsRow w0.heap.size 50 3 v3 (f.post.length + 1) (stpCs f.post ++ stpC s)) (hv : v3.ownBlock = some gn) (hat : v2.ownBlock = some gn ∨ gn = w.heap.size) :
    w1.cell? ⟨g, es.length * 12 + 11, none⟩ = some v2 ∧ w1.frozen? ⟨g, es.length * 12 + 11, none⟩ = false ∧
    PX KL w0 p { S with flws := es.map FE.f ++ [{ f with post := f.post ++ [s] }] } vt (.slice (some ⟨g, 0, none⟩) (es.length + 1) cap) va vb (es ++ [⟨{ f with post := f.post ++ [s] }, v1, v3⟩]) (w1.setCell ⟨g, es.length * 12 + 11, none⟩ v3) := by
  have hsr := h.steps _ (List.mem_append_right _ (List.mem_singleton.2 rfl))
  have hr := hsr.post
  have hbel : Below w0.heap.size w0 w1 := h.below.grown hg h.below.size (fun k e => (hr.lt k e).1)
  have hblk : w1.heap[p]? = _ := (hg.block p h.lt (fun e => row_ne hr h.blk (by decide) e.symm)).trans h.blk
  have rF := h.rowF'.kept hg (own_ne h.rowF' hr (by decide))
  have hap := h.sapart
  rw [svals_snoc, List.pairwise_append] at hap
  obtain ⟨hap1, hap2, hap3⟩ := hap
  have h12 : Apt v1 v2 := by
    simp only [List.pairwise_cons, List.mem_singleton, forall_eq] at hap2
    exact hap2.1
  have hpre : w1.ownsRow w0.heap.size 50 3 v1 f.pre.length (stpCs f.pre) := hsr.pre.kept hg h12
  have hst : ∀ q ∈ es, SR w0.heap.size w1 q := fun q hq => by
    have hq' := h.steps q (List.mem_append_left _ hq)
    have m1 : q.pre ∈ svals es := List.mem_flatMap.2 ⟨q, hq, by simp⟩
    have m2 : q.post ∈ svals es := List.mem_flatMap.2 ⟨q, hq, by simp⟩
    exact ⟨hq'.pre.kept hg (hap3 _ m1 v2 (by simp)), hq'.post.kept hg (hap3 _ m2 v2 (by simp))⟩
  obtain ⟨_, _, ev, _, _, _, _, hcell, _⟩ := h.last
  have hc6 := hcell 11 v2 rfl
  injection ev with ev
  injection ev with ev
  injection ev with ev _
  subst ev
  refine ⟨?_, ?_, PX.mkLast (S' := { S with flws := es.map FE.f ++ [{ f with post := f.post ++ [s] }] }) (h.keep.grown hr (by decide) hg) hbel h.hp hblk (h.rowT.kept hg (own_ne h.rowT hr (by decide))) rF (h.rowA.kept hg (own_ne h.rowA hr (by decide))) (h.rowB.kept hg (own_ne h.rowB hr (by decide))) h.apart hst ⟨hpre, ?_⟩ ?_ (by simp) 11 v3 rfl⟩
  · rw [rF.cellAt _ (by omega), ← h.rowF'.cellAt _ (by omega)]; exact hc6
  · exact rF.frozenAt _
  · rw [← stpCs_snoc] at ho; simpa using ho
  · rw [svals_snoc, List.pairwise_append]
    refine ⟨hap1, ?_, fun a ha b hb => ?_⟩
    · simp only [List.pairwise_cons, List.mem_singleton, forall_eq, List.not_mem_nil, List.Pairwise.nil, and_true, implies_true, false_imp_iff]
      exact apt_new hv hat h12 hsr.pre
    · simp only [List.mem_cons, List.not_mem_nil, or_false] at hb
      rcases hb with hb | hb
      · rw [hb]; exact hap3 a ha v1 (by simp)
      · rw [hb]
        obtain ⟨q, hq, hqa⟩ := List.mem_flatMap.1 ha
        have hq' := h.steps q (List.mem_append_left _ hq)
        have hx := hap3 a ha v2 (by simp)
        simp only [List.mem_cons, List.not_mem_nil, or_false] at hqa
        rcases hqa with rfl | rfl
        · exact apt_new hv hat hx hq'.pre
        · exact apt_new hv hat hx hq'.post
end Go.Proofs.YtogcickcodlepaaGreatDoor.Pl
/-
  The parser: the flow that began last; which line may stand where it is. Conditions: the parser keeps what it keeps.
-/
namespace Go.Proofs.YtogcickcodlepaaGreatDoor.Pl
open Go.RowKit Go.Proofs.YtogcickcodlepaaGreatDoor.Ex
variable {KL : Nat × Array Value}

set_option maxRecDepth 20000 in
set_option maxHeartbeats 2000000 in
theorem flow_cells {w : World} {p g n cap : Nat} (hn : n + 1 ≤ 100000) (hc : n + 1 ≤ cap) (c1 : w.cell? ⟨p, 1, none⟩ = some (.slice (some ⟨g, 0, none⟩) (n + 1) cap)) :
    Calls Tryz.prog 75 #[ptr p] w fun e w' => e = .returned (.pointer (some ⟨g, n * 12, none⟩)) ∧ ∃ k, w' = w.drewN k := by
  have h1 : IntKind.i64.wrap (((n : Int) + 1) - 1) = (n : Int) := by rw [IntWalk.i64_in _ (by omega)]; omega
  have h2 : (0 : Int) ≤ (n : Int) := by omega
  have h3 : (n : Int) < (n : Int) + 1 := by omega
  have h4 : n < n + 1 := by omega
  go_enter Tryz.func75, Tryz.ntmps75
  go_wp2
  go_quiet (fail)
  go_wp2
  go_ret
  exact ⟨by simp, _, rfl⟩
theorem flow_any {w0 w : World} {p : Nat} {S : PSt} {vt va vb : Value} {es : List FE} {q : FE} {g cap : Nat} (h : PX KL w0 p S vt (.slice (some ⟨g, 0, none⟩) (es.length + 1) cap) va vb (es ++ [q]) w) (hn : es.length + 1 ≤ 100000) :
    Calls Tryz.prog 75 #[ptr p] w fun e w' => e = .returned (.pointer (some ⟨g, es.length * 12, none⟩)) ∧ ∃ k, w' = w.drewN k := by
  obtain ⟨_, c1, -⟩ := px_cells h.blk
  obtain ⟨_, _, ev, _, _, _, hc, _⟩ := h.last
  injection ev with ev e2 e3
  exact flow_cells hn (by omega) c1
theorem last_kind {es : List FE} {q : FE} {S : PSt} (h : (es ++ [q]).map FE.f = S.flws) : lastKind S.flws = q.f.win.kind ∧ S.flws ≠ [] := by
  rw [← h]; simp [lastKind]
theorem snoc_of {α : Type} (L : List α) (h : L ≠ []) : ∃ L0 x, L = L0 ++ [x] := ⟨L.dropLast, L.getLast h, (List.dropLast_concat_getLast h).symm⟩
set_option maxRecDepth 20000 in
set_option maxHeartbeats 2000000 in
theorem allows_at {w0 w : World} {p : Nat} {S : PSt} {vt vf va vb : Value} {es : List FE} (h : PX KL w0 p S vt vf va vb es w) (hn : es.length ≤ 99999) (t : Bs) {R : Bool} (hR : S.allows t = R) :
    Calls Tryz.prog 52 #[ptr p, sv t] w fun e w' => e = .returned (.bool R) ∧ ∃ k, w' = w.drewN k := by
  obtain ⟨c0, c1, c2, c3, c4, -⟩ := px_cells h.blk
  unfold PSt.allows at hR
  by_cases hw : S.win = 0
  · have hw' : ¬ (0 : Int) < (S.win : Int) := by omega
    by_cases ha : t = wAgg
    · rw [if_pos (.inr ha)] at hR
      have HR : Hid (R = false) := Lib.hid (by rw [← hR]; simp [hw])
      have e1 : (t == [97, 103, 103]) = true := beq_of_eq ha
      clear hR h hw ha
      go_enter Tryz.func52, Tryz.ntmps52
      go_wp2
      go_ret
      exact ⟨ret_bool HR.out.symm, 0, rfl⟩
    rw [if_neg (by simp [hw, ha])] at hR
    have e1 : (t == [97, 103, 103]) = false := beq_of_ne ha
    by_cases h1 : t = wTopic
    · rw [if_pos (.inl h1)] at hR
      have HR := Lib.hid hR
      subst h1
      clear hR h hw ha e1
      go_enter Tryz.func52, Tryz.ntmps52
      go_wp2
      go_ret
      exact ⟨ret_bool HR.out, 0, rfl⟩
    by_cases h2 : t = wFlow
    · rw [if_pos (.inr h2)] at hR
      have HR := Lib.hid hR
      subst h2
      clear hR h hw ha e1 h1
      go_enter Tryz.func52, Tryz.ntmps52
      go_wp2
      go_ret
      exact ⟨ret_bool HR.out, 0, rfl⟩
    rw [if_neg (by simp [h1, h2])] at hR
    have e2 : (t == [116, 111, 112, 105, 99]) = false := beq_of_ne h1
    have e3 : (t == [102, 108, 111, 119]) = false := beq_of_ne h2
    obtain ⟨n, hlen⟩ : ∃ n, es.length = n := ⟨_, rfl⟩
    obtain ⟨a, cap, rfl⟩ : ∃ a cap, vf = .slice a n cap := by
      rcases h.rowF.2 with ⟨rfl, h0⟩ | ⟨g, cap, cur, rfl, -⟩
      · exact ⟨none, 0, by rw [← hlen, h0]⟩
      · exact ⟨_, _, by rw [hlen]⟩
    have hfl : S.flws.length = n := by rw [← h.flws]; simpa using hlen
    by_cases h3 : t = wWindow
    · rw [if_pos h3] at hR
      by_cases hz : n = 0
      · have HR : Hid (R = false) := Lib.hid (by rw [← hR]; have : S.flws = [] := List.eq_nil_of_length_eq_zero (by omega); simp [this])
        have hz' : ¬ (0 : Int) < (n : Int) := by omega
        subst h3
        clear hR h hw ha e1 h1 h2 e2 e3 hlen hfl
        go_enter Tryz.func52, Tryz.ntmps52
        go_wp2
        go_ret
        exact ⟨ret_bool HR.out.symm, 0, rfl⟩
      · obtain ⟨es0, q, rfl⟩ := snoc_of es (fun e => by rw [e] at hlen; exact hz hlen.symm)
        obtain ⟨hlk, hne⟩ := last_kind h.flws
        rw [List.length_append, List.length_singleton] at hlen hn
        subst hlen
        obtain ⟨g, cap', ev, hg, hg0, hgp, hgc, hcell, hfr⟩ := h.last
        injection ev with ev ev2 ev3
        subst ev ev3
        have hk := hcell 7 _ rfl
        have HF := Lib.hid (flow_any h (by omega))
        have hz' : (0 : Int) < ((es0.length + 1 : Nat) : Int) := by omega
        subst h3
        by_cases h0 : q.f.win.kind = 0
        · have HR : Hid (R = true) := Lib.hid (by rw [← hR]; simp [hlk, h0, hne])
          have e0 := ibeq h0
          clear hR h hw ha e1 h1 h2 e2 e3 hfl hlk hne hcell hfr hz h0
          go_enter Tryz.func52, Tryz.ntmps52
          go_wp2_with (go_at_call 75; refine HF.out.mono ?_; rintro e w1 ⟨rfl, k, rfl⟩)
          go_ret
          exact ⟨ret_bool HR.out.symm, k, rfl⟩
        · have HR : Hid (R = false) := Lib.hid (by rw [← hR]; simp [hlk, h0])
          have e0 := ibne h0
          clear hR h hw ha e1 h1 h2 e2 e3 hfl hlk hne hcell hfr hz h0
          go_enter Tryz.func52, Tryz.ntmps52
          go_wp2_with (go_at_call 75; refine HF.out.mono ?_; rintro e w1 ⟨rfl, k, rfl⟩)
          go_ret
          exact ⟨ret_bool HR.out.symm, k, rfl⟩
    · rw [if_neg h3] at hR
      have e4 : (t == [119, 105, 110, 100, 111, 119]) = false := beq_of_ne h3
      have HR : Hid (R = decide (0 < n)) := Lib.hid (by
        rw [← hR, Bool.eq_iff_iff]
        simp only [decide_eq_true_eq]
        rw [← List.length_pos_iff, hfl])
      clear hR h hw ha h1 h2 h3 hlen hfl
      by_cases hz : 0 < n
      · have hz' : (0 : Int) < (n : Int) := by omega
        go_enter Tryz.func52, Tryz.ntmps52
        go_wp2
        go_ret
        exact ⟨ret_bool (by rw [HR.out]; simp [hz]), 0, rfl⟩
      · have hz' : ¬ (0 : Int) < (n : Int) := by omega
        go_enter Tryz.func52, Tryz.ntmps52
        go_wp2
        go_ret
        exact ⟨ret_bool (by rw [HR.out]; simp [hz]), 0, rfl⟩
  · have hw' : (0 : Int) < (S.win : Int) := by omega
    rw [if_pos (.inl hw)] at hR
    by_cases ha : t = wAgg
    · have HR : Hid (R = true) := Lib.hid (by rw [← hR]; simp [hw, ha])
      have e1 : (t == [97, 103, 103]) = true := beq_of_eq ha
      clear hR h hw ha
      go_enter Tryz.func52, Tryz.ntmps52
      go_wp2
      go_ret
      exact ⟨ret_bool HR.out.symm, 0, rfl⟩
    · have HR : Hid (R = false) := Lib.hid (by rw [← hR]; simp [ha])
      have e1 : (t == [97, 103, 103]) = false := beq_of_ne ha
      clear hR h hw ha
      go_enter Tryz.func52, Tryz.ntmps52
      go_wp2
      go_ret
      exact ⟨ret_bool HR.out.symm, 0, rfl⟩
end Go.Proofs.YtogcickcodlepaaGreatDoor.Pl
/-
  The parser: a step is put to the flow that began last. Conditions: the parser keeps what it keeps.
-/
namespace Go.Proofs.YtogcickcodlepaaGreatDoor.Pl
open Go.RowKit Go.Proofs.YtogcickcodlepaaGreatDoor.Ex
variable {KL : Nat × Array Value}

theorem info50 : (Tryz.prog.info? 50).map (fun i => (i.zero, i.size, i.bytes)) = some (some (.agg #[.int .i64 0, .string ⟨#[]⟩, .int .i64 0]), 3, 32) := by kernel_rfl
theorem onLast_snoc {g : Flw → Flw} : ∀ (fs : List Flw) (f : Flw), onLast g (fs ++ [f]) = fs ++ [g f]
  | [], _ => rfl
  | [_], _ => rfl
  | a :: b :: r, f => by
    have := onLast_snoc (g := g) (b :: r) f
    simp only [List.cons_append, onLast] at this ⊢
    rw [this]
theorem one_stp (s : Stp) : ∀ u ∈ stpC s, u.oneCell' = true := by
  intro u hu; simp only [stpC, List.mem_cons, List.not_mem_nil, or_false] at hu; rcases hu with rfl | rfl | rfl <;> rfl
theorem news_stp {w W : World} (s : Stp) (hW : W = (w.alloc (.cells #[.int .i64 s.kind, sv s.text, .int .i64 s.n] 50)).drew) {n : Nat} (hn : n = w.heap.size) : ∀ j u, (stpC s)[j]? = some u → W.cell? ((⟨n, 0, none⟩ : Addr).add j) = some u := by
  subst hW hn
  exact World.news_of_block (B := w.heap.size) (heap_alloc_new w _)
theorem belowN (w : World) (k : Nat) : Below w.heap.size w (w.drewN k) := ⟨rfl, rfl, rfl, Nat.le_refl _, fun _ _ => rfl⟩
set_option maxRecDepth 20000 in
set_option maxHeartbeats 4000000 in
theorem putStep_at {w0 w : World} {p : Nat} {S : PSt} {vt va vb v1 v2 : Value} {es : List FE} {f : Flw} {g cap : Nat} (h : PX KL w0 p S vt (.slice (some ⟨g, 0, none⟩) (es.length + 1) cap) va vb (es ++ [⟨f, v1, v2⟩]) w) (hn : es.length + 1 ≤ 90000) (h1 : f.pre.length ≤ 90000) (h2 : f.post.length ≤ 90000) (s : Stp) :
    Calls Tryz.prog 79 #[ptr p, stpV s] w fun e w' => e = .returned (.tuple #[]) ∧ ∃ q', PX KL w0 p { S with flws := onLast (addStep s) S.flws } vt (.slice (some ⟨g, 0, none⟩) (es.length + 1) cap) va vb (es ++ [q']) w' := by
  obtain ⟨i0, hi0, hz0, hz1, hz2⟩ := info_parts info50
  have hb0 : Below w.heap.size w (w.alloc (.cells #[.int .i64 s.kind, sv s.text, .int .i64 s.n] 50)) := (Below.refl _ _).alloc (Nat.le_refl _) _
  have hx0 := h.grow hb0
  have hbx : (w.alloc (.cells #[.int .i64 s.kind, sv s.text, .int .i64 s.n] 50)).heap[w.heap.size]? = some (.cells #[.int .i64 s.kind, sv s.text, .int .i64 s.n] 50 (0, 0)) := heap_alloc_new w _
  have hfs : onLast (addStep s) S.flws = es.map FE.f ++ [addStep s f] := by
    rw [← h.flws, List.map_append, List.map_cons, List.map_nil, onLast_snoc]
  have HF := Lib.hid (flow_any hx0 (by omega))
  have HX := Lib.hid hx0
  have HBX := Lib.hid hbx
  have HFS := Lib.hid hfs
  clear hx0 hb0 hbx hfs h
  go_enter Tryz.func79, Tryz.ntmps79
  go_wp2_with (go_at_call 75; refine HF.out.mono ?_; rintro e w1 ⟨rfl, k, rfl⟩; refine Hid.out ?_)
  refine Lib.hid ?_
  have hx1 := HX.out.grow (belowN _ k)
  have hb1 : ((w.alloc (.cells #[.int .i64 s.kind, sv s.text, .int .i64 s.n] 50)).drewN k).heap[w.heap.size]? = some (.cells #[.int .i64 s.kind, sv s.text, .int .i64 s.n] 50 (0, 0)) := HBX.out
  generalize hW2 : (w.alloc (.cells #[.int .i64 s.kind, sv s.text, .int .i64 s.n] 50)).drewN k = W2 at hx1 hb1 ⊢
  generalize hbs0 : w.heap.size = bs at hb1 ⊢
  clear hW2 hbs0 HX HBX HF
  obtain ⟨g', cap', ev, hg, hg0, hgp, hnc, hcell, hfr⟩ := hx1.last
  injection ev with ev _ ev3
  injection ev with ev
  injection ev with ev _
  subst ev ev3
  have b0 := cell_of_heap hb1 0
  have b1 := cell_of_heap hb1 1
  have b2 := cell_of_heap hb1 2
  simp at b0 b1 b2
  have hkind := hcell 7 _ rfl
  simp only at hkind
  by_cases h0 : f.win.kind = 0
  · have e0 := ibeq h0
    have HAS : Hid (addStep s f = { f with pre := f.pre ++ [s] }) := Lib.hid (by unfold addStep; rw [if_pos h0])
    clear h0
    go_upto_region 3 with fail
    clear hkind e0
    have hbs : bs < W2.heap.size := lt_of_heap hb1
    have hne : bs ≠ g := by intro e; rw [e] at hb1; rcases hx1.rowF'.2 with ⟨z0, _⟩ | ⟨g', cap', cur, z0, _, zg, -⟩; cases z0; cases z0; rw [hb1] at zg; injection zg with zg; injection zg with _ zg; cases zg
    have hq := hcell 6 _ rfl
    have hrow := (hx1.steps _ (List.mem_append_right _ (List.mem_singleton.2 rfl))).pre
    have hb2 : Below W2.heap.size W2 ((W2.alloc (.cells #[.int .i64 s.kind, sv s.text, .int .i64 s.n] 50)).drew) := ((Below.refl _ _).alloc (Nat.le_refl _) _).drew
    have HO := Lib.hid (ownsRow_below hrow hb2)
    have HX2 := Lib.hid (hx1.grow hb2)
    have hB : w0.heap.size ≤ W2.heap.size := hx1.below.size
    have HG := Lib.hid hg
    clear hrow hb2 hx1 hb1 hcell hfr hnc hg0 hgp
    go_region_law (first | (refine step_append_lies _ (by rfl) (.tmp 17) (.tmp 19) 39 (by rfl) w0.heap.size 50 i0 (.agg #[.int .i64 0, .string ⟨#[]⟩, .int .i64 0]) 3 32 Tryz.underlying39 hi0 hz0 hz1 hz2 rfl (by decide) v1 f.pre.length (stpCs f.pre) (by rfl) HO.out ⟨W2.heap.size, 0, none⟩ 1 1 (stpC s) (by rfl) rfl (news_stp s rfl (by simp)) (one_stp s) (by decide) (by unfold maxLen; omega) (by omega) (by simp; omega) _ rfl ?_; intro g2 cap2 w1 hown2 hgrow2 hat2 hlt2; obtain ⟨k6, f6, hx3⟩ := PX.pushPre (s := s) HX2.out hgrow2 hown2 (by rfl) hat2; have HX3 := Lib.hid hx3; clear hown2 hgrow2 hat2 hlt2 hx3))
    all_goals go_wp2
    all_goals go_end0
    all_goals exact ⟨rfl, _, by rw [HFS.out, HAS.out]; exact HX3.out⟩
  · have e0 := ibne h0
    have HAS : Hid (addStep s f = { f with post := f.post ++ [s] }) := Lib.hid (by unfold addStep; rw [if_neg h0])
    clear h0
    go_upto_region 4 with fail
    clear hkind e0
    have hbs : bs < W2.heap.size := lt_of_heap hb1
    have hne : bs ≠ g := by intro e; rw [e] at hb1; rcases hx1.rowF'.2 with ⟨z0, _⟩ | ⟨g', cap', cur, z0, _, zg, -⟩; cases z0; cases z0; rw [hb1] at zg; injection zg with zg; injection zg with _ zg; cases zg
    have hq := hcell 11 _ rfl
    have hrow := (hx1.steps _ (List.mem_append_right _ (List.mem_singleton.2 rfl))).post
    have hb2 : Below W2.heap.size W2 ((W2.alloc (.cells #[.int .i64 s.kind, sv s.text, .int .i64 s.n] 50)).drew) := ((Below.refl _ _).alloc (Nat.le_refl _) _).drew
    have HO := Lib.hid (ownsRow_below hrow hb2)
    have HX2 := Lib.hid (hx1.grow hb2)
    have hB : w0.heap.size ≤ W2.heap.size := hx1.below.size
    have HG := Lib.hid hg
    clear hrow hb2 hx1 hb1 hcell hfr hnc hg0 hgp
    go_region_law (first | (refine step_append_lies _ (by rfl) (.tmp 27) (.tmp 29) 39 (by rfl) w0.heap.size 50 i0 (.agg #[.int .i64 0, .string ⟨#[]⟩, .int .i64 0]) 3 32 Tryz.underlying39 hi0 hz0 hz1 hz2 rfl (by decide) v2 f.post.length (stpCs f.post) (by rfl) HO.out ⟨W2.heap.size, 0, none⟩ 1 1 (stpC s) (by rfl) rfl (news_stp s rfl (by simp)) (one_stp s) (by decide) (by unfold maxLen; omega) (by omega) (by simp; omega) _ rfl ?_; intro g2 cap2 w1 hown2 hgrow2 hat2 hlt2; obtain ⟨k6, f6, hx3⟩ := PX.pushPost (s := s) HX2.out hgrow2 hown2 (by rfl) hat2; have HX3 := Lib.hid hx3; clear hown2 hgrow2 hat2 hlt2 hx3))
    all_goals go_wp2
    all_goals go_end0
    all_goals exact ⟨rfl, _, by rw [HFS.out, HAS.out]; exact HX3.out⟩
end Go.Proofs.YtogcickcodlepaaGreatDoor.Pl
