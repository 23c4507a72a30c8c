/-
  The next word of a text. Conditions: a text of 200 bytes at most.
-/
import Derived.Test.YtlkaaembeakicaaDoorELevel
namespace Go.Proofs.YtlkaaembeakicaaDoor.Ex
open Go.RowKit

theorem enters38 : ∀ args w, (callFunc 38 args).run Tryd.prog w = .ok (.enter 38 args) w := enters_of Tryd.func38 (by kernel_rfl) rfl
theorem enters39 : ∀ args w, (callFunc 39 args).run Tryd.prog w = .ok (.enter 39 args) w := enters_of Tryd.func39 (by kernel_rfl) rfl
theorem bytes_drop (s : ByteArray) (k : Nat) : (s.extract k s.size).data.toList = s.data.toList.drop k := by
  have : s.data.size = s.size := rfl
  simp [List.take_of_length_le, this]
theorem runDig_any (s : ByteArray) (w : World) (hs : s.size ≤ 200) {a : Nat} (h : runLen isDig s.data.toList = a) : Calls Tryd.prog 37 #[.string s, .func (.func 38) #[] #[]] w fun e w' => e = .returned (.int .i64 a) ∧ w = w' := by
  subst h; exact run_any 38 isDig enters38 isDigit_any s w hs
theorem runLet_any (s : ByteArray) (w : World) (hs : s.size ≤ 200) {a : Nat} (h : runLen isLet s.data.toList = a) : Calls Tryd.prog 37 #[.string s, .func (.func 39) #[] #[]] w fun e w' => e = .returned (.int .i64 a) ∧ w = w' := by
  subst h; exact run_any 39 isLet enters39 isLetter_any s w hs
theorem isName_at (s : ByteArray) (w : World) {b : Bool} (h : isNm s.data.toList = b) : Calls Tryd.prog 40 #[.string s] w fun e w' => e = .returned (.bool b) ∧ w = w' := by
  subst h; exact isName_any s w
theorem signLength_at (s : ByteArray) (w : World) (h0 : 0 < s.size) (hs : s.size ≤ 200) {a : Nat} (h : signLen s.data.toList = a) : Calls Tryd.prog 41 #[.string s] w fun e w' => e = .returned (.int .i64 a) ∧ w = w' := by
  subst h; exact signLength_any s w h0 hs

set_option maxHeartbeats 1000000 in
theorem measured_at (s : ByteArray) (w : World) (h0 : 0 < s.size) (hs : s.size ≤ 200) {k n : Nat} (hm : meas s.data.toList = (k, n)) :
    Calls Tryd.prog 30 #[.string s] w fun e w' => e = .returned (.tuple #[.int .i64 k, .int .i64 n]) ∧ w = w' := by
  obtain ⟨d, hD⟩ : ∃ d, runLen isDig s.data.toList = d := ⟨_, rfl⟩
  obtain ⟨a, hA⟩ : ∃ d, runLen isLet s.data.toList = d := ⟨_, rfl⟩
  obtain ⟨g, hS⟩ : ∃ d, signLen s.data.toList = d := ⟨_, rfl⟩
  have hd := runLen_le isDig s.data.toList
  have hl := runLen_le isLet s.data.toList
  have hsz : s.data.toList.length = s.size := by simp
  have hx : (s.extract 0 a).data.toList = s.data.toList.take a := by simp
  obtain ⟨b, hN⟩ : ∃ b, isNm (s.extract 0 a).data.toList = b := ⟨_, rfl⟩
  unfold meas at hm
  rw [hD] at hd
  rw [hA] at hl
  rw [hD, hA, hS, ← hx, hN] at hm
  rw [hsz] at hd hl
  have HD := Lib.hid hD
  have HA := Lib.hid hA
  have HS := Lib.hid hS
  have HN := Lib.hid hN
  clear hD hA hS hN hx hsz
  by_cases h1 : 0 < d
  · rw [if_pos h1] at hm
    by_cases h2 : 18 < d
    · rw [if_pos h2] at hm
      cases hm
      go_enter Tryd.func30, Tryd.ntmps30
      go_wp2_with (first | (go_at_call 37; (with_reducible refine (runDig_any _ _ hs HD.out).mono ?_); rintro e w' ⟨rfl, rfl⟩))
      go_ret2
      exact ⟨rfl, rfl⟩
    · rw [if_neg h2] at hm
      cases hm
      go_enter Tryd.func30, Tryd.ntmps30
      go_wp2_with (first | (go_at_call 37; (with_reducible refine (runDig_any _ _ hs HD.out).mono ?_); rintro e w' ⟨rfl, rfl⟩))
      go_ret2
      exact ⟨rfl, rfl⟩
  · rw [if_neg h1] at hm
    obtain rfl : d = 0 := by omega
    by_cases h2 : 0 < a
    · rw [if_pos h2] at hm
      have hL1 : (a : Int) ≤ (s.size : Int) := by omega
      have hL2 : (0 : Int) ≤ (a : Int) := by omega
      cases b
      · rw [if_neg (by simp)] at hm
        cases hm
        go_enter Tryd.func30, Tryd.ntmps30
        go_wp2_with (first | (go_at_call 37; (with_reducible refine (runDig_any _ _ hs HD.out).mono ?_); rintro e w' ⟨rfl, rfl⟩) | (go_at_call 37; (with_reducible refine (runLet_any _ _ hs HA.out).mono ?_); rintro e w' ⟨rfl, rfl⟩) | (go_at_call 40; refine (isName_at _ _ HN.out).mono ?_; rintro e w' ⟨rfl, rfl⟩))
        go_ret2
        exact ⟨rfl, rfl⟩
      · rw [if_pos rfl] at hm
        cases hm
        go_enter Tryd.func30, Tryd.ntmps30
        go_wp2_with (first | (go_at_call 37; (with_reducible refine (runDig_any _ _ hs HD.out).mono ?_); rintro e w' ⟨rfl, rfl⟩) | (go_at_call 37; (with_reducible refine (runLet_any _ _ hs HA.out).mono ?_); rintro e w' ⟨rfl, rfl⟩) | (go_at_call 40; refine (isName_at _ _ HN.out).mono ?_; rintro e w' ⟨rfl, rfl⟩))
        go_ret2
        exact ⟨rfl, rfl⟩
    · rw [if_neg h2] at hm
      obtain rfl : a = 0 := by omega
      by_cases h3 : 0 < g
      · rw [if_pos h3] at hm
        cases hm
        go_enter Tryd.func30, Tryd.ntmps30
        go_wp2_with (first | (go_at_call 37; (with_reducible refine (runDig_any _ _ hs HD.out).mono ?_); rintro e w' ⟨rfl, rfl⟩) | (go_at_call 37; (with_reducible refine (runLet_any _ _ hs HA.out).mono ?_); rintro e w' ⟨rfl, rfl⟩) | (go_at_call 41; refine (signLength_at _ _ h0 hs HS.out).mono ?_; rintro e w' ⟨rfl, rfl⟩))
        go_ret2
        exact ⟨rfl, rfl⟩
      · rw [if_neg h3] at hm
        obtain rfl : g = 0 := by omega
        cases hm
        go_enter Tryd.func30, Tryd.ntmps30
        go_wp2_with (first | (go_at_call 37; (with_reducible refine (runDig_any _ _ hs HD.out).mono ?_); rintro e w' ⟨rfl, rfl⟩) | (go_at_call 37; (with_reducible refine (runLet_any _ _ hs HA.out).mono ?_); rintro e w' ⟨rfl, rfl⟩) | (go_at_call 41; refine (signLength_at _ _ h0 hs HS.out).mono ?_; rintro e w' ⟨rfl, rfl⟩))
        go_ret2
        exact ⟨rfl, rfl⟩

/-- A token as a value: its kind, its place, its text. -/
def tokV (k at_ : Nat) (t : ByteArray) : Value := .agg #[.int .i64 k, .int .i64 at_, .string t]
theorem skip_cons {l : Bs} {k : Nat} (hk : k < l.length) : skip (l.drop k) = if l[k] == 32 then skip (l.drop (k + 1)) else l.drop k := by
  rw [List.drop_eq_getElem_cons hk]; rfl
theorem skip_nil {l : Bs} {k : Nat} (hk : ¬ k < l.length) : skip (l.drop k) = [] := by
  rw [List.drop_eq_nil_of_le (by omega)]; rfl
theorem beq_u8 (c : UInt8) (n : Nat) (hn : n < 256) : ((c.toNat : Int) == (n : Int)) = (c == UInt8.ofNat n) := by
  rw [Bool.eq_iff_iff]
  simp only [beq_iff_eq]
  constructor
  · intro h
    have : c.toNat = n := by omega
    exact UInt8.toNat_inj.1 (by rw [this]; simp; omega)
  · intro h; subst h; simp; omega
theorem drop_ne {s : ByteArray} {k : Nat} (h : k < s.size) : s.data.toList.drop k ≠ [] := by
  have : s.data.toList.length = s.size := by simp
  intro e; have := List.drop_eq_nil_iff.1 e; omega
set_option maxHeartbeats 1000000 in
theorem tokenFrom_any (s : ByteArray) (at_ : Nat) (w : World) (ha : at_ ≤ s.size) (hs : s.size ≤ 200) :
    Calls Tryd.prog 20 #[.string s, .int .i64 at_] w fun e w' => ∃ t : ByteArray, t.data.toList = wordOf (skip (s.data.toList.drop at_)) ∧
      e = .returned (tokV (kindOf (skip (s.data.toList.drop at_))) (s.size - (skip (s.data.toList.drop at_)).length) t) ∧ Below w.heap.size w w' := by
  go_enter Tryd.func20, Tryd.ntmps20
  go_wp2
  go_loop [1] (fun i => ∃ k : Nat, k ≤ s.size ∧ i = .int .i64 k ∧ skip (s.data.toList.drop at_) = skip (s.data.toList.drop k)) (fun i => s.size - (intOf i).toNat)
  case atStart => exact ⟨at_, ha, rfl, rfl⟩
  case round =>
    obtain ⟨k, hk, rfl, hr⟩ := hrel
    by_cases hlt : k < s.size
    · have hd := skip_cons (l := s.data.toList) (k := k) (by simpa using hlt)
      by_cases hp : s[k] = 32
      · have HR : Hid (skip (s.data.toList.drop at_) = skip (s.data.toList.drop (k + 1))) := Lib.hid (by
          have : s.data.toList[k] = 32 := hp
          rw [hr, hd, if_pos (by rw [this]; rfl)])
        have hb : ((s[k].toNat : Int) == 32) = true := by rw [hp]; rfl
        clear hr hd hp
        go_wp2
        go_round
        case rel => exact ⟨k + 1, by omega, by go_num, HR.out⟩
        case measure => simp [intOf]; omega
      · have HR : Hid (skip (s.data.toList.drop at_) = s.data.toList.drop k) := Lib.hid (by
          have : ¬ s.data.toList[k] = 32 := hp
          rw [hr, hd, if_neg (by simpa using this)])
        have hb : ((s[k].toNat : Int) == 32) = false := by
          have := beq_u8 s[k] 32 (by omega)
          refine Eq.trans this ?_
          simpa using hp
        obtain ⟨kk, nn, hm⟩ : ∃ kk nn, meas (s.extract k s.size).data.toList = (kk, nn) := ⟨_, _, rfl⟩
        have hx := bytes_drop s k
        have hml := meas_le (s.extract k s.size).data.toList
        rw [hm, hx, List.length_drop] at hml
        have hl : s.data.toList.length = s.size := by simp
        rw [hl] at hml
        have hm1 : nn + k ≤ s.size := by simp only at hml; omega
        have hi1 : (k : Int) + (nn : Int) ≤ (s.size : Int) := by omega
        have hi2 : (k : Int) ≤ (k : Int) + (nn : Int) := by omega
        have HM := Lib.hid hm
        rw [hx] at hm
        have HM2 := Lib.hid hm
        have hz : 0 < (s.extract k s.size).size := by simp; omega
        have hz2 : (s.extract k s.size).size ≤ 200 := by simp; omega
        have HZ := Lib.hid hz
        have HZ2 := Lib.hid hz2
        clear hr hd hp hx hm hml hl hz hz2
        have hne : ¬ k = s.size := by omega
        go_wp2_with (go_at_call 30; refine (measured_at _ _ HZ.out HZ2.out HM.out).mono ?_; rintro e w' ⟨rfl, rfl⟩)
        refine bodyPost_ret (v := tokV kk k (s.extract k (k + nn))) (by simp [results, Tryd.results20, go_sem, tokV]) rfl ⟨s.extract k (k + nn), ?_, ?_, (Below.refl _ _).alloc (Nat.le_refl _) _⟩
        · rw [HR.out, wordOf, if_neg (drop_ne hlt), HM2.out]
          simp
        · rw [HR.out, kindOf, if_neg (drop_ne hlt), HM2.out, List.length_drop]
          have : s.data.toList.length = s.size := by simp
          rw [this, show s.size - (s.size - k) = k by omega]
    · have HR : Hid (skip (s.data.toList.drop at_) = []) := Lib.hid (by rw [hr, skip_nil (by simpa using hlt)])
      clear hr
      obtain rfl : k = s.size := by omega
      go_wp2
      refine bodyPost_ret (v := tokV 1 s.size ⟨#[]⟩) (by simp [results, Tryd.results20, go_sem, tokV]) rfl ⟨⟨#[]⟩, ?_, ?_, (Below.refl _ _).alloc (Nat.le_refl _) _⟩
      · rw [HR.out]; rfl
      · rw [HR.out]; rfl
end Go.Proofs.YtlkaaembeakicaaDoor.Ex
