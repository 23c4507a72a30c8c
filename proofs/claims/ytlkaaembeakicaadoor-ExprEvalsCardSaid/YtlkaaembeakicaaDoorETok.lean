/-
  Words: what the program's small functions on bytes and texts answer. Conditions: none but a text's length.
-/
import Derived.Test.YtlkaaembeakicaaDoorEMath
import Derived.Test.YtlkaaembeakicaaDoorShelf
import Derived.Test.YtlkaaembeakicaaDoorRows
import Derived.WalkKit
import Derived.WalkSpells
import Derived.WalkLawsBesides
import Derived.Lib.Hide
import Derived.Lib.Strings
namespace Go.Proofs.YtlkaaembeakicaaDoor.Ex
open Go.RowKit

theorem ret_int {k : IntKind} {a b : Int} (h : a = b) : Ending.returned (.int k a) = .returned (.int k b) := by rw [h]
theorem ret_bool {a b : Bool} (h : a = b) : Ending.returned (.bool a) = .returned (.bool b) := by rw [h]

set_option maxHeartbeats 400000 in
theorem isDigit_any (c : UInt8) (w : World) : Calls Tryd.prog 38 #[.int .u8 (c.toNat : Int)] w fun e w' => e = .returned (.bool (isDig c)) ∧ w = w' := by
  unfold isDig
  go_enter Tryd.func38, Tryd.ntmps38
  go_wp2
  all_goals go_ret
  all_goals exact ⟨ret_bool (by rw [Bool.eq_iff_iff]; simp; omega), rfl⟩
set_option maxHeartbeats 400000 in
theorem isLetter_any (c : UInt8) (w : World) : Calls Tryd.prog 39 #[.int .u8 (c.toNat : Int)] w fun e w' => e = .returned (.bool (isLet c)) ∧ w = w' := by
  unfold isLet
  go_enter Tryd.func39, Tryd.ntmps39
  go_wp2
  all_goals go_ret
  all_goals exact ⟨ret_bool (by rw [Bool.eq_iff_iff]; simp; omega), rfl⟩

theorem runLen_drop (P : UInt8 → Bool) (l : Bs) (k : Nat) (hk : k < l.length) : runLen P (l.drop k) = if P l[k] then runLen P (l.drop (k + 1)) + 1 else 0 := by
  rw [List.drop_eq_getElem_cons hk]; rfl
theorem runLen_end (P : UInt8 → Bool) (l : Bs) (k : Nat) (hk : ¬ k < l.length) : runLen P (l.drop k) = 0 := by
  rw [List.drop_eq_nil_of_le (by omega)]; rfl

set_option maxHeartbeats 400000 in
theorem run_any (f : Nat) (P : UInt8 → Bool) (hcf : ∀ args w, (callFunc f args).run Tryd.prog w = .ok (.enter f args) w) (hf : ∀ (c : UInt8) (w : World), Calls Tryd.prog f #[.int .u8 (c.toNat : Int)] w fun e w' => e = .returned (.bool (P c)) ∧ w = w')
    (s : ByteArray) (w : World) (hs : s.size ≤ 200) : Calls Tryd.prog 37 #[.string s, .func (.func f) #[] #[]] w fun e w' => e = .returned (.int .i64 (runLen P s.data.toList)) ∧ w = w' := by
  go_enter Tryd.func37, Tryd.ntmps37
  go_wp2
  go_loop [5] (fun i => ∃ k : Nat, k ≤ s.size ∧ i = .int .i64 k ∧ runLen P s.data.toList = k + runLen P (s.data.toList.drop k)) (fun i => s.size - (intOf i).toNat)
  case atStart => exact ⟨0, Nat.zero_le _, rfl, by simp⟩
  case round =>
    obtain ⟨k, hk, rfl, hr⟩ := hrel
    by_cases hlt : k < s.size
    · have hd := runLen_drop P s.data.toList k (by simpa using hlt)
      by_cases hp : P s[k] = true
      · have HR : Hid (runLen P s.data.toList = k + 1 + runLen P (s.data.toList.drop (k + 1))) := Lib.hid (by
          have : P s.data.toList[k] = true := hp
          rw [hr, hd, if_pos this]; omega)
        clear hr hd
        go_wp2_with ((with_reducible refine (hf _ _).mono ?_); rintro e w' ⟨rfl, rfl⟩)
        go_round
        case rel => exact ⟨k + 1, by omega, by go_num, HR.out⟩
        case measure => simp [intOf]; omega
      · have hp' : P s[k] = false := by simpa using hp
        have HR : Hid (runLen P s.data.toList = k) := Lib.hid (by
          have : ¬ P s.data.toList[k] = true := hp
          rw [hr, hd, if_neg this]; omega)
        clear hr hd
        go_wp2_with ((with_reducible refine (hf _ _).mono ?_); rintro e w' ⟨rfl, rfl⟩)
        go_ret
        exact ⟨ret_int (by rw [HR.out]), rfl⟩
    · have HR : Hid (runLen P s.data.toList = k) := Lib.hid (by rw [hr, runLen_end P _ k (by simpa using hlt)]; omega)
      clear hr
      go_wp2
      go_ret
      exact ⟨ret_int (by rw [HR.out]), rfl⟩

set_option maxHeartbeats 400000 in
theorem isName_any (s : ByteArray) (w : World) : Calls Tryd.prog 40 #[.string s] w fun e w' => e = .returned (.bool (isNm s.data.toList)) ∧ w = w' := by
  rw [← Lib.toList_data]
  unfold isNm
  go_enter Tryd.func40, Tryd.ntmps40
  go_wp2
  all_goals go_ret
  all_goals exact ⟨ret_bool (by first | rfl | simp [*]), rfl⟩

theorem indexByte_one (c : UInt8) : (one1 c = true → 0 ≤ Lib.indexByte [60, 62, 43, 45, 42, 47, 37, 33, 40, 41] c) ∧ (one1 c = false → Lib.indexByte [60, 62, 43, 45, 42, 47, 37, 33, 40, 41] c < 0) := by
  have h : ∀ n : Fin 256, (one1 (UInt8.ofNat n) = true → 0 ≤ Lib.indexByte [60, 62, 43, 45, 42, 47, 37, 33, 40, 41] (UInt8.ofNat n)) ∧ (one1 (UInt8.ofNat n) = false → Lib.indexByte [60, 62, 43, 45, 42, 47, 37, 33, 40, 41] (UInt8.ofNat n) < 0) := by decide +kernel
  have := h ⟨c.toNat, c.toNat_lt⟩
  simpa using this
theorem two2_cases (l : Bs) : ((l == [124, 124]) = true ∧ (l == [38, 38]) = false ∧ (l == [61, 61]) = false ∧ (l == [33, 61]) = false ∧ (l == [60, 61]) = false ∧ (l == [62, 61]) = false ∧ two2 l = true) ∨ ((l == [124, 124]) = false ∧ (l == [38, 38]) = true ∧ (l == [61, 61]) = false ∧ (l == [33, 61]) = false ∧ (l == [60, 61]) = false ∧ (l == [62, 61]) = false ∧ two2 l = true) ∨ ((l == [124, 124]) = false ∧ (l == [38, 38]) = false ∧ (l == [61, 61]) = true ∧ (l == [33, 61]) = false ∧ (l == [60, 61]) = false ∧ (l == [62, 61]) = false ∧ two2 l = true) ∨ ((l == [124, 124]) = false ∧ (l == [38, 38]) = false ∧ (l == [61, 61]) = false ∧ (l == [33, 61]) = true ∧ (l == [60, 61]) = false ∧ (l == [62, 61]) = false ∧ two2 l = true) ∨ ((l == [124, 124]) = false ∧ (l == [38, 38]) = false ∧ (l == [61, 61]) = false ∧ (l == [33, 61]) = false ∧ (l == [60, 61]) = true ∧ (l == [62, 61]) = false ∧ two2 l = true) ∨ ((l == [124, 124]) = false ∧ (l == [38, 38]) = false ∧ (l == [61, 61]) = false ∧ (l == [33, 61]) = false ∧ (l == [60, 61]) = false ∧ (l == [62, 61]) = true ∧ two2 l = true) ∨ ((l == [124, 124]) = false ∧ (l == [38, 38]) = false ∧ (l == [61, 61]) = false ∧ (l == [33, 61]) = false ∧ (l == [60, 61]) = false ∧ (l == [62, 61]) = false ∧ two2 l = false) := by
  by_cases h124_124 : l = [124, 124]
  · subst h124_124; decide
  by_cases h38_38 : l = [38, 38]
  · subst h38_38; decide
  by_cases h61_61 : l = [61, 61]
  · subst h61_61; decide
  by_cases h33_61 : l = [33, 61]
  · subst h33_61; decide
  by_cases h60_61 : l = [60, 61]
  · subst h60_61; decide
  by_cases h62_61 : l = [62, 61]
  · subst h62_61; decide
  simp_all [two2]
theorem signLen_two {l : Bs} (h : 1 < l.length) (h2 : two2 (l.take 2) = true) : signLen l = 2 := by
  match l, h with
  | c :: d :: r, _ => simp only [signLen]; rw [if_pos ⟨by simp, h2⟩]
theorem signLen_one {l : Bs} (h0 : 0 < l.length) (h2 : 1 < l.length → two2 (l.take 2) = false) : signLen l = if one1 l[0] then 1 else 0 := by
  match l, h0 with
  | [c], _ => simp [signLen]
  | c :: d :: r, _ => simp only [signLen]; rw [if_neg (by rw [h2 (by simp)]; simp)]; rfl
set_option maxHeartbeats 1000000 in
theorem signLength_any (s : ByteArray) (w : World) (h0 : 0 < s.size) (hs : s.size ≤ 200) : Calls Tryd.prog 41 #[.string s] w fun e w' => e = .returned (.int .i64 (signLen s.data.toList : Nat)) ∧ w = w' := by
  have hl0 : 0 < s.data.toList.length := by simpa using h0
  have hone := indexByte_one s[0]
  by_cases h1 : 1 < s.size
  · have hl1 : 1 < s.data.toList.length := by simpa using h1
    have hx : (s.extract 0 2).toList = s.data.toList.take 2 := by rw [Lib.toList_data]; simp
    have hz := two2_cases (s.extract 0 2).toList
    rcases hz with ⟨e1, e2, e3, e4, e5, e6, h2⟩ | ⟨e1, e2, e3, e4, e5, e6, h2⟩ | ⟨e1, e2, e3, e4, e5, e6, h2⟩ | ⟨e1, e2, e3, e4, e5, e6, h2⟩ | ⟨e1, e2, e3, e4, e5, e6, h2⟩ | ⟨e1, e2, e3, e4, e5, e6, h2⟩ | ⟨e1, e2, e3, e4, e5, e6, h2⟩
    iterate 6
      · have H := Lib.hid (signLen_two hl1 (hx ▸ h2))
        clear hx h2 hone
        go_enter Tryd.func41, Tryd.ntmps41
        go_wp2
        go_ret
        exact ⟨ret_int (by rw [H.out]; rfl), rfl⟩
    have H := Lib.hid (signLen_one hl0 (fun _ => hx ▸ h2))
    clear hx h2
    by_cases h3 : one1 s[0] = true
    · have h4 := hone.1 h3
      clear hone
      go_enter Tryd.func41, Tryd.ntmps41
      go_wp2_with (go_at_call 47; refine (Any.strings_IndexByte Tryd.lays137 _ _ _).mono ?_; rintro e w' ⟨rfl, rfl⟩)
      go_ret
      exact ⟨ret_int (by rw [H.out, if_pos (by exact h3)]; rfl), rfl⟩
    · have h4 := hone.2 (by simpa using h3)
      clear hone
      go_enter Tryd.func41, Tryd.ntmps41
      go_wp2_with (go_at_call 47; refine (Any.strings_IndexByte Tryd.lays137 _ _ _).mono ?_; rintro e w' ⟨rfl, rfl⟩)
      go_ret
      exact ⟨ret_int (by rw [H.out, if_neg (by exact h3)]; rfl), rfl⟩
  · have H := Lib.hid (signLen_one hl0 (fun h => absurd (by simpa using h) h1))
    by_cases h3 : one1 s[0] = true
    · have h4 := hone.1 h3
      clear hone
      go_enter Tryd.func41, Tryd.ntmps41
      go_wp2_with (go_at_call 47; refine (Any.strings_IndexByte Tryd.lays137 _ _ _).mono ?_; rintro e w' ⟨rfl, rfl⟩)
      go_ret
      exact ⟨ret_int (by rw [H.out, if_pos (by exact h3)]; rfl), rfl⟩
    · have h4 := hone.2 (by simpa using h3)
      clear hone
      go_enter Tryd.func41, Tryd.ntmps41
      go_wp2_with (go_at_call 47; refine (Any.strings_IndexByte Tryd.lays137 _ _ _).mono ?_; rintro e w' ⟨rfl, rfl⟩)
      go_ret
      exact ⟨ret_int (by rw [H.out, if_neg (by exact h3)]; rfl), rfl⟩
end Go.Proofs.YtlkaaembeakicaaDoor.Ex
