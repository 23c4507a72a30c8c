/-
  Texts joined into one file. Each part says in its own head what is proved there, and under which conditions.
-/
import Derived.Lib.ItoaNum
import Derived.Lib.Atoi
import Derived.IntWalk
import Derived.RowKit
import Derived.Test.YtfoenfipefhpoaaGreatDoorJShelf
import Derived.Test.YtfoenfipefhpoaaGreatDoorRows
import Derived.WalkKit
import Derived.WalkSpells
import Derived.WalkLawsBesides
import Derived.Lib.Hide
import Derived.Lib.Strings
import Derived.Deep.QuietTactic
import Derived.BigQuiet
import Derived.WalkSmall
import Derived.Laws.EntriesVeiled
import Derived.RegionTactic
import Derived.Deep.RegionWith
set_option linter.unusedVariables false
set_option linter.unusedSimpArgs false
/-
  Expressions, plain: the words of a text, the machine of two stacks that reads them, trees with their values, texts and sizes. Conditions: none; nothing of a program.
-/
namespace Go.Proofs.YtfoenfipefhpoaaGreatDoor.Ex
open Go.RowKit
abbrev Bs := List UInt8

/-! ### Words -/
def isDig (c : UInt8) : Bool := decide (48 ≤ c.toNat) && decide (c.toNat ≤ 57)
def isLet (c : UInt8) : Bool := (decide (97 ≤ c.toNat) && decide (c.toNat ≤ 122)) || (decide (65 ≤ c.toNat) && decide (c.toNat ≤ 90))
def runLen (P : UInt8 → Bool) : Bs → Nat
  | [] => 0
  | c :: r => if P c then runLen P r + 1 else 0
def isNm (l : Bs) : Bool := l == [110] || l == [116] || l == [118]
def two2 (l : Bs) : Bool := l == [124, 124] || l == [38, 38] || l == [61, 61] || l == [33, 61] || l == [60, 61] || l == [62, 61]
def one1 (c : UInt8) : Bool := [60, 62, 43, 45, 42, 47, 37, 33, 40, 41].contains c
def signLen (l : Bs) : Nat :=
  match l with
  | [] => 0
  | c :: r => if r ≠ [] ∧ two2 ((c :: r).take 2) = true then 2 else if one1 c then 1 else 0
/-- The kind and the length of the word that a text begins with: 0 none, 2 number, 3 name, 4 sign. -/
def meas (l : Bs) : Nat × Nat :=
  if 0 < runLen isDig l then (if 18 < runLen isDig l then (0, 0) else (2, runLen isDig l))
  else if 0 < runLen isLet l then (if isNm (l.take (runLen isLet l)) then (3, runLen isLet l) else (0, 0))
  else if 0 < signLen l then (4, signLen l) else (0, 0)
def skip : Bs → Bs
  | [] => []
  | c :: r => if c == 32 then skip r else c :: r
/-- The kind of the word at the head; 1: the end. -/
def kindOf (l : Bs) : Nat := if l = [] then 1 else (meas l).1
def wordOf (l : Bs) : Bs := if l = [] then [] else l.take (meas l).2

theorem runLen_le (P : UInt8 → Bool) : ∀ l : Bs, runLen P l ≤ l.length
  | [] => Nat.le_refl _
  | c :: r => by have := runLen_le P r; simp only [runLen]; split <;> simp <;> omega
theorem signLen_le (l : Bs) : signLen l ≤ l.length := by
  unfold signLen
  match l with
  | [] => simp
  | [c] => simp; split <;> omega
  | c :: d :: r => simp only [List.length_cons]; split <;> (try split) <;> omega
theorem meas_le (l : Bs) : (meas l).2 ≤ l.length := by
  have h1 := runLen_le isDig l
  have h2 := runLen_le isLet l
  have h3 := signLen_le l
  unfold meas
  split
  · split <;> simp <;> omega
  · split
    · split <;> simp <;> omega
    · split <;> simp <;> omega
theorem meas_kind (l : Bs) : (meas l).1 = 0 ∨ (meas l).1 = 2 ∨ (meas l).1 = 3 ∨ (meas l).1 = 4 := by
  unfold meas
  repeat' split
  all_goals simp
theorem meas_zero {l : Bs} (h : (meas l).1 = 0) : (meas l).2 = 0 := by
  unfold meas at h ⊢
  revert h
  repeat' split
  all_goals simp
theorem meas_pos {l : Bs} (h : (meas l).1 ≠ 0) : 0 < (meas l).2 := by
  unfold meas at h ⊢
  revert h
  repeat' split
  all_goals (first | (intro _; simpa using ‹0 < _›) | (intro h; exact absurd rfl h) | (simp <;> omega))
theorem skip_le : ∀ l : Bs, (skip l).length ≤ l.length
  | [] => Nat.le_refl _
  | c :: r => by have := skip_le r; simp only [skip]; split <;> simp <;> omega
theorem skip_suffix : ∀ l : Bs, ∃ k, k ≤ l.length ∧ skip l = l.drop k
  | [] => ⟨0, by simp, rfl⟩
  | c :: r => by
    obtain ⟨k, h, e⟩ := skip_suffix r
    simp only [skip]
    split
    · exact ⟨k + 1, by simp; omega, by simpa using e⟩
    · exact ⟨0, by simp, rfl⟩
theorem wordOf_le (l : Bs) : (wordOf l).length ≤ l.length := by
  unfold wordOf; split
  · simp
  · simp [List.length_take]; omega
theorem wordOf_length {l : Bs} (h : l ≠ []) : (wordOf l).length = (meas l).2 := by
  have := meas_le l
  unfold wordOf; rw [if_neg h, List.length_take]; omega

/-! ### Trees -/
inductive Tree where
  | num (k : Nat)
  | name (c : UInt8)
  | pre (s : Bs) (x : Tree)
  | bin (s : Bs) (a b : Tree)
  deriving DecidableEq
def bit (b : Bool) : Int := if b then 1 else 0
/-- An operator of two values. -/
def two (s : Bs) (a b : Int) : Int :=
  if s = [124, 124] then bit (a != 0 || b != 0)
  else if s = [38, 38] then bit (a != 0 && b != 0)
  else if s = [61, 61] then bit (a == b)
  else if s = [33, 61] then bit (a != b)
  else if s = [60, 61] then bit (decide (a ≤ b))
  else if s = [62, 61] then bit (decide (b ≤ a))
  else if s = [60] then bit (decide (a < b))
  else if s = [62] then bit (decide (b < a))
  else if s = [43] then wrap64 (a + b)
  else if s = [45] then wrap64 (a - b)
  else if s = [42] then wrap64 (a * b)
  else if b = 0 then 0
  else if s = [47] then wrap64 (a.tdiv b)
  else a.tmod b
namespace Tree
def eval (n t v : Int) : Tree → Int
  | num k => k
  | name c => if c = 110 then n else if c = 116 then t else v
  | pre s x => if s = [33] then bit (x.eval n t v == 0) else wrap64 (-(x.eval n t v))
  | bin s a b => two s (a.eval n t v) (b.eval n t v)
def text : Tree → Bs
  | num k => Lib.decDigits k
  | name c => [c]
  | pre s x => s ++ x.text
  | bin s a b => [40] ++ a.text ++ [32] ++ s ++ [32] ++ b.text ++ [41]
def size : Tree → Nat
  | num _ => 1
  | name _ => 1
  | pre _ x => 1 + x.size
  | bin _ a b => a.size + 1 + b.size
end Tree

/-! ### The machine -/
def levelOf (s : Bs) : Nat :=
  if s = [124, 124] then 1
  else if s = [38, 38] then 2
  else if s = [61, 61] ∨ s = [33, 61] ∨ s = [60, 61] ∨ s = [62, 61] ∨ s = [60] ∨ s = [62] then 3
  else if s = [43] ∨ s = [45] then 4
  else if s = [42] ∨ s = [47] ∨ s = [37] then 5
  else 0
/-- vals: what is complete, the last first. waits: signs with their levels, the last first. -/
structure St where
  vals : List Tree
  waits : List (Bs × Nat)
  opn : Nat
  parts : Nat
  complete : Bool
  deriving DecidableEq
def St.init : St := ⟨[], [], 0, 0, false⟩
/-- One operator that waits gets what it is of. -/
def app (s : Bs) (l : Nat) (vs : List Tree) : List Tree :=
  if l = 6 then
    match vs with
    | x :: r => .pre s x :: r
    | [] => []
  else
    match vs with
    | b :: a :: r => .bin s a b :: r
    | _ => []
def joinL (level : Nat) : List Tree → List (Bs × Nat) → List Tree × List (Bs × Nat)
  | vs, [] => (vs, [])
  | vs, (s, l) :: ws => if level ≤ l then joinL level (app s l vs) ws else (vs, (s, l) :: ws)
def St.join (level : Nat) (s : St) : St := { s with vals := (joinL level s.vals s.waits).1, waits := (joinL level s.vals s.waits).2 }
def St.allows (s : St) (k : Nat) (t : Bs) : Bool :=
  if k = 1 then s.complete && decide (s.opn = 0)
  else if t = [41] then s.complete && decide (0 < s.opn)
  else if s.complete then decide (levelOf t ≠ 0)
  else decide (k = 2) || decide (k = 3) || decide (t = [45]) || decide (t = [33]) || decide (t = [40])
def isPart (k : Nat) (t : Bs) : Bool := decide (k ≠ 1) && decide (t ≠ [40]) && decide (t ≠ [41])
def numVal (ds : Bs) : Nat := ds.foldl (fun a b => 10 * a + (b.toNat - 48)) 0
def St.put (s : St) (k : Nat) (t : Bs) : St :=
  if k = 1 then s.join 1
  else if k = 2 then { s with vals := .num (numVal t) :: s.vals, complete := true }
  else if k = 3 then { s with vals := .name (t.headD 0) :: s.vals, complete := true }
  else if t = [40] then { s with waits := (t, 0) :: s.waits, opn := s.opn + 1 }
  else if t = [41] then { s.join 1 with waits := (s.join 1).waits.tail, opn := s.opn - 1 }
  else if s.complete then { s.join (levelOf t) with waits := (t, levelOf t) :: (s.join (levelOf t)).waits, complete := false }
  else { s with waits := (t, 6) :: s.waits }
def St.count (s : St) (k : Nat) (t : Bs) : St := if isPart k t then { s with parts := s.parts + 1 } else s
/-- The error at a word, 0: none. -/
def St.errOf (s : St) (k : Nat) (t : Bs) : Nat :=
  if s.allows k t = false then (if k = 1 then 41 else 40)
  else if isPart k t = true ∧ s.parts = 64 then 5 else 0
inductive Res where
  | ok (x : Tree)
  | err (pos e : Nat)
  deriving DecidableEq
def go : Nat → Nat → Bs → St → Res
  | 0, _, _, _ => .err 0 0
  | f + 1, N, rest, s =>
    if s.errOf (kindOf (skip rest)) (wordOf (skip rest)) ≠ 0 then .err (N - (skip rest).length) (s.errOf (kindOf (skip rest)) (wordOf (skip rest)))
    else if kindOf (skip rest) = 1 then .ok ((((s.count 1 []).put 1 []).vals).headD (.num 0))
    else go f N ((skip rest).drop (wordOf (skip rest)).length) ((s.count (kindOf (skip rest)) (wordOf (skip rest))).put (kindOf (skip rest)) (wordOf (skip rest)))
def parse (text : Bs) : Res := if 200 < text.length then .err 0 2 else go (text.length + 1) text.length text St.init

-- v+1*t, "v = 1", "v +"
example : parse [118, 43, 49, 42, 116] = .ok (.bin [43] (.name 118) (.bin [42] (.num 1) (.name 116))) := by decide
example : parse [118, 32, 61, 32, 49] = .err 2 40 := by decide
example : parse [118, 32, 43] = .err 3 41 := by decide
end Go.Proofs.YtfoenfipefhpoaaGreatDoor.Ex
/-
  Words: what the program's small functions on bytes and texts answer. Conditions: none but a text's length.
-/
namespace Go.Proofs.YtfoenfipefhpoaaGreatDoor.Ex
open Go.RowKit

theorem ret_int {k : IntKind} {a b : Int} (h : a = b) : Ending.returned (.int k a) = .returned (.int k b) := by rw [h]
theorem ret_bool {a b : Bool} (h : a = b) : Ending.returned (.bool a) = .returned (.bool b) := by rw [h]

set_option maxHeartbeats 400000 in
theorem isDigit_any (c : UInt8) (w : World) : Calls Tryz.prog 103 #[.int .u8 (c.toNat : Int)] w fun e w' => e = .returned (.bool (isDig c)) ∧ w = w' := by
  unfold isDig
  go_enter Tryz.func103, Tryz.ntmps103
  go_wp2
  all_goals go_ret
  all_goals exact ⟨ret_bool (by rw [Bool.eq_iff_iff]; simp; omega), rfl⟩
set_option maxHeartbeats 400000 in
theorem isLetter_any (c : UInt8) (w : World) : Calls Tryz.prog 104 #[.int .u8 (c.toNat : Int)] w fun e w' => e = .returned (.bool (isLet c)) ∧ w = w' := by
  unfold isLet
  go_enter Tryz.func104, Tryz.ntmps104
  go_wp2
  all_goals go_ret
  all_goals exact ⟨ret_bool (by rw [Bool.eq_iff_iff]; simp; omega), rfl⟩

theorem runLen_drop (P : UInt8 → Bool) (l : Bs) (k : Nat) (hk : k < l.length) : runLen P (l.drop k) = if P l[k] then runLen P (l.drop (k + 1)) + 1 else 0 := by
  rw [List.drop_eq_getElem_cons hk]; rfl
theorem runLen_end (P : UInt8 → Bool) (l : Bs) (k : Nat) (hk : ¬ k < l.length) : runLen P (l.drop k) = 0 := by
  rw [List.drop_eq_nil_of_le (by omega)]; rfl

set_option maxHeartbeats 400000 in
theorem run_any (f : Nat) (P : UInt8 → Bool) (hcf : ∀ args w, (callFunc f args).run Tryz.prog w = .ok (.enter f args) w) (hf : ∀ (c : UInt8) (w : World), Calls Tryz.prog f #[.int .u8 (c.toNat : Int)] w fun e w' => e = .returned (.bool (P c)) ∧ w = w')
    (s : ByteArray) (w : World) (hs : s.size ≤ 200) : Calls Tryz.prog 102 #[.string s, .func (.func f) #[] #[]] w fun e w' => e = .returned (.int .i64 (runLen P s.data.toList)) ∧ w = w' := by
  go_enter Tryz.func102, Tryz.ntmps102
  go_wp2
  go_loop [5] (fun i => ∃ k : Nat, k ≤ s.size ∧ i = .int .i64 k ∧ runLen P s.data.toList = k + runLen P (s.data.toList.drop k)) (fun i => s.size - (intOf i).toNat)
  case atStart => exact ⟨0, Nat.zero_le _, rfl, by simp⟩
  case round =>
    obtain ⟨k, hk, rfl, hr⟩ := hrel
    by_cases hlt : k < s.size
    · have hd := runLen_drop P s.data.toList k (by simpa using hlt)
      by_cases hp : P s[k] = true
      · have HR : Hid (runLen P s.data.toList = k + 1 + runLen P (s.data.toList.drop (k + 1))) := Lib.hid (by
          have : P s.data.toList[k] = true := hp
          rw [hr, hd, if_pos this]; omega)
        clear hr hd
        go_wp2_with ((with_reducible refine (hf _ _).mono ?_); rintro e w' ⟨rfl, rfl⟩)
        go_round
        case rel => exact ⟨k + 1, by omega, by go_num, HR.out⟩
        case measure => simp [intOf]; omega
      · have hp' : P s[k] = false := by simpa using hp
        have HR : Hid (runLen P s.data.toList = k) := Lib.hid (by
          have : ¬ P s.data.toList[k] = true := hp
          rw [hr, hd, if_neg this]; omega)
        clear hr hd
        go_wp2_with ((with_reducible refine (hf _ _).mono ?_); rintro e w' ⟨rfl, rfl⟩)
        go_ret
        exact ⟨ret_int (by rw [HR.out]), rfl⟩
    · have HR : Hid (runLen P s.data.toList = k) := Lib.hid (by rw [hr, runLen_end P _ k (by simpa using hlt)]; omega)
      clear hr
      go_wp2
      go_ret
      exact ⟨ret_int (by rw [HR.out]), rfl⟩

set_option maxHeartbeats 400000 in
theorem isName_any (s : ByteArray) (w : World) : Calls Tryz.prog 105 #[.string s] w fun e w' => e = .returned (.bool (isNm s.data.toList)) ∧ w = w' := by
  rw [← Lib.toList_data]
  unfold isNm
  go_enter Tryz.func105, Tryz.ntmps105
  go_wp2
  all_goals go_ret
  all_goals exact ⟨ret_bool (by first | rfl | simp [*]), rfl⟩

theorem indexByte_one (c : UInt8) : (one1 c = true → 0 ≤ Lib.indexByte [60, 62, 43, 45, 42, 47, 37, 33, 40, 41] c) ∧ (one1 c = false → Lib.indexByte [60, 62, 43, 45, 42, 47, 37, 33, 40, 41] c < 0) := by
  have h : ∀ n : Fin 256, (one1 (UInt8.ofNat n) = true → 0 ≤ Lib.indexByte [60, 62, 43, 45, 42, 47, 37, 33, 40, 41] (UInt8.ofNat n)) ∧ (one1 (UInt8.ofNat n) = false → Lib.indexByte [60, 62, 43, 45, 42, 47, 37, 33, 40, 41] (UInt8.ofNat n) < 0) := by decide +kernel
  have := h ⟨c.toNat, c.toNat_lt⟩
  simpa using this
theorem two2_cases (l : Bs) : ((l == [124, 124]) = true ∧ (l == [38, 38]) = false ∧ (l == [61, 61]) = false ∧ (l == [33, 61]) = false ∧ (l == [60, 61]) = false ∧ (l == [62, 61]) = false ∧ two2 l = true) ∨ ((l == [124, 124]) = false ∧ (l == [38, 38]) = true ∧ (l == [61, 61]) = false ∧ (l == [33, 61]) = false ∧ (l == [60, 61]) = false ∧ (l == [62, 61]) = false ∧ two2 l = true) ∨ ((l == [124, 124]) = false ∧ (l == [38, 38]) = false ∧ (l == [61, 61]) = true ∧ (l == [33, 61]) = false ∧ (l == [60, 61]) = false ∧ (l == [62, 61]) = false ∧ two2 l = true) ∨ ((l == [124, 124]) = false ∧ (l == [38, 38]) = false ∧ (l == [61, 61]) = false ∧ (l == [33, 61]) = true ∧ (l == [60, 61]) = false ∧ (l == [62, 61]) = false ∧ two2 l = true) ∨ ((l == [124, 124]) = false ∧ (l == [38, 38]) = false ∧ (l == [61, 61]) = false ∧ (l == [33, 61]) = false ∧ (l == [60, 61]) = true ∧ (l == [62, 61]) = false ∧ two2 l = true) ∨ ((l == [124, 124]) = false ∧ (l == [38, 38]) = false ∧ (l == [61, 61]) = false ∧ (l == [33, 61]) = false ∧ (l == [60, 61]) = false ∧ (l == [62, 61]) = true ∧ two2 l = true) ∨ ((l == [124, 124]) = false ∧ (l == [38, 38]) = false ∧ (l == [61, 61]) = false ∧ (l == [33, 61]) = false ∧ (l == [60, 61]) = false ∧ (l == [62, 61]) = false ∧ two2 l = false) := by
  by_cases h124_124 : l = [124, 124]
  · subst h124_124; decide
  by_cases h38_38 : l = [38, 38]
  · subst h38_38; decide
  by_cases h61_61 : l = [61, 61]
  · subst h61_61; decide
  by_cases h33_61 : l = [33, 61]
  · subst h33_61; decide
  by_cases h60_61 : l = [60, 61]
  · subst h60_61; decide
  by_cases h62_61 : l = [62, 61]
  · subst h62_61; decide
  simp_all [two2]
theorem signLen_two {l : Bs} (h : 1 < l.length) (h2 : two2 (l.take 2) = true) : signLen l = 2 := by
  match l, h with
  | c :: d :: r, _ => simp only [signLen]; rw [if_pos ⟨by simp, h2⟩]
theorem signLen_one {l : Bs} (h0 : 0 < l.length) (h2 : 1 < l.length → two2 (l.take 2) = false) : signLen l = if one1 l[0] then 1 else 0 := by
  match l, h0 with
  | [c], _ => simp [signLen]
  | c :: d :: r, _ => simp only [signLen]; rw [if_neg (by rw [h2 (by simp)]; simp)]; rfl
set_option maxHeartbeats 1000000 in
theorem signLength_any (s : ByteArray) (w : World) (h0 : 0 < s.size) (hs : s.size ≤ 200) : Calls Tryz.prog 106 #[.string s] w fun e w' => e = .returned (.int .i64 (signLen s.data.toList : Nat)) ∧ w = w' := by
  have hl0 : 0 < s.data.toList.length := by simpa using h0
  have hone := indexByte_one s[0]
  by_cases h1 : 1 < s.size
  · have hl1 : 1 < s.data.toList.length := by simpa using h1
    have hx : (s.extract 0 2).toList = s.data.toList.take 2 := by rw [Lib.toList_data]; simp
    have hz := two2_cases (s.extract 0 2).toList
    rcases hz with ⟨e1, e2, e3, e4, e5, e6, h2⟩ | ⟨e1, e2, e3, e4, e5, e6, h2⟩ | ⟨e1, e2, e3, e4, e5, e6, h2⟩ | ⟨e1, e2, e3, e4, e5, e6, h2⟩ | ⟨e1, e2, e3, e4, e5, e6, h2⟩ | ⟨e1, e2, e3, e4, e5, e6, h2⟩ | ⟨e1, e2, e3, e4, e5, e6, h2⟩
    iterate 6
      · have H := Lib.hid (signLen_two hl1 (hx ▸ h2))
        clear hx h2 hone
        go_enter Tryz.func106, Tryz.ntmps106
        go_wp2
        go_ret
        exact ⟨ret_int (by rw [H.out]; rfl), rfl⟩
    have H := Lib.hid (signLen_one hl0 (fun _ => hx ▸ h2))
    clear hx h2
    by_cases h3 : one1 s[0] = true
    · have h4 := hone.1 h3
      clear hone
      go_enter Tryz.func106, Tryz.ntmps106
      go_wp2_with (go_at_call 112; refine (Any.strings_IndexByte Tryz.lays137 _ _ _).mono ?_; rintro e w' ⟨rfl, rfl⟩)
      go_ret
      exact ⟨ret_int (by rw [H.out, if_pos (by exact h3)]; rfl), rfl⟩
    · have h4 := hone.2 (by simpa using h3)
      clear hone
      go_enter Tryz.func106, Tryz.ntmps106
      go_wp2_with (go_at_call 112; refine (Any.strings_IndexByte Tryz.lays137 _ _ _).mono ?_; rintro e w' ⟨rfl, rfl⟩)
      go_ret
      exact ⟨ret_int (by rw [H.out, if_neg (by exact h3)]; rfl), rfl⟩
  · have H := Lib.hid (signLen_one hl0 (fun h => absurd (by simpa using h) h1))
    by_cases h3 : one1 s[0] = true
    · have h4 := hone.1 h3
      clear hone
      go_enter Tryz.func106, Tryz.ntmps106
      go_wp2_with (go_at_call 112; refine (Any.strings_IndexByte Tryz.lays137 _ _ _).mono ?_; rintro e w' ⟨rfl, rfl⟩)
      go_ret
      exact ⟨ret_int (by rw [H.out, if_pos (by exact h3)]; rfl), rfl⟩
    · have h4 := hone.2 (by simpa using h3)
      clear hone
      go_enter Tryz.func106, Tryz.ntmps106
      go_wp2_with (go_at_call 112; refine (Any.strings_IndexByte Tryz.lays137 _ _ _).mono ?_; rintro e w' ⟨rfl, rfl⟩)
      go_ret
      exact ⟨ret_int (by rw [H.out, if_neg (by exact h3)]; rfl), rfl⟩
end Go.Proofs.YtfoenfipefhpoaaGreatDoor.Ex
/-
  Levels of operators. Conditions: none.
-/
namespace Go.Proofs.YtfoenfipefhpoaaGreatDoor.Ex
open Go.RowKit
def ops : List Bs := [[124, 124], [38, 38], [61, 61], [33, 61], [60, 61], [62, 61], [60], [62], [43], [45], [42], [47], [37]]
theorem bytes_of {s : ByteArray} {l : Bs} (h : s.data.toList = l) : s = ⟨l.toArray⟩ := Go.WideShapes.bytes_inj (by simpa using h)
theorem op_cases (s : ByteArray) : s.data.toList ∈ ops ∨ ((s.toList == [124, 124]) = false ∧ (s.toList == [38, 38]) = false ∧ (s.toList == [61, 61]) = false ∧ (s.toList == [33, 61]) = false ∧ (s.toList == [60, 61]) = false ∧ (s.toList == [62, 61]) = false ∧ (s.toList == [60]) = false ∧ (s.toList == [62]) = false ∧ (s.toList == [43]) = false ∧ (s.toList == [45]) = false ∧ (s.toList == [42]) = false ∧ (s.toList == [47]) = false ∧ (s.toList == [37]) = false) := by
  by_cases h : s.data.toList ∈ ops
  · exact .inl h
  · right
    rw [Lib.toList_data]
    simp only [ops, List.mem_cons, List.not_mem_nil, or_false, not_or] at h
    simp only [beq_eq_false_iff_ne, ne_eq]
    exact h
theorem op_mem {s : ByteArray} (h : s.data.toList ∈ ops) : s = ⟨#[124, 124]⟩ ∨ s = ⟨#[38, 38]⟩ ∨ s = ⟨#[61, 61]⟩ ∨ s = ⟨#[33, 61]⟩ ∨ s = ⟨#[60, 61]⟩ ∨ s = ⟨#[62, 61]⟩ ∨ s = ⟨#[60]⟩ ∨ s = ⟨#[62]⟩ ∨ s = ⟨#[43]⟩ ∨ s = ⟨#[45]⟩ ∨ s = ⟨#[42]⟩ ∨ s = ⟨#[47]⟩ ∨ s = ⟨#[37]⟩ := by
  simp only [ops, List.mem_cons, List.not_mem_nil, or_false] at h
  rcases h with h | h | h | h | h | h | h | h | h | h | h | h | h <;> have e := bytes_of h <;> simp [e]
theorem levelOf_not {l : Bs} (h : l ∉ ops) : levelOf l = 0 := by
  simp only [ops, List.mem_cons, List.not_mem_nil, or_false, not_or] at h
  simp [levelOf, h]
set_option maxHeartbeats 4000000 in
theorem levelOf_any (s : ByteArray) (w : World) : Calls Tryz.prog 107 #[.string s] w fun e w' => e = .returned (.int .i64 (levelOf s.data.toList : Nat)) ∧ w = w' := by
  rcases op_cases s with h | h
  · rcases op_mem h with rfl | rfl | rfl | rfl | rfl | rfl | rfl | rfl | rfl | rfl | rfl | rfl | rfl
    all_goals
      go_enter Tryz.func107, Tryz.ntmps107
      go_wp2
      go_ret
      exact ⟨rfl, rfl⟩
  · have HL : Hid (levelOf s.data.toList = 0) := Lib.hid (levelOf_not (by
      rw [Lib.toList_data] at h
      simp only [beq_eq_false_iff_ne, ne_eq] at h
      simp [ops, h]))
    obtain ⟨h0, h1, h2, h3, h4, h5, h6, h7, h8, h9, h10, h11, h12⟩ := h
    go_enter Tryz.func107, Tryz.ntmps107
    go_wp2
    go_ret
    exact ⟨ret_int (by rw [HL.out]; rfl), rfl⟩
end Go.Proofs.YtfoenfipefhpoaaGreatDoor.Ex
/-
  The next word of a text. Conditions: a text of 200 bytes at most.
-/
namespace Go.Proofs.YtfoenfipefhpoaaGreatDoor.Ex
open Go.RowKit

theorem enters38 : ∀ args w, (callFunc 103 args).run Tryz.prog w = .ok (.enter 103 args) w := enters_of Tryz.func103 (by kernel_rfl) rfl
theorem enters39 : ∀ args w, (callFunc 104 args).run Tryz.prog w = .ok (.enter 104 args) w := enters_of Tryz.func104 (by kernel_rfl) rfl
theorem bytes_drop (s : ByteArray) (k : Nat) : (s.extract k s.size).data.toList = s.data.toList.drop k := by
  have : s.data.size = s.size := rfl
  simp [List.take_of_length_le, this]
theorem runDig_any (s : ByteArray) (w : World) (hs : s.size ≤ 200) {a : Nat} (h : runLen isDig s.data.toList = a) : Calls Tryz.prog 102 #[.string s, .func (.func 103) #[] #[]] w fun e w' => e = .returned (.int .i64 a) ∧ w = w' := by
  subst h; exact run_any 103 isDig enters38 isDigit_any s w hs
theorem runLet_any (s : ByteArray) (w : World) (hs : s.size ≤ 200) {a : Nat} (h : runLen isLet s.data.toList = a) : Calls Tryz.prog 102 #[.string s, .func (.func 104) #[] #[]] w fun e w' => e = .returned (.int .i64 a) ∧ w = w' := by
  subst h; exact run_any 104 isLet enters39 isLetter_any s w hs
theorem isName_at (s : ByteArray) (w : World) {b : Bool} (h : isNm s.data.toList = b) : Calls Tryz.prog 105 #[.string s] w fun e w' => e = .returned (.bool b) ∧ w = w' := by
  subst h; exact isName_any s w
theorem signLength_at (s : ByteArray) (w : World) (h0 : 0 < s.size) (hs : s.size ≤ 200) {a : Nat} (h : signLen s.data.toList = a) : Calls Tryz.prog 106 #[.string s] w fun e w' => e = .returned (.int .i64 a) ∧ w = w' := by
  subst h; exact signLength_any s w h0 hs

set_option maxHeartbeats 1000000 in
theorem measured_at (s : ByteArray) (w : World) (h0 : 0 < s.size) (hs : s.size ≤ 200) {k n : Nat} (hm : meas s.data.toList = (k, n)) :
    Calls Tryz.prog 97 #[.string s] w fun e w' => e = .returned (.tuple #[.int .i64 k, .int .i64 n]) ∧ w = w' := by
  obtain ⟨d, hD⟩ : ∃ d, runLen isDig s.data.toList = d := ⟨_, rfl⟩
  obtain ⟨a, hA⟩ : ∃ d, runLen isLet s.data.toList = d := ⟨_, rfl⟩
  obtain ⟨g, hS⟩ : ∃ d, signLen s.data.toList = d := ⟨_, rfl⟩
  have hd := runLen_le isDig s.data.toList
  have hl := runLen_le isLet s.data.toList
  have hsz : s.data.toList.length = s.size := by simp
  have hx : (s.extract 0 a).data.toList = s.data.toList.take a := by simp
  obtain ⟨b, hN⟩ : ∃ b, isNm (s.extract 0 a).data.toList = b := ⟨_, rfl⟩
  unfold meas at hm
  rw [hD] at hd
  rw [hA] at hl
  rw [hD, hA, hS, ← hx, hN] at hm
  rw [hsz] at hd hl
  have HD := Lib.hid hD
  have HA := Lib.hid hA
  have HS := Lib.hid hS
  have HN := Lib.hid hN
  clear hD hA hS hN hx hsz
  by_cases h1 : 0 < d
  · rw [if_pos h1] at hm
    by_cases h2 : 18 < d
    · rw [if_pos h2] at hm
      cases hm
      go_enter Tryz.func97, Tryz.ntmps97
      go_wp2_with (first | (go_at_call 102; (with_reducible refine (runDig_any _ _ hs HD.out).mono ?_); rintro e w' ⟨rfl, rfl⟩))
      go_ret2
      exact ⟨rfl, rfl⟩
    · rw [if_neg h2] at hm
      cases hm
      go_enter Tryz.func97, Tryz.ntmps97
      go_wp2_with (first | (go_at_call 102; (with_reducible refine (runDig_any _ _ hs HD.out).mono ?_); rintro e w' ⟨rfl, rfl⟩))
      go_ret2
      exact ⟨rfl, rfl⟩
  · rw [if_neg h1] at hm
    obtain rfl : d = 0 := by omega
    by_cases h2 : 0 < a
    · rw [if_pos h2] at hm
      have hL1 : (a : Int) ≤ (s.size : Int) := by omega
      have hL2 : (0 : Int) ≤ (a : Int) := by omega
      cases b
      · rw [if_neg (by simp)] at hm
        cases hm
        go_enter Tryz.func97, Tryz.ntmps97
        go_wp2_with (first | (go_at_call 102; (with_reducible refine (runDig_any _ _ hs HD.out).mono ?_); rintro e w' ⟨rfl, rfl⟩) | (go_at_call 102; (with_reducible refine (runLet_any _ _ hs HA.out).mono ?_); rintro e w' ⟨rfl, rfl⟩) | (go_at_call 105; refine (isName_at _ _ HN.out).mono ?_; rintro e w' ⟨rfl, rfl⟩))
        go_ret2
        exact ⟨rfl, rfl⟩
      · rw [if_pos rfl] at hm
        cases hm
        go_enter Tryz.func97, Tryz.ntmps97
        go_wp2_with (first | (go_at_call 102; (with_reducible refine (runDig_any _ _ hs HD.out).mono ?_); rintro e w' ⟨rfl, rfl⟩) | (go_at_call 102; (with_reducible refine (runLet_any _ _ hs HA.out).mono ?_); rintro e w' ⟨rfl, rfl⟩) | (go_at_call 105; refine (isName_at _ _ HN.out).mono ?_; rintro e w' ⟨rfl, rfl⟩))
        go_ret2
        exact ⟨rfl, rfl⟩
    · rw [if_neg h2] at hm
      obtain rfl : a = 0 := by omega
      by_cases h3 : 0 < g
      · rw [if_pos h3] at hm
        cases hm
        go_enter Tryz.func97, Tryz.ntmps97
        go_wp2_with (first | (go_at_call 102; (with_reducible refine (runDig_any _ _ hs HD.out).mono ?_); rintro e w' ⟨rfl, rfl⟩) | (go_at_call 102; (with_reducible refine (runLet_any _ _ hs HA.out).mono ?_); rintro e w' ⟨rfl, rfl⟩) | (go_at_call 106; refine (signLength_at _ _ h0 hs HS.out).mono ?_; rintro e w' ⟨rfl, rfl⟩))
        go_ret2
        exact ⟨rfl, rfl⟩
      · rw [if_neg h3] at hm
        obtain rfl : g = 0 := by omega
        cases hm
        go_enter Tryz.func97, Tryz.ntmps97
        go_wp2_with (first | (go_at_call 102; (with_reducible refine (runDig_any _ _ hs HD.out).mono ?_); rintro e w' ⟨rfl, rfl⟩) | (go_at_call 102; (with_reducible refine (runLet_any _ _ hs HA.out).mono ?_); rintro e w' ⟨rfl, rfl⟩) | (go_at_call 106; refine (signLength_at _ _ h0 hs HS.out).mono ?_; rintro e w' ⟨rfl, rfl⟩))
        go_ret2
        exact ⟨rfl, rfl⟩

/-- A token as a value: its kind, its place, its text. -/
def tokV (k at_ : Nat) (t : ByteArray) : Value := .agg #[.int .i64 k, .int .i64 at_, .string t]
theorem skip_cons {l : Bs} {k : Nat} (hk : k < l.length) : skip (l.drop k) = if l[k] == 32 then skip (l.drop (k + 1)) else l.drop k := by
  rw [List.drop_eq_getElem_cons hk]; rfl
theorem skip_nil {l : Bs} {k : Nat} (hk : ¬ k < l.length) : skip (l.drop k) = [] := by
  rw [List.drop_eq_nil_of_le (by omega)]; rfl
theorem beq_u8 (c : UInt8) (n : Nat) (hn : n < 256) : ((c.toNat : Int) == (n : Int)) = (c == UInt8.ofNat n) := by
  rw [Bool.eq_iff_iff]
  simp only [beq_iff_eq]
  constructor
  · intro h
    have : c.toNat = n := by omega
    exact UInt8.toNat_inj.1 (by rw [this]; simp; omega)
  · intro h; subst h; simp; omega
theorem drop_ne {s : ByteArray} {k : Nat} (h : k < s.size) : s.data.toList.drop k ≠ [] := by
  have : s.data.toList.length = s.size := by simp
  intro e; have := List.drop_eq_nil_iff.1 e; omega
set_option maxHeartbeats 1000000 in
theorem tokenFrom_any (s : ByteArray) (at_ : Nat) (w : World) (ha : at_ ≤ s.size) (hs : s.size ≤ 200) :
    Calls Tryz.prog 88 #[.string s, .int .i64 at_] w fun e w' => ∃ t : ByteArray, t.data.toList = wordOf (skip (s.data.toList.drop at_)) ∧
      e = .returned (tokV (kindOf (skip (s.data.toList.drop at_))) (s.size - (skip (s.data.toList.drop at_)).length) t) ∧ Below w.heap.size w w' := by
  go_enter Tryz.func88, Tryz.ntmps88
  go_wp2
  go_loop [1] (fun i => ∃ k : Nat, k ≤ s.size ∧ i = .int .i64 k ∧ skip (s.data.toList.drop at_) = skip (s.data.toList.drop k)) (fun i => s.size - (intOf i).toNat)
  case atStart => exact ⟨at_, ha, rfl, rfl⟩
  case round =>
    obtain ⟨k, hk, rfl, hr⟩ := hrel
    by_cases hlt : k < s.size
    · have hd := skip_cons (l := s.data.toList) (k := k) (by simpa using hlt)
      by_cases hp : s[k] = 32
      · have HR : Hid (skip (s.data.toList.drop at_) = skip (s.data.toList.drop (k + 1))) := Lib.hid (by
          have : s.data.toList[k] = 32 := hp
          rw [hr, hd, if_pos (by rw [this]; rfl)])
        have hb : ((s[k].toNat : Int) == 32) = true := by rw [hp]; rfl
        clear hr hd hp
        go_wp2
        go_round
        case rel => exact ⟨k + 1, by omega, by go_num, HR.out⟩
        case measure => simp [intOf]; omega
      · have HR : Hid (skip (s.data.toList.drop at_) = s.data.toList.drop k) := Lib.hid (by
          have : ¬ s.data.toList[k] = 32 := hp
          rw [hr, hd, if_neg (by simpa using this)])
        have hb : ((s[k].toNat : Int) == 32) = false := by
          have := beq_u8 s[k] 32 (by omega)
          refine Eq.trans this ?_
          simpa using hp
        obtain ⟨kk, nn, hm⟩ : ∃ kk nn, meas (s.extract k s.size).data.toList = (kk, nn) := ⟨_, _, rfl⟩
        have hx := bytes_drop s k
        have hml := meas_le (s.extract k s.size).data.toList
        rw [hm, hx, List.length_drop] at hml
        have hl : s.data.toList.length = s.size := by simp
        rw [hl] at hml
        have hm1 : nn + k ≤ s.size := by simp only at hml; omega
        have hi1 : (k : Int) + (nn : Int) ≤ (s.size : Int) := by omega
        have hi2 : (k : Int) ≤ (k : Int) + (nn : Int) := by omega
        have HM := Lib.hid hm
        rw [hx] at hm
        have HM2 := Lib.hid hm
        have hz : 0 < (s.extract k s.size).size := by simp; omega
        have hz2 : (s.extract k s.size).size ≤ 200 := by simp; omega
        have HZ := Lib.hid hz
        have HZ2 := Lib.hid hz2
        clear hr hd hp hx hm hml hl hz hz2
        have hne : ¬ k = s.size := by omega
        go_wp2_with (go_at_call 97; refine (measured_at _ _ HZ.out HZ2.out HM.out).mono ?_; rintro e w' ⟨rfl, rfl⟩)
        refine bodyPost_ret (v := tokV kk k (s.extract k (k + nn))) (by simp [results, Tryz.results88, go_sem, tokV]) rfl ⟨s.extract k (k + nn), ?_, ?_, (Below.refl _ _).alloc (Nat.le_refl _) _⟩
        · rw [HR.out, wordOf, if_neg (drop_ne hlt), HM2.out]
          simp
        · rw [HR.out, kindOf, if_neg (drop_ne hlt), HM2.out, List.length_drop]
          have : s.data.toList.length = s.size := by simp
          rw [this, show s.size - (s.size - k) = k by omega]
    · have HR : Hid (skip (s.data.toList.drop at_) = []) := Lib.hid (by rw [hr, skip_nil (by simpa using hlt)])
      clear hr
      obtain rfl : k = s.size := by omega
      go_wp2
      refine bodyPost_ret (v := tokV 1 s.size ⟨#[]⟩) (by simp [results, Tryz.results88, go_sem, tokV]) rfl ⟨⟨#[]⟩, ?_, ?_, (Below.refl _ _).alloc (Nat.le_refl _) _⟩
      · rw [HR.out]; rfl
      · rw [HR.out]; rfl
end Go.Proofs.YtfoenfipefhpoaaGreatDoor.Ex
/-
  What the signs do to values. Conditions: none.
-/
namespace Go.Proofs.YtfoenfipefhpoaaGreatDoor.Ex
open Go.RowKit
def opFn (s : Bs) : Nat :=
  if s = [42] then 132 else
  if s = [47] then 133 else
  if s = [37] then 134 else
  if s = [43] then 135 else
  if s = [45] then 136 else
  if s = [61, 61] then 137 else
  if s = [33, 61] then 138 else
  if s = [60, 61] then 139 else
  if s = [62, 61] then 140 else
  if s = [60] then 141 else
  if s = [62] then 142 else
  if s = [38, 38] then 143 else
  144
theorem bit_true : bit true = 1 := rfl
theorem bit_false : bit false = 0 := rfl
set_option maxHeartbeats 400000 in
theorem truth_any (b : Bool) (w : World) : Calls Tryz.prog 131 #[.bool b] w fun e w' => e = .returned (.int .i64 (bit b)) ∧ w = w' := by
  cases b
  all_goals
    go_enter Tryz.func131, Tryz.ntmps131
    go_wp2
    go_ret
    exact ⟨rfl, rfl⟩
theorem truth_at (b : Bool) (w : World) {z : Int} (h : bit b = z) : Calls Tryz.prog 131 #[.bool b] w fun e w' => e = .returned (.int .i64 z) ∧ w = w' := by subst h; exact truth_any b w
set_option maxHeartbeats 400000 in
theorem negative_any (x : Int) (w : World) : Calls Tryz.prog 122 #[.int .i64 x] w fun e w' => e = .returned (.int .i64 (wrap64 (-x))) ∧ w = w' := by
  go_enter Tryz.func122, Tryz.ntmps122
  go_wp2
  go_ret
  exact ⟨ret_int (by simp [wrap64]), rfl⟩
set_option maxHeartbeats 400000 in
theorem not_any (x : Int) (w : World) : Calls Tryz.prog 123 #[.int .i64 x] w fun e w' => e = .returned (.int .i64 (bit (x == 0))) ∧ w = w' := by
  go_enter Tryz.func123, Tryz.ntmps123
  go_wp2_with (go_at_call 131; refine (truth_any _ _).mono ?_; rintro e w' ⟨rfl, rfl⟩)
  go_ret
  exact ⟨rfl, rfl⟩
set_option maxHeartbeats 400000 in
theorem quotient_any (a b : Int) (w : World) : Calls Tryz.prog 133 #[.int .i64 a, .int .i64 b] w fun e w' => e = .returned (.int .i64 (two [47] a b)) ∧ w = w' := by
  have H : Hid (two [47] a b = if b = 0 then 0 else wrap64 (a.tdiv b)) := Lib.hid (by simp [two])
  by_cases h : b = 0
  · have h1 : (b == 0) = true := by simpa using h
    rw [show two [47] a b = 0 by rw [H.out, if_pos h]]
    clear h
    go_enter Tryz.func133, Tryz.ntmps133
    go_wp2
    go_ret
    exact ⟨rfl, rfl⟩
  · have h1 : (b == 0) = false := by simpa using h
    rw [show two [47] a b = wrap64 (a.tdiv b) by rw [H.out, if_neg h]]
    go_enter Tryz.func133, Tryz.ntmps133
    go_wp2
    all_goals go_ret
    all_goals exact ⟨ret_int (by simp [wrap64]), rfl⟩
set_option maxHeartbeats 400000 in
theorem remainder_any (a b : Int) (w : World) : Calls Tryz.prog 134 #[.int .i64 a, .int .i64 b] w fun e w' => e = .returned (.int .i64 (two [37] a b)) ∧ w = w' := by
  have H : Hid (two [37] a b = if b = 0 then 0 else a.tmod b) := Lib.hid (by simp [two])
  by_cases h : b = 0
  · have h1 : (b == 0) = true := by simpa using h
    rw [show two [37] a b = 0 by rw [H.out, if_pos h]]
    clear h
    go_enter Tryz.func134, Tryz.ntmps134
    go_wp2
    go_ret
    exact ⟨rfl, rfl⟩
  · have h1 : (b == 0) = false := by simpa using h
    rw [show two [37] a b = a.tmod b by rw [H.out, if_neg h]]
    go_enter Tryz.func134, Tryz.ntmps134
    go_wp2
    all_goals go_ret
    all_goals exact ⟨ret_int (by simp [wrap64]), rfl⟩
set_option maxHeartbeats 400000 in
theorem op67_any (a b : Int) (w : World) : Calls Tryz.prog 132 #[.int .i64 a, .int .i64 b] w fun e w' => e = .returned (.int .i64 (two [42] a b)) ∧ w = w' := by
  go_enter Tryz.func132, Tryz.ntmps132
  go_wp2_with (go_at_call 131; refine (truth_any _ _).mono ?_; rintro e w' ⟨rfl, rfl⟩)
  all_goals go_ret
  all_goals exact ⟨ret_int (by first | rfl | simp [two, bit, *]), rfl⟩
set_option maxHeartbeats 400000 in
theorem op70_any (a b : Int) (w : World) : Calls Tryz.prog 135 #[.int .i64 a, .int .i64 b] w fun e w' => e = .returned (.int .i64 (two [43] a b)) ∧ w = w' := by
  go_enter Tryz.func135, Tryz.ntmps135
  go_wp2_with (go_at_call 131; refine (truth_any _ _).mono ?_; rintro e w' ⟨rfl, rfl⟩)
  all_goals go_ret
  all_goals exact ⟨ret_int (by first | rfl | simp [two, bit, *]), rfl⟩
set_option maxHeartbeats 400000 in
theorem op71_any (a b : Int) (w : World) : Calls Tryz.prog 136 #[.int .i64 a, .int .i64 b] w fun e w' => e = .returned (.int .i64 (two [45] a b)) ∧ w = w' := by
  go_enter Tryz.func136, Tryz.ntmps136
  go_wp2_with (go_at_call 131; refine (truth_any _ _).mono ?_; rintro e w' ⟨rfl, rfl⟩)
  all_goals go_ret
  all_goals exact ⟨ret_int (by first | rfl | simp [two, bit, *]), rfl⟩
set_option maxHeartbeats 400000 in
theorem op72_any (a b : Int) (w : World) : Calls Tryz.prog 137 #[.int .i64 a, .int .i64 b] w fun e w' => e = .returned (.int .i64 (two [61, 61] a b)) ∧ w = w' := by
  go_enter Tryz.func137, Tryz.ntmps137
  go_wp2_with (go_at_call 131; refine (truth_any _ _).mono ?_; rintro e w' ⟨rfl, rfl⟩)
  all_goals go_ret
  all_goals exact ⟨ret_int (by first | rfl | simp [two, bit, *]), rfl⟩
set_option maxHeartbeats 400000 in
theorem op73_any (a b : Int) (w : World) : Calls Tryz.prog 138 #[.int .i64 a, .int .i64 b] w fun e w' => e = .returned (.int .i64 (two [33, 61] a b)) ∧ w = w' := by
  go_enter Tryz.func138, Tryz.ntmps138
  go_wp2_with (go_at_call 131; refine (truth_any _ _).mono ?_; rintro e w' ⟨rfl, rfl⟩)
  all_goals go_ret
  all_goals exact ⟨ret_int (by first | rfl | simp [two, bit, *]), rfl⟩
set_option maxHeartbeats 400000 in
theorem op74_any (a b : Int) (w : World) : Calls Tryz.prog 139 #[.int .i64 a, .int .i64 b] w fun e w' => e = .returned (.int .i64 (two [60, 61] a b)) ∧ w = w' := by
  go_enter Tryz.func139, Tryz.ntmps139
  go_wp2_with (go_at_call 131; refine (truth_any _ _).mono ?_; rintro e w' ⟨rfl, rfl⟩)
  all_goals go_ret
  all_goals exact ⟨ret_int (by first | rfl | simp [two, bit, *]), rfl⟩
set_option maxHeartbeats 400000 in
theorem op75_any (a b : Int) (w : World) : Calls Tryz.prog 140 #[.int .i64 a, .int .i64 b] w fun e w' => e = .returned (.int .i64 (two [62, 61] a b)) ∧ w = w' := by
  go_enter Tryz.func140, Tryz.ntmps140
  go_wp2_with (go_at_call 131; refine (truth_any _ _).mono ?_; rintro e w' ⟨rfl, rfl⟩)
  all_goals go_ret
  all_goals exact ⟨ret_int (by first | rfl | simp [two, bit, *]), rfl⟩
set_option maxHeartbeats 400000 in
theorem op76_any (a b : Int) (w : World) : Calls Tryz.prog 141 #[.int .i64 a, .int .i64 b] w fun e w' => e = .returned (.int .i64 (two [60] a b)) ∧ w = w' := by
  go_enter Tryz.func141, Tryz.ntmps141
  go_wp2_with (go_at_call 131; refine (truth_any _ _).mono ?_; rintro e w' ⟨rfl, rfl⟩)
  all_goals go_ret
  all_goals exact ⟨ret_int (by first | rfl | simp [two, bit, *]), rfl⟩
set_option maxHeartbeats 400000 in
theorem op77_any (a b : Int) (w : World) : Calls Tryz.prog 142 #[.int .i64 a, .int .i64 b] w fun e w' => e = .returned (.int .i64 (two [62] a b)) ∧ w = w' := by
  go_enter Tryz.func142, Tryz.ntmps142
  go_wp2_with (go_at_call 131; refine (truth_any _ _).mono ?_; rintro e w' ⟨rfl, rfl⟩)
  all_goals go_ret
  all_goals exact ⟨ret_int (by first | rfl | simp [two, bit, *]), rfl⟩
set_option maxHeartbeats 400000 in
theorem op78_any (a b : Int) (w : World) : Calls Tryz.prog 143 #[.int .i64 a, .int .i64 b] w fun e w' => e = .returned (.int .i64 (two [38, 38] a b)) ∧ w = w' := by
  go_enter Tryz.func143, Tryz.ntmps143
  go_wp2_with (go_at_call 131; refine (truth_any _ _).mono ?_; rintro e w' ⟨rfl, rfl⟩)
  all_goals go_ret
  all_goals exact ⟨ret_int (by first | rfl | simp [two, bit, *]), rfl⟩
set_option maxHeartbeats 400000 in
theorem op79_any (a b : Int) (w : World) : Calls Tryz.prog 144 #[.int .i64 a, .int .i64 b] w fun e w' => e = .returned (.int .i64 (two [124, 124] a b)) ∧ w = w' := by
  go_enter Tryz.func144, Tryz.ntmps144
  go_wp2_with (go_at_call 131; refine (truth_any _ _).mono ?_; rintro e w' ⟨rfl, rfl⟩)
  all_goals go_ret
  all_goals exact ⟨ret_int (by first | rfl | simp [two, bit, *]), rfl⟩
theorem opFn_any {s : Bs} (hs : s ∈ ops) (a b : Int) (w : World) : Calls Tryz.prog (opFn s) #[.int .i64 a, .int .i64 b] w fun e w' => e = .returned (.int .i64 (two s a b)) ∧ w = w' := by
  simp only [ops, List.mem_cons, List.not_mem_nil, or_false] at hs
  rcases hs with rfl | rfl | rfl | rfl | rfl | rfl | rfl | rfl | rfl | rfl | rfl | rfl | rfl
  · exact op79_any a b w
  · exact op78_any a b w
  · exact op72_any a b w
  · exact op73_any a b w
  · exact op74_any a b w
  · exact op75_any a b w
  · exact op76_any a b w
  · exact op77_any a b w
  · exact op70_any a b w
  · exact op71_any a b w
  · exact op67_any a b w
  · exact quotient_any a b w
  · exact remainder_any a b w
theorem opFn_enters {s : Bs} (hs : s ∈ ops) : ∀ args w, (callFunc (opFn s) args).run Tryz.prog w = .ok (.enter (opFn s) args) w := by
  simp only [ops, List.mem_cons, List.not_mem_nil, or_false] at hs
  rcases hs with rfl | rfl | rfl | rfl | rfl | rfl | rfl | rfl | rfl | rfl | rfl | rfl | rfl
  · exact enters_of Tryz.func144 (by kernel_rfl) rfl
  · exact enters_of Tryz.func143 (by kernel_rfl) rfl
  · exact enters_of Tryz.func137 (by kernel_rfl) rfl
  · exact enters_of Tryz.func138 (by kernel_rfl) rfl
  · exact enters_of Tryz.func139 (by kernel_rfl) rfl
  · exact enters_of Tryz.func140 (by kernel_rfl) rfl
  · exact enters_of Tryz.func141 (by kernel_rfl) rfl
  · exact enters_of Tryz.func142 (by kernel_rfl) rfl
  · exact enters_of Tryz.func135 (by kernel_rfl) rfl
  · exact enters_of Tryz.func136 (by kernel_rfl) rfl
  · exact enters_of Tryz.func132 (by kernel_rfl) rfl
  · exact enters_of Tryz.func133 (by kernel_rfl) rfl
  · exact enters_of Tryz.func134 (by kernel_rfl) rfl
set_option maxHeartbeats 2000000 in
theorem operation_any {s : ByteArray} (hs : s.data.toList ∈ ops) (w : World) : Calls Tryz.prog 125 #[.string s] w fun e w' => e = .returned (.func (.func (opFn s.data.toList)) #[] #[]) ∧ w = w' := by
  rcases op_mem hs with rfl | rfl | rfl | rfl | rfl | rfl | rfl | rfl | rfl | rfl | rfl | rfl | rfl
  all_goals
    go_enter Tryz.func125, Tryz.ntmps125
    go_wp2
    go_ret
    exact ⟨rfl, rfl⟩
end Go.Proofs.YtfoenfipefhpoaaGreatDoor.Ex
/-
  Closures: the function value of an expression computes its tree's value. Conditions: the blocks that it captured hold what they held.
-/
namespace Go.Proofs.YtfoenfipefhpoaaGreatDoor.Ex
open Go.RowKit
abbrev ptr (b : Nat) : Value := .pointer (some ⟨b, 0, none⟩)
abbrev fv (f : Nat) : Value := .func (.func f) #[] #[]
def Blk (w : World) (b : Nat) (v : Value) (t : TypeId) : Prop := w.heap[b]? = some (.cells #[v] t (0, 0))
def preFn (s : Bs) : Nat := if s = [33] then 123 else 122
def nameFn (c : UInt8) : Nat := if c = 110 then 118 else if c = 116 then 119 else 120
/-- The function value v is the tree's, in memory. -/
def Clos (w : World) : Tree → Value → Prop
  | .num k, v => ∃ b, v = .func (.func 116) #[] #[ptr b] ∧ Blk w b (.int .i64 k) 3
  | .name c, v => v = fv (nameFn c)
  | .pre s x, v => ∃ b1 b2 vx, v = .func (.func 124) #[] #[ptr b1, ptr b2] ∧ Blk w b1 (fv (preFn s)) 167 ∧ Blk w b2 vx 149 ∧ Clos w x vx
  | .bin s a b, v => ∃ b1 b2 b3 va vb, s ∈ ops ∧ v = .func (.func 126) #[] #[ptr b1, ptr b2, ptr b3] ∧ Blk w b1 (fv (opFn s)) 168 ∧ Blk w b2 va 149 ∧ Blk w b3 vb 149 ∧ Clos w a va ∧ Clos w b vb
/-- What is neither a parser nor a row of its stacks stays. -/
def Keep (w w' : World) : Prop := ∀ (k : Nat) (cs : Array Value) (t : TypeId) (fz : Nat × Nat), w.heap[k]? = some (Obj.cells cs t fz) → t ≠ 131 → t ≠ 151 → t ≠ 157 → w'.heap[k]? = some (Obj.cells cs t fz)
theorem Keep.refl (w : World) : Keep w w := fun _ _ _ _ h _ _ _ => h
theorem Keep.trans {a b c : World} (h : Keep a b) (g : Keep b c) : Keep a c := fun k cs t fz e h1 h2 h3 => g k cs t fz (h k cs t fz e h1 h2 h3) h1 h2 h3
theorem lt_of_heap {w : World} {k : Nat} {o : Obj} (h : w.heap[k]? = some o) : k < w.heap.size := by
  rcases Nat.lt_or_ge k w.heap.size with h1 | h1
  · exact h1
  · rw [Array.getElem?_eq_none h1] at h; cases h
theorem Keep.of_below {w w' : World} (h : Below w.heap.size w w') : Keep w w' := fun k cs t fz e _ _ _ => by
  rw [h.block k (lt_of_heap e)]; exact e
theorem Blk.keep {w w' : World} {b : Nat} {v : Value} {t : TypeId} (h : Keep w w') (hb : Blk w b v t) (h1 : t ≠ 131) (h2 : t ≠ 151) (h3 : t ≠ 157) : Blk w' b v t := h _ _ _ _ hb h1 h2 h3
theorem Clos.keep {w w' : World} (h : Keep w w') : ∀ {T : Tree} {v : Value}, Clos w T v → Clos w' T v
  | .num _, _, ⟨b, e, hb⟩ => ⟨b, e, hb.keep h (by decide) (by decide) (by decide)⟩
  | .name _, _, e => e
  | .pre _ _, _, ⟨b1, b2, vx, e, h1, h2, hx⟩ => ⟨b1, b2, vx, e, h1.keep h (by decide) (by decide) (by decide), h2.keep h (by decide) (by decide) (by decide), hx.keep h⟩
  | .bin _ _ _, _, ⟨b1, b2, b3, va, vb, hs, e, h1, h2, h3, ha, hb⟩ => ⟨b1, b2, b3, va, vb, hs, e, h1.keep h (by decide) (by decide) (by decide), h2.keep h (by decide) (by decide) (by decide), h3.keep h (by decide) (by decide) (by decide), ha.keep h, hb.keep h⟩
theorem Blk.cell {w : World} {b : Nat} {v : Value} {t : TypeId} (h : Blk w b v t) : w.cell? ⟨b, 0, none⟩ = some v := by
  unfold Blk at h; simp [World.cell?, h]
theorem Clos.drewN {w : World} {T : Tree} {v : Value} (h : Clos w T v) (n : Nat) : Clos (w.drewN n) T v := Clos.keep (w := w) (w' := w.drewN n) (fun _ _ _ _ e _ _ _ => e) h

/-- A function value computes, and only reads. -/
def Comp (w : World) (v : Value) (n t x z : Int) : Prop := ∃ f caps, v = .func (.func f) #[] caps ∧ (∀ args w, (callFunc f args).run Tryz.prog w = .ok (.enter f args) w) ∧
  ∀ k, Calls Tryz.prog f (#[.int .i64 n, .int .i64 t, .int .i64 x] ++ caps) (w.drewN k) fun e w' => e = .returned (.int .i64 z) ∧ ∃ m, w' = (w.drewN k).drewN m

set_option maxHeartbeats 400000 in
theorem num_fn (w : World) {b : Nat} {z n t x : Int} (h : w.cell? ⟨b, 0, none⟩ = some (.int .i64 z)) :
    Calls Tryz.prog 116 #[.int .i64 n, .int .i64 t, .int .i64 x, ptr b] w fun e w' => e = .returned (.int .i64 z) ∧ w = w' := by
  go_enter Tryz.func116, Tryz.ntmps116
  go_wp2
  go_ret
  exact ⟨rfl, rfl⟩
set_option maxHeartbeats 400000 in
theorem n_fn (w : World) (n t x : Int) : Calls Tryz.prog 118 #[.int .i64 n, .int .i64 t, .int .i64 x] w fun e w' => e = .returned (.int .i64 n) ∧ w = w' := by
  go_enter Tryz.func118, Tryz.ntmps118
  go_wp2
  go_ret
  exact ⟨rfl, rfl⟩
set_option maxHeartbeats 400000 in
theorem t_fn (w : World) (n t x : Int) : Calls Tryz.prog 119 #[.int .i64 n, .int .i64 t, .int .i64 x] w fun e w' => e = .returned (.int .i64 t) ∧ w = w' := by
  go_enter Tryz.func119, Tryz.ntmps119
  go_wp2
  go_ret
  exact ⟨rfl, rfl⟩
set_option maxHeartbeats 400000 in
theorem v_fn (w : World) (n t x : Int) : Calls Tryz.prog 120 #[.int .i64 n, .int .i64 t, .int .i64 x] w fun e w' => e = .returned (.int .i64 x) ∧ w = w' := by
  go_enter Tryz.func120, Tryz.ntmps120
  go_wp2
  go_ret
  exact ⟨rfl, rfl⟩

set_option maxHeartbeats 1000000 in
theorem pre_fn (w : World) {b1 b2 f g : Nat} {caps : Array Value} {n t x y z : Int} (h1 : w.cell? ⟨b1, 0, none⟩ = some (fv g)) (h2 : w.cell? ⟨b2, 0, none⟩ = some (.func (.func f) #[] caps))
    (ef : ∀ args w, (callFunc f args).run Tryz.prog w = .ok (.enter f args) w) (eg : ∀ args w, (callFunc g args).run Tryz.prog w = .ok (.enter g args) w)
    (hf : ∀ k, Calls Tryz.prog f (#[.int .i64 n, .int .i64 t, .int .i64 x] ++ caps) (w.drewN k) fun e w' => e = .returned (.int .i64 y) ∧ ∃ m, w' = w.drewN m)
    (hg : ∀ k, Calls Tryz.prog g #[.int .i64 y] (w.drewN k) fun e w' => e = .returned (.int .i64 z) ∧ ∃ m, w' = w.drewN m) :
    Calls Tryz.prog 124 #[.int .i64 n, .int .i64 t, .int .i64 x, ptr b1, ptr b2] w fun e w' => e = .returned (.int .i64 z) ∧ ∃ m, w' = w.drewN m := by
  have HF := Lib.hid hf
  have HG := Lib.hid hg
  clear hf hg
  go_enter Tryz.func124, Tryz.ntmps124
  go_wp2
  go_quiet (first | exact HF.out _ | exact HG.out _)
  go_wp2
  go_ret
  exact ⟨rfl, nq, rfl⟩
set_option maxHeartbeats 1000000 in
theorem bin_fn (w : World) {b1 b2 b3 fa fb g : Nat} {ca cb : Array Value} {n t x ya yb z : Int} (h1 : w.cell? ⟨b1, 0, none⟩ = some (fv g)) (h2 : w.cell? ⟨b2, 0, none⟩ = some (.func (.func fa) #[] ca)) (h3 : w.cell? ⟨b3, 0, none⟩ = some (.func (.func fb) #[] cb))
    (ea : ∀ args w, (callFunc fa args).run Tryz.prog w = .ok (.enter fa args) w) (eb : ∀ args w, (callFunc fb args).run Tryz.prog w = .ok (.enter fb args) w) (eg : ∀ args w, (callFunc g args).run Tryz.prog w = .ok (.enter g args) w)
    (ha : ∀ k, Calls Tryz.prog fa (#[.int .i64 n, .int .i64 t, .int .i64 x] ++ ca) (w.drewN k) fun e w' => e = .returned (.int .i64 ya) ∧ ∃ m, w' = w.drewN m)
    (hb : ∀ k, Calls Tryz.prog fb (#[.int .i64 n, .int .i64 t, .int .i64 x] ++ cb) (w.drewN k) fun e w' => e = .returned (.int .i64 yb) ∧ ∃ m, w' = w.drewN m)
    (hg : ∀ k, Calls Tryz.prog g #[.int .i64 ya, .int .i64 yb] (w.drewN k) fun e w' => e = .returned (.int .i64 z) ∧ ∃ m, w' = w.drewN m) :
    Calls Tryz.prog 126 #[.int .i64 n, .int .i64 t, .int .i64 x, ptr b1, ptr b2, ptr b3] w fun e w' => e = .returned (.int .i64 z) ∧ ∃ m, w' = w.drewN m := by
  have HA := Lib.hid ha
  have HB := Lib.hid hb
  have HG := Lib.hid hg
  clear ha hb hg
  go_enter Tryz.func126, Tryz.ntmps126
  go_wp2
  go_quiet (first | (with_reducible exact HA.out _) | (with_reducible exact HB.out _) | (with_reducible exact HG.out _))
  go_wp2
  go_ret
  exact ⟨rfl, nq, rfl⟩
/-- The callee's contract at every draw, in the form that a region asks. -/
theorem quiet_same {f : Nat} {args : Array Value} {w : World} {v : Value} (h : ∀ w, Calls Tryz.prog f args w fun e w' => e = .returned v ∧ w = w') (k : Nat) : Calls Tryz.prog f args (w.drewN k) fun e w' => e = .returned v ∧ ∃ m, w' = w.drewN m :=
  (h _).mono fun _ _ ⟨he, hw⟩ => ⟨he, k, hw.symm⟩
theorem Comp.at {w : World} {v : Value} {n t x z : Int} (h : Comp w v n t x z) (k : Nat) : ∃ f caps, v = .func (.func f) #[] caps ∧ (∀ args w, (callFunc f args).run Tryz.prog w = .ok (.enter f args) w) ∧
    ∀ j, Calls Tryz.prog f (#[.int .i64 n, .int .i64 t, .int .i64 x] ++ caps) ((w.drewN k).drewN j) fun e w' => e = .returned (.int .i64 z) ∧ ∃ m, w' = (w.drewN k).drewN m := by
  obtain ⟨f, caps, e, h1, h2⟩ := h
  refine ⟨f, caps, e, h1, fun j => ?_⟩
  rw [World.drewN_drewN]
  refine (h2 (k + j)).mono ?_
  rintro e' w' ⟨he, m, hw⟩
  exact ⟨he, j + m, by rw [hw, World.drewN_drewN, World.drewN_drewN, Nat.add_assoc]⟩
theorem preFn_any (s : Bs) (y : Int) (w : World) : Calls Tryz.prog (preFn s) #[.int .i64 y] w fun e w' => e = .returned (.int .i64 (if s = [33] then bit (y == 0) else wrap64 (-y))) ∧ w = w' := by
  unfold preFn
  by_cases h : s = [33]
  · rw [if_pos h, if_pos h]; exact not_any y w
  · rw [if_neg h, if_neg h]; exact negative_any y w
theorem preFn_enters (s : Bs) : ∀ args w, (callFunc (preFn s) args).run Tryz.prog w = .ok (.enter (preFn s) args) w := by
  unfold preFn
  split
  · exact enters_of Tryz.func123 (by kernel_rfl) rfl
  · exact enters_of Tryz.func122 (by kernel_rfl) rfl
theorem comp_same {w : World} {f : Nat} {caps : Array Value} {n t x z : Int} (h1 : ∀ args w, (callFunc f args).run Tryz.prog w = .ok (.enter f args) w)
    (h : ∀ k, Calls Tryz.prog f (#[.int .i64 n, .int .i64 t, .int .i64 x] ++ caps) (w.drewN k) fun e w' => e = .returned (.int .i64 z) ∧ w.drewN k = w') : Comp w (.func (.func f) #[] caps) n t x z :=
  ⟨f, caps, rfl, h1, fun k => (h k).mono fun _ _ ⟨he, hw⟩ => ⟨he, 0, hw.symm⟩⟩
theorem clos_comp {w : World} (n t x : Int) : ∀ {T : Tree} {v : Value}, Clos w T v → Comp w v n t x (T.eval n t x)
  | .num k, _, ⟨b, rfl, hb⟩ => comp_same (enters_of Tryz.func116 (by kernel_rfl) rfl) fun k => num_fn (w.drewN k) hb.cell
  | .name c, _, h => by
    subst h
    unfold nameFn Tree.eval
    by_cases h1 : c = 110
    · rw [if_pos h1, if_pos h1]; exact comp_same (enters_of Tryz.func118 (by kernel_rfl) rfl) fun k => n_fn (w.drewN k) n t x
    · rw [if_neg h1, if_neg h1]
      by_cases h2 : c = 116
      · rw [if_pos h2, if_pos h2]; exact comp_same (enters_of Tryz.func119 (by kernel_rfl) rfl) fun k => t_fn (w.drewN k) n t x
      · rw [if_neg h2, if_neg h2]; exact comp_same (enters_of Tryz.func120 (by kernel_rfl) rfl) fun k => v_fn (w.drewN k) n t x
  | .pre s T, _, ⟨b1, b2, vx, rfl, h1, h2, hx⟩ => by
    refine ⟨124, _, rfl, enters_of Tryz.func124 (by kernel_rfl) rfl, fun k => ?_⟩
    obtain ⟨f, caps, rfl, e1, e2⟩ := (clos_comp n t x hx).at k
    exact pre_fn (w.drewN k) (f := f) (g := preFn s) (caps := caps) (y := T.eval n t x) h1.cell h2.cell e1 (preFn_enters s) e2 (fun j => quiet_same (preFn_any s _) j)
  | .bin s A B, _, ⟨b1, b2, b3, va, vb, hs, rfl, h1, h2, h3, ha, hb⟩ => by
    refine ⟨126, _, rfl, enters_of Tryz.func126 (by kernel_rfl) rfl, fun k => ?_⟩
    obtain ⟨f, caps, rfl, e1, e2⟩ := (clos_comp n t x ha).at k
    obtain ⟨f', caps', rfl, e1', e2'⟩ := (clos_comp n t x hb).at k
    exact bin_fn (w.drewN k) (g := opFn s) h1.cell h2.cell h3.cell e1 e1' (opFn_enters hs) e2 e2' (fun j => quiet_same (opFn_any hs _ _) j)
end Go.Proofs.YtfoenfipefhpoaaGreatDoor.Ex
/-
  Expressions are made: of a number, of a name, of a sign and one operand, of an operator and two. Conditions: the texts are short; the library's table of powers holds what it was laid with.
-/
namespace Go.Proofs.YtfoenfipefhpoaaGreatDoor.Ex
open Go.RowKit
def exprV (v : Value) (T : Tree) : Value := .agg #[v, .string ⟨T.text.toArray⟩, .int .i64 T.size]
/-- The library's table of powers of ten. -/
def Tab (w : World) : Prop := Lib.TabIs Tryz.prog w "internal/strconv.uint64pow10" .u64 Lib.pow10Tab ∧ 3 < w.heap.size
theorem tab_global : Tryz.prog.globalNamed "internal/strconv.uint64pow10" = some 3 := by kernel_rfl
theorem Tab.below {w w' : World} (h : Tab w) (hb : Below w.heap.size w w') : Tab w' := ⟨var?_below hb tab_global h.2 h.1, Nat.lt_of_lt_of_le h.2 hb.size⟩

set_option maxHeartbeats 1000000 in
theorem name_any {s : ByteArray} {w : World} (h : isNm s.data.toList = true) :
    Calls Tryz.prog 110 #[.string s] w fun e w' => ∃ v, e = .returned (exprV v (.name (s.data.toList.headD 0))) ∧ Clos w' (.name (s.data.toList.headD 0)) v ∧ Below w.heap.size w w' := by
  have : s = ⟨#[110]⟩ ∨ s = ⟨#[116]⟩ ∨ s = ⟨#[118]⟩ := by
    simp only [isNm, Bool.or_eq_true, beq_iff_eq] at h
    rcases h with (h | h) | h <;> have e := bytes_of h <;> simp [e]
  rcases this with rfl | rfl | rfl
  · go_enter Tryz.func110, Tryz.ntmps110
    go_wp2
    exact bodyPost_ret (v := exprV (fv 118) (.name 110)) (by simp [results, Tryz.results110, go_sem, exprV, Tree.text, Tree.size]) rfl ⟨_, rfl, rfl, (Below.refl _ _).alloc (Nat.le_refl _) _⟩
  · go_enter Tryz.func110, Tryz.ntmps110
    go_wp2
    exact bodyPost_ret (v := exprV (fv 119) (.name 116)) (by simp [results, Tryz.results110, go_sem, exprV, Tree.text, Tree.size]) rfl ⟨_, rfl, rfl, (Below.refl _ _).alloc (Nat.le_refl _) _⟩
  · go_enter Tryz.func110, Tryz.ntmps110
    go_wp2
    exact bodyPost_ret (v := exprV (fv 120) (.name 118)) (by simp [results, Tryz.results110, go_sem, exprV, Tree.text, Tree.size]) rfl ⟨_, rfl, rfl, (Below.refl _ _).alloc (Nat.le_refl _) _⟩
theorem Clos.form {w : World} : ∀ {T : Tree} {v : Value}, Clos w T v → ∃ f caps, v = .func (.func f) #[] caps
  | .num _, _, ⟨b, e, _⟩ => ⟨_, _, e⟩
  | .name _, _, e => ⟨_, _, e⟩
  | .pre _ _, _, ⟨_, _, _, e, _⟩ => ⟨_, _, e⟩
  | .bin _ _ _, _, ⟨_, _, _, _, _, _, e, _⟩ => ⟨_, _, e⟩
theorem Blk.new {w : World} {b : Nat} (v : Value) (t : TypeId) (h : w.heap.size = b) : Blk (w.alloc (.cells #[v] t)) b v t := by
  subst h; exact heap_alloc_new w _
theorem Blk.alloc {w : World} {b : Nat} {v : Value} {t : TypeId} (h : Blk w b v t) (o : Obj) : Blk (w.alloc o) b v t := by
  unfold Blk at h ⊢
  rw [((Below.refl w.heap.size w).alloc (Nat.le_refl _) o).block b (lt_of_heap h)]; exact h
theorem Blk.drew {w : World} {b : Nat} {v : Value} {t : TypeId} (h : Blk w b v t) : Blk w.drew b v t := h
theorem str_append (a b : Bs) : ((⟨a.toArray⟩ : ByteArray) ++ ⟨b.toArray⟩) = ⟨(a ++ b).toArray⟩ := Go.WideShapes.bytes_inj (by simp)
theorem pre_done {w W : World} {s : Bs} {T : Tree} {v : Value} {b1 b2 : Nat} (hT : Clos w T v) (hb : Below w.heap.size w W) (h1 : Blk W b1 (fv (preFn s)) 167) (h2 : Blk W b2 v 149) : Clos W (.pre s T) (.func (.func 124) #[] #[ptr b1, ptr b2]) :=
  ⟨b1, b2, v, rfl, h1, h2, hT.keep (Keep.of_below hb)⟩
set_option maxHeartbeats 1000000 in
theorem prefix_any {s : ByteArray} {w : World} {T : Tree} {v : Value} (hs : s.data.toList = [45] ∨ s.data.toList = [33]) (ht : T.text.length ≤ 100000) (hz : T.size ≤ 100000) (hT : Clos w T v) :
    Calls Tryz.prog 113 #[.string s, exprV v T] w fun e w' => ∃ v', e = .returned (exprV v' (.pre s.data.toList T)) ∧ Clos w' (.pre s.data.toList T) v' ∧ Below w.heap.size w w' := by
  obtain ⟨f, caps, rfl⟩ := hT.form
  have HT := Lib.hid hT
  clear hT
  unfold exprV
  have hb : ∀ o1 o2 o3 o4, Below w.heap.size w ((((w.alloc o1).alloc o2).alloc o3).alloc o4).drew := fun o1 o2 o3 o4 => (((((Below.refl _ _).alloc (Nat.le_refl _) _).alloc (by simp) _).alloc (by simp; omega) _).alloc (by simp; omega) _).drew
  have HB := Lib.hid hb
  clear hb
  rcases hs with h | h
  · obtain rfl := bytes_of h
    clear h
    go_enter Tryz.func113, Tryz.ntmps113
    go_wp2
    go_region
    all_goals go_wp2
    · refine bodyPost_ret (v := .agg #[.func (.func 124) #[] #[ptr (w.heap.size + 1 + 1), ptr (w.heap.size + 1 + 1 + 1)], .string (⟨#[45]⟩ ++ ⟨T.text.toArray⟩), .int .i64 (1 + T.size)]) (by simp [results, Tryz.results113, go_sem]) rfl ⟨.func (.func 124) #[] #[ptr (w.heap.size + 1 + 1), ptr (w.heap.size + 1 + 1 + 1)], ?_, pre_done HT.out (HB.out _ _ _ _) ?_ ?_, HB.out _ _ _ _⟩
      · rw [str_append]; simp [Tree.text, Tree.size]
      · exact ((Blk.new _ _ (by simp)).alloc _).drew
      · exact (Blk.new _ _ (by simp)).drew
    · refine bodyPost_ret (v := .agg #[.func (.func 124) #[] #[ptr (w.heap.size + 1 + 1 + 1), ptr (w.heap.size + 1 + 1)], .string (⟨#[45]⟩ ++ ⟨T.text.toArray⟩), .int .i64 (1 + T.size)]) (by simp [results, Tryz.results113, go_sem]) rfl ⟨.func (.func 124) #[] #[ptr (w.heap.size + 1 + 1 + 1), ptr (w.heap.size + 1 + 1)], ?_, pre_done HT.out (HB.out _ _ _ _) ?_ ?_, HB.out _ _ _ _⟩
      · rw [str_append]; simp [Tree.text, Tree.size]
      · exact (Blk.new _ _ (by simp)).drew
      · exact ((Blk.new _ _ (by simp)).alloc _).drew
  · obtain rfl := bytes_of h
    clear h
    go_enter Tryz.func113, Tryz.ntmps113
    go_wp2
    go_region
    all_goals go_wp2
    · refine bodyPost_ret (v := .agg #[.func (.func 124) #[] #[ptr (w.heap.size + 1 + 1), ptr (w.heap.size + 1 + 1 + 1)], .string (⟨#[33]⟩ ++ ⟨T.text.toArray⟩), .int .i64 (1 + T.size)]) (by simp [results, Tryz.results113, go_sem]) rfl ⟨.func (.func 124) #[] #[ptr (w.heap.size + 1 + 1), ptr (w.heap.size + 1 + 1 + 1)], ?_, pre_done HT.out (HB.out _ _ _ _) ?_ ?_, HB.out _ _ _ _⟩
      · rw [str_append]; simp [Tree.text, Tree.size]
      · exact ((Blk.new _ _ (by simp)).alloc _).drew
      · exact (Blk.new _ _ (by simp)).drew
    · refine bodyPost_ret (v := .agg #[.func (.func 124) #[] #[ptr (w.heap.size + 1 + 1 + 1), ptr (w.heap.size + 1 + 1)], .string (⟨#[33]⟩ ++ ⟨T.text.toArray⟩), .int .i64 (1 + T.size)]) (by simp [results, Tryz.results113, go_sem]) rfl ⟨.func (.func 124) #[] #[ptr (w.heap.size + 1 + 1 + 1), ptr (w.heap.size + 1 + 1)], ?_, pre_done HT.out (HB.out _ _ _ _) ?_ ?_, HB.out _ _ _ _⟩
      · rw [str_append]; simp [Tree.text, Tree.size]
      · exact (Blk.new _ _ (by simp)).drew
      · exact ((Blk.new _ _ (by simp)).alloc _).drew
end Go.Proofs.YtfoenfipefhpoaaGreatDoor.Ex
