/-
  Expressions, plain: the words of a text, the machine of two stacks that reads them, trees with their values, texts and sizes. Conditions: none; nothing of a program.
-/
import Derived.Lib.ItoaNum
import Derived.Lib.Atoi
import Derived.IntWalk
import Derived.RowKit
namespace Go.Proofs.YtlkaaembeakicaaDoor.Ex
open Go.RowKit
abbrev Bs := List UInt8

/-! ### Words -/
def isDig (c : UInt8) : Bool := decide (48 ≤ c.toNat) && decide (c.toNat ≤ 57)
def isLet (c : UInt8) : Bool := (decide (97 ≤ c.toNat) && decide (c.toNat ≤ 122)) || (decide (65 ≤ c.toNat) && decide (c.toNat ≤ 90))
def runLen (P : UInt8 → Bool) : Bs → Nat
  | [] => 0
  | c :: r => if P c then runLen P r + 1 else 0
def isNm (l : Bs) : Bool := l == [110] || l == [116] || l == [118]
def two2 (l : Bs) : Bool := l == [124, 124] || l == [38, 38] || l == [61, 61] || l == [33, 61] || l == [60, 61] || l == [62, 61]
def one1 (c : UInt8) : Bool := [60, 62, 43, 45, 42, 47, 37, 33, 40, 41].contains c
def signLen (l : Bs) : Nat :=
  match l with
  | [] => 0
  | c :: r => if r ≠ [] ∧ two2 ((c :: r).take 2) = true then 2 else if one1 c then 1 else 0
/-- The kind and the length of the word that a text begins with: 0 none, 2 number, 3 name, 4 sign. -/
def meas (l : Bs) : Nat × Nat :=
  if 0 < runLen isDig l then (if 18 < runLen isDig l then (0, 0) else (2, runLen isDig l))
  else if 0 < runLen isLet l then (if isNm (l.take (runLen isLet l)) then (3, runLen isLet l) else (0, 0))
  else if 0 < signLen l then (4, signLen l) else (0, 0)
def skip : Bs → Bs
  | [] => []
  | c :: r => if c == 32 then skip r else c :: r
/-- The kind of the word at the head; 1: the end. -/
def kindOf (l : Bs) : Nat := if l = [] then 1 else (meas l).1
def wordOf (l : Bs) : Bs := if l = [] then [] else l.take (meas l).2

theorem runLen_le (P : UInt8 → Bool) : ∀ l : Bs, runLen P l ≤ l.length
  | [] => Nat.le_refl _
  | c :: r => by have := runLen_le P r; simp only [runLen]; split <;> simp <;> omega
theorem signLen_le (l : Bs) : signLen l ≤ l.length := by
  unfold signLen
  match l with
  | [] => simp
  | [c] => simp; split <;> omega
  | c :: d :: r => simp only [List.length_cons]; split <;> (try split) <;> omega
theorem meas_le (l : Bs) : (meas l).2 ≤ l.length := by
  have h1 := runLen_le isDig l
  have h2 := runLen_le isLet l
  have h3 := signLen_le l
  unfold meas
  split
  · split <;> simp <;> omega
  · split
    · split <;> simp <;> omega
    · split <;> simp <;> omega
theorem meas_kind (l : Bs) : (meas l).1 = 0 ∨ (meas l).1 = 2 ∨ (meas l).1 = 3 ∨ (meas l).1 = 4 := by
  unfold meas
  repeat' split
  all_goals simp
theorem meas_zero {l : Bs} (h : (meas l).1 = 0) : (meas l).2 = 0 := by
  unfold meas at h ⊢
  revert h
  repeat' split
  all_goals simp
theorem meas_pos {l : Bs} (h : (meas l).1 ≠ 0) : 0 < (meas l).2 := by
  unfold meas at h ⊢
  revert h
  repeat' split
  all_goals (first | (intro _; simpa using ‹0 < _›) | (intro h; exact absurd rfl h) | (simp <;> omega))
theorem skip_le : ∀ l : Bs, (skip l).length ≤ l.length
  | [] => Nat.le_refl _
  | c :: r => by have := skip_le r; simp only [skip]; split <;> simp <;> omega
theorem skip_suffix : ∀ l : Bs, ∃ k, k ≤ l.length ∧ skip l = l.drop k
  | [] => ⟨0, by simp, rfl⟩
  | c :: r => by
    obtain ⟨k, h, e⟩ := skip_suffix r
    simp only [skip]
    split
    · exact ⟨k + 1, by simp; omega, by simpa using e⟩
    · exact ⟨0, by simp, rfl⟩
theorem wordOf_le (l : Bs) : (wordOf l).length ≤ l.length := by
  unfold wordOf; split
  · simp
  · simp [List.length_take]; omega
theorem wordOf_length {l : Bs} (h : l ≠ []) : (wordOf l).length = (meas l).2 := by
  have := meas_le l
  unfold wordOf; rw [if_neg h, List.length_take]; omega

/-! ### Trees -/
inductive Tree where
  | num (k : Nat)
  | name (c : UInt8)
  | pre (s : Bs) (x : Tree)
  | bin (s : Bs) (a b : Tree)
  deriving DecidableEq
def bit (b : Bool) : Int := if b then 1 else 0
/-- An operator of two values. -/
def two (s : Bs) (a b : Int) : Int :=
  if s = [124, 124] then bit (a != 0 || b != 0)
  else if s = [38, 38] then bit (a != 0 && b != 0)
  else if s = [61, 61] then bit (a == b)
  else if s = [33, 61] then bit (a != b)
  else if s = [60, 61] then bit (decide (a ≤ b))
  else if s = [62, 61] then bit (decide (b ≤ a))
  else if s = [60] then bit (decide (a < b))
  else if s = [62] then bit (decide (b < a))
  else if s = [43] then wrap64 (a + b)
  else if s = [45] then wrap64 (a - b)
  else if s = [42] then wrap64 (a * b)
  else if b = 0 then 0
  else if s = [47] then wrap64 (a.tdiv b)
  else a.tmod b
namespace Tree
def eval (n t v : Int) : Tree → Int
  | num k => k
  | name c => if c = 110 then n else if c = 116 then t else v
  | pre s x => if s = [33] then bit (x.eval n t v == 0) else wrap64 (-(x.eval n t v))
  | bin s a b => two s (a.eval n t v) (b.eval n t v)
def text : Tree → Bs
  | num k => Lib.decDigits k
  | name c => [c]
  | pre s x => s ++ x.text
  | bin s a b => [40] ++ a.text ++ [32] ++ s ++ [32] ++ b.text ++ [41]
def size : Tree → Nat
  | num _ => 1
  | name _ => 1
  | pre _ x => 1 + x.size
  | bin _ a b => a.size + 1 + b.size
end Tree

/-! ### The machine -/
def levelOf (s : Bs) : Nat :=
  if s = [124, 124] then 1
  else if s = [38, 38] then 2
  else if s = [61, 61] ∨ s = [33, 61] ∨ s = [60, 61] ∨ s = [62, 61] ∨ s = [60] ∨ s = [62] then 3
  else if s = [43] ∨ s = [45] then 4
  else if s = [42] ∨ s = [47] ∨ s = [37] then 5
  else 0
/-- vals: what is complete, the last first. waits: signs with their levels, the last first. -/
structure St where
  vals : List Tree
  waits : List (Bs × Nat)
  opn : Nat
  parts : Nat
  complete : Bool
  deriving DecidableEq
def St.init : St := ⟨[], [], 0, 0, false⟩
/-- One operator that waits gets what it is of. -/
def app (s : Bs) (l : Nat) (vs : List Tree) : List Tree :=
  if l = 6 then
    match vs with
    | x :: r => .pre s x :: r
    | [] => []
  else
    match vs with
    | b :: a :: r => .bin s a b :: r
    | _ => []
def joinL (level : Nat) : List Tree → List (Bs × Nat) → List Tree × List (Bs × Nat)
  | vs, [] => (vs, [])
  | vs, (s, l) :: ws => if level ≤ l then joinL level (app s l vs) ws else (vs, (s, l) :: ws)
def St.join (level : Nat) (s : St) : St := { s with vals := (joinL level s.vals s.waits).1, waits := (joinL level s.vals s.waits).2 }
def St.allows (s : St) (k : Nat) (t : Bs) : Bool :=
  if k = 1 then s.complete && decide (s.opn = 0)
  else if t = [41] then s.complete && decide (0 < s.opn)
  else if s.complete then decide (levelOf t ≠ 0)
  else decide (k = 2) || decide (k = 3) || decide (t = [45]) || decide (t = [33]) || decide (t = [40])
def isPart (k : Nat) (t : Bs) : Bool := decide (k ≠ 1) && decide (t ≠ [40]) && decide (t ≠ [41])
def numVal (ds : Bs) : Nat := ds.foldl (fun a b => 10 * a + (b.toNat - 48)) 0
def St.put (s : St) (k : Nat) (t : Bs) : St :=
  if k = 1 then s.join 1
  else if k = 2 then { s with vals := .num (numVal t) :: s.vals, complete := true }
  else if k = 3 then { s with vals := .name (t.headD 0) :: s.vals, complete := true }
  else if t = [40] then { s with waits := (t, 0) :: s.waits, opn := s.opn + 1 }
  else if t = [41] then { s.join 1 with waits := (s.join 1).waits.tail, opn := s.opn - 1 }
  else if s.complete then { s.join (levelOf t) with waits := (t, levelOf t) :: (s.join (levelOf t)).waits, complete := false }
  else { s with waits := (t, 6) :: s.waits }
def St.count (s : St) (k : Nat) (t : Bs) : St := if isPart k t then { s with parts := s.parts + 1 } else s
/-- The error at a word, 0: none. -/
def St.errOf (s : St) (k : Nat) (t : Bs) : Nat :=
  if s.allows k t = false then (if k = 1 then 41 else 40)
  else if isPart k t = true ∧ s.parts = 64 then 5 else 0
inductive Res where
  | ok (x : Tree)
  | err (pos e : Nat)
  deriving DecidableEq
def go : Nat → Nat → Bs → St → Res
  | 0, _, _, _ => .err 0 0
  | f + 1, N, rest, s =>
    if s.errOf (kindOf (skip rest)) (wordOf (skip rest)) ≠ 0 then .err (N - (skip rest).length) (s.errOf (kindOf (skip rest)) (wordOf (skip rest)))
    else if kindOf (skip rest) = 1 then .ok ((((s.count 1 []).put 1 []).vals).headD (.num 0))
    else go f N ((skip rest).drop (wordOf (skip rest)).length) ((s.count (kindOf (skip rest)) (wordOf (skip rest))).put (kindOf (skip rest)) (wordOf (skip rest)))
def parse (text : Bs) : Res := if 200 < text.length then .err 0 2 else go (text.length + 1) text.length text St.init

-- v+1*t, "v = 1", "v +"
example : parse [118, 43, 49, 42, 116] = .ok (.bin [43] (.name 118) (.bin [42] (.num 1) (.name 116))) := by decide
example : parse [118, 32, 61, 32, 49] = .err 2 40 := by decide
example : parse [118, 32, 43] = .err 3 41 := by decide
end Go.Proofs.YtlkaaembeakicaaDoor.Ex
