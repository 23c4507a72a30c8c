/-
  The plain mathematics of journal: a framed record, the records of a file's bytes, what is torn; what Open and Add do to a disk's state. Conditions: none but those that each theorem names.
-/
import Derived.Test.YtkiombbdddbkfaaCrc
import Derived.Test.YtkiombbdddbkfaaMath
namespace Go.Proofs.Ytkiombbdddbkfaa.Jn
open Go.Proofs.Ytkiombbdddbkfaa.Pk Go.Proofs.Ytkiombbdddbkfaa.Dk

abbrev Bs := List UInt8
/-- Four bytes of a number, the least first. -/
def le4 (n : Nat) : Bs := [UInt8.ofNat (n % 256), UInt8.ofNat (n / 256 % 256), UInt8.ofNat (n / 65536 % 256), UInt8.ofNat (n / 16777216 % 256)]
def word (b : Bs) : Nat := leVal (b.take 4)
theorem le4_length (n : Nat) : (le4 n).length = 4 := rfl
theorem toNat_ofNat {n : Nat} (h : n < 256) : (UInt8.ofNat n).toNat = n := by simp; omega
theorem leVal_le4 {n : Nat} (h : n < 4294967296) : leVal (le4 n) = n := by
  simp only [le4, leVal, toNat_ofNat (Nat.mod_lt _ (by decide : 0 < 256))]
  omega
theorem word_le4 {n : Nat} (h : n < 4294967296) (r : Bs) : word (le4 n ++ r) = n := by
  show leVal ((le4 n ++ r).take 4) = n
  rw [List.take_left' (le4_length n)]; exact leVal_le4 h
theorem word_lt (b : Bs) : word b < 4294967296 := by
  have h := leVal_lt (b.take 4)
  have h2 : 256 ^ (b.take 4).length ≤ 256 ^ 4 := Nat.pow_le_pow_right (by decide) (by simp; omega)
  unfold word; omega
theorem le4_word {b : Bs} (h : 4 ≤ b.length) : le4 (word b) = b.take 4 := by
  have hl : (b.take 4).length = 4 := by simp; omega
  exact leVal_inj _ _ (by rw [hl]; rfl) (by rw [leVal_le4 (word_lt b)]; rfl)

def sumOf (r : Bs) : Nat := crc (le4 r.length ++ r)
def frame (r : Bs) : Bs := le4 r.length ++ (le4 (sumOf r) ++ r)
theorem frame_length (r : Bs) : (frame r).length = 8 + r.length := by simp [frame, le4_length]; omega
theorem sumOf_lt (r : Bs) : sumOf r < 4294967296 := crc_lt _

/-- The record with which bytes begin. -/
def first (b : Bs) : Option Bs :=
  if b.length < 8 then none
  else if 1048576 < word b ∨ b.length - 8 < word b then none
  else if word (b.drop 4) = crc (b.take 4 ++ (b.drop 8).take (word b)) then some ((b.drop 8).take (word b)) else none
theorem first_short {b : Bs} (h : b.length < 8) : first b = none := by unfold first; rw [if_pos h]
theorem first_some {b r : Bs} (h : first b = some r) : r.length ≤ 1048576 ∧ 8 + r.length ≤ b.length ∧ r = (b.drop 8).take (word b) ∧ r.length = word b ∧ b = frame r ++ b.drop (8 + r.length) := by
  unfold first at h
  split at h
  · cases h
  rename_i h8
  split at h
  · cases h
  rename_i hw
  split at h
  · rename_i hs
    have hr : r = (b.drop 8).take (word b) := (Option.some.inj h).symm
    have hl : r.length = word b := by rw [hr, List.length_take, List.length_drop]; omega
    refine ⟨by omega, by omega, hr, hl, ?_⟩
    have e1 : le4 r.length = b.take 4 := by rw [hl]; exact le4_word (by omega)
    have e2 : le4 (sumOf r) = (b.drop 4).take 4 := by
      unfold sumOf
      rw [e1]
      conv => lhs; rw [hr]
      rw [← hs]
      exact le4_word (by rw [List.length_drop]; omega)
    unfold frame
    rw [e1, e2]
    have e3 : b.drop (8 + r.length) = (b.drop 8).drop (word b) := by rw [List.drop_drop, hl]
    rw [e3, List.append_assoc, List.append_assoc]
    conv => rhs; rw [hr]
    rw [List.take_append_drop, show b.drop 8 = (b.drop 4).drop 4 by rw [List.drop_drop], List.take_append_drop, List.take_append_drop]
  · cases h
theorem first_frame {r : Bs} (h : r.length ≤ 1048576) (x : Bs) : first (frame r ++ x) = some r := by
  have hl := frame_length r
  have e0 : frame r ++ x = le4 r.length ++ (le4 (sumOf r) ++ (r ++ x)) := by simp [frame]
  have w0 : word (frame r ++ x) = r.length := by rw [e0]; exact word_le4 (by omega) _
  have d4 : (frame r ++ x).drop 4 = le4 (sumOf r) ++ (r ++ x) := by rw [e0]; exact List.drop_left' (le4_length _)
  have d8 : (frame r ++ x).drop 8 = r ++ x := by rw [show 8 = 4 + 4 from rfl, ← List.drop_drop, d4]; exact List.drop_left' (le4_length _)
  have t4 : (frame r ++ x).take 4 = le4 r.length := by rw [e0]; exact List.take_left' (le4_length _)
  unfold first
  rw [if_neg (by simp [hl]; omega), w0, if_neg (by simp [hl]; omega), d4, d8, t4, List.take_left' rfl, word_le4 (sumOf_lt r)]
  exact if_pos rfl

/-- The records of a file's bytes. -/
def recs (b : Bs) : List Bs :=
  match h : first b with
  | none => []
  | some r => r :: recs (b.drop (8 + r.length))
termination_by b.length
decreasing_by
  have := (first_some h).2.1
  rw [List.length_drop]; omega
theorem recs_none {b : Bs} (h : first b = none) : recs b = [] := by
  rw [recs]; split
  · rfl
  · rename_i r hr; rw [h] at hr; cases hr
theorem recs_some {b r : Bs} (h : first b = some r) : recs b = r :: recs (b.drop (8 + r.length)) := by
  rw [recs]; split
  · rename_i hr; rw [h] at hr; cases hr
  · rename_i q hr; rw [h] at hr; cases hr; rfl
/-- The bytes of records. -/
def bytesOf (L : List Bs) : Bs := (L.map frame).flatten
theorem bytesOf_nil : bytesOf [] = [] := rfl
theorem bytesOf_cons (r : Bs) (L : List Bs) : bytesOf (r :: L) = frame r ++ bytesOf L := rfl
theorem bytesOf_append (L M : List Bs) : bytesOf (L ++ M) = bytesOf L ++ bytesOf M := by simp [bytesOf]
theorem bytesOf_snoc (L : List Bs) (r : Bs) : bytesOf (L ++ [r]) = bytesOf L ++ frame r := by rw [bytesOf_append, bytesOf_cons, bytesOf_nil, List.append_nil]
def Small (L : List Bs) : Prop := ∀ r ∈ L, r.length ≤ 1048576
theorem bytesOf_length (L : List Bs) : 8 * L.length ≤ (bytesOf L).length := by
  induction L with
  | nil => simp
  | cons r L ih => rw [bytesOf_cons, List.length_append, frame_length, List.length_cons]; omega
theorem recs_of {L : List Bs} (h : Small L) {x : Bs} (hx : first x = none) : recs (bytesOf L ++ x) = L := by
  induction L with
  | nil => exact recs_none hx
  | cons r L ih =>
    have hr := h r (List.mem_cons_self)
    rw [bytesOf_cons, List.append_assoc, recs_some (first_frame hr _), List.drop_left' (frame_length r), ih fun q hq => h q (List.mem_cons_of_mem _ hq)]
theorem recs_split (b : Bs) : Small (recs b) ∧ ∃ x, b = bytesOf (recs b) ++ x ∧ first x = none := by
  induction hn : b.length using Nat.strongRecOn generalizing b with
  | _ n ih =>
    cases h : first b with
    | none => rw [recs_none h]; exact ⟨fun r hr => by simp at hr, b, rfl, h⟩
    | some r =>
      obtain ⟨h1, h2, -, -, h5⟩ := first_some h
      obtain ⟨s1, x, hx, hf⟩ := ih (b.drop (8 + r.length)).length (by rw [List.length_drop]; omega) _ rfl
      rw [recs_some h]
      refine ⟨fun q hq => ?_, x, ?_, hf⟩
      · rcases List.mem_cons.1 hq with rfl | hq
        · exact h1
        · exact s1 q hq
      · rw [bytesOf_cons, List.append_assoc, ← hx]; exact h5
/-- How many bytes the records take. -/
def used (b : Bs) : Nat := (bytesOf (recs b)).length
theorem used_le (b : Bs) : used b ≤ b.length := by
  obtain ⟨_, x, hx, _⟩ := recs_split b
  have : b.length = used b + x.length := by conv => lhs; rw [hx]
                                            rw [List.length_append]; rfl
  omega
theorem take_used (b : Bs) : b.take (used b) = bytesOf (recs b) := by
  obtain ⟨_, x, hx, _⟩ := recs_split b
  have e : (bytesOf (recs b) ++ x).take (used b) = bytesOf (recs b) := List.take_left' rfl
  rw [← hx] at e
  exact e
theorem recs_used (b : Bs) : recs (b.take (used b)) = recs b := by
  rw [take_used]
  have := recs_of (recs_split b).1 (x := []) (first_short (by decide))
  rwa [List.append_nil] at this
theorem recs_bytesOf {L : List Bs} (h : Small L) : recs (bytesOf L) = L := by
  have := recs_of h (x := []) (first_short (by decide))
  rwa [List.append_nil] at this
theorem used_bytesOf {L : List Bs} (h : Small L) : used (bytesOf L) = (bytesOf L).length := by unfold used; rw [recs_bytesOf h]
theorem recs_length (b : Bs) : 8 * (recs b).length ≤ b.length := Nat.le_trans (bytesOf_length _) (used_le b)

/-! ### what Open and Add do to a disk -/
/-- The bytes of a file: none if it does not exist. -/
def dataOf (s : Ds) (k : Nm) : Bs := (fileOr s k).data
def openCut (s : Ds) (k : Nm) : Int × Ds := if used (dataOf s k) < (dataOf s k).length then cutD s k (used (dataOf s k) : Int) else (0, s)
def openD (s : Ds) (k : Nm) : Int × Ds := if s.off then (20, s) else if isName k = false then (51, s) else openCut s k
def store (s : Ds) (k : Nm) (b : Bs) : Int × Ds := if (appendD s k b).1 ≠ 0 then appendD s k b else syncD (appendD s k b).2 k
def addD (s : Ds) (k : Nm) (down : Bool) (r : Bs) : Int × Ds := if down then (20, s) else if 1048576 < r.length then (2, s) else store s k (frame r)

end Go.Proofs.Ytkiombbdddbkfaa.Jn
