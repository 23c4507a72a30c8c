/-
  Words for byte slices in memory: where the bytes of a slice lie, nil and empty slices included, and how they are kept. Conditions: none but those that each theorem names.
-/
import Derived.WalkKit
import Derived.WalkSpells
import Derived.Laws.AppendOwnNone
import Derived.Laws.CopyOwn
import Derived.Lib.AppendStr
import Derived.Lib.Hide
import Derived.Deep.Draws
namespace Go.Proofs.Ytkiombbdddbkfaa.Pk
open Go.RowKit

def bv (x : UInt8) : Value := .int .u8 (x.toNat : Int)
def cells (l : List UInt8) : List Value := l.map bv
theorem cells_length (l : List UInt8) : (cells l).length = l.length := by simp [cells]
theorem cells_append (l m : List UInt8) : cells (l ++ m) = cells l ++ cells m := by simp [cells]
theorem cells_one (l : List UInt8) : ∀ u ∈ cells l, u.oneCell' = true := by
  intro u hu
  obtain ⟨x, _, rfl⟩ := List.mem_map.1 hu
  rfl
theorem bv_inj {x y : UInt8} (h : bv x = bv y) : x = y := by
  unfold bv at h
  injection h with _ h
  exact UInt8.toNat_inj.mp (by omega)
theorem cells_inj {l m : List UInt8} (h : cells l = cells m) : l = m := List.map_inj_right (fun _ _ => bv_inj) |>.mp h

theorem block_add (a : Addr) (n : Nat) : (a.add n).block = a.block := by unfold Addr.add; split <;> rfl
theorem add_add (a : Addr) (i j : Nat) : (a.add i).add j = a.add (i + j) := by
  unfold Addr.add
  by_cases hi : i = 0 <;> by_cases hj : j = 0 <;> simp [hi, hj, Nat.add_assoc]

/-- The bytes l lie at A, in a block below B. -/
def Lies (w : World) (B : Nat) (A : Option Addr) (l : List UInt8) : Prop :=
  ∀ k x, l[k]? = some x → ∃ b o, A = some ⟨b, o, none⟩ ∧ b < B ∧ w.cell? ⟨b, o + k, none⟩ = some (bv x)

section
variable {w w' : World} {B B' : Nat} {A : Option Addr} {l : List UInt8}
theorem Lies.none_ : Lies w B A [] := fun k x h => by simp at h
theorem Lies.keep (h : Lies w B A l) (hk : ∀ p : Addr, p.block < B → w'.cell? p = w.cell? p) : Lies w' B A l := fun k x hx => by
  obtain ⟨b, o, e, hb, hc⟩ := h k x hx
  exact ⟨b, o, e, hb, (hk ⟨b, o + k, none⟩ hb).trans hc⟩
theorem Lies.mono (h : Lies w B A l) (hB : B ≤ B') : Lies w B' A l := fun k x hx => by
  obtain ⟨b, o, e, hb, hc⟩ := h k x hx
  exact ⟨b, o, e, by omega, hc⟩
theorem Lies.below (h : Lies w B A l) (hb : Below B w w') : Lies w' B A l := h.keep fun _ hp => hb.cell hp
theorem Lies.drewN (h : Lies w B A l) (n : Nat) : Lies (w.drewN n) B A l := h
theorem Lies.drew (h : Lies w B A l) : Lies w.drew B A l := h
theorem Lies.alloc (h : Lies w B A l) (hB : B ≤ w.heap.size) (o : Obj) : Lies (w.alloc o) B A l := h.keep fun p hp => World.cell?_alloc_lt w o p (by omega)
theorem Lies.setCell (h : Lies w B A l) {p : Addr} (hB : B ≤ p.block) (u : Value) : Lies (w.setCell p u) B A l :=
  h.keep fun q hq => World.cell?_setCell_other w p q u (fun e => by subst e; omega)
theorem Lies.grown (h : Lies w B A l) {row : Option Nat} (hg : w.grownBy w' row) (hB : B ≤ w.heap.size) (hr : ∀ g, row = some g → B ≤ g) : Lies w' B A l :=
  h.keep fun p hp => World.cell?_of_block (hg.block p.block (by omega) (fun e => by have := hr _ e.symm; omega))
theorem Lies.take (h : Lies w B A l) (n : Nat) : Lies w B A (l.take n) := fun k x hx => by
  rw [List.getElem?_take] at hx
  split at hx
  · exact h k x hx
  · cases hx
theorem Lies.cut (h : Lies w B A l) {k cap : Nat} (hc : l.length ≤ cap) : Lies w B (if cap = k then A else A.map (·.add k)) (l.drop k) := fun j x hx => by
  rw [List.getElem?_drop] at hx
  obtain ⟨b, o, rfl, hb, hcell⟩ := h _ x hx
  have hlt : k + j < l.length := by
    rcases Nat.lt_or_ge (k + j) l.length with g | g
    · exact g
    · rw [List.getElem?_eq_none g] at hx; cases hx
  rw [if_neg (by omega)]
  refine ⟨b, o + k, ?_, hb, by rw [Nat.add_assoc]; exact hcell⟩
  show some (Addr.add _ _) = _
  unfold Addr.add
  split
  · rename_i e; subst e; rfl
  · rfl
theorem Lies.of_own {base : Nat} {n c : Nat} (h : w.ownsRow base 5 1 (.slice A n c) n (cells l)) : Lies w w.heap.size A l := fun k x hx => by
  have hk : (cells l)[k]? = some (bv x) := by simp [cells, hx]
  have hlt : k < l.length := by
    rcases Nat.lt_or_ge k l.length with g | g
    · exact g
    · rw [List.getElem?_eq_none g] at hx; cases hx
  have hn : 0 < n := by have := h.1; rw [cells_length] at this; omega
  rcases h.2 with ⟨hv, rfl⟩ | ⟨g, cap, cur, hv, hg, hh, _⟩
  · omega
  · injection hv with hA _ _
    subst hA
    have hc := h.cells (g := g) rfl k _ hk
    rw [Addr.add_lit, Nat.zero_add] at hc
    refine ⟨g, 0, rfl, ?_, by rw [Nat.zero_add]; exact hc⟩
    rcases Nat.lt_or_ge g w.heap.size with q | q
    · exact q
    · rw [Array.getElem?_eq_none q] at hh; cases hh
theorem Lies.at_ (h : Lies w B A l) {k : Nat} (hk : k < l.length) : ∃ b o, A = some ⟨b, o, none⟩ ∧ b < B ∧ w.cell? ⟨b, o + k, none⟩ = some (bv l[k]) :=
  h k _ (List.getElem?_eq_getElem hk)
end

/-- An owned row of bytes has its slice's shape. -/
theorem own_form {w : World} {base : Nat} {v : Value} {n : Nat} {l : List UInt8} (h : w.ownsRow base 5 1 v n (cells l)) :
    ∃ A c, v = .slice A n c ∧ l.length = n ∧ n ≤ c ∧ c ≤ maxLen ∧ Lies w w.heap.size A l ∧ (∀ g, v.ownBlock = some g → base ≤ g ∧ g < w.heap.size) := by
  have hlt := h.lt
  have hl : l.length = n := by have := h.1; rw [cells_length] at this; omega
  rcases h.2 with ⟨rfl, rfl⟩ | ⟨g, cap, cur, rfl, hg, hh, h1, h2, _⟩
  · exact ⟨none, 0, rfl, hl, Nat.le_refl _, Nat.zero_le _, Lies.of_own h, hlt⟩
  · exact ⟨_, cap, rfl, hl, h1, h2, Lies.of_own h, hlt⟩

end Go.Proofs.Ytkiombbdddbkfaa.Pk
