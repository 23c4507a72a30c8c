/-
  Slices of integers and of pairs of integers that came in as arguments. Conditions: they read as values.
-/
import Derived.Test.YtonmghmalnbbbaaMKit
import Derived.Deep.Slices
import Derived.Deep.Fields
import Derived.ChangeSame
import Derived.OpenShut
namespace Go.Proofs.Ytonmghmalnbbbaa.Mk
set_option linter.unusedVariables false
set_option linter.unusedSimpArgs false
open Go.RowKit

def iv : Option Value → Int
  | some (.int _ z) => z
  | _ => 0
theorem lt_of_cell {w : World} {b o : Nat} {v : Value} (h : w.cell? ⟨b, o, none⟩ = some v) : b < w.heap.size := by
  rcases Nat.lt_or_ge b w.heap.size with h1 | h1
  · exact h1
  · have : w.heap[b]? = none := Array.getElem?_eq_none h1
    simp [World.cell?, this] at h
theorem plain_addr {w : World} {ad : Addr} {v : Value} (h : w.cell? (ad.add 0) = some v) : ∃ b o, ad = ⟨b, o, none⟩ := by
  obtain ⟨b, o, sp⟩ := ad
  have hsp : sp = none := by simpa [Addr.add] using World.cell?_spot h
  exact ⟨b, o, by rw [hsp]⟩
theorem intsz_of {H : Type} {enc : TypeId × Value → H} {w : World} {base fuel : Nat} {held : Bool} {a : Option Addr} {len cap : Nat} {x : DataW H × List MemPlace}
    (h : DataW.trod enc Try.prog w base (fun _ => true) held fuel 30 [.slice a len cap] = some x) : ∃ T, IntsZ w (.slice a len cap) T := by
  rcases ChangeShapes.open_ints Try.underlying30 Try.underlying3 (by kernel_rfl) h with ⟨hcs, _⟩ | ⟨ad, l, c, zs, hcs, _, hl, hm, hz, _, hcell, hwz⟩
  · simp at hcs
    obtain ⟨rfl, rfl, rfl⟩ := hcs
    exact ⟨[], none, 0, rfl, Nat.le_refl _, Nat.zero_le _, Nat.zero_le _, fun h => absurd rfl h⟩
  · simp at hcs
    obtain ⟨rfl, rfl, rfl⟩ := hcs
    simp at hz
    by_cases h0 : len = 0
    · subst h0
      exact ⟨[], some ad, cap, rfl, hl, Nat.zero_le _, hm, fun h => absurd rfl h⟩
    · obtain ⟨b, o, rfl⟩ := plain_addr (hcell 0 (by omega))
      have hc : ∀ i, i < len → w.cell? ⟨b, o + i, none⟩ = some (.int .i64 (zs.getD i 0)) := fun i hi => by
        have := hcell i (by omega)
        rwa [Addr.add_lit] at this
      have hlen : ((List.range len).map fun i => zs.getD i 0).length = len := by simp
      refine ⟨(List.range len).map fun i => zs.getD i 0, some ⟨b, o, none⟩, cap, by rw [hlen], by rw [hlen]; exact hl, by rw [hlen]; omega, hm, fun _ => ⟨b, o, rfl, lt_of_cell (hc 0 (by omega)), fun i x hi j u hj => ?_⟩⟩
      have hil : i < len := by
        have := (List.getElem?_eq_some_iff.1 hi).1
        rwa [hlen] at this
      simp only [List.getElem?_map, List.getElem?_range hil, Option.map_some, Option.some.injEq] at hi
      subst hi
      match j, hj with
      | 0, hj =>
        simp only [List.getElem?_cons_zero, Option.some.injEq] at hj
        subst hj
        rw [Nat.mul_one, Nat.add_zero]
        exact hc i hil
      | j + 1, hj => simp at hj
theorem add_add (a : Addr) (i j : Nat) : (a.add i).add j = a.add (i + j) := by
  unfold Addr.add
  by_cases hi : i = 0 <;> by_cases hj : j = 0 <;> simp [hi, hj, Nat.add_assoc]
theorem pairsz_of {H : Type} {enc : TypeId × Value → H} {w : World} {base fuel : Nat} {held : Bool} {a : Option Addr} {len cap : Nat} {x : DataW H × List MemPlace}
    (h : DataW.trod enc Try.prog w base (fun _ => true) held fuel 32 [.slice a len cap] = some x) : ∃ T, PairsZ w (.slice a len cap) T := by
  have h2 : Try.prog.cellsOf 36 = 2 := by kernel_rfl
  have e3 : Try.prog.cellsOf 3 = 1 := by kernel_rfl
  rcases Go.Deep.open_slice Try.underlying32 h with ⟨hcs, _⟩ | ⟨ad, l, c, m, nf, D, Pl, hcs, _, hl, hm, hmm, hx, hi⟩
  · simp at hcs
    obtain ⟨rfl, rfl, rfl⟩ := hcs
    exact ⟨[], none, 0, rfl, Nat.le_refl _, Nat.zero_le _, Nat.zero_le _, fun h => absurd rfl h⟩
  · simp at hcs
    obtain ⟨rfl, rfl, rfl⟩ := hcs
    simp at hmm
    subst hmm
    by_cases h0 : len = 0
    · subst h0
      exact ⟨[], some ad, m, rfl, hl, Nat.zero_le _, hm, fun h => absurd rfl h⟩
    · have hall : ∀ i, i < len → ∃ z0 z1 : Int, w.cell? (ad.add (i * 2)) = some (.int .i64 z0) ∧ w.cell? (ad.add (i * 2 + 1)) = some (.int .i64 z1) := fun i hi' => by
        obtain ⟨cs, hc, ht⟩ := hi i (by omega)
        rw [h2] at hc
        obtain ⟨ys, n', _, hy, hlen, hyl, hf⟩ := DataW.trod_array Try.underlying36 ht
        obtain ⟨_, hcl, hat⟩ := World.cells?_some hc
        match cs, hcl, ys, hyl with
        | [v0, v1], _, [y0, y1], _ =>
          have f0 : DataW.trod enc Try.prog w base (fun _ => true) held n' 3 [v0] = some y0 := by have := hf 0 (by omega); simpa [e3] using this
          have f1 : DataW.trod enc Try.prog w base (fun _ => true) held n' 3 [v1] = some y1 := by have := hf 1 (by omega); simpa [e3] using this
          obtain ⟨z0, q0, -, -⟩ := DataW.trod_int Try.underlying3 f0
          obtain ⟨z1, q1, -, -⟩ := DataW.trod_int Try.underlying3 f1
          simp only [List.cons.injEq, and_true] at q0 q1
          subst q0 q1
          have c0 := hat 0 (by omega)
          have c1 := hat 1 (by omega)
          rw [add_add] at c0 c1
          exact ⟨z0, z1, by simpa using c0, by simpa using c1⟩
      obtain ⟨b, o, rfl⟩ : ∃ b o, ad = ⟨b, o, none⟩ := by
        obtain ⟨z0, z1, c0, -⟩ := hall 0 (by omega)
        exact plain_addr (by simpa using c0)
      have hc : ∀ i, i < len → w.cell? ⟨b, o + i * 2, none⟩ = some (.int .i64 (iv (w.cell? ⟨b, o + i * 2, none⟩))) ∧ w.cell? ⟨b, o + i * 2 + 1, none⟩ = some (.int .i64 (iv (w.cell? ⟨b, o + i * 2 + 1, none⟩))) := fun i hi' => by
        obtain ⟨z0, z1, c0, c1⟩ := hall i hi'
        rw [Addr.add_lit] at c0 c1
        rw [← Nat.add_assoc] at c1
        rw [c0, c1]
        exact ⟨rfl, rfl⟩
      have hlen : ((List.range len).map fun i => (iv (w.cell? ⟨b, o + i * 2, none⟩), iv (w.cell? ⟨b, o + i * 2 + 1, none⟩))).length = len := by simp
      refine ⟨(List.range len).map fun i => (iv (w.cell? ⟨b, o + i * 2, none⟩), iv (w.cell? ⟨b, o + i * 2 + 1, none⟩)), some ⟨b, o, none⟩, m, by rw [hlen], by rw [hlen]; exact hl, by rw [hlen]; omega, hm, fun _ => ⟨b, o, rfl, lt_of_cell (hc 0 (by omega)).1, fun i x hi j u hj => ?_⟩⟩
      have hil : i < len := by
        have := (List.getElem?_eq_some_iff.1 hi).1
        rwa [hlen] at this
      simp only [List.getElem?_map, List.getElem?_range hil, Option.map_some, Option.some.injEq] at hi
      subst hi
      obtain ⟨c0, c1⟩ := hc i hil
      match j, hj with
      | 0, hj =>
        simp only [List.getElem?_cons_zero, Option.some.injEq] at hj
        subst hj
        exact c0
      | 1, hj =>
        simp only [List.getElem?_cons_succ, List.getElem?_cons_zero, Option.some.injEq] at hj
        subst hj
        exact c1
      | j + 2, hj => simp at hj
end Go.Proofs.Ytonmghmalnbbbaa.Mk
