/-
  Records of what is kept, and slices of integers that came in as arguments. Conditions: they read as values.
-/
import Derived.Test.YtilakddhljbipaaAggFoldsWalk
import Derived.Deep.Slices
import Derived.Deep.Fields
import Derived.ChangeSame
import Derived.OpenShut
namespace Go.Proofs.Ytilakddhljbipaa.Ag
set_option linter.unusedVariables false
set_option linter.unusedSimpArgs false
open Go.RowKit
open Go.ChangeShapes

theorem i64_of {z : Int} (h : (Lit.int .i64 z).wf = true) : I64 z := by
  have := bounds_i64 h
  unfold I64
  omega
theorem lt_of_cell {w : World} {b o : Nat} {v : Value} (h : w.cell? ⟨b, o, none⟩ = some v) : b < w.heap.size := by
  rcases Nat.lt_or_ge b w.heap.size with h1 | h1
  · exact h1
  · have : w.heap[b]? = none := Array.getElem?_eq_none h1
    simp [World.cell?, this] at h
theorem plain_addr {w : World} {ad : Addr} {v : Value} (h : w.cell? (ad.add 0) = some v) : ∃ b o, ad = ⟨b, o, none⟩ := by
  obtain ⟨b, o, sp⟩ := ad
  have hsp : sp = none := by simpa [Addr.add] using World.cell?_spot h
  exact ⟨b, o, by rw [hsp]⟩
section
variable {H : Type} {enc : TypeId × Value → H} {w : World} {base : Nat} {held : Bool}
theorem acc_of {v : Value} {d : DataW H} {p : List MemPlace} (hv : ∃ cs, v = .agg cs ∧ cs.size = Try.prog.cellsOf 24) (h : DataW.Trod enc Try.prog w base (fun _ => true) held 24 v d p) : ∃ a : Ac, v = acV a := by
  obtain ⟨cs, rfl, hc⟩ := hv
  obtain ⟨n, hn⟩ := h
  have e2 : Try.prog.cellsOf 24 = 4 := by kernel_rfl
  rw [e2] at hc
  obtain ⟨a, b, c, d, rfl⟩ : ∃ a b c d, cs = #[a, b, c, d] := by
    obtain ⟨l⟩ := cs
    match l, hc with
    | [a, b, c, d], _ => exact ⟨a, b, c, d, rfl⟩
  change DataW.trod enc Try.prog w base (fun _ => true) held n 24 [a, b, c, d] = _ at hn
  obtain ⟨ys, n', _, hy, hlen, hyl, hf⟩ := DataW.trod_struct Try.underlying24 hn
  have e3 : Try.prog.cellsOf 3 = 1 := by kernel_rfl
  match ys, hyl with
  | [y0, y1, y2, y3], _ =>
    have f0 : DataW.trod enc Try.prog w base (fun _ => true) held n' 3 [a] = some y0 := by have := hf 0 _ rfl; simpa [e3] using this
    have f1 : DataW.trod enc Try.prog w base (fun _ => true) held n' 3 [b] = some y1 := by have := hf 1 _ rfl; simpa [e3] using this
    have f2 : DataW.trod enc Try.prog w base (fun _ => true) held n' 3 [c] = some y2 := by have := hf 2 _ rfl; simpa [e3] using this
    have f3 : DataW.trod enc Try.prog w base (fun _ => true) held n' 3 [d] = some y3 := by have := hf 3 _ rfl; simpa [e3] using this
    obtain ⟨z0, q0, -, -⟩ := DataW.trod_int Try.underlying3 f0
    obtain ⟨z1, q1, -, -⟩ := DataW.trod_int Try.underlying3 f1
    obtain ⟨z2, q2, -, -⟩ := DataW.trod_int Try.underlying3 f2
    obtain ⟨z3, q3, -, -⟩ := DataW.trod_int Try.underlying3 f3
    simp only [List.cons.injEq, and_true] at q0 q1 q2 q3
    subst q0 q1 q2 q3
    exact ⟨⟨z0, z1, z2, z3⟩, rfl⟩
theorem intsz_of {fuel : Nat} {a : Option Addr} {len cap : Nat} {x : DataW H × List MemPlace}
    (h : DataW.trod enc Try.prog w base (fun _ => true) held fuel 22 [.slice a len cap] = some x) : ∃ T, IntsB w (.slice a len cap) T := by
  rcases ChangeShapes.open_ints Try.underlying22 Try.underlying3 (by kernel_rfl) h with ⟨hcs, _⟩ | ⟨ad, l, c, zs, hcs, _, hl, hm, hz, _, hcell, hwz⟩
  · simp at hcs
    obtain ⟨rfl, rfl, rfl⟩ := hcs
    exact ⟨[], ⟨none, 0, rfl, Nat.le_refl _, Nat.zero_le _, Nat.zero_le _, fun h => absurd rfl h⟩, fun z hz => by cases hz⟩
  · simp at hcs
    obtain ⟨rfl, rfl, rfl⟩ := hcs
    simp at hz
    by_cases h0 : len = 0
    · subst h0
      exact ⟨[], ⟨some ad, cap, rfl, hl, Nat.zero_le _, hm, fun h => absurd rfl h⟩, fun z hz => by cases hz⟩
    · obtain ⟨b, o, rfl⟩ := plain_addr (hcell 0 (by omega))
      have hc : ∀ i, i < len → w.cell? ⟨b, o + i, none⟩ = some (.int .i64 (zs.getD i 0)) := fun i hi => by
        have := hcell i (by omega)
        rwa [Addr.add_lit] at this
      have hlen : ((List.range len).map fun i => zs.getD i 0).length = len := by simp
      have hI : ∀ i, I64 (zs.getD i 0) := fun i => by
        by_cases hi : i < zs.length
        · have e : zs.getD i 0 = zs[i] := by simp [List.getD, hi]
          rw [e]
          exact i64_of (hwz _ (List.getElem_mem hi))
        · have e : zs.getD i 0 = 0 := by simp [List.getD, List.getElem?_eq_none (show zs.length ≤ i by omega)]
          rw [e]
          unfold I64; omega
      have hall : ∀ z ∈ (List.range len).map fun i => zs.getD i 0, I64 z := fun z hz => by
        obtain ⟨i, -, rfl⟩ := List.mem_map.1 hz
        exact hI i
      refine ⟨(List.range len).map fun i => zs.getD i 0, ⟨some ⟨b, o, none⟩, cap, by rw [hlen], by rw [hlen]; exact hl, by rw [hlen]; omega, hm, fun _ => ⟨b, o, rfl, lt_of_cell (hc 0 (by omega)), fun i x hi j u hj => ?_⟩⟩, hall⟩
      have hil : i < len := by
        have := (List.getElem?_eq_some_iff.1 hi).1
        rwa [hlen] at this
      simp only [List.getElem?_map, List.getElem?_range hil, Option.map_some, Option.some.injEq] at hi
      subst hi
      match j, hj with
      | 0, hj =>
        simp only [List.getElem?_cons_zero, Option.some.injEq] at hj
        subst hj
        rw [Nat.mul_one, Nat.add_zero]
        exact hc i hil
      | j + 1, hj => simp at hj
end
end Go.Proofs.Ytilakddhljbipaa.Ag
