/-
  Windows, spans, slices of spans and of integers that came in as arguments. Conditions: they read as values.
-/
import Derived.Test.YtfkdkcdknpjoeaaWSmall
import Derived.Deep.Slices
import Derived.Deep.Fields
import Derived.ChangeSame
import Derived.OpenShut
namespace Go.Proofs.Ytfkdkcdknpjoeaa.Wi
set_option linter.unusedVariables false
set_option linter.unusedSimpArgs false
open Go.RowKit
open Go.ChangeShapes

theorem i64_of {z : Int} (h : (Lit.int .i64 z).wf = true) : I64 z := by
  have := bounds_i64 h
  unfold I64
  omega
theorem lt_of_cell {w : World} {b o : Nat} {v : Value} (h : w.cell? ⟨b, o, none⟩ = some v) : b < w.heap.size := by
  rcases Nat.lt_or_ge b w.heap.size with h1 | h1
  · exact h1
  · have : w.heap[b]? = none := Array.getElem?_eq_none h1
    simp [World.cell?, this] at h
theorem plain_addr {w : World} {ad : Addr} {v : Value} (h : w.cell? (ad.add 0) = some v) : ∃ b o, ad = ⟨b, o, none⟩ := by
  obtain ⟨b, o, sp⟩ := ad
  have hsp : sp = none := by simpa [Addr.add] using World.cell?_spot h
  exact ⟨b, o, by rw [hsp]⟩
theorem add_add (a : Addr) (i j : Nat) : (a.add i).add j = a.add (i + j) := by
  unfold Addr.add
  by_cases hi : i = 0 <;> by_cases hj : j = 0 <;> simp [hi, hj, Nat.add_assoc]
section
variable {H : Type} {enc : TypeId × Value → H} {w : World} {base : Nat} {held : Bool}
theorem two_of {n : Nat} {v0 v1 : Value} {x : DataW H × List MemPlace} (h : DataW.trod enc Try.prog w base (fun _ => true) held n 34 [v0, v1] = some x) : ∃ z0 z1 : Int, v0 = .int .i64 z0 ∧ v1 = .int .i64 z1 := by
  obtain ⟨ys, n', _, hy, hlen, hyl, hf⟩ := DataW.trod_struct Try.underlying34 h
  have e3 : Try.prog.cellsOf 3 = 1 := by kernel_rfl
  match ys, hyl with
  | [y0, y1], _ =>
    have f0 : DataW.trod enc Try.prog w base (fun _ => true) held n' 3 [v0] = some y0 := by have := hf 0 _ rfl; simpa [e3] using this
    have f1 : DataW.trod enc Try.prog w base (fun _ => true) held n' 3 [v1] = some y1 := by have := hf 1 _ rfl; simpa [e3] using this
    obtain ⟨z0, q0, -, -⟩ := DataW.trod_int Try.underlying3 f0
    obtain ⟨z1, q1, -, -⟩ := DataW.trod_int Try.underlying3 f1
    simp only [List.cons.injEq, and_true] at q0 q1
    exact ⟨z0, z1, q0, q1⟩
theorem span_of {v : Value} {d : DataW H} {p : List MemPlace} (hv : ∃ cs, v = .agg cs ∧ cs.size = Try.prog.cellsOf 34) (h : DataW.Trod enc Try.prog w base (fun _ => true) held 34 v d p) : ∃ s : Sp, v = spV s := by
  obtain ⟨cs, rfl, hc⟩ := hv
  obtain ⟨n, hn⟩ := h
  have e2 : Try.prog.cellsOf 34 = 2 := by kernel_rfl
  rw [e2] at hc
  obtain ⟨a, b, rfl⟩ : ∃ a b, cs = #[a, b] := by
    obtain ⟨l⟩ := cs
    match l, hc with
    | [a, b], _ => exact ⟨a, b, rfl⟩
  obtain ⟨z0, z1, rfl, rfl⟩ := two_of (v0 := a) (v1 := b) hn
  exact ⟨(z0, z1), rfl⟩
theorem win_of {v : Value} {d : DataW H} {p : List MemPlace} (hv : ∃ cs, v = .agg cs ∧ cs.size = Try.prog.cellsOf 23) (h : DataW.Trod enc Try.prog w base (fun _ => true) held 23 v d p) : ∃ k s l : Int, v = wnV k s l := by
  obtain ⟨cs, rfl, hc⟩ := hv
  obtain ⟨n, hn⟩ := h
  have e2 : Try.prog.cellsOf 23 = 3 := by kernel_rfl
  rw [e2] at hc
  obtain ⟨a, b, c, rfl⟩ : ∃ a b c, cs = #[a, b, c] := by
    obtain ⟨l⟩ := cs
    match l, hc with
    | [a, b, c], _ => exact ⟨a, b, c, rfl⟩
  change DataW.trod enc Try.prog w base (fun _ => true) held n 23 [a, b, c] = _ at hn
  obtain ⟨ys, n', _, hy, hlen, hyl, hf⟩ := DataW.trod_struct Try.underlying23 hn
  have e3 : Try.prog.cellsOf 3 = 1 := by kernel_rfl
  match ys, hyl with
  | [y0, y1, y2], _ =>
    have f0 : DataW.trod enc Try.prog w base (fun _ => true) held n' 3 [a] = some y0 := by have := hf 0 _ rfl; simpa [e3] using this
    have f1 : DataW.trod enc Try.prog w base (fun _ => true) held n' 3 [b] = some y1 := by have := hf 1 _ rfl; simpa [e3] using this
    have f2 : DataW.trod enc Try.prog w base (fun _ => true) held n' 3 [c] = some y2 := by have := hf 2 _ rfl; simpa [e3] using this
    obtain ⟨z0, q0, -, -⟩ := DataW.trod_int Try.underlying3 f0
    obtain ⟨z1, q1, -, -⟩ := DataW.trod_int Try.underlying3 f1
    obtain ⟨z2, q2, -, -⟩ := DataW.trod_int Try.underlying3 f2
    simp only [List.cons.injEq, and_true] at q0 q1 q2
    subst q0 q1 q2
    exact ⟨z0, z1, z2, rfl⟩
def iv : Option Value → Int
  | some (.int _ z) => z
  | _ => 0
theorem spans_of {fuel : Nat} {a : Option Addr} {len cap : Nat} {x : DataW H × List MemPlace}
    (h : DataW.trod enc Try.prog w base (fun _ => true) held fuel 24 [.slice a len cap] = some x) : ∃ T, SpansAt w (.slice a len cap) T := by
  have h2 : Try.prog.cellsOf 34 = 2 := by kernel_rfl
  rcases Go.Deep.open_slice Try.underlying24 h with ⟨hcs, _⟩ | ⟨ad, l, c, m, nf, D, Pl, hcs, _, hl, hm, hmm, hx, hi⟩
  · simp at hcs
    obtain ⟨rfl, rfl, rfl⟩ := hcs
    exact ⟨[], none, 0, rfl, Nat.le_refl _, Nat.zero_le _, Nat.zero_le _, fun h => absurd rfl h⟩
  · simp at hcs
    obtain ⟨rfl, rfl, rfl⟩ := hcs
    simp at hmm
    subst hmm
    by_cases h0 : len = 0
    · subst h0
      exact ⟨[], some ad, m, rfl, hl, Nat.zero_le _, hm, fun h => absurd rfl h⟩
    · have hall : ∀ i, i < len → ∃ z0 z1 : Int, w.cell? (ad.add (i * 2)) = some (.int .i64 z0) ∧ w.cell? (ad.add (i * 2 + 1)) = some (.int .i64 z1) := fun i hi' => by
        obtain ⟨cs, hc, ht⟩ := hi i (by omega)
        rw [h2] at hc
        obtain ⟨_, hcl, hat⟩ := World.cells?_some hc
        match cs, hcl with
        | [v0, v1], _ =>
          obtain ⟨z0, z1, rfl, rfl⟩ := two_of ht
          have c0 := hat 0 (by omega)
          have c1 := hat 1 (by omega)
          rw [add_add] at c0 c1
          exact ⟨z0, z1, by simpa using c0, by simpa using c1⟩
      obtain ⟨b, o, rfl⟩ : ∃ b o, ad = ⟨b, o, none⟩ := by
        obtain ⟨z0, z1, c0, -⟩ := hall 0 (by omega)
        exact plain_addr (by simpa using c0)
      have hc : ∀ i, i < len → w.cell? ⟨b, o + i * 2, none⟩ = some (.int .i64 (iv (w.cell? ⟨b, o + i * 2, none⟩))) ∧ w.cell? ⟨b, o + i * 2 + 1, none⟩ = some (.int .i64 (iv (w.cell? ⟨b, o + i * 2 + 1, none⟩))) := fun i hi' => by
        obtain ⟨z0, z1, c0, c1⟩ := hall i hi'
        rw [Addr.add_lit] at c0 c1
        rw [← Nat.add_assoc] at c1
        rw [c0, c1]
        exact ⟨rfl, rfl⟩
      have hlen : ((List.range len).map fun i => (iv (w.cell? ⟨b, o + i * 2, none⟩), iv (w.cell? ⟨b, o + i * 2 + 1, none⟩))).length = len := by simp
      refine ⟨(List.range len).map fun i => (iv (w.cell? ⟨b, o + i * 2, none⟩), iv (w.cell? ⟨b, o + i * 2 + 1, none⟩)), some ⟨b, o, none⟩, m, by rw [hlen], by rw [hlen]; exact hl, by rw [hlen]; omega, hm, fun _ => ⟨b, o, rfl, lt_of_cell (hc 0 (by omega)).1, fun i x hi j u hj => ?_⟩⟩
      have hil : i < len := by
        have := (List.getElem?_eq_some_iff.1 hi).1
        rwa [hlen] at this
      simp only [List.getElem?_map, List.getElem?_range hil, Option.map_some, Option.some.injEq] at hi
      subst hi
      obtain ⟨c0, c1⟩ := hc i hil
      match j, hj with
      | 0, hj =>
        simp only [spC, List.getElem?_cons_zero, Option.some.injEq] at hj
        subst hj
        exact c0
      | 1, hj =>
        simp only [spC, List.getElem?_cons_succ, List.getElem?_cons_zero, Option.some.injEq] at hj
        subst hj
        exact c1
      | j + 2, hj => simp [spC] at hj
theorem intsz_of {fuel : Nat} {a : Option Addr} {len cap : Nat} {x : DataW H × List MemPlace}
    (h : DataW.trod enc Try.prog w base (fun _ => true) held fuel 42 [.slice a len cap] = some x) : ∃ T, IntsZ w (.slice a len cap) T := by
  rcases ChangeShapes.open_ints Try.underlying42 Try.underlying3 (by kernel_rfl) h with ⟨hcs, _⟩ | ⟨ad, l, c, zs, hcs, _, hl, hm, hz, _, hcell, hwz⟩
  · simp at hcs
    obtain ⟨rfl, rfl, rfl⟩ := hcs
    exact ⟨[], none, 0, rfl, Nat.le_refl _, Nat.zero_le _, Nat.zero_le _, fun h => absurd rfl h⟩
  · simp at hcs
    obtain ⟨rfl, rfl, rfl⟩ := hcs
    simp at hz
    by_cases h0 : len = 0
    · subst h0
      exact ⟨[], some ad, cap, rfl, hl, Nat.zero_le _, hm, fun h => absurd rfl h⟩
    · obtain ⟨b, o, rfl⟩ := plain_addr (hcell 0 (by omega))
      have hc : ∀ i, i < len → w.cell? ⟨b, o + i, none⟩ = some (.int .i64 (zs.getD i 0)) := fun i hi => by
        have := hcell i (by omega)
        rwa [Addr.add_lit] at this
      have hlen : ((List.range len).map fun i => zs.getD i 0).length = len := by simp
      refine ⟨(List.range len).map fun i => zs.getD i 0, some ⟨b, o, none⟩, cap, by rw [hlen], by rw [hlen]; exact hl, by rw [hlen]; omega, hm, fun _ => ⟨b, o, rfl, lt_of_cell (hc 0 (by omega)), fun i x hi j u hj => ?_⟩⟩
      have hil : i < len := by
        have := (List.getElem?_eq_some_iff.1 hi).1
        rwa [hlen] at this
      simp only [List.getElem?_map, List.getElem?_range hil, Option.map_some, Option.some.injEq] at hi
      subst hi
      match j, hj with
      | 0, hj =>
        simp only [List.getElem?_cons_zero, Option.some.injEq] at hj
        subst hj
        rw [Nat.mul_one, Nat.add_zero]
        exact hc i hil
      | j + 1, hj => simp at hj
end
end Go.Proofs.Ytfkdkcdknpjoeaa.Wi
