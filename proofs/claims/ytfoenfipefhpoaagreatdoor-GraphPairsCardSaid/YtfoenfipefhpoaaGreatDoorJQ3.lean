/-
  A plan that came in lies in memory. Conditions: it can be read.
-/
import Derived.Test.YtfoenfipefhpoaaGreatDoorJP1
import Derived.Test.YtfoenfipefhpoaaGreatDoorJE2
import Derived.Deep.Slices
import Derived.Deep.Fields
import Derived.ChangeSame
import Derived.OpenShut
import Derived.ProofKit
set_option linter.unusedVariables false
set_option linter.unusedSimpArgs false
namespace Go.Proofs.YtfoenfipefhpoaaGreatDoor.Pl
open Go.RowKit Go.Proofs.YtfoenfipefhpoaaGreatDoor.Ex

theorem list_of {α : Type} {P : Nat → α → Prop} : ∀ n, (∀ i, i < n → ∃ x, P i x) → ∃ L : List α, L.length = n ∧ ∀ i x, L[i]? = some x → P i x
  | 0, _ => ⟨[], rfl, fun i x h => by simp at h⟩
  | n + 1, h => by
    obtain ⟨L, hl, hL⟩ := list_of n (fun i hi => h i (by omega))
    obtain ⟨x, hx⟩ := h n (by omega)
    refine ⟨L ++ [x], by simp [hl], fun i y hy => ?_⟩
    rcases Nat.lt_or_ge i n with hi | hi
    · rw [List.getElem?_append_left (by omega)] at hy
      exact hL i y hy
    · rw [List.getElem?_append_right (by omega)] at hy
      have hi2 : i = n := by
        rcases Nat.eq_or_lt_of_le hi with h | h
        · exact h.symm
        · rw [List.getElem?_eq_none (by simp; omega)] at hy; cases hy
      subst hi2
      rw [hl, Nat.sub_self] at hy
      simp at hy
      subst hy
      exact hx
section
variable {H : Type} {enc : TypeId × Value → H} {w : World} {base : Nat} {held : Bool}
abbrev Rd (enc : TypeId × Value → H) (w : World) (base : Nat) (held : Bool) (fuel : Nat) (t : TypeId) (cs : List Value) (x : DataW H × List MemPlace) : Prop := DataW.trod enc Tryz.prog w base (fun _ => true) held fuel t cs = some x
theorem lst_open {α : Type} {t e k : Nat} {C : α → List Value} {Q : α → Prop} (hu : Tryz.prog.underlying t = some (.slice e)) (hk : Tryz.prog.cellsOf e = k) (hk0 : 0 < k)
    (hE : ∀ n cs y, Rd enc w base held n e cs y → cs.length = k → ∃ x, cs = C x ∧ Q x) {fuel : Nat} {cs : List Value} {x : DataW H × List MemPlace} (h : Rd enc w base held fuel t cs x) : ∃ v L, cs = [v] ∧ Lst k C w v L ∧ ∀ x ∈ L, Q x := by
  rcases Go.Deep.open_slice hu h with ⟨hcs, _⟩ | ⟨ad, l, c, m, nf, D, Pl, hcs, _, hl, hm, hmm, hx, hi⟩
  · exact ⟨_, [], hcs, ⟨none, 0, rfl, Nat.le_refl _, Nat.zero_le _, Nat.zero_le _, fun h => absurd rfl h⟩, fun x hx => by cases hx⟩
  · simp at hmm
    subst hmm
    have hsp0 : 0 < l → ad.spot = none := fun h0l => by
      obtain ⟨cs', hc, ht⟩ := hi 0 (by omega)
      rw [hk] at hc
      obtain ⟨_, hcl, hat⟩ := World.cells?_some hc
      have h0 := hat 0 hk0
      rw [List.getElem?_eq_getElem (by omega)] at h0
      simpa [Addr.add] using World.cell?_spot h0
    have hall : ∀ i, i < l → ∃ x : α, (∀ j u, (C x)[j]? = some u → w.cell? ⟨ad.block, ad.off + i * k + j, none⟩ = some u) ∧ ad.spot = none ∧ ad.block < w.heap.size ∧ Q x := fun i hil => by
      obtain ⟨cs', hc, ht⟩ := hi i (by omega)
      rw [hk] at hc
      obtain ⟨_, hcl, hat⟩ := World.cells?_some hc
      obtain ⟨x, hx1, hx2⟩ := hE _ _ _ ht hcl
      have h0 := hat 0 hk0
      rw [List.getElem?_eq_getElem (by omega)] at h0
      obtain ⟨b, o, sp⟩ := ad
      have hsp : sp = none := hsp0 (by omega)
      subst hsp
      rw [Addr.add_lit, Addr.add_lit] at h0
      refine ⟨x, fun j u hj => ?_, rfl, ?_, hx2⟩
      · have hjk : j < k := by
          rw [← hcl, hx1]
          exact (List.getElem?_eq_some_iff.1 hj).1
        have hc2 := hat j hjk
        rw [hx1, hj] at hc2
        rw [Addr.add_lit, Addr.add_lit] at hc2
        exact hc2
      · have := World.block_lt_of_cell? w ⟨b, o + i * k + 0, none⟩ h0
        exact this
    obtain ⟨L, hLl, hL⟩ := list_of l hall
    refine ⟨_, L, hcs, ⟨some ad, _, by rw [hLl], by omega, by omega, hm, fun hne => ?_⟩, fun x hx => ?_⟩
    · obtain ⟨x0, L', rfl⟩ := List.exists_cons_of_ne_nil hne
      obtain ⟨_, hsp, hlt, _⟩ := hL 0 x0 rfl
      obtain ⟨b, o, sp⟩ := ad
      simp only at hsp
      subst hsp
      exact ⟨b, o, rfl, hlt, fun i x hix j u hj => (hL i x hix).1 j u hj⟩
    · obtain ⟨i, hi', hix⟩ := List.getElem_of_mem hx
      exact (hL i x (by rw [← hix]; exact List.getElem?_eq_getElem hi')).2.2.2
theorem c3 : Tryz.prog.cellsOf 3 = 1 := by kernel_rfl
theorem c9 : Tryz.prog.cellsOf 9 = 1 := by kernel_rfl
theorem c39 : Tryz.prog.cellsOf 47 = 1 := by kernel_rfl
theorem c41 : Tryz.prog.cellsOf 49 = 3 := by kernel_rfl
theorem rd_int {n : Nat} {v : Value} {y : DataW H × List MemPlace} (h : Rd enc w base held n 3 [v] y) : ∃ i, v = .int .i64 i := by
  obtain ⟨i, q, -⟩ := DataW.trod_int Tryz.underlying3 h
  exact ⟨i, by simpa using q⟩
theorem rd_str {n : Nat} {v : Value} {y : DataW H × List MemPlace} (h : Rd enc w base held n 9 [v] y) : ∃ l : Bs, v = sv l ∧ l.length ≤ maxLen := by
  obtain ⟨s, q, -, ws⟩ := DataW.trod_string Tryz.underlying9 h
  exact ⟨s.data.toList, by simpa using q, by simpa using ws⟩
set_option maxRecDepth 100000 in
theorem open_top {n : Nat} {cs : List Value} {y : DataW H × List MemPlace} (h : Rd enc w base held n 53 cs y) (hl : cs.length = 2) : ∃ t : Top, cs = topC t ∧ True := by
  obtain ⟨ys, n', _, hy, hlen, hyl, hf⟩ := DataW.trod_struct Tryz.underlying53 h
  match cs, hl, ys, hyl with
  | [v0, v1], _, [y0, y1], _ =>
    have f0 : Rd enc w base held n' 9 [v0] y0 := by have := hf 0 _ rfl; simpa [c9] using this
    have f1 : Rd enc w base held n' 3 [v1] y1 := by have := hf 1 _ rfl; simpa [c3] using this
    obtain ⟨nm, rfl, _⟩ := rd_str f0
    obtain ⟨pa, rfl⟩ := rd_int f1
    exact ⟨⟨nm, pa⟩, rfl, trivial⟩
set_option maxRecDepth 100000 in
theorem open_stp {n : Nat} {cs : List Value} {y : DataW H × List MemPlace} (h : Rd enc w base held n 72 cs y) (hl : cs.length = 3) : ∃ t : Stp, cs = stpC t ∧ t.text.length ≤ maxLen := by
  obtain ⟨ys, n', _, hy, hlen, hyl, hf⟩ := DataW.trod_struct Tryz.underlying72 h
  match cs, hl, ys, hyl with
  | [v0, v1, v2], _, [y0, y1, y2], _ =>
    have f0 : Rd enc w base held n' 3 [v0] y0 := by have := hf 0 _ rfl; simpa [c3] using this
    have f1 : Rd enc w base held n' 9 [v1] y1 := by have := hf 1 _ rfl; simpa [c9] using this
    have f2 : Rd enc w base held n' 3 [v2] y2 := by have := hf 2 _ rfl; simpa [c3] using this
    obtain ⟨k, rfl⟩ := rd_int f0
    obtain ⟨tx, rfl, hx⟩ := rd_str f1
    obtain ⟨m, rfl⟩ := rd_int f2
    exact ⟨⟨k, tx, m⟩, rfl, hx⟩
theorem open_stps {n : Nat} {cs : List Value} {y : DataW H × List MemPlace} (h : Rd enc w base held n 47 cs y) : ∃ v L, cs = [v] ∧ StpsAt w v L :=
  have ⟨v, L, h1, h2, h3⟩ := lst_open (C := stpC) (Q := fun t : Stp => t.text.length ≤ maxLen) Tryz.underlying47 (show Tryz.prog.cellsOf 72 = 3 by kernel_rfl) (by decide) (fun _ _ _ => open_stp) h
  ⟨v, L, h1, h2, h3⟩
set_option maxRecDepth 100000 in
theorem open_flw {n : Nat} {cs : List Value} {y : DataW H × List MemPlace} (h : Rd enc w base held n 51 cs y) (hl : cs.length = 12) : ∃ q : FE, cs = flwC q ∧ FEok w q := by
  obtain ⟨ys, n', _, hy, hlen, hyl, hf⟩ := DataW.trod_struct Tryz.underlying51 h
  match cs, hl, ys, hyl with
  | [v0, v1, v2, v3, v4, v5, v6, v7, v8, v9, v10, v11], _, [y0, y1, y2, y3, y4, y5, y6, y7, y8, y9], _ =>
    have f0 : Rd enc w base held n' 9 [v0] y0 := by have := hf 0 _ rfl; simpa [c9] using this
    have f1 : Rd enc w base held n' 9 [v1] y1 := by have := hf 1 _ rfl; simpa [c9] using this
    have f2 : Rd enc w base held n' 9 [v2] y2 := by have := hf 2 _ rfl; simpa [c9] using this
    have f3 : Rd enc w base held n' 3 [v3] y3 := by have := hf 3 _ rfl; simpa [c3] using this
    have f4 : Rd enc w base held n' 3 [v4] y4 := by have := hf 4 _ rfl; simpa [c3] using this
    have f5 : Rd enc w base held n' 3 [v5] y5 := by have := hf 5 _ rfl; simpa [c3] using this
    have f6 : Rd enc w base held n' 47 [v6] y6 := by have := hf 6 _ rfl; simpa [c39] using this
    have f7 : Rd enc w base held n' 49 [v7, v8, v9] y7 := by have := hf 7 _ rfl; simpa [c41] using this
    have f8 : Rd enc w base held n' 3 [v10] y8 := by have := hf 8 _ rfl; simpa [c3] using this
    have f9 : Rd enc w base held n' 47 [v11] y9 := by have := hf 9 _ rfl; simpa [c39] using this
    obtain ⟨zs, n2, _, hz, hzl, hzn, hg⟩ := DataW.trod_struct Tryz.underlying49 f7
    match zs, hzn with
    | [z0, z1, z2], _ =>
      have g0 : Rd enc w base held n2 3 [v7] z0 := by have := hg 0 _ rfl; simpa [c3] using this
      have g1 : Rd enc w base held n2 3 [v8] z1 := by have := hg 1 _ rfl; simpa [c3] using this
      have g2 : Rd enc w base held n2 3 [v9] z2 := by have := hg 2 _ rfl; simpa [c3] using this
      obtain ⟨a0, rfl, _⟩ := rd_str f0
      obtain ⟨a1, rfl, _⟩ := rd_str f1
      obtain ⟨a2, rfl, _⟩ := rd_str f2
      obtain ⟨a3, rfl⟩ := rd_int f3
      obtain ⟨a4, rfl⟩ := rd_int f4
      obtain ⟨a5, rfl⟩ := rd_int f5
      obtain ⟨p1, L1, e1, h1⟩ := open_stps f6
      obtain ⟨a7, rfl⟩ := rd_int g0
      obtain ⟨a8, rfl⟩ := rd_int g1
      obtain ⟨a9, rfl⟩ := rd_int g2
      obtain ⟨a10, rfl⟩ := rd_int f8
      obtain ⟨p2, L2, e2, h2⟩ := open_stps f9
      simp only [List.cons.injEq, and_true] at e1 e2
      subst e1 e2
      exact ⟨⟨⟨a0, a1, a2, a3, a4, a5, L1, ⟨a7, a8, a9⟩, a10, L2⟩, v6, v11⟩, rfl, h1, h2⟩
set_option maxRecDepth 100000 in
/-- A plan that came in. -/
theorem plan_open {v : Value} {d : DataW H} {p : List MemPlace} (hv : ∃ cs, v = .agg cs ∧ cs.size = 2) (h : DataW.Trod enc Tryz.prog w base (fun _ => true) held 25 v d p) : ∃ P, PlnAt w v P := by
  obtain ⟨cs, rfl, hc⟩ := hv
  obtain ⟨n, hn⟩ := h
  obtain ⟨vt, vf, rfl⟩ : ∃ a b, cs = #[a, b] := by
    obtain ⟨l⟩ := cs
    match l, hc with
    | [a, b], _ => exact ⟨a, b, rfl⟩
  change Rd enc w base held n 25 [vt, vf] _ at hn
  obtain ⟨ys, n', _, hy, hlen, hyl, hf⟩ := DataW.trod_struct Tryz.underlying25 hn
  have hlen2 : Tryz.prog.cellsOf 25 = 2 := by kernel_rfl
  match ys, hyl with
  | [y0, y1], _ =>
    have ct : Tryz.prog.cellsOf 22 = 1 := by kernel_rfl
    have cf : Tryz.prog.cellsOf 23 = 1 := by kernel_rfl
    have g0 : Rd enc w base held n' 22 [vt] y0 := by have := hf 0 _ rfl; simpa [ct] using this
    have g1 : Rd enc w base held n' 23 [vf] y1 := by have := hf 1 _ rfl; simpa [cf] using this
    obtain ⟨v1, L, e1, h1, _⟩ := lst_open (C := topC) (Q := fun _ : Top => True) Tryz.underlying22 (show Tryz.prog.cellsOf 53 = 2 by kernel_rfl) (by decide) (fun _ _ _ => open_top) g0
    obtain ⟨v2, es, e2, h2, h3⟩ := lst_open (C := flwC) (Q := FEok w) Tryz.underlying23 (show Tryz.prog.cellsOf 51 = 12 by kernel_rfl) (by decide) (fun _ _ _ => open_flw) g1
    simp only [List.cons.injEq, and_true] at e1 e2
    subst e1 e2
    exact ⟨⟨L, es.map FE.f⟩, vt, vf, es, rfl, h1, ⟨h2, h3⟩, rfl⟩
end
end Go.Proofs.YtfoenfipefhpoaaGreatDoor.Pl
