/-
  Windows, records, scripts, slices of bytes that came in as arguments. Conditions: they read as values.
-/
import Derived.Test.YtlmnkmfpdjkijaaKSmall
import Derived.Deep.Slices
import Derived.Deep.Fields
import Derived.ChangeSame
import Derived.OpenShut
namespace Go.Proofs.Ytlmnkmfpdjkijaa.Ke
set_option linter.unusedVariables false
set_option linter.unusedSimpArgs false
open Go.RowKit
open Go.ChangeShapes

theorem i64_of {z : Int} (h : (Lit.int .i64 z).wf = true) : I64 z := by
  have := bounds_i64 h
  unfold I64
  omega
theorem lt_of_cell {w : World} {b o : Nat} {v : Value} (h : w.cell? ⟨b, o, none⟩ = some v) : b < w.heap.size := by
  rcases Nat.lt_or_ge b w.heap.size with h1 | h1
  · exact h1
  · have : w.heap[b]? = none := Array.getElem?_eq_none h1
    simp [World.cell?, this] at h
theorem plain_addr {w : World} {ad : Addr} {v : Value} (h : w.cell? (ad.add 0) = some v) : ∃ b o, ad = ⟨b, o, none⟩ := by
  obtain ⟨b, o, sp⟩ := ad
  have hsp : sp = none := by simpa [Addr.add] using World.cell?_spot h
  exact ⟨b, o, by rw [hsp]⟩
theorem add_add (a : Addr) (i j : Nat) : (a.add i).add j = a.add (i + j) := by
  unfold Addr.add
  by_cases hi : i = 0 <;> by_cases hj : j = 0 <;> simp [hi, hj, Nat.add_assoc]
theorem ky_of (s : ByteArray) : (⟨s.toList.toArray⟩ : ByteArray) = s := by
  rw [ByteArray.toList_eq]
section
variable {H : Type} {enc : TypeId × Value → H} {w : World} {base : Nat} {held : Bool}
theorem win_of {v : Value} {d : DataW H} {p : List MemPlace} (hv : ∃ cs, v = .agg cs ∧ cs.size = Try.prog.cellsOf 23) (h : DataW.Trod enc Try.prog w base (fun _ => true) held 23 v d p) : ∃ k s l : Int, v = winV k s l := by
  obtain ⟨cs, rfl, hc⟩ := hv
  obtain ⟨n, hn⟩ := h
  have e2 : Try.prog.cellsOf 23 = 3 := by kernel_rfl
  rw [e2] at hc
  obtain ⟨a, b, c, rfl⟩ : ∃ a b c, cs = #[a, b, c] := by
    obtain ⟨l⟩ := cs
    match l, hc with
    | [a, b, c], _ => exact ⟨a, b, c, rfl⟩
  change DataW.trod enc Try.prog w base (fun _ => true) held n 23 [a, b, c] = _ at hn
  obtain ⟨ys, n', _, hy, hlen, hyl, hf⟩ := DataW.trod_struct Try.underlying23 hn
  have e3 : Try.prog.cellsOf 3 = 1 := by kernel_rfl
  match ys, hyl with
  | [y0, y1, y2], _ =>
    have f0 : DataW.trod enc Try.prog w base (fun _ => true) held n' 3 [a] = some y0 := by have := hf 0 _ rfl; simpa [e3] using this
    have f1 : DataW.trod enc Try.prog w base (fun _ => true) held n' 3 [b] = some y1 := by have := hf 1 _ rfl; simpa [e3] using this
    have f2 : DataW.trod enc Try.prog w base (fun _ => true) held n' 3 [c] = some y2 := by have := hf 2 _ rfl; simpa [e3] using this
    obtain ⟨z0, q0, -, -⟩ := DataW.trod_int Try.underlying3 f0
    obtain ⟨z1, q1, -, -⟩ := DataW.trod_int Try.underlying3 f1
    obtain ⟨z2, q2, -, -⟩ := DataW.trod_int Try.underlying3 f2
    simp only [List.cons.injEq, and_true] at q0 q1 q2
    subst q0 q1 q2
    exact ⟨z0, z1, z2, rfl⟩
theorem rc3_of {n : Nat} {a b c : Value} {x : DataW H × List MemPlace} (hn : DataW.trod enc Try.prog w base (fun _ => true) held n 32 [a, b, c] = some x) : ∃ (s : ByteArray) (t v : Int), a = .string s ∧ b = .int .i64 t ∧ c = .int .i64 v ∧ s.size ≤ maxLen ∧ I64 t ∧ I64 v := by
  obtain ⟨ys, n', _, hy, hlen, hyl, hf⟩ := DataW.trod_struct Try.underlying32 hn
  have e3 : Try.prog.cellsOf 3 = 1 := by kernel_rfl
  have e9 : Try.prog.cellsOf 9 = 1 := by kernel_rfl
  match ys, hyl with
  | [y0, y1, y2], _ =>
    have f0 : DataW.trod enc Try.prog w base (fun _ => true) held n' 9 [a] = some y0 := by have := hf 0 _ rfl; simpa [e9] using this
    have f1 : DataW.trod enc Try.prog w base (fun _ => true) held n' 3 [b] = some y1 := by have := hf 1 _ rfl; simpa [e3] using this
    have f2 : DataW.trod enc Try.prog w base (fun _ => true) held n' 3 [c] = some y2 := by have := hf 2 _ rfl; simpa [e3] using this
    obtain ⟨s, q0, -, w0⟩ := DataW.trod_string Try.underlying9 f0
    obtain ⟨z1, q1, -, w1⟩ := DataW.trod_int Try.underlying3 f1
    obtain ⟨z2, q2, -, w2⟩ := DataW.trod_int Try.underlying3 f2
    simp only [List.cons.injEq, and_true] at q0 q1 q2
    subst q0 q1 q2
    exact ⟨s, z1, z2, rfl, rfl, rfl, w0, i64_of w1, i64_of w2⟩
theorem rec_of {v : Value} {d : DataW H} {p : List MemPlace} (hv : ∃ cs, v = .agg cs ∧ cs.size = Try.prog.cellsOf 32) (h : DataW.Trod enc Try.prog w base (fun _ => true) held 32 v d p) : ∃ r : Rc, v = rcV r := by
  obtain ⟨cs, rfl, hc⟩ := hv
  obtain ⟨n, hn⟩ := h
  have e2 : Try.prog.cellsOf 32 = 3 := by kernel_rfl
  rw [e2] at hc
  obtain ⟨a, b, c, rfl⟩ : ∃ a b c, cs = #[a, b, c] := by
    obtain ⟨l⟩ := cs
    match l, hc with
    | [a, b, c], _ => exact ⟨a, b, c, rfl⟩
  change DataW.trod enc Try.prog w base (fun _ => true) held n 32 [a, b, c] = _ at hn
  obtain ⟨s, t, v, rfl, rfl, rfl, -⟩ := rc3_of hn
  exact ⟨⟨s.toList, t, v⟩, by unfold rcV kyV; rw [ky_of]⟩
def iv : Option Value → Int
  | some (.int _ z) => z
  | _ => 0
def sv : Option Value → Ky
  | some (.string s) => s.toList
  | _ => []
def vv : Option Value → Value
  | some v => v
  | _ => .slice none 0 0
def obOf (w : World) (b o : Nat) : Ob := ⟨iv (w.cell? ⟨b, o, none⟩), ⟨sv (w.cell? ⟨b, o + 1, none⟩), iv (w.cell? ⟨b, o + 2, none⟩), iv (w.cell? ⟨b, o + 3, none⟩)⟩, iv (w.cell? ⟨b, o + 4, none⟩), vv (w.cell? ⟨b, o + 5, none⟩)⟩
theorem byt_of {n : Nat} {v : Value} {x : DataW H × List MemPlace} (h : DataW.trod enc Try.prog w base (fun _ => true) held n 33 [v] = some x) : ∃ a m c, v = .slice a m c ∧ m ≤ maxLen := by
  rcases ChangeShapes.open_ints Try.underlying33 Try.underlying5 (by kernel_rfl) h with ⟨hcs, _⟩ | ⟨ad, l, c, zs, hcs, _, hl, hm, _⟩
  · exact ⟨_, _, _, by simpa using hcs, Nat.zero_le _⟩
  · exact ⟨_, _, _, by simpa using hcs, by omega⟩
theorem bts_of {fuel : Nat} {a : Option Addr} {len cap : Nat} {x : DataW H × List MemPlace}
    (h : DataW.trod enc Try.prog w base (fun _ => true) held fuel 33 [.slice a len cap] = some x) : ∃ B, BtsAt w (.slice a len cap) B := by
  rcases ChangeShapes.open_ints Try.underlying33 Try.underlying5 (by kernel_rfl) h with ⟨hcs, _⟩ | ⟨ad, l, c, zs, hcs, _, hl, hm, hz, _, hcell, hwz⟩
  · simp at hcs
    obtain ⟨rfl, rfl, rfl⟩ := hcs
    exact ⟨[], none, 0, rfl, Nat.le_refl _, Nat.zero_le _, Nat.zero_le _, fun h => absurd rfl h⟩
  · simp at hcs
    obtain ⟨rfl, rfl, rfl⟩ := hcs
    simp at hz
    by_cases h0 : len = 0
    · subst h0
      exact ⟨[], some ad, cap, rfl, hl, Nat.zero_le _, hm, fun h => absurd rfl h⟩
    · obtain ⟨b, o, rfl⟩ := plain_addr (hcell 0 (by omega))
      have hlen : ((zs.take len).map fun n => UInt8.ofNat n.toNat).length = len := by rw [List.length_map, List.length_take]; omega
      have hc0 := hcell 0 (by omega)
      rw [Addr.add_lit] at hc0
      refine ⟨(zs.take len).map fun n => UInt8.ofNat n.toNat, some ⟨b, o, none⟩, cap, by rw [hlen], by rw [hlen]; exact hl, by rw [hlen]; omega, hm, fun _ => ⟨b, o, rfl, lt_of_cell hc0, fun i y hy j u hj => ?_⟩⟩
      simp only [List.getElem?_map, List.getElem?_take, Option.map_eq_some_iff] at hy
      obtain ⟨z, hn, rfl⟩ := hy
      split at hn
      · obtain ⟨hk, rfl⟩ := List.getElem?_eq_some_iff.1 hn
        have hc := hcell i (by omega)
        rw [Addr.add_lit] at hc
        have hbd := bounds_u8 (hwz _ (List.getElem_mem hk))
        have e : zs.getD i 0 = zs[i] := by simp [List.getD, hk]
        rw [e] at hc
        match j, hj with
        | 0, hj =>
          simp only [List.getElem?_cons_zero, Option.some.injEq] at hj
          rw [Nat.mul_one, Nat.add_zero, hc, ← hj]
          have e2 : ((UInt8.ofNat (zs[i]).toNat).toNat : Int) = zs[i] := by
            rw [UInt8.toNat_ofNat_of_lt' (by show (zs[i]).toNat < 256; omega)]; omega
          rw [e2]
        | j + 1, hj => simp at hj
      · cases hn
set_option maxRecDepth 20000 in
set_option maxHeartbeats 1000000 in
theorem obs_of {fuel : Nat} {a : Option Addr} {len cap : Nat} {x : DataW H × List MemPlace}
    (h : DataW.trod enc Try.prog w base (fun _ => true) held fuel 24 [.slice a len cap] = some x) : ∃ T, ObsAt w (.slice a len cap) T := by
  have h6 : Try.prog.cellsOf 35 = 6 := by kernel_rfl
  rcases Go.Deep.open_slice Try.underlying24 h with ⟨hcs, _⟩ | ⟨ad, l, c, m, nf, D, Pl, hcs, _, hl, hm, hmm, hx, hi⟩
  · simp at hcs
    obtain ⟨rfl, rfl, rfl⟩ := hcs
    exact ⟨[], ⟨none, 0, rfl, Nat.le_refl _, Nat.zero_le _, Nat.zero_le _, fun h => absurd rfl h⟩, fun o ho => by cases ho⟩
  · simp at hcs
    obtain ⟨rfl, rfl, rfl⟩ := hcs
    simp at hmm
    subst hmm
    by_cases h0 : len = 0
    · subst h0
      exact ⟨[], ⟨some ad, m, rfl, hl, Nat.zero_le _, hm, fun h => absurd rfl h⟩, fun o ho => by cases ho⟩
    · have hall : ∀ i, i < len → ∃ (z0 z4 : Int) (s : ByteArray) (t v : Int) (vb : Value), w.cell? (ad.add (i * 6)) = some (.int .i64 z0) ∧ w.cell? (ad.add (i * 6 + 1)) = some (.string s) ∧ w.cell? (ad.add (i * 6 + 2)) = some (.int .i64 t) ∧ w.cell? (ad.add (i * 6 + 3)) = some (.int .i64 v) ∧ w.cell? (ad.add (i * 6 + 4)) = some (.int .i64 z4) ∧ w.cell? (ad.add (i * 6 + 5)) = some vb ∧ s.size ≤ maxLen ∧ I64 t ∧ I64 v ∧ I64 z4 ∧ ∃ A n C, vb = .slice A n C ∧ n ≤ maxLen := fun i hi' => by
        obtain ⟨cs, hc, ht⟩ := hi i (by omega)
        rw [h6] at hc
        obtain ⟨_, hcl, hat⟩ := World.cells?_some hc
        have e3 : Try.prog.cellsOf 3 = 1 := by kernel_rfl
        have e45 : Try.prog.cellsOf 32 = 3 := by kernel_rfl
        have eb : Try.prog.cellsOf 33 = 1 := by kernel_rfl
        obtain ⟨ys, n', _, hy, hlen, hyl, hf⟩ := DataW.trod_struct Try.underlying35 ht
        match cs, hcl, ys, hyl with
        | [v0, v1, v2, v3, v4, v5], _, [y0, y1, y2, y3], _ =>
          have f0 : DataW.trod enc Try.prog w base (fun _ => true) held n' 3 [v0] = some y0 := by have := hf 0 _ rfl; simpa [e3] using this
          have f1 : DataW.trod enc Try.prog w base (fun _ => true) held n' 32 [v1, v2, v3] = some y1 := by have := hf 1 _ rfl; simpa [e45] using this
          have f2 : DataW.trod enc Try.prog w base (fun _ => true) held n' 3 [v4] = some y2 := by have := hf 2 _ rfl; simpa [e3] using this
          have f3 : DataW.trod enc Try.prog w base (fun _ => true) held n' 33 [v5] = some y3 := by have := hf 3 _ rfl; simpa [eb] using this
          obtain ⟨z0, q0, -, -⟩ := DataW.trod_int Try.underlying3 f0
          obtain ⟨s, t, v, rfl, rfl, rfl, p1, p2, p3⟩ := rc3_of f1
          obtain ⟨z4, q4, -, w4⟩ := DataW.trod_int Try.underlying3 f2
          obtain ⟨A, n, C, rfl, p4⟩ := byt_of f3
          simp only [List.cons.injEq, and_true] at q0 q4
          subst q0 q4
          have c0 := hat 0 (by omega)
          have c1 := hat 1 (by omega)
          have c2 := hat 2 (by omega)
          have c3 := hat 3 (by omega)
          have c4 := hat 4 (by omega)
          have c5 := hat 5 (by omega)
          rw [add_add] at c0 c1 c2 c3 c4 c5
          exact ⟨z0, z4, s, t, v, _, by simpa using c0, by simpa using c1, by simpa using c2, by simpa using c3, by simpa using c4, by simpa using c5, p1, p2, p3, i64_of w4, _, _, _, rfl, p4⟩
      obtain ⟨b, o, rfl⟩ : ∃ b o, ad = ⟨b, o, none⟩ := by
        obtain ⟨z0, z4, s, t, v, vb, c0, -⟩ := hall 0 (by omega)
        exact plain_addr (by simpa using c0)
      have hc : ∀ i, i < len → (∀ j u, (obC (obOf w b (o + i * 6)))[j]? = some u → w.cell? ⟨b, o + i * 6 + j, none⟩ = some u) ∧ OpOk (obOf w b (o + i * 6)) := fun i hi' => by
        obtain ⟨z0, z4, s, t, v, vb, c0, c1, c2, c3, c4, c5, p1, p2, p3, p4, p5⟩ := hall i hi'
        rw [Addr.add_lit] at c0 c1 c2 c3 c4 c5
        rw [← Nat.add_assoc] at c1 c2 c3 c4 c5
        have e : obOf w b (o + i * 6) = ⟨z0, ⟨s.toList, t, v⟩, z4, vb⟩ := by
          unfold obOf
          rw [c0, c1, c2, c3, c4, c5]
          rfl
        rw [e]
        refine ⟨fun j u hj => ?_, ⟨p2, p3, p4, p5, ?_⟩⟩
        · match j, hj with
          | 0, hj => simp only [obC, List.getElem?_cons_zero, Option.some.injEq] at hj; subst hj; exact c0
          | 1, hj => simp only [obC, List.getElem?_cons_succ, List.getElem?_cons_zero, Option.some.injEq] at hj; subst hj; rw [c1, kyV, ky_of]
          | 2, hj => simp only [obC, List.getElem?_cons_succ, List.getElem?_cons_zero, Option.some.injEq] at hj; subst hj; exact c2
          | 3, hj => simp only [obC, List.getElem?_cons_succ, List.getElem?_cons_zero, Option.some.injEq] at hj; subst hj; exact c3
          | 4, hj => simp only [obC, List.getElem?_cons_succ, List.getElem?_cons_zero, Option.some.injEq] at hj; subst hj; exact c4
          | 5, hj => simp only [obC, List.getElem?_cons_succ, List.getElem?_cons_zero, Option.some.injEq] at hj; subst hj; exact c5
          | j + 6, hj => simp [obC] at hj
        · show s.toList.length ≤ maxLen
          rw [ByteArray.toList_eq, Array.length_toList]
          exact p1
      have hlen : ((List.range len).map fun i => obOf w b (o + i * 6)).length = len := by simp
      refine ⟨(List.range len).map fun i => obOf w b (o + i * 6), ⟨some ⟨b, o, none⟩, m, by rw [hlen], by rw [hlen]; exact hl, by rw [hlen]; omega, hm, fun _ => ⟨b, o, rfl, ?_, fun i x hi j u hj => ?_⟩⟩, fun x hx => ?_⟩
      · obtain ⟨z0, z4, s, t, v, vb, c0, -⟩ := hall 0 (by omega)
        rw [Addr.add_lit] at c0
        exact lt_of_cell c0
      · have hil : i < len := by
          have := (List.getElem?_eq_some_iff.1 hi).1
          rwa [hlen] at this
        simp only [List.getElem?_map, List.getElem?_range hil, Option.map_some, Option.some.injEq] at hi
        subst hi
        exact (hc i hil).1 j u hj
      · obtain ⟨i, hi, rfl⟩ := List.mem_map.1 hx
        exact (hc i (List.mem_range.1 hi)).2
end
end Go.Proofs.Ytlmnkmfpdjkijaa.Ke
