/-
  The walk of DiskDoes: files, power and deeds are, call by call, just what the document says. Conditions: none (the law looks at nothing longer).
-/
import Derived.Test.YtkckpeejamidpaaDiskApartWalk
namespace Go.Proofs.Ytkckpeejamidpaa.Dk
open Go.RowKit Go.Proofs.Ytkckpeejamidpaa.Pk

section
variable {X : Nat → Prop} {w0 w w' : World} {d r : Nat} {s : Ds} {kind n keep : Int} {name : ByteArray} {A : Option Addr} {m c : Nat}
/-- step, where both are in one state. -/
theorem step_same {l : List UInt8} (h : Both X w0 w d r s s) (hs : name.size ≤ maxLen) (hd : s.deeds ≤ 1000) (hll : l.length = m) (hm : m ≤ 1024) (hL : Lies w0 w0.heap.size A l)
    (hn1 : -9223372036854775808 ≤ n) (hn2 : n ≤ 9223372036854775807) (hk1 : -9223372036854775808 ≤ keep) (hk2 : keep ≤ 9223372036854775807) :
    Calls Try.prog 11 #[.pointer (some ⟨d, 0, none⟩), .pointer (some ⟨r, 0, none⟩), .agg #[.int .i64 kind, .string name, .slice A m c, .int .i64 n, .int .i64 keep]] w fun e w' => e = .returned (.bool true) ∧ Both X w0 w' d r (nextD kind n keep name.data.toList l s) (nextD kind n keep name.data.toList l s) := by
  refine (step_any h hs hd hd hll hm hL hn1 hn2 hk1 hk2).mono ?_
  rintro e w' ⟨b, rfl, hb, hB⟩
  rw [hb rfl]
  exact ⟨rfl, hB⟩
theorem step_three (h : Both X w0 w d r s s) (hs : name.size ≤ maxLen) (hd : s.deeds ≤ 1000) :
    Calls Try.prog 11 #[.pointer (some ⟨d, 0, none⟩), .pointer (some ⟨r, 0, none⟩), .agg #[.int .i64 3, .string name, .slice none 0 0, .int .i64 0, .int .i64 0]] w fun e w' => e = .returned (.bool true) ∧ Both X w0 w' d r s s := by
  refine (step_read h hs hd).mono ?_
  rintro e w' ⟨b, rfl, hb, hB⟩
  rw [hb rfl]
  exact ⟨rfl, hB⟩
theorem step_seven (h : Both X w0 w d r s s) (hd : s.deeds ≤ 1000) :
    Calls Try.prog 11 #[.pointer (some ⟨d, 0, none⟩), .pointer (some ⟨r, 0, none⟩), .agg #[.int .i64 7, .string ByteArray.empty, .slice none 0 0, .int .i64 0, .int .i64 0]] w fun e w' => e = .returned (.bool true) ∧ Both X w0 w' d r s s := by
  refine (step_names h hd hd).mono ?_
  rintro e w' ⟨b, rfl, hb, hB⟩
  rw [hb rfl]
  exact ⟨rfl, hB⟩
theorem Both.rlist {t : Ds} (h : Both X w0 w d r s t) : ∃ A cap, w.cell? ⟨r, 0, none⟩ = some (.slice A t.m.length cap) := by
  obtain ⟨_, S, T, _, ⟨gd, hm, hr, hl, vL, vs, ht, hi⟩, _⟩ := h
  have c0 := ht.c0
  rcases hi.own.2 with ⟨hv, h0⟩ | ⟨g, cap, cur, hv, _⟩
  · exact ⟨none, 0, by rw [c0, hv, h0]⟩
  · exact ⟨_, cap, by rw [c0, hv]⟩
theorem Both.rname {t : Ds} (h : Both X w0 w d r s t) (i : Nat) (hi' : i < t.m.length) : ∃ g cap, w.cell? ⟨r, 0, none⟩ = some (.slice (some ⟨g, 0, none⟩) t.m.length cap) ∧ w.cell? ⟨g, i * 3, none⟩ = some (.string ⟨t.m[i].1.toArray⟩) ∧ (⟨t.m[i].1.toArray⟩ : ByteArray).size ≤ maxLen := by
  obtain ⟨_, S, T, _, ⟨gd, hm, hr, hl, vL, vs, ht, hi⟩, _⟩ := h
  have c0 := ht.c0
  obtain ⟨g, cap, hv, _, _, _, _, hc⟩ := row_cell hi.len hi.own (by omega)
  refine ⟨g, cap, by rw [c0, hv], (hc i hi').1, ?_⟩
  have := name_size (name := ⟨t.m[i].1.toArray⟩) (by simpa using gd.names _ (List.getElem_mem hi'))
  unfold maxLen; omega
theorem Both.many {t : Ds} (h : Both X w0 w d r s t) : t.m.length ≤ t.deeds := by
  obtain ⟨_, S, T, _, ⟨gd, hm, _⟩, _⟩ := h
  exact hm
end

set_option maxRecDepth 100000 in
set_option maxHeartbeats 4000000 in
theorem diskDoes_walk (a0 : Option Addr) (len0 cap0 : Nat) (w : World) (h0 : Ops w a0 len0) :
    Calls Try.prog 3 #[.slice a0 len0 cap0] w fun e w' => e = .returned (.bool true) ∧ Below w.heap.size w w' := by
  by_cases hf : Fit w a0 len0
  · have HF := Lib.hid hf
    clear hf h0
    go_enter Try.func3, Try.ntmps3
    go_wp2_with (first
      | (go_at_call 9; refine (small_yes HF.out).mono ?_; rintro e w' ⟨rfl, rfl⟩)
      | (go_at_call 10; refine (Fresh.new (X := fun _ => False) (fun _ h => h.elim) (Below.refl w.heap.size w)).mono ?_; rintro e w1 ⟨d, rfl, hF, -⟩))
    have hB := Both.start hF
    have hst : Hid (newD.deeds ≤ 0) := (show newD.deeds ≤ 0 by decide)
    go_loopw [5] (fun i wr => ∃ (k : Nat) (s : Ds), k ≤ len0 ∧ i = .int .i64 k ∧ Both (fun _ => False) w wr d w1.heap.size s s ∧ Hid (s.deeds ≤ k)) (fun i _ => len0 - (intOf i).toNat)
    case atStart => exact ⟨0, _, Nat.zero_le _, rfl, hB, hst⟩
    case round =>
      obtain ⟨k, s, hk, rfl, hBr, hS⟩ := hrel
      clear hB hst hF
      by_cases hlt : k < len0
      · obtain ⟨b, o, kind, n, keep, name, A, m, c, l, rfl, hO, hml⟩ := HF.out.2 k hlt
        have hn300 := HF.out.1
        have hkl : (k : Int) < (len0 : Int) := by omega
        have hc : ∀ (j : Nat) v, w.cell? ⟨b, o + k * 5 + j, none⟩ = some v → wr.drew.cell? ⟨b, o + k * 5 + j, none⟩ = some v := fun j v h => (hBr.drew.bel.cell (p := ⟨b, o + k * 5 + j, none⟩) (cell_block_lt h)).trans h
        have c0 := hc 0 _ hO.c0
        have c1 := hc 1 _ hO.c1
        have c2 := hc 2 _ hO.c2
        have c3 := hc 3 _ hO.c3
        have c4 := hc 4 _ hO.c4
        rw [Nat.add_zero] at c0
        have HO := Lib.hid hO
        have hsd : s.deeds ≤ 1000 := by have := hS.out; omega
        have hBd := hBr.drew
        clear hc hO
        go_wp2_with fail
        go_region_with (first
          | (go_at_call 11; refine (step_same hBd HO.out.name hsd HO.out.len hml HO.out.lies HO.out.n1 HO.out.n2 HO.out.k1 HO.out.k2).mono ?_; rintro e w5 ⟨rfl, hB5⟩; have r1 := hB5.rcell1.1; have r4 := hB5.rcell4)
          | (go_at_call 12; refine (hB5.up).mono ?_; rintro e w6 ⟨rfl, rfl⟩)
          | (go_at_call 13; refine (hB5.deeds).mono ?_; rintro e w7 ⟨rfl, rfl⟩))
        all_goals
          go_wp2_with fail
          go_roundw
          case rel => exact ⟨k + 1, _, by omega, by go_num, hB5, by have := hS.out; have := next_deeds kind n keep name.data.toList l s; show _ ≤ _; omega⟩
          case measure => simp [intOf]; omega
      · have hge : (len0 : Int) ≤ (k : Int) := by omega
        rename World => wq
        have hn300 := HF.out.1
        have hsd : (onD s).deeds ≤ 1000 := by have := hS.out; show s.deeds ≤ _; omega
        obtain ⟨u, hu⟩ : ∃ u, u = onD s := ⟨_, rfl⟩
        rw [← hu] at hsd
        go_wp2_with (go_at_call 14; refine (hBr.callD fun S hD => on_any hD).mono ?_; rintro e w5 ⟨rfl, hB5, -⟩; have c1 := hB5.rcell1.1; have f1 := hB5.rcell1.2)
        have hB6 := hB5.ronStore.1
        rw [← hu] at hB6
        clear hB5 c1 f1 hu hBr
        go_loopw [6] (fun i wr => ∃ (j : Nat), j ≤ u.m.length ∧ i = .int .i64 j ∧ Both (fun _ => False) w wr d w1.heap.size u u) (fun i _ => u.m.length - (intOf i).toNat)
        case atStart => exact ⟨0, Nat.zero_le _, rfl, hB6⟩
        case round =>
          obtain ⟨j, hj, rfl, hBr⟩ := hrel
          clear hB6
          have hmany := hBr.many
          by_cases hjl : j < u.m.length
          · have hjl' : (j : Int) < (u.m.length : Int) := by omega
            obtain ⟨g1, cp1, d0, d1, d2⟩ := hBr.rname j hjl
            obtain ⟨nm, hnm⟩ : ∃ nm, nm = (⟨u.m[j].1.toArray⟩ : ByteArray) := ⟨_, rfl⟩
            rw [← hnm] at d1 d2
            have HN : Hid (∀ w', Both (fun _ => False) w w' d w1.heap.size u u → ∃ g cap, w'.cell? ⟨w1.heap.size, 0, none⟩ = some (.slice (some ⟨g, 0, none⟩) u.m.length cap) ∧ w'.cell? ⟨g, j * 3, none⟩ = some (.string nm)) := fun w' h => by
              obtain ⟨g, cap, q1, q2, -⟩ := h.rname j hjl
              exact ⟨g, cap, q1, by rw [hnm]; exact q2⟩
            clear hnm
            go_wp2_with (first
              | (go_at_call 11; refine (step_three hBr d2 hsd).mono ?_; rintro e w7 ⟨rfl, hB7⟩; obtain ⟨g2, cp2, q0, q1⟩ := HN.out w7 hB7; clear hBr)
              | (go_at_call 11; refine (step_three hB7 d2 hsd).mono ?_; rintro e w8 ⟨rfl, hB8⟩; clear hB7))
            go_roundw
            case rel => exact ⟨j + 1, by omega, by go_num, hB8⟩
            case measure => simp [intOf]; omega
          · have hge2 : (u.m.length : Int) ≤ (j : Int) := by omega
            obtain ⟨A1, cp1, d0⟩ := hBr.rlist
            go_wp2_with (first
              | (go_at_call 15; refine (awake_any _).mono ?_; rintro e w7 ⟨rfl, hb7⟩; have hB7 := (hBr.keep hb7).low (X' := fun _ => False) (fun _ h => h.elim); clear hBr hb7)
              | (go_at_call 11; refine (step_seven hB7 hsd).mono ?_; rintro e w8 ⟨rfl, hB8⟩; clear hB7)
              | (go_at_call 11; refine (step_seven hB8 hsd).mono ?_; rintro e w9 ⟨rfl, hB9⟩; clear hB8))
            go_ret
            exact ⟨rfl, hB9.bel⟩
  · go_enter Try.func3, Try.ntmps3
    go_wp2_with (go_at_call 9; refine (small_no h0 hf).mono ?_; rintro e w' ⟨rfl, rfl⟩)
    go_ret
    exact ⟨rfl, Below.refl _ _⟩
end Go.Proofs.Ytkckpeejamidpaa.Dk
