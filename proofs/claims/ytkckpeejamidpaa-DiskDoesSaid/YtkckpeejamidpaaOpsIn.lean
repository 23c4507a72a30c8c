/-
  A slice of operations that came in; a slice of bytes that came in. Conditions: none.
-/
import Derived.Test.YtkckpeejamidpaaStepE
import Derived.Deep.Slices
import Derived.Deep.Fields
import Derived.ChangeSame
namespace Go.Proofs.Ytkckpeejamidpaa.Dk
open Go.RowKit Go.Proofs.Ytkckpeejamidpaa.Pk

/-- A slice of bytes that came in. -/
def Bytes (w : World) (a : Option Addr) (len : Nat) : Prop := len ≤ maxLen ∧ ∃ l : List UInt8, l.length = len ∧ Lies w w.heap.size a l
theorem bytes_of {H : Type} {enc : TypeId × Value → H} {w : World} {base fuel : Nat} {held : Bool} {a : Option Addr} {len cap : Nat} {x : DataW H × List MemPlace}
    (h : DataW.trod enc Try.prog w base (fun _ => true) held fuel 31 [.slice a len cap] = some x) : Bytes w a len := by
  rcases ChangeShapes.open_ints Try.underlying31 Try.underlying5 (by kernel_rfl) h with ⟨hcs, _⟩ | ⟨ad, l, c, zs, hcs, _, hl, hm, hz, _, hcell, hwz⟩
  · simp at hcs
    obtain ⟨rfl, rfl, rfl⟩ := hcs
    exact ⟨Nat.zero_le _, [], rfl, Lies.none_⟩
  · simp at hcs
    obtain ⟨rfl, rfl, rfl⟩ := hcs
    simp at hz
    obtain ⟨l', hl', hlies⟩ := lies_of_cells (w := w) (x := ad) hl (by omega) (fun j hj => hcell j (by omega)) hwz
    exact ⟨by omega, l', hl', hlies⟩

theorem bytes_val {H : Type} {enc : TypeId × Value → H} {w : World} {base fuel : Nat} {held : Bool} {v : Value} {x : DataW H × List MemPlace}
    (h : DataW.trod enc Try.prog w base (fun _ => true) held fuel 31 [v] = some x) : ∃ A m c l, v = .slice A m c ∧ l.length = m ∧ m ≤ maxLen ∧ Lies w w.heap.size A l := by
  have hv : ∃ A m c, v = .slice A m c := by
    rcases ChangeShapes.open_ints Try.underlying31 Try.underlying5 (by kernel_rfl) h with ⟨hcs, _⟩ | ⟨ad, l, c, zs, hcs, _⟩
    · exact ⟨_, _, _, by simpa using hcs⟩
    · exact ⟨_, _, _, by simpa using hcs⟩
  obtain ⟨A, m, c, rfl⟩ := hv
  obtain ⟨h1, l, h2, h3⟩ := bytes_of h
  exact ⟨A, m, c, l, rfl, h2, h1, h3⟩

/-- Operation i of a slice of operations. -/
structure OpIn (w : World) (b o : Nat) (kind n keep : Int) (name : ByteArray) (A : Option Addr) (m c : Nat) (l : List UInt8) : Prop where
  c0 : w.cell? ⟨b, o, none⟩ = some (.int .i64 kind)
  c1 : w.cell? ⟨b, o + 1, none⟩ = some (.string name)
  c2 : w.cell? ⟨b, o + 2, none⟩ = some (.slice A m c)
  c3 : w.cell? ⟨b, o + 3, none⟩ = some (.int .i64 n)
  c4 : w.cell? ⟨b, o + 4, none⟩ = some (.int .i64 keep)
  name : name.size ≤ maxLen
  len : l.length = m
  max : m ≤ maxLen
  lies : Lies w w.heap.size A l
  n1 : -9223372036854775808 ≤ n
  n2 : n ≤ 9223372036854775807
  k1 : -9223372036854775808 ≤ keep
  k2 : keep ≤ 9223372036854775807
def Ops (w : World) (a : Option Addr) (len : Nat) : Prop :=
  len ≤ maxLen ∧ ∀ i, i < len → ∃ b o kind n keep name A m c l, a = some ⟨b, o, none⟩ ∧ OpIn w b (o + i * 5) kind n keep name A m c l

theorem ops_of {H : Type} {enc : TypeId × Value → H} {w : World} {base fuel : Nat} {held : Bool} {a : Option Addr} {len cap : Nat} {x : DataW H × List MemPlace}
    (h : DataW.trod enc Try.prog w base (fun _ => true) held fuel 22 [.slice a len cap] = some x) : Ops w a len := by
  have h5 : Try.prog.cellsOf 33 = 5 := by kernel_rfl
  rcases Go.Deep.open_slice Try.underlying22 h with ⟨hcs, _⟩ | ⟨ad, l, c, m, nf, D, Pl, hcs, _, hl, hm, hmm, hx, hi⟩
  · simp at hcs
    obtain ⟨rfl, rfl, rfl⟩ := hcs
    exact ⟨Nat.zero_le _, fun i hi => by omega⟩
  · simp at hcs
    obtain ⟨rfl, rfl, rfl⟩ := hcs
    simp at hmm
    subst hmm
    refine ⟨by omega, fun i hi' => ?_⟩
    obtain ⟨cs, hc, ht⟩ := hi i (by omega)
    rw [h5] at hc
    obtain ⟨ys, n', _, hy, hlen, hyl, hf⟩ := DataW.trod_struct Try.underlying33 ht
    obtain ⟨_, hcl, hat⟩ := World.cells?_some hc
    have e3 : Try.prog.cellsOf 3 = 1 := by kernel_rfl
    have e9 : Try.prog.cellsOf 9 = 1 := by kernel_rfl
    have e31 : Try.prog.cellsOf 31 = 1 := by kernel_rfl
    match cs, hcl, ys, hyl with
    | [v0, v1, v2, v3, v4], _, [y0, y1, y2, y3, y4], _ =>
      have f0 : DataW.trod enc Try.prog w base (fun _ => true) held n' 3 [v0] = some y0 := by have := hf 0 _ rfl; simpa [e3] using this
      have f1 : DataW.trod enc Try.prog w base (fun _ => true) held n' 9 [v1] = some y1 := by have := hf 1 _ rfl; simpa [e9] using this
      have f2 : DataW.trod enc Try.prog w base (fun _ => true) held n' 31 [v2] = some y2 := by have := hf 2 _ rfl; simpa [e31] using this
      have f3 : DataW.trod enc Try.prog w base (fun _ => true) held n' 3 [v3] = some y3 := by have := hf 3 _ rfl; simpa [e3] using this
      have f4 : DataW.trod enc Try.prog w base (fun _ => true) held n' 3 [v4] = some y4 := by have := hf 4 _ rfl; simpa [e3] using this
      obtain ⟨kind, q0, -, -⟩ := DataW.trod_int Try.underlying3 f0
      obtain ⟨nm, q1, -, w1⟩ := DataW.trod_string Try.underlying9 f1
      obtain ⟨A, mm, c, l, rfl, hl1, hl2, hl3⟩ := bytes_val f2
      obtain ⟨n, q3, -, w3⟩ := DataW.trod_int Try.underlying3 f3
      obtain ⟨keep, q4, -, w4⟩ := DataW.trod_int Try.underlying3 f4
      simp only [List.cons.injEq, and_true] at q0 q1 q3 q4
      subst q0 q1 q3 q4
      have c0 := hat 0 (by omega)
      have c1 := hat 1 (by omega)
      have c2 := hat 2 (by omega)
      have c3 := hat 3 (by omega)
      have c4 := hat 4 (by omega)
      rw [add_add] at c0 c1 c2 c3 c4
      obtain ⟨b, o, sp⟩ := ad
      have hsp : sp = none := by
        obtain ⟨cs0, hc0, -⟩ := hi 0 (by omega)
        rw [h5] at hc0
        obtain ⟨_, hcl0, hat0⟩ := World.cells?_some hc0
        have h0 := hat0 0 (by omega)
        rw [List.getElem?_eq_getElem (by omega)] at h0
        simpa [Addr.add] using World.cell?_spot h0
      subst hsp
      rw [Addr.add_lit] at c0 c1 c2 c3 c4
      obtain ⟨n1, n2⟩ := bounds_i64 w3
      obtain ⟨k1, k2⟩ := bounds_i64 w4
      exact ⟨b, o, kind, n, keep, nm, A, mm, c, l, rfl, c0, c1, c2, c3, c4, w1, hl1, hl2, hl3, n1, n2, k1, k2⟩

set_option maxRecDepth 100000 in
set_option maxHeartbeats 1000000 in
/-- small: is the script looked at? -/
theorem small_any {a : Option Addr} {len cap : Nat} {w : World} (h : Ops w a len) :
    Calls Try.prog 9 #[.slice a len cap] w fun e w' => w = w' ∧ (e = .returned (.bool false) ∨ (e = .returned (.bool true) ∧ len ≤ 300 ∧ ∀ i, i < len → ∃ b o kind n keep name A m c l, a = some ⟨b, o, none⟩ ∧ OpIn w b (o + i * 5) kind n keep name A m c l ∧ m ≤ 1024)) := by
  obtain ⟨hm, hp⟩ := h
  unfold maxLen at hm
  by_cases hbig : 300 < len
  · have hbi : (300 : Int) < (len : Int) := by omega
    go_enter Try.func9, Try.ntmps9
    go_wp2
    go_ret
    exact ⟨rfl, .inl rfl⟩
  have hbi : ¬ (300 : Int) < (len : Int) := by omega
  have HP := Lib.hid hp
  clear hp
  go_enter Try.func9, Try.ntmps9
  go_wp2
  go_loopw [3] (fun i wr => ∃ k : Nat, k ≤ len ∧ i = .int .i64 k ∧ wr = w ∧ Hid (∀ i, i < k → ∃ b o kind n keep name A m c l, a = some ⟨b, o, none⟩ ∧ OpIn w b (o + i * 5) kind n keep name A m c l ∧ m ≤ 1024)) (fun i _ => len - (intOf i).toNat)
  case atStart => exact ⟨0, Nat.zero_le _, rfl, rfl, fun i hi => by omega⟩
  case round =>
    obtain ⟨k, hk, rfl, rfl, hH⟩ := hrel
    by_cases hlt : k < len
    · obtain ⟨b, o, kind, n, keep, name, A, m, c, l, rfl, hO⟩ := HP.out k hlt
      have c2 := hO.c2
      have hkl : (k : Int) < (len : Int) := by omega
      have hml := hO.max
      unfold maxLen at hml
      have H1 := Lib.hid hO
      clear hO
      by_cases hlong : 1024 < m
      · have hlo : (1024 : Int) < (m : Int) := by omega
        go_wp2
        go_ret
        exact ⟨rfl, .inl rfl⟩
      · have hlo : ¬ (1024 : Int) < (m : Int) := by omega
        go_wp2_with fail
        go_roundw
        case rel =>
          refine ⟨k + 1, by omega, by go_num, by first | rfl | trivial, fun i hi => ?_⟩
          by_cases e : i = k
          · subst e; exact ⟨b, o, kind, n, keep, name, A, m, c, l, rfl, H1.out, by omega⟩
          · exact hH.out i (by omega)
        case measure => simp [intOf]; omega
    · have hge : (len : Int) ≤ (k : Int) := by omega
      obtain rfl : k = len := by omega
      go_wp2
      go_ret
      exact ⟨rfl, .inr ⟨rfl, by omega, hH.out⟩⟩
end Go.Proofs.Ytkckpeejamidpaa.Dk
