/-
  What the document's own encoders answer: the bytes of the encoding, in new memory. And a law for appending bytes from anywhere onto a row that the call made. Conditions: lengths far below the model's bound.
-/
import Derived.Test.YtckigcodmchfaaaPut
namespace Go.Proofs.Ytckigcodmchfaaa.Pk
open Go.RowKit

/-- Appending nothing, from a nil slice. -/
theorem run_append_nothing (w : World) (base : Nat) (ty : TypeId) (v : Value) (n : Nat) (xs : List Value) (hown : w.ownsRow base 5 1 v n xs) (c : Nat) :
    (Builtin.append_ #[22, 22] ty #[v, .slice none 0 c]).run Try.prog w = .ok v w := by
  obtain ⟨i0, hi, -, -, -⟩ := info_parts info5
  rcases hown.2 with ⟨rfl, rfl⟩ | ⟨g, cap, cur, rfl, _, _, hnc, _⟩
  · simp [Builtin.append_, run_underlying Try.underlying22, sizeOf, typeInfo, hi, Builtin.lenOf, Builtin.firstCells]
  · simp [Builtin.append_, run_underlying Try.underlying22, sizeOf, typeInfo, hi, Builtin.lenOf, Builtin.firstCells, hnc, storeCells]

/-- Appending bytes that lie anywhere, nil and empty slices included, onto a row of the call's own. -/
theorem wpList_append_bytes {w : World} {ops : Array Oper} {rest : List Oper} {o : Oper} {a : Act} {Q : Exit → Act → World → Prop} (hgd : o.guard = none) (s x : Operand)
    (ho : o.op = .call { callee := .builtin .append, args := #[s, x], argTypes := #[22, 22] })
    (base : Nat) (v : Value) (n : Nat) (l : List UInt8) (hs : a.eval s = v) (hown : w.ownsRow base 5 1 v n (cells l))
    (A : Option Addr) (m c : Nat) (l' : List UInt8) (hx : a.eval x = .slice A m c) (hm : l'.length = m) (B : Nat) (hr : Lies w B A l')
    (hbytes : n + m ≤ 140737488355328) (hbase : base ≤ w.heap.size)
    (h : ∀ v' w', w'.ownsRow base 5 1 v' (n + m) (cells (l ++ l')) → w.grownBy w' v.ownBlock → wpList Try.prog ops Q rest (a.put o.dst v') w') : wpList Try.prog ops Q (o :: rest) a w := by
  obtain ⟨i0, hi, hz0, hz1, hz2⟩ := info_parts info5
  rcases A with _ | ad
  · have hl : l' = [] := by
      rcases l' with _ | ⟨x, r⟩
      · rfl
      · obtain ⟨b, o, e, _⟩ := hr 0 x rfl
        cases e
    subst hl
    obtain rfl : m = 0 := hm.symm
    have hrun := run_append_nothing w base o.type v n (cells l) hown c
    refine wpList_plain hgd fun K hK => ?_
    unfold Oper.wp execOp
    simp only [ho, resolve, invoke, builtin, Sem.run_bind, Sem.run_pure, Result.andThen_ok, List.map_toArray, List.map_cons, List.map_nil, hs, hx, hrun]
    exact hK _ _ (h v w (by simpa using hown) (World.grownBy.refl w _))
  · refine wpList_append_own w hgd s x 22 ho base 5 i0 (.int .u8 0) 1 1 Try.underlying22 hi hz0 hz1 hz2 rfl (by decide) v n (cells l) hs hown ad m c (cells l') hx (by rw [cells_length, hm, Nat.mul_one]) ?_ (cells_one l')
      (by unfold maxLen; omega) (by omega) hbase ?_
    · intro j u hu
      simp only [cells, List.getElem?_map, Option.map_eq_some_iff] at hu
      obtain ⟨y, hy, rfl⟩ := hu
      obtain ⟨b, o', e, _, hc⟩ := hr j y hy
      injection e with e
      rw [e, Addr.add_lit]
      exact hc
    · intro v' w' h1 h2 _
      rw [← cells_append] at h1
      exact h v' w' h1 h2

theorem wrap_part {q : Nat} (h : q / 128 < 18446744073709551616) : IntKind.u64.wrap ((q : Int) / 128) = ((q / 128 : Nat) : Int) := by
  rw [IntKind.wrap_u64]; omega
theorem ref_hi (q : Nat) : ((q : Int) % 128 + 128) % 256 = ((UInt8.ofNat (q % 128 + 128)).toNat : Int) := by
  rw [toNat_ofNat (by omega)]; omega

set_option maxRecDepth 20000 in
set_option maxHeartbeats 2000000 in
theorem refNum_any {x : Int} {w : World} (h1 : -9223372036854775808 ≤ x) (h2 : x ≤ 9223372036854775807) :
    Calls Try.prog 11 #[.int .i64 x] w (Gives w.heap.size w (enc (fold x))) := by
  obtain ⟨i0, hi, hz0, hz1, hz2⟩ := info_parts info5
  have f64 := Lib.hid (fold_lt h1 h2)
  have LEN := Lib.hid (enc_len_ten (fold_lt h1 h2))
  by_cases hx : 0 ≤ x
  · have hf : 2 * x = ((fold x : Nat) : Int) := by unfold fold; rw [if_neg (by omega)]; omega
    go_enter Try.func11, Try.ntmps11
    go_wp2
    clear h1 h2 hf hx
    go_loopw [3, 4] (fun z v wr => ∃ (acc : List UInt8) (q : Nat), z = .int .u64 q ∧ Hid (q < 18446744073709551616) ∧ Hid (acc ++ enc q = enc (fold x)) ∧ wr.ownsRow w.heap.size 5 1 v acc.length (cells acc) ∧ Below w.heap.size w wr) (fun z _ _ => (intOf z).toNat)
    case atStart => exact ⟨[], fold x, rfl, f64.out, rfl, World.ownsRow_nil _ _ _ _, Below.refl _ _⟩
    case round =>
      obtain ⟨acc, q, rfl, hq, he, hown, hbel⟩ := hrel
      have hlen : acc.length ≤ 10 := by
        have h3 := congrArg List.length he.out
        have h4 := LEN.out
        simp only [List.length_append] at h3
        omega
      by_cases hge : 128 ≤ q
      · have hgt : (128 : Int) ≤ (q : Int) := by omega
        obtain ⟨y, hy⟩ : ∃ y : UInt8, y = UInt8.ofNat (q % 128 + 128) := ⟨_, rfl⟩
        have hor : ((q : Int) % 128 + 128) % 256 = (y.toNat : Int) := by rw [hy]; exact ref_hi q
        have hor' : (q : Int) % 128 + 128 = (y.toNat : Int) := by omega
        have R := Lib.hid (add_hi (by omega) he.out hy)
        have R2 := Lib.hid (lt_hi hq.out)
        have R3 : q / 128 < q := by omega
        clear hge hy hq he
        have HL := Lib.hid hlen
        clear hlen
        go_wp2_with (at_builtin; refine wpList_append_own _ rfl _ _ 22 rfl w.heap.size 5 i0 (.int .u8 0) 1 1 Try.underlying22 hi hz0 hz1 hz2 rfl (by decide) _ _ _ rfl (hown.alloc _) ⟨wr.heap.size, 0, none⟩ 1 1 [.int .u8 (y.toNat : Int)] rfl rfl ?_ ?_ ?_ ?_ ?_ ?_)
        case refine_1 => exact (cell_one_new _ _ _)
        case refine_2 => intro u hu; simp at hu; subst hu; rfl
        case refine_3 => have := HL.out; unfold maxLen; omega
        case refine_4 => have := HL.out; omega
        case refine_5 => have := hbel.size; simp; omega
        intro v' w1 hown' hgrow _
        have R4 := Lib.hid (own_snoc hown')
        have R5 : Below w.heap.size w w1 := (hbel.alloc (by have := hbel.size; omega) _).grown hgrow (by have := hbel.size; simp; omega) (fun g hg => (hown.lt g hg).1)
        clear hown' hgrow hown hbel hor hor'
        go_wp2_with fail
        go_roundw
        case rel => exact ⟨acc ++ [y], q / 128, by rw [wrap_part R2.out], R2.out, R.out, R4.out, R5⟩
        case measure => rw [wrap_part R2.out]; simp only [intOf]; omega
      · have hgt : (q : Int) < 128 := by omega
        obtain ⟨y, hy⟩ : ∃ y : UInt8, y = UInt8.ofNat q := ⟨_, rfl⟩
        have hcv : (q : Int) = (y.toNat : Int) := by rw [hy, toNat_ofNat (by omega)]
        have R := Lib.hid (add_lo (by omega) he.out hy)
        have HC := Lib.hid hcv
        clear hge hy hq he hcv
        have HL := Lib.hid hlen
        clear hlen
        go_wp2_with (at_builtin; refine wpList_append_own _ rfl _ _ 22 rfl w.heap.size 5 i0 (.int .u8 0) 1 1 Try.underlying22 hi hz0 hz1 hz2 rfl (by decide) _ _ _ rfl (hown.alloc _) ⟨wr.heap.size, 0, none⟩ 1 1 [.int .u8 (q : Int)] rfl rfl ?_ ?_ ?_ ?_ ?_ ?_)
        case refine_1 => exact (cell_one_new _ _ _)
        case refine_2 => intro u hu; simp at hu; subst hu; rfl
        case refine_3 => have := HL.out; unfold maxLen; omega
        case refine_4 => have := HL.out; omega
        case refine_5 => have := hbel.size; simp; omega
        intro v' w1 hown' hgrow _
        rw [HC.out] at hown'
        have R4 := Lib.hid (own_snoc hown')
        have R5 : Below w.heap.size w w1 := (hbel.alloc (by have := hbel.size; omega) _).grown hgrow (by have := hbel.size; simp; omega) (fun g hg => (hown.lt g hg).1)
        clear hown' hgrow hown hbel
        go_wp2_with fail
        go_ret
        refine ⟨v', rfl, ?_, R5⟩
        rw [← R.out]
        exact R4.out
  · have hf : 2 * -(x + 1) + 1 = ((fold x : Nat) : Int) := by unfold fold; rw [if_pos (by omega)]; omega
    have hneg : x < 0 := by omega
    go_enter Try.func11, Try.ntmps11
    go_wp2
    clear h1 h2 hf hneg hx
    go_loopw [3, 4] (fun z v wr => ∃ (acc : List UInt8) (q : Nat), z = .int .u64 q ∧ Hid (q < 18446744073709551616) ∧ Hid (acc ++ enc q = enc (fold x)) ∧ wr.ownsRow w.heap.size 5 1 v acc.length (cells acc) ∧ Below w.heap.size w wr) (fun z _ _ => (intOf z).toNat)
    case atStart => exact ⟨[], fold x, rfl, f64.out, rfl, World.ownsRow_nil _ _ _ _, Below.refl _ _⟩
    case round =>
      obtain ⟨acc, q, rfl, hq, he, hown, hbel⟩ := hrel
      have hlen : acc.length ≤ 10 := by
        have h3 := congrArg List.length he.out
        have h4 := LEN.out
        simp only [List.length_append] at h3
        omega
      by_cases hge : 128 ≤ q
      · have hgt : (128 : Int) ≤ (q : Int) := by omega
        obtain ⟨y, hy⟩ : ∃ y : UInt8, y = UInt8.ofNat (q % 128 + 128) := ⟨_, rfl⟩
        have hor : ((q : Int) % 128 + 128) % 256 = (y.toNat : Int) := by rw [hy]; exact ref_hi q
        have hor' : (q : Int) % 128 + 128 = (y.toNat : Int) := by omega
        have R := Lib.hid (add_hi (by omega) he.out hy)
        have R2 := Lib.hid (lt_hi hq.out)
        have R3 : q / 128 < q := by omega
        clear hge hy hq he
        have HL := Lib.hid hlen
        clear hlen
        go_wp2_with (at_builtin; refine wpList_append_own _ rfl _ _ 22 rfl w.heap.size 5 i0 (.int .u8 0) 1 1 Try.underlying22 hi hz0 hz1 hz2 rfl (by decide) _ _ _ rfl (hown.alloc _) ⟨wr.heap.size, 0, none⟩ 1 1 [.int .u8 (y.toNat : Int)] rfl rfl ?_ ?_ ?_ ?_ ?_ ?_)
        case refine_1 => exact (cell_one_new _ _ _)
        case refine_2 => intro u hu; simp at hu; subst hu; rfl
        case refine_3 => have := HL.out; unfold maxLen; omega
        case refine_4 => have := HL.out; omega
        case refine_5 => have := hbel.size; simp; omega
        intro v' w1 hown' hgrow _
        have R4 := Lib.hid (own_snoc hown')
        have R5 : Below w.heap.size w w1 := (hbel.alloc (by have := hbel.size; omega) _).grown hgrow (by have := hbel.size; simp; omega) (fun g hg => (hown.lt g hg).1)
        clear hown' hgrow hown hbel hor hor'
        go_wp2_with fail
        go_roundw
        case rel => exact ⟨acc ++ [y], q / 128, by rw [wrap_part R2.out], R2.out, R.out, R4.out, R5⟩
        case measure => rw [wrap_part R2.out]; simp only [intOf]; omega
      · have hgt : (q : Int) < 128 := by omega
        obtain ⟨y, hy⟩ : ∃ y : UInt8, y = UInt8.ofNat q := ⟨_, rfl⟩
        have hcv : (q : Int) = (y.toNat : Int) := by rw [hy, toNat_ofNat (by omega)]
        have R := Lib.hid (add_lo (by omega) he.out hy)
        have HC := Lib.hid hcv
        clear hge hy hq he hcv
        have HL := Lib.hid hlen
        clear hlen
        go_wp2_with (at_builtin; refine wpList_append_own _ rfl _ _ 22 rfl w.heap.size 5 i0 (.int .u8 0) 1 1 Try.underlying22 hi hz0 hz1 hz2 rfl (by decide) _ _ _ rfl (hown.alloc _) ⟨wr.heap.size, 0, none⟩ 1 1 [.int .u8 (q : Int)] rfl rfl ?_ ?_ ?_ ?_ ?_ ?_)
        case refine_1 => exact (cell_one_new _ _ _)
        case refine_2 => intro u hu; simp at hu; subst hu; rfl
        case refine_3 => have := HL.out; unfold maxLen; omega
        case refine_4 => have := HL.out; omega
        case refine_5 => have := hbel.size; simp; omega
        intro v' w1 hown' hgrow _
        rw [HC.out] at hown'
        have R4 := Lib.hid (own_snoc hown')
        have R5 : Below w.heap.size w w1 := (hbel.alloc (by have := hbel.size; omega) _).grown hgrow (by have := hbel.size; simp; omega) (fun g hg => (hown.lt g hg).1)
        clear hown' hgrow hown hbel
        go_wp2_with fail
        go_ret
        refine ⟨v', rfl, ?_, R5⟩
        rw [← R.out]
        exact R4.out

set_option maxHeartbeats 1000000 in
theorem refText_any {s : ByteArray} {w : World} (hs : s.size ≤ 1073741824) :
    Calls Try.prog 12 #[.string s] w (Gives w.heap.size w (enc (fold s.size) ++ s.data.toList)) := by
  obtain ⟨i0, hi, hz0, hz1, hz2⟩ := info_parts info5
  have hfl := enc_len_ten (fold_lt (x := (s.size : Int)) (by omega) (by omega))
  go_enter Try.func12, Try.ntmps12
  go_wp2_with (first
    | (go_at_call 11; refine (refNum_any (by omega) (by omega)).mono ?_; rintro e w1 ⟨v, rfl, hown, hbel⟩)
    | (at_builtin; refine Lib.wpList_append_own_string _ rfl _ _ 22 9 rfl w.heap.size 5 i0 Try.underlying22 Try.underlying9 hi hz0 hz1 hz2 _ _ _ rfl hown s rfl ?_ ?_ ?_ ?_))
  case refine_1 => unfold maxLen; omega
  case refine_2 => omega
  case refine_3 => exact hbel.size
  intro v' w' h3 hg _
  have R1 := Lib.hid (own_text (l := []) (by simpa using h3))
  have R2 : Below w.heap.size w w' := hbel.grown hg hbel.size (fun g hg => (hown.lt g hg).1)
  clear h3 hg hown hbel
  go_wp2_with fail
  go_ret
  exact ⟨v', rfl, R1.out, R2⟩

end Go.Proofs.Ytckigcodmchfaaa.Pk
