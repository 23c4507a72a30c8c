/-
  What pack's encoders do: each lays its bytes behind those that it is given, in new memory, and leaves what was there. Conditions: the slices lie in memory; lengths far below the model's bound.
-/
import Derived.Test.YtckigcodmchfaaaSame
namespace Go.Proofs.Ytckigcodmchfaaa.Pk
open Go.RowKit

theorem info5 : (Try.prog.info? 5).map (fun i => (i.zero, i.size, i.bytes)) = some (some (.int .u8 0), 1, 1) := by kernel_rfl

/-- A call that hands back a new row of the bytes l, from block B on, and leaves all below B. -/
def Gives (B : Nat) (w : World) (l : List UInt8) (e : Ending) (w' : World) : Prop :=
  ∃ v, e = .returned v ∧ w'.ownsRow B 5 1 v l.length (cells l) ∧ Below B w w'

theorem own_of_splice {w : World} {B g m c : Nat} {l : List UInt8} {cur : List Value} (hB : B ≤ g) (hl : l.length = m) (hm : m ≤ c) (hc : c ≤ maxLen) (hcur : cur.length = c)
    (h : w.heap[g]? = some (.cells (splice cur 0 (cells l)).toArray 5 (0, 0))) : w.ownsRow B 5 1 (.slice (some ⟨g, 0, none⟩) m c) l.length (cells l) := by
  have h1 : (cells l).length = m := by rw [cells_length, hl]
  refine ⟨by simp [cells_length], .inr ⟨g, c, _, by rw [hl], hB, h, by omega, hc, ?_, ?_⟩⟩
  · rw [List.size_toArray, length_splice _ _ _ (by omega)]; omega
  · simp [splice, hl, h1]

set_option maxHeartbeats 400000 in
theorem grown_any {A : Option Addr} {m c : Nat} {l : List UInt8} {w : World} {K : Int} (k : Nat) (hK : K = (k : Int)) (hl : l.length = m) (hb : m + k ≤ 140737488355328) (h : Lies w w.heap.size A l) :
    Calls Try.prog 29 #[.slice A m c, .int .i64 K] w (Gives w.heap.size w l) := by
  subst hK
  obtain ⟨i0, hi, hz0, hz1, hz2⟩ := info_parts info5
  have hmk : (Instr.makeSlice 22 (.int .i64 (m : Int)) (.int .i64 ((m : Int) + (k : Int)))).run Try.prog w = .ok (.slice (some ⟨w.heap.size, 0, none⟩) m (m + k)) (w.alloc (.cells (madeCells #[.int .u8 0] (m + k)) 5)) := by
    have hr := run_make (P := Try.prog) w 22 5 i0 (.int .u8 0) Try.underlying22 hi hz0 .i64 .i64 (m : Int) ((m : Int) + (k : Int)) (by omega) (by omega) (by rw [hz2]; omega) (by omega)
    have e1 : ((m : Int) + (k : Int)).toNat = m + k := by omega
    rw [e1, hz1, Nat.mul_one, Int.toNat_natCast] at hr
    exact hr
  have H := Lib.hid hl
  clear hl hz0 hz1 hz2 hi
  have hlen : (madeCells #[Value.int IntKind.u8 0] (m + k)).toList.length = m + k := by rw [Array.length_toList, size_madeCells]
  have HN := Lib.hid hlen
  clear hlen
  obtain ⟨cur, hcur⟩ : ∃ cur, cur = (madeCells #[Value.int IntKind.u8 0] (m + k)).toList := ⟨_, rfl⟩
  have hcu : madeCells #[Value.int IntKind.u8 0] (m + k) = cur.toArray := by rw [hcur]
  rw [← hcur] at HN
  rw [hcu] at hmk
  clear hcu hcur
  go_enter Try.func29, Try.ntmps29
  go_wp2_with (with_reducible refine wpList_copy_splice rfl (.tmp 13) (.tmp 14) 22 22 rfl 5 Try.underlying22 (by kernel_rfl) _ _ _ _ _ _ rfl rfl w.heap.size 0 cur 5 (heap_alloc_new w _) (cells l) ?e1 ?e2 ?e3 (cells_one l) w.heap.size w ((Below.refl _ _).alloc (Nat.le_refl _) _) (Nat.le_refl _) ?_)
  case e1 => rw [cells_length, H.out]; simp
  case e2 =>
    intro h0
    have h0' : 0 < l.length := by rwa [cells_length] at h0
    obtain ⟨b, o, rfl, hb, hc⟩ := h.at_ h0'
    refine ⟨_, rfl, fun j u hu => ?_⟩
    have hu' : (cells l)[j]? = some u := hu
    simp only [cells, List.getElem?_map, Option.map_eq_some_iff] at hu'
    obtain ⟨x, hx, rfl⟩ := hu'
    obtain ⟨b2, o2, e, hb2, hc2⟩ := h j x hx
    injection e with e
    injection e with e1 e2
    subst e1 e2
    rw [Addr.add_lit]
    exact (World.cell?_alloc_lt w _ _ hb2).trans hc2
  case e3 => rw [cells_length, H.out, HN.out]; omega
  intro w' hg hbel
  clear hmk
  go_wp2_with fail
  go_ret
  exact ⟨_, rfl, own_of_splice (Nat.le_refl _) H.out (by omega) (by unfold maxLen; omega) HN.out hg.out, hbel⟩

theorem or_128 : ∀ n : Fin 256, n.val ||| 128 = n.val % 128 + 128 := by decide +kernel
theorem or_hi (q : Nat) : bits .or .u8 ((q : Int) % 256) 128 = ((UInt8.ofNat (q % 128 + 128)).toNat : Int) := by
  rw [u8_or _ _ (by omega) (by omega) (by omega) (by omega), toNat_ofNat (by omega)]
  have e : ((q : Int) % 256).toNat = q % 256 := by omega
  have h := or_128 ⟨q % 256, by omega⟩
  simp only at h
  rw [e, show (128 : Int).toNat = 128 from rfl, h]
  congr 1; omega
theorem add_hi {acc t : List UInt8} {q : Nat} {y : UInt8} (h : ¬ q < 128) (he : acc ++ enc q = t) (hy : y = UInt8.ofNat (q % 128 + 128)) : (acc ++ [y]) ++ enc (q / 128) = t := by
  rw [← he, enc_hi h, hy]; simp
theorem add_lo {acc t : List UInt8} {q : Nat} {y : UInt8} (h : q < 128) (he : acc ++ enc q = t) (hy : y = UInt8.ofNat q) : acc ++ [y] = t := by
  rw [← he, enc_lo h, hy]
theorem lt_hi {q : Nat} (h : q < 18446744073709551616) : q / 128 < 18446744073709551616 := by omega
theorem cells_snoc (l : List UInt8) (y : UInt8) : cells l ++ [.int .u8 (y.toNat : Int)] = cells (l ++ [y]) := by simp [cells, bv]

theorem own_snoc {w : World} {B : Nat} {v : Value} {l : List UInt8} {y : UInt8} (h : w.ownsRow B 5 1 v (l.length + 1) (cells l ++ [.int .u8 (y.toNat : Int)])) : w.ownsRow B 5 1 v (l ++ [y]).length (cells (l ++ [y])) := by
  rw [cells_snoc] at h
  simpa using h

set_option maxRecDepth 20000 in
set_option maxHeartbeats 400000 in
theorem addNum_any {v : Value} {x : Int} {l : List UInt8} {w : World} {B n : Nat} (hn : l.length = n) (h1 : -9223372036854775808 ≤ x) (h2 : x ≤ 9223372036854775807) (hb : n ≤ 140737488355000)
    (h : w.ownsRow B 5 1 v n (cells l)) (hB : B ≤ w.heap.size) :
    Calls Try.prog 28 #[v, .int .i64 x] w (Gives B w (l ++ enc (fold x))) := by
  subst hn
  obtain ⟨i0, hi, hz0, hz1, hz2⟩ := info_parts info5
  have f64 := Lib.hid (fold_lt h1 h2)
  go_enter Try.func28, Try.ntmps28
  go_wp2_with (go_at_call 34; refine (fold_any _ _ (by omega) (by omega)).mono ?_; rintro e w' ⟨rfl, rfl⟩)
  go_loopw [0, 5] (fun v z wr => ∃ (acc : List UInt8) (q : Nat), z = .int .u64 q ∧ Hid (q < 18446744073709551616) ∧ Hid (acc ++ enc q = l ++ enc (fold x)) ∧ wr.ownsRow B 5 1 v acc.length (cells acc) ∧ Below B w wr) (fun _ z _ => (intOf z).toNat)
  case atStart => exact ⟨l, fold x, rfl, f64, rfl, h, Below.refl _ _⟩
  case round =>
    obtain ⟨acc, q, rfl, hq, he, hown, hbel⟩ := hrel
    have hlen : acc.length ≤ 140737488355300 := by
      have := congrArg List.length he.out
      have := enc_len_ten (fold_lt h1 h2)
      simp only [List.length_append] at *
      omega
    clear f64 h1 h2 hb h
    by_cases hge : 128 ≤ q
    · have hgt : (128 : Int) ≤ (q : Int) := by omega
      obtain ⟨y, hy⟩ : ∃ y : UInt8, y = UInt8.ofNat (q % 128 + 128) := ⟨_, rfl⟩
      have hor : bits .or .u8 ((q : Int) % 256) 128 = (y.toNat : Int) := by rw [hy]; exact or_hi q
      have R := Lib.hid (add_hi (by omega) he.out hy)
      have R2 := Lib.hid (lt_hi hq.out)
      have R3 : q / 128 < q := by omega
      clear hge hy hq he
      have HL := Lib.hid hlen
      clear hlen
      go_wp2_with (at_builtin; refine wpList_append_own _ rfl _ _ 22 rfl B 5 i0 (.int .u8 0) 1 1 Try.underlying22 hi hz0 hz1 hz2 rfl (by decide) _ _ _ rfl (hown.alloc _) ⟨wr.heap.size, 0, none⟩ 1 1 [.int .u8 (y.toNat : Int)] rfl rfl ?c1 ?c2 ?c3 ?c4 ?c5 ?_)
      case c1 => exact (cell_one_new _ _ _)
      case c2 => intro u hu; simp at hu; subst hu; rfl
      case c3 => have := HL.out; unfold maxLen; omega
      case c4 => have := HL.out; omega
      case c5 => have := hbel.size; simp; omega
      intro v' w1 hown' hgrow _
      have R4 := Lib.hid (own_snoc hown')
      have R5 : Below B w w1 := (hbel.alloc (by have := hbel.size; omega) _).grown hgrow (by have := hbel.size; simp; omega) (fun g hg => (hown.lt g hg).1)
      clear hown' hgrow hown hbel hor
      go_wp2_with fail
      go_roundw
      case rel => exact ⟨acc ++ [y], q / 128, by go_num, R2.out, R.out, R4.out, R5⟩
      case measure => simp [intOf]; omega
    · have hgt : (q : Int) < 128 := by omega
      obtain ⟨y, hy⟩ : ∃ y : UInt8, y = UInt8.ofNat q := ⟨_, rfl⟩
      have hcv : (q : Int) = (y.toNat : Int) := by rw [hy, toNat_ofNat (by omega)]
      have R := Lib.hid (add_lo (by omega) he.out hy)
      have HC := Lib.hid hcv
      clear hge hy hq he hcv
      have HL := Lib.hid hlen
      clear hlen
      go_wp2_with (at_builtin; refine wpList_append_own _ rfl _ _ 22 rfl B 5 i0 (.int .u8 0) 1 1 Try.underlying22 hi hz0 hz1 hz2 rfl (by decide) _ _ _ rfl (hown.alloc _) ⟨wr.heap.size, 0, none⟩ 1 1 [.int .u8 (q : Int)] rfl rfl ?d1 ?d2 ?d3 ?d4 ?d5 ?_)
      case d1 => exact (cell_one_new _ _ _)
      case d2 => intro u hu; simp at hu; subst hu; rfl
      case d3 => have := HL.out; unfold maxLen; omega
      case d4 => have := HL.out; omega
      case d5 => have := hbel.size; simp; omega
      intro v' w1 hown' hgrow _
      rw [HC.out] at hown'
      have R4 := Lib.hid (own_snoc hown')
      have R5 : Below B w w1 := (hbel.alloc (by have := hbel.size; omega) _).grown hgrow (by have := hbel.size; simp; omega) (fun g hg => (hown.lt g hg).1)
      clear hown' hgrow hown hbel
      go_wp2_with fail
      go_ret
      refine ⟨v', rfl, ?_, R5⟩
      rw [← R.out]
      exact R4.out

set_option maxHeartbeats 400000 in
theorem num_any {A : Option Addr} {m c : Nat} {x : Int} {l : List UInt8} {w : World} (hl : l.length = m) (h1 : -9223372036854775808 ≤ x) (h2 : x ≤ 9223372036854775807) (hb : m ≤ 140737488355000) (h : Lies w w.heap.size A l) :
    Calls Try.prog 15 #[.slice A m c, .int .i64 x] w (Gives w.heap.size w (l ++ enc (fold x))) := by
  subst hl
  go_enter Try.func15, Try.ntmps15
  go_wp2_with (first
    | (go_at_call 29; refine (grown_any 10 rfl rfl (by omega) h).mono ?_; rintro e w1 ⟨v, rfl, hown, hbel⟩)
    | (go_at_call 28; refine (addNum_any rfl h1 h2 (by omega) hown hbel.size).mono ?_; rintro e w2 ⟨v2, rfl, hown2, hbel2⟩))
  go_ret
  exact ⟨v2, rfl, hown2, hbel.trans hbel2⟩

theorem own_text {w : World} {B : Nat} {v : Value} {l m : List UInt8} {s : ByteArray} (h : w.ownsRow B 5 1 v (l.length + m.length + s.size) (cells (l ++ m) ++ Lib.strCells s)) :
    w.ownsRow B 5 1 v (l ++ (m ++ s.data.toList)).length (cells (l ++ (m ++ s.data.toList))) := by
  have e : cells (l ++ (m ++ s.data.toList)) = cells (l ++ m) ++ Lib.strCells s := by
    rw [← List.append_assoc, cells_append]; rfl
  have e2 : (l ++ (m ++ s.data.toList)).length = l.length + m.length + s.size := by
    simp only [List.length_append, Array.length_toList]; rw [Nat.add_assoc]; rfl
  rw [e, e2]; exact h

set_option maxHeartbeats 400000 in
theorem text_any {A : Option Addr} {m c : Nat} {s : ByteArray} {l : List UInt8} {w : World} (hl : l.length = m) (hs : s.size ≤ 1073741824) (hb : m ≤ 1073741824) (h : Lies w w.heap.size A l) :
    Calls Try.prog 16 #[.slice A m c, .string s] w (Gives w.heap.size w (l ++ (enc (fold s.size) ++ s.data.toList))) := by
  subst hl
  obtain ⟨i0, hi, hz0, hz1, hz2⟩ := info_parts info5
  have hfl := enc_len_ten (fold_lt (x := (s.size : Int)) (by omega) (by omega))
  go_enter Try.func16, Try.ntmps16
  go_wp2_with (first
    | (go_at_call 29; refine (grown_any (10 + s.size) (by omega) rfl (by omega) h).mono ?_; rintro e w1 ⟨v, rfl, hown, hbel⟩)
    | (go_at_call 28; refine (addNum_any rfl (by omega) (by omega) (by omega) hown hbel.size).mono ?_; rintro e w2 ⟨v2, rfl, hown2, hbel2⟩)
    | (at_builtin; refine Lib.wpList_append_own_string _ rfl _ _ 22 9 rfl w.heap.size 5 i0 Try.underlying22 Try.underlying9 hi hz0 hz1 hz2 _ _ _ rfl hown2 s rfl ?_ ?_ ?_ ?_))
  case refine_1 => simp only [List.length_append]; unfold maxLen; omega
  case refine_2 => simp only [List.length_append]; omega
  case refine_3 => have := hbel.size; have := hbel2.size; omega
  intro v' w' h3 hg _
  have R1 := Lib.hid (own_text h3)
  have R2 : Below w.heap.size w w' := (hbel.trans hbel2).grown hg (by have := hbel.size; have := hbel2.size; omega) (fun g hg => (hown2.lt g hg).1)
  clear h3 hg hown hown2 hbel hbel2 h
  go_wp2_with fail
  go_ret
  exact ⟨v', rfl, R1.out, R2⟩

end Go.Proofs.Ytckigcodmchfaaa.Pk
