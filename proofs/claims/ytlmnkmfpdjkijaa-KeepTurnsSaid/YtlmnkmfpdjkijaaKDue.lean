/-
  The panes that are over at a mark, gathered from all rows and sorted by their ends. Conditions: the keep lies in memory; at most 4000000 panes, as they may be.
-/
import Derived.Test.YtlmnkmfpdjkijaaKGat
namespace Go.Proofs.Ytlmnkmfpdjkijaa.Kp
set_option linter.unusedVariables false
set_option linter.unusedSimpArgs false
open Go.Proofs.Ytlmnkmfpdjkijaa Go.Proofs.Ytlmnkmfpdjkijaa.Ke
open Go.RowKit

/-- A row under way: its first j panes, all over, are gathered. -/
structure InD (w : World) (bm b : Nat) (m : Int) (D : DataW Value) (left : Lit → Bool) (cnt : Nat) (A R : List Pn) (g0 o0 j : Nat) (d : Value) (wv : World) : Prop where
  rg : wv.ranges Try.prog 9 asIs bm w.heap.size (Maps.size D) D left cnt
  own : wv.ownsRow (w.heap.size + 1) 51 7 d (A ++ R.take j).length (pns (A ++ R.take j))
  low : Below w.heap.size w wv
  room : w.heap.size + 1 ≤ wv.heap.size
  all : ∀ y ∈ R.take j, Ke.due m y = true
  cell : ∀ i x, R[i]? = some x → ∀ j u, (pnC x)[j]? = some u → wv.cell? ⟨g0, o0 + i * 7 + j, none⟩ = some u
  at_ : wv.cell? ⟨b, 4, none⟩ = some (.int .i64 m)
section
variable {w wv w2 : World} {S : Nat → Prop} {bm b : Nat} {m : Int} {D : DataW Value} {V : Ky → Value} {l A R : List Pn} {left : Lit → Bool} {cnt g0 o0 j : Nat} {d d' : Value}
theorem InD.grow (h : InD w bm b m D left cnt A R g0 o0 j d wv) (hb : Below wv.heap.size wv w2) (hg : g0 < w.heap.size) (hk : b < w.heap.size) : InD w bm b m D left cnt A R g0 o0 j d w2 :=
  ⟨h.rg.kept (row := none) ⟨hb.os, hb.tape, hb.output, hb.size, fun i hi _ => hb.block i hi⟩ (by simp) (by simp), ownsRow_below h.own hb, grow_below h.low hb, Nat.le_trans h.room hb.size, h.all,
    fun i x hi q u hu => (hb.cell (p := ⟨g0, _, none⟩) (Nat.lt_of_lt_of_le hg h.low.size)).trans (h.cell i x hi q u hu), (hb.cell (p := ⟨b, 4, none⟩) (Nat.lt_of_lt_of_le hk h.low.size)).trans h.at_⟩
theorem InD.more {y : Pn} (h : InD w bm b m D left cnt A R g0 o0 j d wv) (hy : R[j]? = some y) (hd : Ke.due m y = true) (ho : w2.ownsRow (w.heap.size + 1) 51 7 d' ((A ++ R.take j) ++ [y]).length (pns ((A ++ R.take j) ++ [y]))) (hg2 : wv.grownBy w2 d.ownBlock) (hg : g0 < w.heap.size) (hk : b < w.heap.size) (hbm : bm < w.heap.size) :
    InD w bm b m D left cnt A R g0 o0 (j + 1) d' w2 := by
  have hv : ∀ k, d.ownBlock = some k → w.heap.size + 1 ≤ k := fun k e => (h.own.lt k e).1
  have e : A ++ R.take (j + 1) = (A ++ R.take j) ++ [y] := by
    obtain ⟨hj, e⟩ := List.getElem?_eq_some_iff.1 hy
    rw [List.take_add_one, hy, List.append_assoc]; rfl
  refine ⟨h.rg.kept hg2 (fun e => by have := hv _ e.symm; omega) (fun e => by have := hv _ e.symm; omega), by rw [e]; exact ho, h.low.grown hg2 h.low.size (fun k e => by have := hv k e; omega), Nat.le_trans h.room hg2.size, fun z hz => ?_, fun i x hi q u hu => ?_, ?_⟩
  · have hj := (List.getElem?_eq_some_iff.1 hy)
    rw [List.take_add_one, hy] at hz
    rcases List.mem_append.1 hz with hz | hz
    · exact h.all z hz
    · have : z = y := by simpa using hz
      rw [this]; exact hd
  · exact (hg2.cell (a := ⟨g0, _, none⟩) (h.cell i x hi q u hu) (fun e => by have := hv _ e.symm; dsimp only at this; omega))
  · exact hg2.cell (a := ⟨b, 4, none⟩) h.at_ (fun e => by have := hv _ e.symm; dsimp only at this; omega)
end
theorem take_due {ses : Bool} {sz m : Int} {R : List Pn} {k : Ky} {j : Nat} (h : Ke.Good ses sz R) (hk : OneKey R k) (hall : ∀ y ∈ R.take j, Ke.due m y = true) (hj : j ≤ R.length) (hend : ∀ y, R[j]? = some y → Ke.due m y = false) : R.take j = R.filter (Ke.due m) := by
  rw [filter_fst (mono_due (row_t h hk) m)]
  congr 1
  symm
  refine fstAt_is hj (fun i x hi hx => ?_) (fun i x hi hx => ?_)
  · have hm : x ∈ R.take j := by
      obtain ⟨h1, e⟩ := List.getElem?_eq_some_iff.1 hx
      rw [← e]
      exact List.mem_of_getElem? (by rw [List.getElem?_take_of_lt hi, List.getElem?_eq_getElem h1])
    rw [hall x hm]; rfl
  · by_cases e : i = j
    · subst e
      rw [hend x hx]; rfl
    · have hjl : j < R.length := by have := (List.getElem?_eq_some_iff.1 hx).1; omega
      have h1 := hend _ (List.getElem?_eq_getElem hjl)
      have h2 := pw_at (row_t h hk) (show j < i by omega) (List.getElem?_eq_getElem hjl) hx
      rw [due_no] at h1
      rw [show Ke.due m x = false from due_no.2 ⟨by omega, h1.2⟩]; rfl
theorem InD.done {w wv : World} {bm b : Nat} {m : Int} {D : DataW Value} {l A : List Pn} {left : Lit → Bool} {x : Ky} {cnt g0 o0 j : Nat} {d : Value} (h : InD w bm b m D (fun z => left z && !z.sameKey (.string x)) cnt A (krow l x) g0 o0 j d wv) (hp : A.Perm (l.filter fun y => Ke.due m y && !left (.string y.k))) (hx : left (.string x) = true) (hR : (krow l x).take j = (krow l x).filter (Ke.due m)) :
    Gat w bm D l (Ke.due m) (fun z => left z && !z.sameKey (.string x)) cnt (A ++ (krow l x).take j) d wv :=
  ⟨h.rg, h.own, by rw [hR]; exact (List.Perm.append_right _ hp).trans (gat_perm hx), h.low, h.room⟩
abbrev spO (f t : Int) : Value := .agg #[.int .i64 f, .int .i64 t]
theorem pdue_at {x : Pn} {m : Int} {r : Bool} (h : Ke.due m x = r) (w : World) : Calls Try.prog 52 #[spO x.f x.t, .int .i64 m] w fun e w' => e = .returned (.bool r) ∧ Below w.heap.size w w' :=
  Wi.due_at (s := (x.f, x.t)) h w
set_option maxRecDepth 20000 in
set_option maxHeartbeats 4000000 in
theorem due_mem {w : World} {S : Nat → Prop} {b bm : Nat} {k s lw agg m : Int} {fr : Bool} {ld : Nat → Bool} {l : List Pn} {ses : Bool} (ht : KTop w b k s lw agg m fr ld bm) (hr : Rws w S bm (krow l)) (hS : ∀ x, S x → x < w.heap.size) (hl : l.length ≤ 4000000) (hs : Ke.Good ses s l) :
    Calls Try.prog 36 #[.pointer (some ⟨b, 0, none⟩)] w fun e w' => ∃ v, e = .returned v ∧ w'.ownsRow (w.heap.size + 1) 51 7 v (tsort (l.filter (Ke.due m))).length (pns (tsort (l.filter (Ke.due m)))) ∧ Below w.heap.size w w' := by
  obtain ⟨D, V, hr⟩ := hr
  have c22 := ht.c22
  have c4 := ht.c4
  have hbt := ht.lt
  have HR := Lib.hid hr
  have HS := Lib.hid hS
  have HT := Lib.hid hs
  have hown := hr.own
  have hbm := hS _ hr.foot
  clear ht hr hS hs
  go_enter Try.func36, Try.ntmps36
  go_wp2_with (first
    | (at_range; refine wpList_range_own _ rfl _ 71 rfl 9 82 law Try.underlying71 asIs bm _ D rfl hown ?_; intro w0 hrg0 hg0 hs0)
    | go_in)
  go_frame
  have G0 := Lib.hid (Gat.start (P := Ke.due m) HR.out hrg0 hg0 hs0)
  have C4 := Lib.hid c4
  clear hrg0 hg0 hs0 c22 hown c4
  go_loopw [3] (fun z wr => ∃ left cnt A, Hid (Gat w bm D l (Ke.due m) left cnt A z wr)) (fun _ wr => wr.rangeLeft bm w.heap.size)
  case atStart => exact ⟨_, _, _, G0⟩
  case round =>
    obtain ⟨left, cnt, A, G⟩ := hrel
    have hrg := G.out.rg
    go_wp2_with (first
      | (at_next; refine wpList_next_ranges _ rfl _ rfl 9 law asIs kyV id key_inv val_inv bm w.heap.size _ D left cnt rfl hrg ?_ ?_)
      | go_in)
    · intro hc0 hl0
      have HA := Lib.hid (G.out.all hl0)
      have hlen := G.out.long
      clear hrg hc0 hl0
      go_wp2_with (go_at_call 39; refine (sortT_at G.out.own (by omega) (tsort_td (HT.out.sd.filter _)) (HA.out.trans (tsort_perm _).symm)).mono ?_; rintro e w' ⟨rfl, ho, hg⟩)
      go_ret
      exact ⟨_, rfl, ho, G.out.low.grown hg G.out.low.size (fun k e => by have := (G.out.own.lt k e).1; omega)⟩
    · intro x c kl y1 y2 w1 cnt1 hkey hlk hy hat hrg1 hlt hg1 hs1 hen
      obtain ⟨rfl, hne, rfl, hxl⟩ := yielded (y := (y1, y2)) HR.out hkey hy hat
      have hlen := G.out.long
      have hrow := ((G.out.rows HR.out HS.out).row x hne).keep (w' := w1) (fun g hg => hg1.block g (by have := HR.out.lt hne hg; have := G.out.low.size; omega) (fun e => by injection e with e; have := HR.out.lt hne hg; omega))
      obtain ⟨g0, o0, cap0, hv, hg0, hn0, hc0, hcell⟩ := hrow.cell
      have hgo : g0 < w.heap.size := HR.out.lt hne (by rw [hv]; rfl)
      rw [hv] at hen
      have hroom := G.out.room
      have hcnt := hrg.left_eq
      have hv0 : ∀ q, u3.ownBlock = some q → w.heap.size + 1 ≤ q := fun q e => (G.out.own.lt q e).1
      have I0 : Hid (InD w bm b m D (fun z => left z && !z.sameKey (.string x)) cnt1 A (krow l x) g0 o0 0 u3 w1) := Lib.hid ⟨hrg1, by rw [List.take_zero, List.append_nil]; exact G.out.own.kept hg1 (.inr (fun e => by have := hv0 _ e; omega)), G.out.low.grown hg1 G.out.low.size (fun q e => by injection e with e; omega), Nat.le_trans hroom hg1.size, (fun y hy => by rw [List.take_zero] at hy; cases hy), hcell, hg1.cell (a := ⟨b, 4, none⟩) ((G.out.low.cell (p := ⟨b, 4, none⟩) hbt).trans C4.out) (fun e => by injection e with e; dsimp only at e; omega)⟩
      have hkl := krow_len l x
      have HL := Lib.hid hlk
      have HG1 := Lib.hid hg1
      have HRG := Lib.hid hrg1
      obtain ⟨n, hn⟩ : ∃ n, (krow l x).length = n := ⟨_, rfl⟩
      rw [hn] at hen hn0 hkl
      have HN := Lib.hid hn
      clear hrg hkey hy hat hlk hg1 hrg1 hrow hcell hv hn
      go_wp2
      go_loopw [3, 19] (fun d i wv => ∃ j : Nat, j ≤ n ∧ i = .int .i64 j ∧ Hid (InD w bm b m D (fun z => left z && !z.sameKey (.string x)) cnt1 A (krow l x) g0 o0 j d wv)) (fun _ i _ => n - (intOf i).toNat)
      case atStart => exact ⟨0, Nat.zero_le _, rfl, I0⟩
      case round =>
        obtain ⟨j, hj, rfl, I⟩ := hrel
        by_cases hjn : j < n
        · have hjl : j < (krow l x).length := by rw [HN.out]; exact hjn
          obtain ⟨y, hy⟩ : ∃ y, (krow l x)[j]? = some y := ⟨_, List.getElem?_eq_getElem hjl⟩
          have r0 := I.out.cell j y hy 0 _ rfl
          have r1 := I.out.cell j y hy 1 _ rfl
          have r2 := I.out.cell j y hy 2 _ rfl
          have r3 := I.out.cell j y hy 3 _ rfl
          have r4 := I.out.cell j y hy 4 _ rfl
          have r5 := I.out.cell j y hy 5 _ rfl
          have r6 := I.out.cell j y hy 6 _ rfl
          rw [Nat.add_zero] at r0
          obtain ⟨q, hq⟩ : ∃ q, Ke.due m y = q := ⟨_, rfl⟩
          have HQ := Lib.hid hq
          have HY := Lib.hid hy
          clear hq hy
          go_upto_region 8 with (fail)
          have HZ := Lib.hid (I.out.grow ((Below.refl _ wr).alloc (Nat.le_refl _) (pnO y)) hgo hbt)
          have hz0 := heap_alloc_new wr (pnO y)
          have zsz : (wr.alloc (pnO y)).heap.size = wr.heap.size + 1 := World.size_alloc _ _
          clear r0 r1 r2 r3 r4 r5 r6
          generalize wr.alloc (pnO y) = wz at HZ hz0 zsz ⊢
          obtain ⟨bz, hbz⟩ : ∃ bz, wr.heap.size = bz := ⟨_, rfl⟩
          rw [hbz] at hz0 zsz ⊢
          have hzl : bz < wz.heap.size := by omega
          have hbl : b < wz.heap.size := Nat.lt_of_lt_of_le hbt HZ.out.low.size
          have z1 : wz.cell? ⟨bz, 1, none⟩ = some (.int .i64 y.f) := cell_of_heap hz0 1
          have z2 : wz.cell? ⟨bz, 2, none⟩ = some (.int .i64 y.t) := cell_of_heap hz0 2
          have z4 := HZ.out.at_
          have HH := Lib.hid hz0
          clear hz0
          cases q with
          | false =>
            go_region_held3 (fun X => X.cell? ⟨bz, 1, none⟩ = some (.int .i64 y.f) ∧ X.cell? ⟨bz, 2, none⟩ = some (.int .i64 y.t) ∧ X.cell? ⟨b, 4, none⟩ = some (.int .i64 m))
              (first | exact ⟨z1, z2, z4⟩ | exact S2)
              (first
              | (go_at_call 52; refine (pdue_at HQ.out _).mono ?_; rintro e w2 ⟨rfl, hb⟩; have hb : Below wz.heap.size wz w2 := ⟨hb.os, hb.tape, hb.output, hb.size, hb.block⟩; have S2 : w2.cell? ⟨bz, 1, none⟩ = some (.int .i64 y.f) ∧ w2.cell? ⟨bz, 2, none⟩ = some (.int .i64 y.t) ∧ w2.cell? ⟨b, 4, none⟩ = some (.int .i64 m) := ⟨(hb.cell (p := ⟨bz, 1, none⟩) hzl).trans z1, (hb.cell (p := ⟨bz, 2, none⟩) hzl).trans z2, (hb.cell (p := ⟨b, 4, none⟩) hbl).trans z4⟩; have HB2 := Lib.hid hb; clear hb))
            have HZ2 := Lib.hid (HZ.out.grow HB2.out hgo hbt)
            have G2 := HZ2.out.done G.out.perm HL.out (take_due (krow_good HT.out x) (krow_key l x) HZ2.out.all (by omega) (fun y' hy' => by have := HY.out; rw [this] at hy'; injection hy' with hy'; rw [← hy']; exact HQ.out))
            clear S2
            go_wp2
            go_roundw
            case rel => exact ⟨_, _, _, Lib.hid G2⟩
            case measure => rw [G2.rg.left_eq, hcnt]; exact hlt
          | true =>
            go_region_held3 (fun X => X.cell? ⟨bz, 1, none⟩ = some (.int .i64 y.f) ∧ X.cell? ⟨bz, 2, none⟩ = some (.int .i64 y.t) ∧ X.cell? ⟨b, 4, none⟩ = some (.int .i64 m))
              (first | exact ⟨z1, z2, z4⟩ | exact S2)
              (first
              | (go_at_call 52; refine (pdue_at HQ.out _).mono ?_; rintro e w2 ⟨rfl, hb⟩; have hb : Below wz.heap.size wz w2 := ⟨hb.os, hb.tape, hb.output, hb.size, hb.block⟩; have S2 : w2.cell? ⟨bz, 1, none⟩ = some (.int .i64 y.f) ∧ w2.cell? ⟨bz, 2, none⟩ = some (.int .i64 y.t) ∧ w2.cell? ⟨b, 4, none⟩ = some (.int .i64 m) := ⟨(hb.cell (p := ⟨bz, 1, none⟩) hzl).trans z1, (hb.cell (p := ⟨bz, 2, none⟩) hzl).trans z2, (hb.cell (p := ⟨b, 4, none⟩) hbl).trans z4⟩; have HB2 := Lib.hid hb; clear hb))
            have HZ2 := Lib.hid (HZ.out.grow HB2.out hgo hbt)
            have hb0 : w2.heap[bz]? = some (pnO y) := (HB2.out.block bz hzl).trans HH.out
            have k0 : w2.cell? ⟨bz, 0, none⟩ = some (kyV y.k) := cell_of_heap hb0 0
            have k1 : w2.cell? ⟨bz, 1, none⟩ = some (.int .i64 y.f) := cell_of_heap hb0 1
            have k2 : w2.cell? ⟨bz, 2, none⟩ = some (.int .i64 y.t) := cell_of_heap hb0 2
            have k3 : w2.cell? ⟨bz, 3, none⟩ = some (.int .i64 y.a.c) := cell_of_heap hb0 3
            have k4 : w2.cell? ⟨bz, 4, none⟩ = some (.int .i64 y.a.s) := cell_of_heap hb0 4
            have k5 : w2.cell? ⟨bz, 5, none⟩ = some (.int .i64 y.a.mn) := cell_of_heap hb0 5
            have k6 : w2.cell? ⟨bz, 6, none⟩ = some (.int .i64 y.a.mx) := cell_of_heap hb0 6
            have HZ3 := Lib.hid (HZ2.out.grow ((Below.refl _ w2).alloc (Nat.le_refl _) (pnO y)) hgo hbt)
            have HN3 := Lib.hid (pn_block (heap_alloc_new w2 (pnO y)))
            have hl3 : (A ++ (krow l x).take j).length ≤ 8000000 - 1 := by rw [List.length_append, List.length_take]; omega
            have hr3 : w.heap.size + 1 ≤ (w2.alloc (pnO y)).heap.size := HZ3.out.room
            clear S2 hb0
            go_wp2_with (at_builtin; refine wpList_app rfl _ _ 44 44 rfl Try.underlying44 Try.underlying44 (w.heap.size + 1) _ (A ++ (krow l x).take j) rfl HZ3.out.own _ [y] rfl HN3.out (by simp only [List.length_singleton]; omega) hr3 ?_; intro v' w3 ho hg2 hloc)
            have I2 := Lib.hid (HZ3.out.more HY.out HQ.out ho hg2 hgo hbt hbm)
            go_roundw
            case rel => exact ⟨j + 1, by omega, by go_num, I2⟩
            case measure => simp [intOf]; omega
        · obtain rfl : j = n := by omega
          have G2 := I.out.done G.out.perm HL.out (take_due (krow_good HT.out x) (krow_key l x) I.out.all (by rw [HN.out]; exact Nat.le_refl _) (fun y' hy' => by have := (List.getElem?_eq_some_iff.1 hy').1; have := HN.out; omega))
          go_wp2
          go_roundw
          case rel => exact ⟨_, _, _, Lib.hid G2⟩
          case measure => rw [G2.rg.left_eq, hcnt]; exact hlt
end Go.Proofs.Ytlmnkmfpdjkijaa.Kp
