/-
  The power fails: Off, over all files of the map. Conditions: none but those that each theorem names.
-/
import Derived.Test.YtkiombbdddbkfaaLose
import Derived.Deep.LoopGhost
namespace Go.Proofs.Ytkiombbdddbkfaa.Dk
open Go.RowKit Go.Proofs.Ytkiombbdddbkfaa.Pk

theorem get_loseAll (keep : Int) (k : Nm) : ∀ m, get (loseAll keep m) k = (get m k).map (lose keep)
  | [] => rfl
  | (n, f) :: r => by
    show get ((n, lose keep f) :: loseAll keep r) k = _
    simp only [get]
    split
    · rfl
    · exact get_loseAll keep k r
theorem length_loseAll (keep : Int) (m : List (Nm × Fl)) : (loseAll keep m).length = m.length := by simp [loseAll]
theorem kept_le (keep : Int) (f : Fl) (h : f.safe ≤ f.data.length) : keptOf keep f ≤ f.data.length := by unfold keptOf; omega
theorem good_off {s : Ds} (h : Good s) (keep : Int) : Good (offD s keep) := by
  unfold offD
  split
  · exact h
  · have hm : ∀ p ∈ loseAll keep s.m, ∃ q ∈ s.m, p = (q.1, lose keep q.2) := fun p hp => by
      obtain ⟨q, hq, rfl⟩ := List.mem_map.1 hp; exact ⟨q, hq, rfl⟩
    refine ⟨?_, fun p hp => ?_, fun p hp => ?_, fun p hp => ?_, h.fuse, h.keepLo, h.keepHi⟩
    · show ((loseAll keep s.m).map (·.1)).Pairwise (· < ·)
      have : (loseAll keep s.m).map (·.1) = s.m.map (·.1) := by simp [loseAll]
      rw [this]; exact h.sorted
    · obtain ⟨q, hq, rfl⟩ := hm p hp; exact h.names q hq
    · obtain ⟨q, hq, rfl⟩ := hm p hp
      have := kept_le keep q.2 (h.safe q hq)
      simp only [lose, List.length_take]; omega
    · obtain ⟨q, hq, rfl⟩ := hm p hp
      have := h.long q hq
      simp only [lose, List.length_take]; omega
theorem get_mem {m : List (Nm × Fl)} {k : Nm} {f : Fl} (h : get m k = some f) : (k, f) ∈ m := by
  induction m with
  | nil => cases h
  | cons p r ih =>
    obtain ⟨n, g⟩ := p
    simp only [get] at h
    split at h
    · rename_i e; cases h; rw [e]; exact List.mem_cons_self
    · exact List.mem_cons_of_mem _ (ih h)

theorem own_take {w : World} {base n c q : Nat} {A : Option Addr} {xs : List Value} (h : w.ownsRow base 5 1 (.slice A n c) n xs) (hq : q ≤ n) : w.ownsRow base 5 1 (.slice A q c) q (xs.take q) := by
  have hl := h.1
  refine ⟨by rw [List.length_take]; omega, ?_⟩
  rcases h.2 with ⟨hv, rfl⟩ | ⟨g, cap, cur, hv, hb, hg, h1, h2, h3, h4⟩
  · obtain rfl : q = 0 := by omega
    exact .inl ⟨hv, rfl⟩
  · injection hv with hA hn hc
    subst hA hc
    refine .inr ⟨g, c, cur, rfl, hb, hg, by omega, h2, h3, ?_⟩
    rw [← h4, List.take_take]
    congr 1; omega
theorem cells_take (l : List UInt8) (q : Nat) : (cells l).take q = cells (l.take q) := by simp [cells, List.map_take]
theorem own_cap {w : World} {base : Nat} {v : Value} {n : Nat} {xs : List Value} (h : w.ownsRow base 5 1 v n xs) : ∃ A c, v = .slice A n c ∧ n ≤ c ∧ c ≤ maxLen := by
  rcases h.2 with ⟨rfl, rfl⟩ | ⟨g, cap, cur, rfl, hb, hg, h1, h2, _⟩
  · exact ⟨none, 0, rfl, Nat.le_refl _, Nat.zero_le _⟩
  · exact ⟨_, cap, rfl, h1, h2⟩

/-- What lose does to a file. -/
theorem lose_file {w : World} {fb : Nat} {v : Value} {f : Fl} {keep : Int} (h : File w fb v f) (hs : f.safe ≤ f.data.length) (hn : f.data.length ≤ 16777216) (hk1 : -9223372036854775808 ≤ keep) (hk2 : keep ≤ 9223372036854775807) :
    Calls Try.prog 39 #[.pointer (some ⟨fb, 0, none⟩), .int .i64 keep] w fun e w' => e = .returned (.tuple #[]) ∧ (∃ v', File w' fb v' (lose keep f) ∧ v'.ownBlock = v.ownBlock) ∧ Only fb w w' := by
  obtain ⟨A, c, rfl, hc, hm⟩ := own_cap h.2
  refine (lose_cell (w := w) (fb := fb) (n := f.data.length) (c := c) (s := f.safe) (A := A) (keep := keep) h.1 hs hc hn hk1 hk2).mono ?_
  rintro e w' ⟨rfl, hf, ho⟩
  refine ⟨rfl, ⟨.slice A (keptOf keep f) c, ⟨hf, ?_⟩, ?_⟩, ho⟩
  · have hk := kept_le keep f hs
    have e1 : (lose keep f).data.length = keptOf keep f := by simp only [lose, List.length_take]; omega
    rw [e1]
    have := own_take h.2 hk
    rw [cells_take] at this
    refine ⟨this.1, ?_⟩
    rcases this.2 with h1 | ⟨g, cap, cur, hv, hb, hg, rest⟩
    · exact .inl h1
    · refine .inr ⟨g, cap, cur, hv, hb, ?_, rest⟩
      rw [ho.block g (fun e => ?_)]
      · exact hg
      · rw [e, h.1] at hg; simp at hg
  · cases A <;> rfl

set_option maxHeartbeats 400000 in
theorem off_nil (keep : Int) (w : World) : Calls Try.prog 17 #[.pointer none, .int .i64 keep] w fun e w' => e = .returned (.tuple #[]) ∧ w = w' := by
  go_enter Try.func17, Try.ntmps17
  go_wp2_with (go_at_call 22; refine (up_nil _).mono ?_; rintro e w' ⟨rfl, rfl⟩)
  refine bodyPost_ret (results_none rfl _ _ _) rfl ?_
  exact ⟨rfl, rfl⟩
set_option maxHeartbeats 400000 in
theorem off_off {w : World} {d : Nat} (keep : Int) (c1 : w.cell? ⟨d, 1, none⟩ = some (.bool true)) : Calls Try.prog 17 #[.pointer (some ⟨d, 0, none⟩), .int .i64 keep] w fun e w' => e = .returned (.tuple #[]) ∧ w = w' := by
  go_enter Try.func17, Try.ntmps17
  go_wp2_with (go_at_call 22; refine (up_top c1).mono ?_; rintro e w' ⟨rfl, rfl⟩)
  refine bodyPost_ret (results_none rfl _ _ _) rfl ?_
  exact ⟨rfl, rfl⟩
theorem size_setCell (w : World) (a : Addr) (u : Value) : (w.setCell a u).heap.size = w.heap.size := by simp [World.setCell]
set_option maxHeartbeats 400000 in
theorem off_empty {w : World} {d : Nat} (keep : Int) (c0 : w.cell? ⟨d, 0, none⟩ = some (.map none)) (c1 : w.cell? ⟨d, 1, none⟩ = some (.bool false)) (f1 : w.frozen? ⟨d, 1, none⟩ = false) :
    Calls Try.prog 17 #[.pointer (some ⟨d, 0, none⟩), .int .i64 keep] w fun e w' => e = .returned (.tuple #[]) ∧ Below w.heap.size (w.setCell ⟨d, 1, none⟩ (.bool true)) w' := by
  have hrg := run_range_nilMap (P := Try.prog) (w.setCell ⟨d, 1, none⟩ (.bool true)) 58 9 69 Try.underlying58
  have hnx : ∀ ty, (Instr.next (.pointer (some ⟨(w.setCell ⟨d, 1, none⟩ (.bool true)).heap.size, 0, none⟩)) false ty).run Try.prog ((w.setCell ⟨d, 1, none⟩ (.bool true)).alloc (.mapIter none 0 #[] 0)) = _ := fun ty => run_next_nilMap _ ty 0 0 #[]
  have e1 : (w.setCell ⟨d, 1, none⟩ (.bool true)).heap.size = w.heap.size := size_setCell _ _ _
  rw [e1] at hrg hnx
  have HE := Lib.hid e1
  clear e1
  go_enter Try.func17, Try.ntmps17
  go_wp2_with (go_at_call 22; refine (up_top c1).mono ?_; rintro e w' ⟨rfl, rfl⟩)
  refine wp_loop_rounds 1 ?_
  rw [rounds_succ]
  go_wp2
  go_end0
  exact ⟨rfl, (Below.refl _ _).alloc (by rw [HE.out]; exact Nat.le_refl _) _⟩

/-- The power is failing: the files that are no longer to come have lost. -/
structure Losing (keep : Int) (m : List (Nm × Fl)) (pl : Nm → Nat) (v : Nm → Value) (left : Lit → Bool) (w1 wr : World) : Prop where
  file : ∀ k f, get m k = some f → ∃ u, File wr (pl k) u (if left (.string k) then f else lose keep f) ∧ u.ownBlock = (v k).ownBlock
  os : wr.os = w1.os
  tape : wr.tape = w1.tape
  output : wr.output = w1.output
  size : wr.heap.size = w1.heap.size + 1
  block : ∀ b, b < w1.heap.size → (∀ k f, get m k = some f → b ≠ pl k) → wr.heap[b]? = w1.heap[b]?

theorem File.rows {w : World} {fb : Nat} {v : Value} {f : Fl} (h : File w fb v f) {g : Nat} (hg : v.ownBlock = some g) : ∃ cur, w.heap[g]? = some (.cells cur 5 (0, 0)) := by
  rcases h.2.2 with ⟨hn, _⟩ | ⟨g', cap, cur, hv, _, hgg, _⟩
  · rw [hn] at hg; cases hg
  · rw [hv] at hg
    simp only [Value.ownBlock, Option.some.injEq] at hg
    exact ⟨cur, hg ▸ hgg⟩
theorem File.lt {w : World} {fb : Nat} {v : Value} {f : Fl} (h : File w fb v f) : fb < w.heap.size := (Array.getElem?_eq_some_iff.1 h.1).1
theorem File.row_lt {w : World} {fb : Nat} {v : Value} {f : Fl} (h : File w fb v f) {g : Nat} (hg : v.ownBlock = some g) : g < w.heap.size := by
  obtain ⟨cur, hc⟩ := h.rows hg; exact (Array.getElem?_eq_some_iff.1 hc).1

section
variable {keep : Int} {m : List (Nm × Fl)} {pl : Nm → Nat} {v : Nm → Value} {left : Lit → Bool} {w1 wr w2 : World} {S : Nat → Prop} {D : DataW Unit}
theorem Losing.start (hh : Held w1 S D m pl v) (hg : w1.grownBy w2 none) (hs : w2.heap.size = w1.heap.size + 1) : Losing keep m pl v (Maps.has D) w1 w2 := by
  refine ⟨fun k f hf => ⟨v k, ?_, rfl⟩, hg.os, hg.tape, hg.output, hs, fun b hb _ => hg.block b hb (by simp)⟩
  have h1 : Maps.has D (.string k) = true := by rw [hh.has, hf]; rfl
  rw [h1, if_pos rfl]
  have hfi := hh.file k f hf
  exact hfi.keep (hg.block _ hfi.lt (by simp)) (fun g hg' => hg.block _ (hfi.row_lt hg') (by simp))
theorem Losing.next (h : Losing keep m pl v left w1 wr) {r : Nat} (hr : r = w1.heap.size) (hit : ∃ a b c e, wr.heap[r]? = some (.mapIter a b c e)) (hg : wr.grownBy w2 (some r)) (hs : w2.heap.size = wr.heap.size) : Losing keep m pl v left w1 w2 := by
  obtain ⟨i1, i2, i3, i4, hi⟩ := hit
  refine ⟨fun k f hf => ?_, hg.os.trans h.os, hg.tape.trans h.tape, hg.output.trans h.output, hs.trans h.size, fun b hb hne => (hg.block b (by rw [h.size]; omega) (fun e => by cases e; omega)).trans (h.block b hb hne)⟩
  obtain ⟨u, hu, ho⟩ := h.file k f hf
  refine ⟨u, hu.keep (hg.block _ hu.lt (fun e => ?_)) (fun g hg' => hg.block _ (hu.row_lt hg') (fun e => ?_)), ho⟩
  · have := Option.some.inj e
    rw [← this, hu.1] at hi; simp at hi
  · have := Option.some.inj e
    obtain ⟨cur, hc⟩ := hu.rows hg'
    rw [← this, hc] at hi; simp at hi
theorem Losing.lost (h : Losing keep m pl v left w1 wr) (hinj : ∀ k k' f f', get m k = some f → get m k' = some f' → pl k = pl k' → k = k') {x : Nm} {f : Fl} (hx : get m x = some f) {u : Value} (hu : File w2 (pl x) u (lose keep f)) (ho : u.ownBlock = (v x).ownBlock) (hon : Only (pl x) wr w2) :
    Losing keep m pl v (fun z => left z && !z.sameKey (.string x)) w1 w2 := by
  refine ⟨fun k f' hf => ?_, hon.os.trans h.os, hon.tape.trans h.tape, hon.output.trans h.output, hon.size.trans h.size, fun b hb hne => (hon.block b (hne x f hx)).trans (h.block b hb hne)⟩
  by_cases hk : k = x
  · subst hk
    rw [hx] at hf; cases hf
    refine ⟨u, ?_, ho⟩
    have : (Lit.string k).sameKey (.string k) = true := by simp [Lit.sameKey]
    simp only [this, Bool.not_true, Bool.and_false, Bool.false_eq_true, if_false]
    exact hu
  · obtain ⟨u', hu', ho'⟩ := h.file k f' hf
    have hne : pl k ≠ pl x := fun e => hk (hinj k x f' f hf hx e)
    have : (Lit.string k).sameKey (.string x) = false := by simp [Lit.sameKey, hk]
    refine ⟨u', ?_, ho'⟩
    simp only [this, Bool.not_false, Bool.and_true]
    refine hu'.keep (hon.block _ hne) (fun g hg => hon.block _ (fun e => ?_))
    obtain ⟨cur, hc⟩ := hu'.rows hg
    obtain ⟨u0, hu0, _⟩ := h.file x f hx
    rw [e, hu0.1] at hc; simp at hc
end

theorem Only.grown {b : Nat} {w w' : World} (h : Only b w w') : w.grownBy w' (some b) := ⟨h.os, h.tape, h.output, by rw [h.size]; exact Nat.le_refl _, fun k _ hk => h.block k (fun e => hk (by rw [e]))⟩
theorem iter_of {w : World} {bm r n cnt : Nat} {D : DataW Unit} {left : Lit → Bool} (h : w.ranges Try.prog 9 ptrElem bm r n D left cnt) : ∃ a b c e, w.heap[r]? = some (.mapIter a b c e) := by
  obtain ⟨es, clock, since, seen, c0, _, _, _, _, hr, _⟩ := h
  exact ⟨_, _, _, _, hr⟩
theorem file_ne_map {w : World} {fb bm n : Nat} {v : Value} {f : Fl} {D : DataW Unit} (h : File w fb v f) (ho : w.ownsMap Try.prog 9 ptrElem bm n D) : fb ≠ bm := by
  rintro rfl
  obtain ⟨es, clock, hb, _⟩ := ho
  rw [h.1] at hb; simp at hb
theorem file_ne_iter {w : World} {fb r : Nat} {v : Value} {f : Fl} (h : File w fb v f) (hi : ∃ a b c e, w.heap[r]? = some (.mapIter a b c e)) : fb ≠ r := by
  rintro rfl
  obtain ⟨_, _, _, _, hb⟩ := hi
  rw [h.1] at hb; simp at hb

set_option maxHeartbeats 1000000 in
theorem off_map {w : World} {d bm n : Nat} {D : DataW Unit} {m : List (Nm × Fl)} {pl : Nm → Nat} {v : Nm → Value} {S : Nat → Prop} (keep : Int) (c0 : w.cell? ⟨d, 0, none⟩ = some (.map (some bm))) (c1 : w.cell? ⟨d, 1, none⟩ = some (.bool false)) (f1 : w.frozen? ⟨d, 1, none⟩ = false)
    (hown : (w.setCell ⟨d, 1, none⟩ (.bool true)).ownsMap Try.prog 9 ptrElem bm n D) (hh : Held (w.setCell ⟨d, 1, none⟩ (.bool true)) S D m pl v) (hk1 : -9223372036854775808 ≤ keep) (hk2 : keep ≤ 9223372036854775807)
    (hgood : ∀ k f, get m k = some f → f.safe ≤ f.data.length ∧ f.data.length ≤ 16777216) :
    Calls Try.prog 17 #[.pointer (some ⟨d, 0, none⟩), .int .i64 keep] w fun e w' => e = .returned (.tuple #[]) ∧ w'.ownsMap Try.prog 9 ptrElem bm n D ∧ Losing keep m pl v (fun _ => false) (w.setCell ⟨d, 1, none⟩ (.bool true)) w' := by
  have e1 : (w.setCell ⟨d, 1, none⟩ (.bool true)).heap.size = w.heap.size := size_setCell _ _ _
  have HE := Lib.hid e1
  have HG := Lib.hid hgood
  have HO := Lib.hid hown
  clear e1 hgood
  go_enter Try.func17, Try.ntmps17
  go_wp2_with (first
    | (go_at_call 22; refine (up_top c1).mono ?_; rintro e w' ⟨rfl, rfl⟩)
    | (at_range; refine wpList_range_own _ rfl _ 58 rfl 9 69 law Try.underlying58 _ bm n D rfl HO.out ?_; intro w0 hrg0 hg0 hs0))
  go_frame
  have hst := Losing.start (keep := keep) hh hg0 hs0
  rw [HE.out] at hrg0 ⊢
  clear hg0 hs0 hown
  go_loopw [5] (fun _ wr => ∃ left cnt, wr.ranges Try.prog 9 ptrElem bm w.heap.size n D left cnt ∧ Losing keep m pl v left (w.setCell ⟨d, 1, none⟩ (.bool true)) wr) (fun _ wr => wr.rangeLeft bm w.heap.size)
  case atStart => exact ⟨_, _, hrg0, hst⟩
  case round =>
    obtain ⟨left, cnt, hrg, hlo⟩ := hrel
    go_wp2_with (first
      | (at_next; refine wpList_next_ranges _ rfl _ rfl 9 law ptrElem encStr ptrV (fun key kl hk => by obtain ⟨x, hx, _⟩ := Maps.keyOf_str Try.underlying9 hk; exact ⟨x, hx⟩) (fun v y hv => ptrElem_inv hv) bm w.heap.size n _ _ _ rfl hrg ?_ ?_))
    · intro hc0 hl0
      go_wp2
      go_end0
      obtain rfl : left = fun _ => false := funext hl0
      exact ⟨rfl, hrg.owns, hlo⟩
    · intro x c kl yd yp w2 cnt2 hkey hlk hv hat hrg2 hlt hg2 hs2 hen
      obtain ⟨x', ex, rfl, hxl⟩ := Maps.keyOf_str Try.underlying9 hkey
      obtain rfl : x = x' := encStr_inj ex
      have hhas := Maps.has_true_of_atKey hat
      rw [hh.has] at hhas
      obtain ⟨f, hf⟩ := Option.isSome_iff_exists.1 hhas
      have hyd : yd = .lit (.int .i64 (pl x : Int)) := by rw [← hat .nil]; exact hh.el x f hf .nil
      rw [hyd] at hv
      have hpv := ptrElem_at hv
      rw [hpv] at hen ⊢
      have hlo2 := hlo.next HE.out.symm (iter_of hrg) hg2 hs2
      obtain ⟨u, hu, huo⟩ := hlo2.file x f hf
      rw [hlk, if_pos rfl] at hu
      have hgd := HG.out x f hf
      have HU := Lib.hid (And.intro huo hf)
      clear hs2 huo hf hhas hyd hv hpv hkey ex hat
      have HL := Lib.hid hlk
      clear hlk
      go_wp2_with (go_at_call 39; refine (lose_file hu hgd.1 hgd.2 hk1 hk2).mono ?_; rintro e w3 ⟨rfl, ⟨u3, hu3, ho3⟩, hon⟩)
      have hlo3 := hlo2.lost hh.inj HU.out.2 hu3 (ho3.trans HU.out.1) hon
      have hrg3 := hrg2.kept hon.grown (fun e => by have := Option.some.inj e; exact file_ne_map hu hrg2.owns this.symm) (fun e => by have := Option.some.inj e; exact file_ne_iter hu (iter_of hrg2) this.symm)
      go_roundw
      case rel => exact ⟨_, _, hrg3, hlo3⟩
      case measure => rw [hrg3.left_eq, hrg.left_eq]; exact hlt
end Go.Proofs.Ytkiombbdddbkfaa.Dk
