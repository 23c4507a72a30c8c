/-
  Texts joined into one file. Each part says in its own head what is proved there, and under which conditions.
-/
import Derived.Test.YtfoenfipefhpoaaGreatDoorJE2
import Derived.Deep.RegionHeld3
import Derived.Deep.LoopGhost
set_option linter.unusedVariables false
set_option linter.unusedSimpArgs false
/-
  join: operators that wait get their operands. Conditions: the parser keeps what it keeps, a value is complete.
-/
namespace Go.Proofs.YtfoenfipefhpoaaGreatDoor.Ex
open Go.RowKit
/-- The state of join's loop: what is left to be joined gives what was to be. -/
def JR (w0 wS : World) (p level : Nat) (s : St) (k : Nat) (w : World) : Prop :=
  k ≤ 1000 ∧ Keep wS w ∧ ∃ st vo vp es, PX w0 p st vo vp es w ∧ st.Inv ∧ st.complete = true ∧ st.opn = s.opn ∧ st.parts = s.parts ∧ joinL level st.vals st.waits = joinL level s.vals s.waits ∧ st.waits.length = k
theorem JR.done {w0 : World} {p level : Nat} {s : St} {w : World} {st : St} {vo vp : Value} {es : List Ent} (h : PX w0 p st vo vp es w) (hi : st.Inv) (hc : st.complete = true) (h1 : st.opn = s.opn) (h2 : st.parts = s.parts)
    (hj : joinL level st.vals st.waits = joinL level s.vals s.waits) (hs : joinL level st.vals st.waits = (st.vals, st.waits)) (hsc : s.complete = true) : PS w0 p (s.join level) w ∧ (s.join level).Inv := by
  have e : s.join level = st := by
    unfold St.join
    rw [← hj, hs, ← h1, ← h2, hsc, ← hc]
  rw [e]
  exact ⟨⟨vo, vp, es, h⟩, hi⟩
theorem prefix_at {t : Bs} {w : World} {T : Tree} {v : Value} (hs : t = [45] ∨ t = [33]) (ht : T.text.length ≤ 1920) (hz : T.size ≤ 64) (hT : Clos w T v) :
    Calls Tryz.prog 113 #[.string ⟨t.toArray⟩, .agg #[v, .string ⟨T.text.toArray⟩, .int .i64 T.size]] w fun e w' => ∃ f' c', e = .returned (.agg #[.func (.func f') #[] c', .string ⟨(Tree.pre t T).text.toArray⟩, .int .i64 (Tree.pre t T).size]) ∧ Clos w' (.pre t T) (.func (.func f') #[] c') ∧ Below w.heap.size w w' := by
  refine (prefix_any (s := ⟨t.toArray⟩) (by simpa using hs) (by omega) (by omega) hT).mono ?_
  rintro e w' ⟨v', rfl, hC, hb⟩
  obtain ⟨f', c', rfl⟩ := hC.form
  exact ⟨f', c', rfl, hC, hb⟩
theorem binary_at {t : Bs} {w : World} {A B : Tree} {va vb : Value} (hs : t ∈ ops) (ha : A.text.length ≤ 1920) (hb : B.text.length ≤ 1920) (hza : A.size ≤ 64) (hzb : B.size ≤ 64) (hA : Clos w A va) (hB : Clos w B vb) :
    Calls Tryz.prog 114 #[.string ⟨t.toArray⟩, .agg #[va, .string ⟨A.text.toArray⟩, .int .i64 A.size], .agg #[vb, .string ⟨B.text.toArray⟩, .int .i64 B.size]] w fun e w' => ∃ f' c', e = .returned (.agg #[.func (.func f') #[] c', .string ⟨(Tree.bin t A B).text.toArray⟩, .int .i64 (Tree.bin t A B).size]) ∧ Clos w' (.bin t A B) (.func (.func f') #[] c') ∧ Below w.heap.size w w' := by
  refine (binary_any (s := ⟨t.toArray⟩) (by simpa using hs) (by omega) (by omega) (by omega) (by omega) hA hB).mono ?_
  rintro e w' ⟨v', rfl, hC, hb⟩
  obtain ⟨f', c', rfl⟩ := hC.form
  exact ⟨f', c', rfl, hC, hb⟩
theorem S0_next {W W2 : World} {a b : Addr} {x y : Value} (hb : Below W.heap.size W W2) (h : W.cell? a = some x ∧ W.cell? b = some y) : W2.cell? a = some x ∧ W2.cell? b = some y :=
  ⟨(hb.cell (p := a) (World.block_lt_of_cell? W a h.1)).trans h.1, (hb.cell (p := b) (World.block_lt_of_cell? W b h.2)).trans h.2⟩
theorem S_store {W : World} {a b : Addr} {x y u1 u2 u3 : Value} {g j1 j2 j3 : Nat} (h1 : g ≠ a.block) (h2 : g ≠ b.block) (h : W.cell? a = some x ∧ W.cell? b = some y) : (((W.setCell ⟨g, j1, none⟩ u1).setCell ⟨g, j2, none⟩ u2).setCell ⟨g, j3, none⟩ u3).cell? a = some x ∧ (((W.setCell ⟨g, j1, none⟩ u1).setCell ⟨g, j2, none⟩ u2).setCell ⟨g, j3, none⟩ u3).cell? b = some y := by
  have n1 : ∀ j, (⟨g, j, none⟩ : Addr) ≠ a := fun j e => h1 (by rw [← e])
  have n2 : ∀ j, (⟨g, j, none⟩ : Addr) ≠ b := fun j e => h2 (by rw [← e])
  rw [World.cell?_setCell_other _ _ _ _ (n1 _), World.cell?_setCell_other _ _ _ _ (n1 _), World.cell?_setCell_other _ _ _ _ (n1 _), World.cell?_setCell_other _ _ _ _ (n2 _), World.cell?_setCell_other _ _ _ _ (n2 _), World.cell?_setCell_other _ _ _ _ (n2 _)]
  exact h
theorem cell_far {w1 W2 : World} {o : Obj} {a : Addr} {v : Value} (hb : Below (w1.alloc o).drew.heap.size (w1.alloc o).drew W2) (h : w1.cell? a = some v) : W2.cell? a = some v := by
  have hl := World.block_lt_of_cell? w1 a h
  rw [hb.cell (p := a) (by show a.block < (w1.alloc o).heap.size; rw [World.size_alloc]; omega)]
  show (w1.alloc o).cell? a = some v
  rw [((Below.refl w1.heap.size w1).alloc (Nat.le_refl _) o).cell (p := a) hl]; exact h
theorem free_far {w1 W2 : World} {o : Obj} {a : Addr} (hb : Below (w1.alloc o).drew.heap.size (w1.alloc o).drew W2) (hl : a.block < w1.heap.size) (h : w1.frozen? a = false) : W2.frozen? a = false := by
  rw [hb.frozen (p := a) (by show a.block < (w1.alloc o).heap.size; rw [World.size_alloc]; omega)]
  show (w1.alloc o).frozen? a = false
  rw [((Below.refl w1.heap.size w1).alloc (Nat.le_refl _) o).frozen (p := a) hl]; exact h
theorem S_next5 {W W2 : World} {a b c d e : Addr} {x y z u v : Value} (hb : Below W.heap.size W W2) (h : W.cell? a = some x ∧ W.cell? b = some y ∧ W.cell? c = some z ∧ W.cell? d = some u ∧ W.cell? e = some v) : W2.cell? a = some x ∧ W2.cell? b = some y ∧ W2.cell? c = some z ∧ W2.cell? d = some u ∧ W2.cell? e = some v :=
  ⟨(hb.cell (p := a) (World.block_lt_of_cell? W a h.1)).trans h.1, (hb.cell (p := b) (World.block_lt_of_cell? W b h.2.1)).trans h.2.1, (hb.cell (p := c) (World.block_lt_of_cell? W c h.2.2.1)).trans h.2.2.1, (hb.cell (p := d) (World.block_lt_of_cell? W d h.2.2.2.1)).trans h.2.2.2.1, (hb.cell (p := e) (World.block_lt_of_cell? W e h.2.2.2.2)).trans h.2.2.2.2⟩
theorem cell_store3 {W : World} {a : Addr} {x u1 u2 u3 : Value} {g j : Nat} (h : g ≠ a.block ∨ (j + 2 < a.off ∧ g = a.block)) (hc : W.cell? a = some x) : (((W.setCell ⟨g, j, none⟩ u1).setCell ⟨g, j + 1, none⟩ u2).setCell ⟨g, j + 2, none⟩ u3).cell? a = some x := by
  have n1 : ∀ i, i ≤ 2 → (⟨g, j + i, none⟩ : Addr) ≠ a := fun i hi e => by
    rcases h with h | h
    · exact h (by rw [← e])
    · have := congrArg Addr.off e; simp at this; omega
  rw [World.cell?_setCell_other _ _ _ _ (n1 2 (by omega)), World.cell?_setCell_other _ _ _ _ (n1 1 (by omega)), World.cell?_setCell_other _ _ _ _ (by simpa using n1 0 (by omega))]
  exact hc
theorem keep_store3 {w0 wS w : World} {p : Nat} {s : St} {vp : Value} {es : List Ent} {g n cap j : Nat} {x y z : Value} (h : PX w0 p s (.slice (some ⟨g, 0, none⟩) n cap) vp es w) (hK : Keep wS w) : Keep wS (((w.setCell ⟨g, j, none⟩ x).setCell ⟨g, j + 1, none⟩ y).setCell ⟨g, j + 2, none⟩ z) := by
  rcases h.row1.2 with ⟨e, _⟩ | ⟨g', _, cur, e, _, hg, _⟩
  · cases e
  · cases e
    have h1 := heap_setCell_same w g j cur 151 x hg
    have h2 := heap_setCell_same _ g (j + 1) _ 151 y h1
    exact ((hK.trans (keep_setCell hg (.inr (.inl rfl)) x)).trans (keep_setCell h1 (.inr (.inl rfl)) y)).trans (keep_setCell h2 (.inr (.inl rfl)) z)
theorem PX.store_blk {w0 w : World} {p : Nat} {s : St} {vp : Value} {es : List Ent} {g n cap j : Nat} {x y z : Value} (h : PX w0 p s (.slice (some ⟨g, 0, none⟩) n cap) vp es w) : (((w.setCell ⟨g, j, none⟩ x).setCell ⟨g, j + 1, none⟩ y).setCell ⟨g, j + 2, none⟩ z).heap[p]? = some (.cells (pCells (.slice (some ⟨g, 0, none⟩) n cap) vp s) 131 (0, 0)) := by
  have ne : g ≠ p := fun e => row_ne h.row1 h.blk (by decide) (by rw [← e]; rfl)
  exact heap_setCell (heap_setCell (heap_setCell h.blk ne x) ne y) ne z
/-- The round with a sign: what it leaves. -/
theorem JR.pre {w0 wS w1 w2 : World} {p level : Nat} {s st : St} {vp' : Value} {g1 cap1 f2 k : Nat} {cf2 : Array Value} {v : Value} {T : Tree} {er : List Ent} {t : Bs} {ws : List (Bs × Nat)} {o : Obj}
    (hx : PX w0 p { st with waits := ws } (.slice (some ⟨g1, 0, none⟩) (er.length + 1) cap1) vp' ((v, T) :: er) w1) (hv : st.vals = T :: er.map Prod.snd) (hi : ({ st with vals := .pre t T :: er.map Prod.snd, waits := ws } : St).Inv) (hc : st.complete = true) (h1 : st.opn = s.opn) (h2 : st.parts = s.parts)
    (hw : st.waits = (t, 6) :: ws) (hj : joinL level st.vals st.waits = joinL level s.vals s.waits) (hl : level ≤ 6) (hb : Below (w1.alloc o).drew.heap.size (w1.alloc o).drew w2) (hC : Clos w2 (.pre t T) (.func (.func f2) #[] cf2)) (hk : st.waits.length = k) (hk1 : k ≤ 1000) (hK : Keep wS w1) :
    JR w0 wS p level s ws.length (((w2.setCell ⟨g1, er.length * 3, none⟩ (.func (.func f2) #[] cf2)).setCell ⟨g1, er.length * 3 + 1, none⟩ (.string ⟨(Tree.pre t T).text.toArray⟩)).setCell ⟨g1, er.length * 3 + 2, none⟩ (.int .i64 (Tree.pre t T).size)) := by
  have hb1 : Below w1.heap.size w1 w2 := (((Below.refl _ _).alloc (Nat.le_refl _) o).drew).trans (hb.mono (by show w1.heap.size ≤ (w1.alloc o).heap.size; simp))
  have hx2 := hx.grow hb1
  refine ⟨by rw [hw] at hk; simp at hk; omega, keep_store3 hx2 ((hK.trans (Keep.of_below hb1))), { st with vals := .pre t T :: er.map Prod.snd, waits := ws }, .slice (some ⟨g1, 0, none⟩) (er.length + 1) cap1, vp', (.func (.func f2) #[] cf2, .pre t T) :: er, ?_, hi, hc, h1, h2, ?_, rfl⟩
  · refine hx2.store (s' := { st with vals := .pre t T :: er.map Prod.snd, waits := ws }) (cap := cap1) (xs := exCells er) (ys := []) (a := v) (b := .string ⟨T.text.toArray⟩) (c := .int .i64 T.size) rfl (exCells_length er).symm (exCells_cons _ _) (exCells_cons _ _) rfl rfl rfl rfl rfl rfl ?_
    intro q hq
    simp only [List.mem_cons] at hq
    rcases hq with rfl | hq
    · exact hC
    · exact hx2.clos q (by simp [hq])
  · rw [← hj, hv, hw, joinL_pre hl]
/-- The round with an operator: what it leaves. -/
theorem JR.bin {w0 wS w1 w2 : World} {p level : Nat} {s st : St} {vp' : Value} {g1 cap1 f2 k l : Nat} {cf2 : Array Value} {va vb : Value} {A B : Tree} {er : List Ent} {t : Bs} {ws : List (Bs × Nat)} {o : Obj}
    (hx : PX w0 p { st with waits := ws } (.slice (some ⟨g1, 0, none⟩) (er.length + 1 + 1) cap1) vp' ((vb, B) :: (va, A) :: er) w1) (hv : st.vals = B :: A :: er.map Prod.snd) (hi : ({ st with vals := .bin t A B :: er.map Prod.snd, waits := ws } : St).Inv) (hc : st.complete = true) (h1 : st.opn = s.opn) (h2 : st.parts = s.parts)
    (hw : st.waits = (t, l) :: ws) (hj : joinL level st.vals st.waits = joinL level s.vals s.waits) (hl : level ≤ l) (h6 : l ≠ 6) (hb : Below (w1.alloc o).drew.heap.size (w1.alloc o).drew w2) (hC : Clos w2 (.bin t A B) (.func (.func f2) #[] cf2)) (hk : st.waits.length = k) (hk1 : k ≤ 1000) (hK : Keep wS w1) :
    JR w0 wS p level s ws.length ((((w2.setCell ⟨g1, er.length * 3, none⟩ (.func (.func f2) #[] cf2)).setCell ⟨g1, er.length * 3 + 1, none⟩ (.string ⟨(Tree.bin t A B).text.toArray⟩)).setCell ⟨g1, er.length * 3 + 2, none⟩ (.int .i64 (Tree.bin t A B).size)).setCell ⟨p, 0, none⟩ (.slice (some ⟨g1, 0, none⟩) (er.length + 1) cap1)) := by
  have hb1 : Below w1.heap.size w1 w2 := (((Below.refl _ _).alloc (Nat.le_refl _) o).drew).trans (hb.mono (by show w1.heap.size ≤ (w1.alloc o).heap.size; simp))
  have hx2 := hx.grow hb1
  refine ⟨by rw [hw] at hk; simp at hk; omega, (keep_store3 hx2 (hK.trans (Keep.of_below hb1))).trans (keep_setCell (PX.store_blk hx2) (.inl rfl) _), { st with vals := .bin t A B :: er.map Prod.snd, waits := ws }, .slice (some ⟨g1, 0, none⟩) (er.length + 1) cap1, vp', (.func (.func f2) #[] cf2, .bin t A B) :: er, ?_, hi, hc, h1, h2, ?_, rfl⟩
  · have hx3 := hx2.store (s' := { st with vals := B :: .bin t A B :: er.map Prod.snd, waits := ws }) (es' := (vb, B) :: (.func (.func f2) #[] cf2, .bin t A B) :: er) (cap := cap1) (xs := exCells er) (ys := exC (vb, B)) (a := va) (b := .string ⟨A.text.toArray⟩) (c := .int .i64 A.size) rfl (exCells_length er).symm
      (by rw [exCells_cons, exCells_cons]; simp [exC]) (by rw [exCells_cons, exCells_cons]; simp [exC]; exact ⟨rfl, rfl, rfl⟩) rfl rfl rfl rfl rfl rfl (by
        intro q hq
        simp only [List.mem_cons] at hq
        rcases hq with rfl | rfl | hq
        · exact hx2.clos _ (by simp)
        · exact hC
        · exact hx2.clos q (by simp [hq]))
    exact PX.drop (q := (vb, B)) (er := (.func (.func f2) #[] cf2, .bin t A B) :: er) hx3
  · rw [← hj, hv, hw, joinL_bin hl h6]
set_option maxRecDepth 20000 in
set_option maxHeartbeats 4000000 in
theorem join_any {w0 w : World} {p level : Nat} {s : St} (h : PS w0 p s w) (hi : s.Inv) (hc : s.complete = true) (hl1 : 1 ≤ level) (hl6 : level ≤ 6) (hn : s.waits.length ≤ 1000) :
    Calls Tryz.prog 108 #[ptr p, .int .i64 level] w fun e w' => e = .returned (.tuple #[]) ∧ PS w0 p (s.join level) w' ∧ Keep w w' := by
  have HS : Hid (JR w0 w p level s s.waits.length w) := Lib.hid (by obtain ⟨vo, vp, es, hx⟩ := h; exact ⟨hn, Keep.refl w, s, vo, vp, es, hx, hi, hc, rfl, rfl, rfl, rfl⟩)
  have HC := Lib.hid hc
  clear h hi hc
  go_enter Tryz.func108, Tryz.ntmps108
  go_wp2
  go_loopg [4] s.waits.length (fun k _ wr => JR w0 w p level s k wr)
  case atStart => exact HS.out
  case round =>
    obtain ⟨hk1, hK, st, vo, vp, es, hx, hi, hc, h1, h2, hj, hk⟩ := hrel
    have HK0 := Lib.hid hK
    clear hK
    have hp := hx.lt
    match hw : st.waits, hk with
    | [], hk =>
      have hv : vp = .slice none 0 0 ∨ ∃ g cap, vp = .slice (some ⟨g, 0, none⟩) 0 cap := by
        have r := hx.row2
        rw [hw] at r
        rcases r.2 with ⟨e, _⟩ | ⟨g, cap, _, e, _⟩
        · exact .inl e
        · exact .inr ⟨g, cap, e⟩
      have H : Hid (∀ n, PS w0 p (s.join level) (wr.drewN n) ∧ Keep w (wr.drewN n)) := Lib.hid fun n => ⟨(JR.done (hx.drewN n) hi hc h1 h2 hj (by rw [hw]; rfl) HC.out).1, HK0.out⟩
      have c1 := hx.cell.2.1
      clear hx hi hc h1 h2 hj hw hk
      rcases hv with rfl | ⟨g, cap, rfl⟩
      all_goals
        go_wp2_with fail
        go_quiet (fail)
        go_wp2
        go_end0
        exact ⟨rfl, H.out _⟩
    | (t, l) :: ws, hk =>
      obtain ⟨g, cap, rfl, hg, hnc, e0, e1, -⟩ := hx.popped hw
      have hws : ws.length ≤ 1000 := by simp at hk; omega
      have c1 := hx.cell.2.1
      by_cases hle : level ≤ l
      · by_cases h6 : l = 6
        · subst h6
          obtain ⟨T, r, hv, ht, hi2⟩ := inv_pre hi hc hw
          have hev := hx.vals
          rw [hv] at hev
          obtain ⟨⟨v, T'⟩, er, rfl⟩ : ∃ q er, es = q :: er := by cases es with | nil => simp at hev | cons q er => exact ⟨q, er, rfl⟩
          simp only [List.map_cons, List.cons.injEq] at hev
          obtain ⟨rfl, rfl⟩ := hev
          obtain ⟨g1, cap1, rfl, -⟩ := hx.row (by simp)
          have hsm := hi.small (T := T') (by rw [hv]; simp)
          have hcn := hi.count
          rw [hv] at hcn
          have hm : er.length ≤ 63 := by simp at hcn; omega
          have HX := Lib.hid hx
          have HW := Lib.hid hw
          have HSM := Lib.hid hsm
          obtain ⟨f, cf, rfl⟩ := (hx.clos (v, T') (by simp)).form
          have HJ := Lib.hid (And.intro hv (And.intro hi2 (And.intro hc (And.intro h1 (And.intro h2 hj)))))
          have HK : Hid (st.waits.length = gk) := Lib.hid (by rw [hw]; exact hk)
          clear hx hw hi2 hi hc hj hk h1 h2 hv hsm hcn hp
          go_wp2_with fail
          go_quiet (fail)
          go_wp2_with (go_at_call 111; refine (pop_any (HX.out.drewN nq) HW.out hws).mono ?_; rintro e w1 ⟨rfl, ⟨vp', hx1⟩, hKp⟩; have HK1 : Hid (Keep w w1) := Lib.hid (HK0.out.trans hKp); clear hKp; have z0 := hx1.cell.1; have hp := hx1.lt; have HX1 := Lib.hid hx1; clear hx1)
          have hx1 := HX1.out
          obtain ⟨_, _, e, hg1, hnc1, hgb, hfr, hce⟩ := hx1.row (by simp)
          cases e
          obtain ⟨y0, y1, y2⟩ := ex_top (Value.func (Fn.func f) #[] cf, T') er
          have z1 := (hce (er.length * 3) (by simp)).trans y0
          have z2 := (hce (er.length * 3 + 1) (by simp; omega)).trans y1
          have z3 := (hce (er.length * 3 + 2) (by simp; omega)).trans y2
          simp only at z1 z2 z3
          have x1 := hfr (er.length * 3)
          have x2 := hfr (er.length * 3 + 1)
          have x3 := hfr (er.length * 3 + 2)
          have hC : Hid (Clos w1 T' (.func (.func f) #[] cf)) := Lib.hid (hx1.clos (_, T') (by simp))
          have HT : Hid (t = [45] ∨ t = [33]) := Lib.hid ht
          have ne1 : g1 ≠ p := fun e => row_ne hx1.row1 hx1.blk (by decide) (by rw [← e]; rfl)
          have ne2 : g1 ≠ w1.heap.size := by omega
          clear hx1 hce hfr y0 y1 y2 ht HX
          have ix1 : (0 : Int) ≤ (er.length : Int) := by omega
          have ix2 : (er.length : Int) < (er.length : Int) + 1 := by omega
          have S0 : ((w1.alloc (.cells #[.string ⟨t.toArray⟩, .int .i64 6] 157)).drew).cell? ⟨p, 0, none⟩ = some (.slice (some ⟨g1, 0, none⟩) (er.length + 1) cap1) ∧ ((w1.alloc (.cells #[.string ⟨t.toArray⟩, .int .i64 6] 157)).drew).cell? ⟨w1.heap.size, 0, none⟩ = some (.string ⟨t.toArray⟩) := by
            constructor <;> go_simp
          refine wp_region_held_drew (S := fun W => W.cell? ⟨p, 0, none⟩ = some (.slice (some ⟨g1, 0, none⟩) (er.length + 1) cap1) ∧ W.cell? ⟨w1.heap.size, 0, none⟩ = some (.string ⟨t.toArray⟩)) (by kernel_rfl) S0 (fun hHeld => ?_)
          refine wpAnyH_take (i := 0) (oi := ({ dst := some 40, op := Op.move (Operand.tmp 0), type := 145, pos := "parser.go:101", after := #[], guard := none } : Oper)) (v := ?_) rfl (by kernel_rfl) (by kernel_rfl) (by kernel_rfl) (fun _ _ _ h => h) (Or.inl ⟨by rfl, ?hy4_0_0⟩) hHeld ?_
          case hy4_0_0 => (intro W hSw; (try dsimp only at hSw); go_simp; (try with_reducible rfl))
          try simp only [Act.put, List.setIfInBounds_toArray, List.set_cons_zero, List.set_cons_succ]
          refine wpAnyH_take (i := 1) (oi := ({ dst := some 41, op := Op.nilCheck (Operand.tmp 40), type := 0, pos := "parser.go:101", after := #[{ on := 0, ground := Ground.data }], guard := none } : Oper)) (v := ?_) rfl (by kernel_rfl) (by kernel_rfl) (by kernel_rfl) (fun _ _ _ h => h) (Or.inl ⟨by rfl, ?hy4_0_1⟩) hHeld ?_
          case hy4_0_1 => (intro W hSw; (try dsimp only at hSw); go_simp; (try with_reducible rfl))
          try simp only [Act.put, List.setIfInBounds_toArray, List.set_cons_zero, List.set_cons_succ]
          refine wpAnyH_take (i := 2) (oi := ({ dst := some 42, op := Op.fieldAddr 131 (Operand.tmp 41) 0, type := 0, pos := "parser.go:101", after := #[{ on := 1, ground := Ground.data }], guard := none } : Oper)) (v := ?_) rfl (by kernel_rfl) (by kernel_rfl) (by kernel_rfl) (fun _ _ _ h => h) (Or.inl ⟨by rfl, ?hy4_0_2⟩) hHeld ?_
          case hy4_0_2 => (intro W hSw; (try dsimp only at hSw); go_simp; (try with_reducible rfl))
          try simp only [Act.put, List.setIfInBounds_toArray, List.set_cons_zero, List.set_cons_succ]
          refine wpAnyH_take (i := 3) (oi := ({ dst := some 43, op := Op.load 128 (Operand.tmp 42), type := 128, pos := "parser.go:101", after := #[{ on := 2, ground := Ground.data }], guard := none } : Oper)) (v := ?_) rfl (by kernel_rfl) (by kernel_rfl) (by kernel_rfl) (fun _ _ _ h => h) (Or.inl ⟨by rfl, ?hy4_0_3⟩) hHeld ?_
          case hy4_0_3 => (intro W hSw; (try dsimp only at hSw); go_simp; (try with_reducible rfl))
          try simp only [Act.put, List.setIfInBounds_toArray, List.set_cons_zero, List.set_cons_succ]
          refine wpAnyH_take (i := 4) (oi := ({ dst := some 44, op := Op.move (Operand.tmp 5), type := 3, pos := "parser.go:101", after := #[], guard := none } : Oper)) (v := ?_) rfl (by kernel_rfl) (by kernel_rfl) (by kernel_rfl) (fun _ _ _ h => h) (Or.inl ⟨by rfl, ?hy4_0_4⟩) hHeld ?_
          case hy4_0_4 => (intro W hSw; (try dsimp only at hSw); go_simp; (try with_reducible rfl))
          try simp only [Act.put, List.setIfInBounds_toArray, List.set_cons_zero, List.set_cons_succ]
          refine wpAnyH_take (i := 5) (oi := ({ dst := some 45, op := Op.fieldAddr 157 (Operand.tmp 4) 0, type := 0, pos := "parser.go:101", after := #[], guard := none } : Oper)) (v := ?_) rfl (by kernel_rfl) (by kernel_rfl) (by kernel_rfl) (fun _ _ _ h => h) (Or.inl ⟨by rfl, ?hy4_0_5⟩) hHeld ?_
          case hy4_0_5 => (intro W hSw; (try dsimp only at hSw); go_simp; (try with_reducible rfl))
          try simp only [Act.put, List.setIfInBounds_toArray, List.set_cons_zero, List.set_cons_succ]
          refine wpAnyH_take (i := 6) (oi := ({ dst := some 46, op := Op.load 9 (Operand.tmp 45), type := 9, pos := "parser.go:101", after := #[{ on := 5, ground := Ground.data }], guard := none } : Oper)) (v := ?_) rfl (by kernel_rfl) (by kernel_rfl) (by kernel_rfl) (fun _ _ _ h => h) (Or.inl ⟨by rfl, ?hy4_0_6⟩) hHeld ?_
          case hy4_0_6 => (intro W hSw; (try dsimp only at hSw); go_simp; (try with_reducible rfl))
          try simp only [Act.put, List.setIfInBounds_toArray, List.set_cons_zero, List.set_cons_succ]
          refine wpAnyH_take (i := 7) (oi := ({ dst := some 47, op := Op.move (Operand.tmp 0), type := 145, pos := "parser.go:101", after := #[], guard := none } : Oper)) (v := ?_) rfl (by kernel_rfl) (by kernel_rfl) (by kernel_rfl) (fun _ _ _ h => h) (Or.inl ⟨by rfl, ?hy4_0_7⟩) hHeld ?_
          case hy4_0_7 => (intro W hSw; (try dsimp only at hSw); go_simp; (try with_reducible rfl))
          try simp only [Act.put, List.setIfInBounds_toArray, List.set_cons_zero, List.set_cons_succ]
          refine wpAnyH_take (i := 8) (oi := ({ dst := some 48, op := Op.nilCheck (Operand.tmp 47), type := 0, pos := "parser.go:101", after := #[{ on := 7, ground := Ground.data }], guard := none } : Oper)) (v := ?_) rfl (by kernel_rfl) (by kernel_rfl) (by kernel_rfl) (fun _ _ _ h => h) (Or.inl ⟨by rfl, ?hy4_0_8⟩) hHeld ?_
          case hy4_0_8 => (intro W hSw; (try dsimp only at hSw); go_simp; (try with_reducible rfl))
          try simp only [Act.put, List.setIfInBounds_toArray, List.set_cons_zero, List.set_cons_succ]
          refine wpAnyH_take (i := 9) (oi := ({ dst := some 49, op := Op.fieldAddr 131 (Operand.tmp 48) 0, type := 0, pos := "parser.go:101", after := #[{ on := 8, ground := Ground.data }], guard := none } : Oper)) (v := ?_) rfl (by kernel_rfl) (by kernel_rfl) (by kernel_rfl) (fun _ _ _ h => h) (Or.inl ⟨by rfl, ?hy4_0_9⟩) hHeld ?_
          case hy4_0_9 => (intro W hSw; (try dsimp only at hSw); go_simp; (try with_reducible rfl))
          try simp only [Act.put, List.setIfInBounds_toArray, List.set_cons_zero, List.set_cons_succ]
          refine wpAnyH_take (i := 10) (oi := ({ dst := some 50, op := Op.load 128 (Operand.tmp 49), type := 128, pos := "parser.go:101", after := #[{ on := 9, ground := Ground.data }], guard := none } : Oper)) (v := ?_) rfl (by kernel_rfl) (by kernel_rfl) (by kernel_rfl) (fun _ _ _ h => h) (Or.inl ⟨by rfl, ?hy4_0_10⟩) hHeld ?_
          case hy4_0_10 => (intro W hSw; (try dsimp only at hSw); go_simp; (try with_reducible rfl))
          try simp only [Act.put, List.setIfInBounds_toArray, List.set_cons_zero, List.set_cons_succ]
          refine wpAnyH_take (i := 11) (oi := ({ dst := some 51, op := Op.move (Operand.tmp 5), type := 3, pos := "parser.go:101", after := #[], guard := none } : Oper)) (v := ?_) rfl (by kernel_rfl) (by kernel_rfl) (by kernel_rfl) (fun _ _ _ h => h) (Or.inl ⟨by rfl, ?hy4_0_11⟩) hHeld ?_
          case hy4_0_11 => (intro W hSw; (try dsimp only at hSw); go_simp; (try with_reducible rfl))
          try simp only [Act.put, List.setIfInBounds_toArray, List.set_cons_zero, List.set_cons_succ]
          refine wpAnyH_take (i := 12) (oi := ({ dst := some 52, op := Op.indexAddr 128 (Operand.tmp 50) (Operand.tmp 51), type := 0, pos := "parser.go:101", after := #[{ on := 10, ground := Ground.data }, { on := 11, ground := Ground.data }], guard := none } : Oper)) (v := ?_) rfl (by kernel_rfl) (by kernel_rfl) (by kernel_rfl) (fun _ _ _ h => h) (Or.inl ⟨by rfl, ?hy4_0_12⟩) hHeld ?_
          case hy4_0_12 => (intro W hSw; (try dsimp only at hSw); go_simp; (try with_reducible rfl))
          try simp only [Act.put, List.setIfInBounds_toArray, List.set_cons_zero, List.set_cons_succ]
          refine wpAnyH_ready (rs := [13]) (by kernel_rfl) (by simp) ?_
          refine AllReadyH.cons (o := ({ dst := some 53, op := Op.load 151 (Operand.tmp 52), type := 151, pos := "parser.go:101", after := #[{ on := 12, ground := Ground.data }], guard := none } : Oper)) rfl (fun K hK => ?_) AllReadyH.nil
          go_simp
          refine hK.out _ _ S0 (fun hHeld' => ?_)
          clear hK K hHeld
          have hHeld := hHeld'
          clear hHeld'
          try simp only [Act.put, List.setIfInBounds_toArray, List.set_cons_zero, List.set_cons_succ]
          refine wpAnyH_ready (rs := [14]) (by kernel_rfl) (by simp) ?_
          refine AllReadyH.cons (o := ({ dst := some 54, op := Op.call { callee := Callee.value (Operand.func 113), args := #[Operand.tmp 46, Operand.tmp 53], argTypes := #[9, 151] }, type := 151, pos := "parser.go:101", after := #[{ on := 6, ground := Ground.data }, { on := 13, ground := Ground.data }], guard := none } : Oper)) rfl (fun K hK => ?_) AllReadyH.nil
          go_simp
          go_at_call 113
          refine (prefix_at HT.out HSM.out.2 HSM.out.1 (hC.out.keep (Keep.of_below ((Below.refl _ _).alloc (Nat.le_refl _) _).drew))).mono ?_
          rintro e w2 ⟨f2, cf2, rfl, hC2, hb2⟩
          have k0 := cell_far hb2 z0
          have k1 := cell_far hb2 z1
          have k2 := cell_far hb2 z2
          have k3 := cell_far hb2 z3
          have m1 := free_far hb2 hg1 x1
          have m2 := free_far hb2 hg1 x2
          have m3 := free_far hb2 hg1 x3
          have S2 := S0_next hb2 S0
          have HC2 := Lib.hid hC2
          have HB2 := Lib.hid hb2
          clear hC2 hb2
          refine hK.out _ _ S2 (fun hHeld' => ?_)
          clear hK K hHeld
          have hHeld := hHeld'
          clear hHeld'
          try simp only [Act.put, List.setIfInBounds_toArray, List.set_cons_zero, List.set_cons_succ]
          refine wpAnyH_take (i := 15) (oi := ({ dst := some 55, op := Op.indexAddr 128 (Operand.tmp 43) (Operand.tmp 44), type := 0, pos := "parser.go:101", after := #[{ on := 3, ground := Ground.data }, { on := 4, ground := Ground.data }, { on := 0, ground := Ground.phase }, { on := 1, ground := Ground.phase }, { on := 2, ground := Ground.phase }, { on := 3, ground := Ground.phase }, { on := 4, ground := Ground.phase }, { on := 5, ground := Ground.phase }, { on := 6, ground := Ground.phase }, { on := 7, ground := Ground.phase }, { on := 8, ground := Ground.phase }, { on := 9, ground := Ground.phase }, { on := 10, ground := Ground.phase }, { on := 11, ground := Ground.phase }, { on := 12, ground := Ground.phase }, { on := 13, ground := Ground.phase }, { on := 14, ground := Ground.phase }], guard := none } : Oper)) (v := ?_) rfl (by kernel_rfl) (by kernel_rfl) (by kernel_rfl) (fun _ _ _ h => h) (Or.inl ⟨by rfl, ?hy4_3_15⟩) hHeld ?_
          case hy4_3_15 => (intro W hSw; (try dsimp only at hSw); go_simp; (try with_reducible rfl))
          try simp only [Act.put, List.setIfInBounds_toArray, List.set_cons_zero, List.set_cons_succ]
          refine wpAnyH_ready (rs := [16]) (by kernel_rfl) (by simp) ?_
          refine AllReadyH.cons (o := ({ dst := none, op := Op.store 151 (Operand.tmp 55) (Operand.tmp 54), type := 0, pos := "parser.go:101", after := #[{ on := 15, ground := Ground.data }, { on := 14, ground := Ground.data }, { on := 14, ground := Ground.chain }, { on := 0, ground := Ground.phase }, { on := 1, ground := Ground.phase }, { on := 2, ground := Ground.phase }, { on := 3, ground := Ground.phase }, { on := 4, ground := Ground.phase }, { on := 5, ground := Ground.phase }, { on := 6, ground := Ground.phase }, { on := 7, ground := Ground.phase }, { on := 8, ground := Ground.phase }, { on := 9, ground := Ground.phase }, { on := 10, ground := Ground.phase }, { on := 11, ground := Ground.phase }, { on := 12, ground := Ground.phase }, { on := 13, ground := Ground.phase }, { on := 14, ground := Ground.phase }], guard := none } : Oper)) rfl (fun K hK => ?_) AllReadyH.nil
          go_simp
          refine hK.out _ _ (S_store ne1 ne2 S2) (fun hHeld' => ?_)
          clear hK K hHeld
          have hHeld := hHeld'
          clear hHeld'
          try simp only [Act.put, List.setIfInBounds_toArray, List.set_cons_zero, List.set_cons_succ]
          refine wpAnyH_done (by kernel_rfl) ?_ _
          go_wp2
          have hgk : ws.length < gk := by have := HK.out; rw [HW.out] at this; simp at this; omega
          obtain ⟨hv, hi2, hc, h1, h2, hj⟩ := HJ.out
          have R := JR.pre HX1.out hv hi2 hc h1 h2 HW.out hj (by omega) HB2.out HC2.out HK.out hk1 HK1.out
          go_roundg ws.length
          case measure => exact hgk
          case rel => exact R
        · have hi0 : l ≠ 0 := by omega
          obtain ⟨B, A, r, hv, ht, hi2⟩ := inv_bin hi hc hw hi0 h6
          have hev := hx.vals
          rw [hv] at hev
          obtain ⟨⟨vb, B'⟩, ⟨va, A'⟩, er, rfl⟩ : ∃ q q' er, es = q :: q' :: er := by
            match es, hev with
            | q :: q' :: er, _ => exact ⟨q, q', er, rfl⟩
            | [], h => simp at h
            | [_], h => simp at h
          simp only [List.map_cons, List.cons.injEq] at hev
          obtain ⟨rfl, rfl, rfl⟩ := hev
          obtain ⟨g1, cap1, rfl, -⟩ := hx.row (by simp)
          have hsa := hi.small (T := A') (by rw [hv]; simp)
          have hsb := hi.small (T := B') (by rw [hv]; simp)
          have hcn := hi.count
          rw [hv] at hcn
          have hm : er.length ≤ 62 := by simp at hcn; omega
          have HX := Lib.hid hx
          have HW := Lib.hid hw
          have HSA := Lib.hid hsa
          have HSB := Lib.hid hsb
          obtain ⟨fb, cb, rfl⟩ := (hx.clos (vb, B') (by simp)).form
          obtain ⟨fa, ca, rfl⟩ := (hx.clos (va, A') (by simp)).form
          have HJ := Lib.hid (And.intro hv (And.intro hi2 (And.intro hc (And.intro h1 (And.intro h2 hj)))))
          have HK : Hid (st.waits.length = gk) := Lib.hid (by rw [hw]; exact hk)
          have h6b : ((l : Int) == 6) = false := by rw [beq_eq_false_iff_ne]; omega
          clear hx hw hi2 hi hc hj hk h1 h2 hv hsa hsb hcn hp
          go_wp2_with fail
          go_quiet (fail)
          go_wp2_with (go_at_call 111; refine (pop_any (HX.out.drewN nq) HW.out hws).mono ?_; rintro e w1 ⟨rfl, ⟨vp', hx1⟩, hKp⟩; have HK1 : Hid (Keep w w1) := Lib.hid (HK0.out.trans hKp); clear hKp; have z0 := hx1.cell.1; have hp := hx1.lt; have HX1 := Lib.hid hx1; clear hx1)
          have hx1 := HX1.out
          obtain ⟨_, _, e, hg1, hnc1, hgb, hfr, hce⟩ := hx1.row (by simp)
          cases e
          obtain ⟨y0, y1, y2⟩ := ex_top (Value.func (Fn.func fa) #[] ca, A') er
          obtain ⟨t0, t1, t2⟩ := ex_top (Value.func (Fn.func fb) #[] cb, B') ((Value.func (Fn.func fa) #[] ca, A') :: er)
          have z1 := (hce (er.length * 3) (by simp; omega)).trans ((ex_low _ _ _ (by omega)).trans y0)
          have z2 := (hce (er.length * 3 + 1) (by simp; omega)).trans ((ex_low _ _ _ (by omega)).trans y1)
          have z3 := (hce (er.length * 3 + 2) (by simp; omega)).trans ((ex_low _ _ _ (by omega)).trans y2)
          have z4 := (hce ((er.length + 1) * 3) (by simp)).trans t0
          have z5 := (hce ((er.length + 1) * 3 + 1) (by simp; omega)).trans t1
          have z6 := (hce ((er.length + 1) * 3 + 2) (by simp; omega)).trans t2
          simp only at z1 z2 z3 z4 z5 z6
          have x1 := hfr (er.length * 3)
          have x2 := hfr (er.length * 3 + 1)
          have x3 := hfr (er.length * 3 + 2)
          have hCA : Hid (Clos w1 A' (.func (.func fa) #[] ca)) := Lib.hid (hx1.clos (_, A') (by simp))
          have hCB : Hid (Clos w1 B' (.func (.func fb) #[] cb)) := Lib.hid (hx1.clos (_, B') (by simp))
          have HT : Hid (t ∈ ops) := Lib.hid ht
          have ne1 : g1 ≠ p := fun e => row_ne hx1.row1 hx1.blk (by decide) (by rw [← e]; rfl)
          have ne2 : g1 ≠ w1.heap.size := by omega
          have hfp := hx1.free 0
          clear hx1 hce hfr y0 y1 y2 t0 t1 t2 ht HX
          have ix1 : (0 : Int) ≤ (er.length : Int) := by omega
          have ix2 : (er.length : Int) < (er.length : Int) + 1 + 1 := by omega
          have ix3 : (0 : Int) ≤ (er.length : Int) + 1 := by omega
          have ix4 : (er.length : Int) + 1 < (er.length : Int) + 1 + 1 := by omega
          have ix5 : ((er.length : Int) + 1).toNat = er.length + 1 := by omega
          have S0 : ((w1.alloc (.cells #[.string ⟨t.toArray⟩, .int .i64 (l : Int)] 157)).drew).cell? ⟨p, 0, none⟩ = some (.slice (some ⟨g1, 0, none⟩) (er.length + 1 + 1) cap1) ∧ ((w1.alloc (.cells #[.string ⟨t.toArray⟩, .int .i64 (l : Int)] 157)).drew).cell? ⟨w1.heap.size, 0, none⟩ = some (.string ⟨t.toArray⟩) ∧
              ((w1.alloc (.cells #[.string ⟨t.toArray⟩, .int .i64 (l : Int)] 157)).drew).cell? ⟨g1, (er.length + 1) * 3, none⟩ = some (.func (.func fb) #[] cb) ∧ ((w1.alloc (.cells #[.string ⟨t.toArray⟩, .int .i64 (l : Int)] 157)).drew).cell? ⟨g1, (er.length + 1) * 3 + 1, none⟩ = some (.string ⟨B'.text.toArray⟩) ∧ ((w1.alloc (.cells #[.string ⟨t.toArray⟩, .int .i64 (l : Int)] 157)).drew).cell? ⟨g1, (er.length + 1) * 3 + 2, none⟩ = some (.int .i64 (B'.size : Int)) := by
            refine ⟨?_, ?_, ?_, ?_, ?_⟩ <;> go_simp
          have hcap : er.length + 1 + 1 ≤ cap1 := by simpa using hnc1
          have hcap2 : (er.length : Int) + 1 ≤ (cap1 : Int) := by omega
          have of1 : er.length * 3 + 2 < (er.length + 1) * 3 := by omega
          have of2 : er.length * 3 + 2 < (er.length + 1) * 3 + 1 := by omega
          have of3 : er.length * 3 + 2 < (er.length + 1) * 3 + 2 := by omega
          have ix6 : IntKind.i64.wrap (er.length : Int) = (er.length : Int) := IntWalk.i64_in _ (by omega)
          refine wp_region_held_drew (S := fun W => W.cell? ⟨p, 0, none⟩ = some (.slice (some ⟨g1, 0, none⟩) (er.length + 1 + 1) cap1) ∧ W.cell? ⟨w1.heap.size, 0, none⟩ = some (.string ⟨t.toArray⟩) ∧ W.cell? ⟨g1, (er.length + 1) * 3, none⟩ = some (.func (.func fb) #[] cb) ∧ W.cell? ⟨g1, (er.length + 1) * 3 + 1, none⟩ = some (.string ⟨B'.text.toArray⟩) ∧ W.cell? ⟨g1, (er.length + 1) * 3 + 2, none⟩ = some (.int .i64 (B'.size : Int))) (by kernel_rfl) S0 (fun hHeld => ?_)
          refine wpAnyH_take (i := 0) (oi := ({ dst := some 56, op := Op.move (Operand.tmp 0), type := 145, pos := "parser.go:104", after := #[], guard := none } : Oper)) (v := ?_) rfl (by kernel_rfl) (by kernel_rfl) (by kernel_rfl) (fun _ _ _ h => h) (Or.inl ⟨by rfl, ?hy5_0_0⟩) hHeld ?_
          case hy5_0_0 => (intro W hSw; (try dsimp only at hSw); go_simp; (try with_reducible rfl))
          try simp only [Act.put, List.setIfInBounds_toArray, List.set_cons_zero, List.set_cons_succ]
          refine wpAnyH_take (i := 1) (oi := ({ dst := some 57, op := Op.nilCheck (Operand.tmp 56), type := 0, pos := "parser.go:104", after := #[{ on := 0, ground := Ground.data }], guard := none } : Oper)) (v := ?_) rfl (by kernel_rfl) (by kernel_rfl) (by kernel_rfl) (fun _ _ _ h => h) (Or.inl ⟨by rfl, ?hy5_0_1⟩) hHeld ?_
          case hy5_0_1 => (intro W hSw; (try dsimp only at hSw); go_simp; (try with_reducible rfl))
          try simp only [Act.put, List.setIfInBounds_toArray, List.set_cons_zero, List.set_cons_succ]
          refine wpAnyH_take (i := 2) (oi := ({ dst := some 58, op := Op.fieldAddr 131 (Operand.tmp 57) 0, type := 0, pos := "parser.go:104", after := #[{ on := 1, ground := Ground.data }], guard := none } : Oper)) (v := ?_) rfl (by kernel_rfl) (by kernel_rfl) (by kernel_rfl) (fun _ _ _ h => h) (Or.inl ⟨by rfl, ?hy5_0_2⟩) hHeld ?_
          case hy5_0_2 => (intro W hSw; (try dsimp only at hSw); go_simp; (try with_reducible rfl))
          try simp only [Act.put, List.setIfInBounds_toArray, List.set_cons_zero, List.set_cons_succ]
          refine wpAnyH_take (i := 3) (oi := ({ dst := some 59, op := Op.load 128 (Operand.tmp 58), type := 128, pos := "parser.go:104", after := #[{ on := 2, ground := Ground.data }], guard := none } : Oper)) (v := ?_) rfl (by kernel_rfl) (by kernel_rfl) (by kernel_rfl) (fun _ _ _ h => h) (Or.inl ⟨by rfl, ?hy5_0_3⟩) hHeld ?_
          case hy5_0_3 => (intro W hSw; (try dsimp only at hSw); go_simp; (try with_reducible rfl))
          try simp only [Act.put, List.setIfInBounds_toArray, List.set_cons_zero, List.set_cons_succ]
          refine wpAnyH_take (i := 4) (oi := ({ dst := some 60, op := Op.move (Operand.tmp 5), type := 3, pos := "parser.go:104", after := #[], guard := none } : Oper)) (v := ?_) rfl (by kernel_rfl) (by kernel_rfl) (by kernel_rfl) (fun _ _ _ h => h) (Or.inl ⟨by rfl, ?hy5_0_4⟩) hHeld ?_
          case hy5_0_4 => (intro W hSw; (try dsimp only at hSw); go_simp; (try with_reducible rfl))
          try simp only [Act.put, List.setIfInBounds_toArray, List.set_cons_zero, List.set_cons_succ]
          refine wpAnyH_take (i := 5) (oi := ({ dst := some 61, op := Op.binOp BinOp.sub 3 (Operand.tmp 60) (Operand.const (Value.int IntKind.i64 1)) 3, type := 3, pos := "parser.go:104", after := #[{ on := 4, ground := Ground.data }], guard := none } : Oper)) (v := ?_) rfl (by kernel_rfl) (by kernel_rfl) (by kernel_rfl) (fun _ _ _ h => h) (Or.inl ⟨by rfl, ?hy5_0_5⟩) hHeld ?_
          case hy5_0_5 => (intro W hSw; (try dsimp only at hSw); go_simp; (try with_reducible rfl))
          try simp only [Act.put, List.setIfInBounds_toArray, List.set_cons_zero, List.set_cons_succ]
          refine wpAnyH_take (i := 6) (oi := ({ dst := some 62, op := Op.fieldAddr 157 (Operand.tmp 4) 0, type := 0, pos := "parser.go:104", after := #[], guard := none } : Oper)) (v := ?_) rfl (by kernel_rfl) (by kernel_rfl) (by kernel_rfl) (fun _ _ _ h => h) (Or.inl ⟨by rfl, ?hy5_0_6⟩) hHeld ?_
          case hy5_0_6 => (intro W hSw; (try dsimp only at hSw); go_simp; (try with_reducible rfl))
          try simp only [Act.put, List.setIfInBounds_toArray, List.set_cons_zero, List.set_cons_succ]
          refine wpAnyH_take (i := 7) (oi := ({ dst := some 63, op := Op.load 9 (Operand.tmp 62), type := 9, pos := "parser.go:104", after := #[{ on := 6, ground := Ground.data }], guard := none } : Oper)) (v := ?_) rfl (by kernel_rfl) (by kernel_rfl) (by kernel_rfl) (fun _ _ _ h => h) (Or.inl ⟨by rfl, ?hy5_0_7⟩) hHeld ?_
          case hy5_0_7 => (intro W hSw; (try dsimp only at hSw); go_simp; (try with_reducible rfl))
          try simp only [Act.put, List.setIfInBounds_toArray, List.set_cons_zero, List.set_cons_succ]
          refine wpAnyH_take (i := 8) (oi := ({ dst := some 64, op := Op.move (Operand.tmp 0), type := 145, pos := "parser.go:104", after := #[], guard := none } : Oper)) (v := ?_) rfl (by kernel_rfl) (by kernel_rfl) (by kernel_rfl) (fun _ _ _ h => h) (Or.inl ⟨by rfl, ?hy5_0_8⟩) hHeld ?_
          case hy5_0_8 => (intro W hSw; (try dsimp only at hSw); go_simp; (try with_reducible rfl))
          try simp only [Act.put, List.setIfInBounds_toArray, List.set_cons_zero, List.set_cons_succ]
          refine wpAnyH_take (i := 9) (oi := ({ dst := some 65, op := Op.nilCheck (Operand.tmp 64), type := 0, pos := "parser.go:104", after := #[{ on := 8, ground := Ground.data }], guard := none } : Oper)) (v := ?_) rfl (by kernel_rfl) (by kernel_rfl) (by kernel_rfl) (fun _ _ _ h => h) (Or.inl ⟨by rfl, ?hy5_0_9⟩) hHeld ?_
          case hy5_0_9 => (intro W hSw; (try dsimp only at hSw); go_simp; (try with_reducible rfl))
          try simp only [Act.put, List.setIfInBounds_toArray, List.set_cons_zero, List.set_cons_succ]
          refine wpAnyH_take (i := 10) (oi := ({ dst := some 66, op := Op.fieldAddr 131 (Operand.tmp 65) 0, type := 0, pos := "parser.go:104", after := #[{ on := 9, ground := Ground.data }], guard := none } : Oper)) (v := ?_) rfl (by kernel_rfl) (by kernel_rfl) (by kernel_rfl) (fun _ _ _ h => h) (Or.inl ⟨by rfl, ?hy5_0_10⟩) hHeld ?_
          case hy5_0_10 => (intro W hSw; (try dsimp only at hSw); go_simp; (try with_reducible rfl))
          try simp only [Act.put, List.setIfInBounds_toArray, List.set_cons_zero, List.set_cons_succ]
          refine wpAnyH_take (i := 11) (oi := ({ dst := some 67, op := Op.load 128 (Operand.tmp 66), type := 128, pos := "parser.go:104", after := #[{ on := 10, ground := Ground.data }], guard := none } : Oper)) (v := ?_) rfl (by kernel_rfl) (by kernel_rfl) (by kernel_rfl) (fun _ _ _ h => h) (Or.inl ⟨by rfl, ?hy5_0_11⟩) hHeld ?_
          case hy5_0_11 => (intro W hSw; (try dsimp only at hSw); go_simp; (try with_reducible rfl))
          try simp only [Act.put, List.setIfInBounds_toArray, List.set_cons_zero, List.set_cons_succ]
          refine wpAnyH_take (i := 12) (oi := ({ dst := some 68, op := Op.move (Operand.tmp 5), type := 3, pos := "parser.go:104", after := #[], guard := none } : Oper)) (v := ?_) rfl (by kernel_rfl) (by kernel_rfl) (by kernel_rfl) (fun _ _ _ h => h) (Or.inl ⟨by rfl, ?hy5_0_12⟩) hHeld ?_
          case hy5_0_12 => (intro W hSw; (try dsimp only at hSw); go_simp; (try with_reducible rfl))
          try simp only [Act.put, List.setIfInBounds_toArray, List.set_cons_zero, List.set_cons_succ]
          refine wpAnyH_take (i := 13) (oi := ({ dst := some 69, op := Op.binOp BinOp.sub 3 (Operand.tmp 68) (Operand.const (Value.int IntKind.i64 1)) 3, type := 3, pos := "parser.go:104", after := #[{ on := 12, ground := Ground.data }], guard := none } : Oper)) (v := ?_) rfl (by kernel_rfl) (by kernel_rfl) (by kernel_rfl) (fun _ _ _ h => h) (Or.inl ⟨by rfl, ?hy5_0_13⟩) hHeld ?_
          case hy5_0_13 => (intro W hSw; (try dsimp only at hSw); go_simp; (try with_reducible rfl))
          try simp only [Act.put, List.setIfInBounds_toArray, List.set_cons_zero, List.set_cons_succ]
          refine wpAnyH_take (i := 14) (oi := ({ dst := some 70, op := Op.indexAddr 128 (Operand.tmp 67) (Operand.tmp 69), type := 0, pos := "parser.go:104", after := #[{ on := 11, ground := Ground.data }, { on := 13, ground := Ground.data }], guard := none } : Oper)) (v := ?_) rfl (by kernel_rfl) (by kernel_rfl) (by kernel_rfl) (fun _ _ _ h => h) (Or.inl ⟨by rfl, ?hy5_0_14⟩) hHeld ?_
          case hy5_0_14 => (intro W hSw; (try dsimp only at hSw); go_simp; (try with_reducible rfl))
          try simp only [Act.put, List.setIfInBounds_toArray, List.set_cons_zero, List.set_cons_succ]
          refine wpAnyH_take (i := 16) (oi := ({ dst := some 72, op := Op.move (Operand.tmp 0), type := 145, pos := "parser.go:104", after := #[], guard := none } : Oper)) (v := ?_) rfl (by kernel_rfl) (by kernel_rfl) (by kernel_rfl) (fun _ _ _ h => h) (Or.inl ⟨by rfl, ?hy5_0_16⟩) hHeld ?_
          case hy5_0_16 => (intro W hSw; (try dsimp only at hSw); go_simp; (try with_reducible rfl))
          try simp only [Act.put, List.setIfInBounds_toArray, List.set_cons_zero, List.set_cons_succ]
          refine wpAnyH_take (i := 17) (oi := ({ dst := some 73, op := Op.nilCheck (Operand.tmp 72), type := 0, pos := "parser.go:104", after := #[{ on := 16, ground := Ground.data }], guard := none } : Oper)) (v := ?_) rfl (by kernel_rfl) (by kernel_rfl) (by kernel_rfl) (fun _ _ _ h => h) (Or.inl ⟨by rfl, ?hy5_0_17⟩) hHeld ?_
          case hy5_0_17 => (intro W hSw; (try dsimp only at hSw); go_simp; (try with_reducible rfl))
          try simp only [Act.put, List.setIfInBounds_toArray, List.set_cons_zero, List.set_cons_succ]
          refine wpAnyH_take (i := 18) (oi := ({ dst := some 74, op := Op.fieldAddr 131 (Operand.tmp 73) 0, type := 0, pos := "parser.go:104", after := #[{ on := 17, ground := Ground.data }], guard := none } : Oper)) (v := ?_) rfl (by kernel_rfl) (by kernel_rfl) (by kernel_rfl) (fun _ _ _ h => h) (Or.inl ⟨by rfl, ?hy5_0_18⟩) hHeld ?_
          case hy5_0_18 => (intro W hSw; (try dsimp only at hSw); go_simp; (try with_reducible rfl))
          try simp only [Act.put, List.setIfInBounds_toArray, List.set_cons_zero, List.set_cons_succ]
          refine wpAnyH_take (i := 19) (oi := ({ dst := some 75, op := Op.load 128 (Operand.tmp 74), type := 128, pos := "parser.go:104", after := #[{ on := 18, ground := Ground.data }], guard := none } : Oper)) (v := ?_) rfl (by kernel_rfl) (by kernel_rfl) (by kernel_rfl) (fun _ _ _ h => h) (Or.inl ⟨by rfl, ?hy5_0_19⟩) hHeld ?_
          case hy5_0_19 => (intro W hSw; (try dsimp only at hSw); go_simp; (try with_reducible rfl))
          try simp only [Act.put, List.setIfInBounds_toArray, List.set_cons_zero, List.set_cons_succ]
          refine wpAnyH_take (i := 20) (oi := ({ dst := some 76, op := Op.move (Operand.tmp 5), type := 3, pos := "parser.go:104", after := #[], guard := none } : Oper)) (v := ?_) rfl (by kernel_rfl) (by kernel_rfl) (by kernel_rfl) (fun _ _ _ h => h) (Or.inl ⟨by rfl, ?hy5_0_20⟩) hHeld ?_
          case hy5_0_20 => (intro W hSw; (try dsimp only at hSw); go_simp; (try with_reducible rfl))
          try simp only [Act.put, List.setIfInBounds_toArray, List.set_cons_zero, List.set_cons_succ]
          refine wpAnyH_take (i := 21) (oi := ({ dst := some 77, op := Op.indexAddr 128 (Operand.tmp 75) (Operand.tmp 76), type := 0, pos := "parser.go:104", after := #[{ on := 19, ground := Ground.data }, { on := 20, ground := Ground.data }], guard := none } : Oper)) (v := ?_) rfl (by kernel_rfl) (by kernel_rfl) (by kernel_rfl) (fun _ _ _ h => h) (Or.inl ⟨by rfl, ?hy5_0_21⟩) hHeld ?_
          case hy5_0_21 => (intro W hSw; (try dsimp only at hSw); go_simp; (try with_reducible rfl))
          try simp only [Act.put, List.setIfInBounds_toArray, List.set_cons_zero, List.set_cons_succ]
          refine wpAnyH_take (i := 22) (oi := ({ dst := some 78, op := Op.load 151 (Operand.tmp 77), type := 151, pos := "parser.go:104", after := #[{ on := 21, ground := Ground.data }], guard := none } : Oper)) (v := ?_) rfl (by kernel_rfl) (by kernel_rfl) (by kernel_rfl) (fun _ _ _ h => h) (Or.inl ⟨by rfl, ?hy5_0_22⟩) hHeld ?_
          case hy5_0_22 => (intro W hSw; (try dsimp only at hSw); go_simp; (try with_reducible rfl))
          try simp only [Act.put, List.setIfInBounds_toArray, List.set_cons_zero, List.set_cons_succ]
          refine wpAnyH_ready (rs := [15]) (by kernel_rfl) (by simp) ?_
          refine AllReadyH.cons (o := ({ dst := some 71, op := Op.load 151 (Operand.tmp 70), type := 151, pos := "parser.go:104", after := #[{ on := 14, ground := Ground.data }], guard := none } : Oper)) rfl (fun K hK => ?_) AllReadyH.nil
          go_simp
          refine hK.out _ _ S0 (fun hHeld' => ?_)
          clear hK K hHeld
          have hHeld := hHeld'
          clear hHeld'
          try simp only [Act.put, List.setIfInBounds_toArray, List.set_cons_zero, List.set_cons_succ]
          refine wpAnyH_ready (rs := [23]) (by kernel_rfl) (by simp) ?_
          refine AllReadyH.cons (o := ({ dst := some 79, op := Op.call { callee := Callee.value (Operand.func 114), args := #[Operand.tmp 63, Operand.tmp 71, Operand.tmp 78], argTypes := #[9, 151, 151] }, type := 151, pos := "parser.go:104", after := #[{ on := 7, ground := Ground.data }, { on := 15, ground := Ground.data }, { on := 22, ground := Ground.data }], guard := none } : Oper)) rfl (fun K hK => ?_) AllReadyH.nil
          go_simp
          go_at_call 114
          refine (binary_at HT.out HSA.out.2 HSB.out.2 HSA.out.1 HSB.out.1 (hCA.out.keep (Keep.of_below ((Below.refl _ _).alloc (Nat.le_refl _) _).drew)) (hCB.out.keep (Keep.of_below ((Below.refl _ _).alloc (Nat.le_refl _) _).drew))).mono ?_
          rintro e w2 ⟨f2, cf2, rfl, hC2, hb2⟩
          have k0 := cell_far hb2 z0
          have k1 := cell_far hb2 z1
          have k2 := cell_far hb2 z2
          have k3 := cell_far hb2 z3
          have m1 := free_far hb2 hg1 x1
          have m2 := free_far hb2 hg1 x2
          have m3 := free_far hb2 hg1 x3
          have mp := free_far hb2 hp hfp
          have S2 := S_next5 hb2 S0
          have HC2 := Lib.hid hC2
          have HB2 := Lib.hid hb2
          clear hC2 hb2
          refine hK.out _ _ S2 (fun hHeld' => ?_)
          clear hK K hHeld
          have hHeld := hHeld'
          clear hHeld'
          try simp only [Act.put, List.setIfInBounds_toArray, List.set_cons_zero, List.set_cons_succ]
          refine wpAnyH_take (i := 24) (oi := ({ dst := some 80, op := Op.indexAddr 128 (Operand.tmp 59) (Operand.tmp 61), type := 0, pos := "parser.go:104", after := #[{ on := 3, ground := Ground.data }, { on := 5, ground := Ground.data }, { on := 0, ground := Ground.phase }, { on := 1, ground := Ground.phase }, { on := 2, ground := Ground.phase }, { on := 3, ground := Ground.phase }, { on := 4, ground := Ground.phase }, { on := 5, ground := Ground.phase }, { on := 6, ground := Ground.phase }, { on := 7, ground := Ground.phase }, { on := 8, ground := Ground.phase }, { on := 9, ground := Ground.phase }, { on := 10, ground := Ground.phase }, { on := 11, ground := Ground.phase }, { on := 12, ground := Ground.phase }, { on := 13, ground := Ground.phase }, { on := 14, ground := Ground.phase }, { on := 15, ground := Ground.phase }, { on := 16, ground := Ground.phase }, { on := 17, ground := Ground.phase }, { on := 18, ground := Ground.phase }, { on := 19, ground := Ground.phase }, { on := 20, ground := Ground.phase }, { on := 21, ground := Ground.phase }, { on := 22, ground := Ground.phase }, { on := 23, ground := Ground.phase }], guard := none } : Oper)) (v := ?_) rfl (by kernel_rfl) (by kernel_rfl) (by kernel_rfl) (fun _ _ _ h => h) (Or.inl ⟨by rfl, ?hy5_3_24⟩) hHeld ?_
          case hy5_3_24 => (intro W hSw; (try dsimp only at hSw); go_simp; (try with_reducible rfl))
          try simp only [Act.put, List.setIfInBounds_toArray, List.set_cons_zero, List.set_cons_succ]
          refine wpAnyH_ready (rs := [25]) (by kernel_rfl) (by simp) ?_
          refine AllReadyH.cons (o := ({ dst := none, op := Op.store 151 (Operand.tmp 80) (Operand.tmp 79), type := 0, pos := "parser.go:104", after := #[{ on := 24, ground := Ground.data }, { on := 23, ground := Ground.data }, { on := 23, ground := Ground.chain }, { on := 0, ground := Ground.phase }, { on := 1, ground := Ground.phase }, { on := 2, ground := Ground.phase }, { on := 3, ground := Ground.phase }, { on := 4, ground := Ground.phase }, { on := 5, ground := Ground.phase }, { on := 6, ground := Ground.phase }, { on := 7, ground := Ground.phase }, { on := 8, ground := Ground.phase }, { on := 9, ground := Ground.phase }, { on := 10, ground := Ground.phase }, { on := 11, ground := Ground.phase }, { on := 12, ground := Ground.phase }, { on := 13, ground := Ground.phase }, { on := 14, ground := Ground.phase }, { on := 15, ground := Ground.phase }, { on := 16, ground := Ground.phase }, { on := 17, ground := Ground.phase }, { on := 18, ground := Ground.phase }, { on := 19, ground := Ground.phase }, { on := 20, ground := Ground.phase }, { on := 21, ground := Ground.phase }, { on := 22, ground := Ground.phase }, { on := 23, ground := Ground.phase }], guard := none } : Oper)) rfl (fun K hK => ?_) AllReadyH.nil
          go_simp
          refine hK.out _ _ ⟨cell_store3 (.inl ne1) S2.1, cell_store3 (.inl ne2) S2.2.1, cell_store3 (.inr ⟨of1, rfl⟩) S2.2.2.1, cell_store3 (.inr ⟨of2, rfl⟩) S2.2.2.2.1, cell_store3 (.inr ⟨of3, rfl⟩) S2.2.2.2.2⟩ (fun hHeld' => ?_)
          clear hK K hHeld
          have hHeld := hHeld'
          clear hHeld'
          try simp only [Act.put, List.setIfInBounds_toArray, List.set_cons_zero, List.set_cons_succ]
          refine wpAnyH_done (by kernel_rfl) ?_ _
          clear ix6
          go_wp2
          have hgk : ws.length < gk := by have := HK.out; rw [HW.out] at this; simp at this; omega
          obtain ⟨hv, hi2, hc, h1, h2, hj⟩ := HJ.out
          have R := JR.bin HX1.out hv hi2 hc h1 h2 HW.out hj hle h6 HB2.out HC2.out HK.out hk1 HK1.out
          go_roundg ws.length
          case measure => exact hgk
          case rel => exact R
      · have H : Hid (∀ n, PS w0 p (s.join level) (wr.drewN n) ∧ Keep w (wr.drewN n)) := Lib.hid fun n => ⟨(JR.done (hx.drewN n) hi hc h1 h2 hj (by rw [hw]; exact joinL_stop hle) HC.out).1, HK0.out⟩
        have hd : decide ((level : Int) ≤ (l : Int)) = false := by simpa using hle
        have hd2 : (l : Int) < (level : Int) := by omega
        clear hx hi hc h1 h2 hj hw hk
        go_wp2_with fail
        go_quiet (fail)
        go_wp2
        go_end0
        exact ⟨rfl, H.out _⟩
end Go.Proofs.YtfoenfipefhpoaaGreatDoor.Ex
/-
  Which word may stand where the parser is; which count. Conditions: the parser lies in memory.
-/
namespace Go.Proofs.YtfoenfipefhpoaaGreatDoor.Ex
open Go.RowKit
theorem levelOf_at (t : ByteArray) (w : World) {z : Nat} (h : levelOf t.data.toList = z) : Calls Tryz.prog 107 #[.string t] w fun e w' => e = .returned (.int .i64 z) ∧ w = w' := by subst h; exact levelOf_any t w
theorem ne_beq {k : Nat} {n : Nat} (h : k ≠ n) : ((k : Int) == (n : Int)) = false := by rw [beq_eq_false_iff_ne]; omega
theorem str_ne {t : ByteArray} {l : Bs} (h : t.data.toList ≠ l) : (t.toList == l) = false := by rw [Lib.toList_data, beq_eq_false_iff_ne]; exact h
set_option maxHeartbeats 1000000 in
theorem allows_cells {w : World} {p k at_ : Nat} {s : St} {t : ByteArray} (hp : p < w.heap.size) (c2 : w.cell? ⟨p, 2, none⟩ = some (.int .i64 s.opn)) (c4 : w.cell? ⟨p, 4, none⟩ = some (.bool s.complete)) :
    Calls Tryz.prog 98 #[ptr p, .agg #[.int .i64 k, .int .i64 at_, .string t]] w fun e w' => e = .returned (.bool (s.allows k t.data.toList)) ∧ Below w.heap.size w w' := by
  obtain ⟨c, hc⟩ : ∃ c, s.complete = c := ⟨_, rfl⟩
  obtain ⟨o, ho⟩ : ∃ o, s.opn = o := ⟨_, rfl⟩
  obtain ⟨r, hr⟩ : ∃ r, s.allows k t.data.toList = r := ⟨_, rfl⟩
  rw [hr]
  rw [ho] at c2
  rw [hc] at c4
  unfold St.allows at hr
  rw [hc, ho] at hr
  clear hc ho
  by_cases h1 : k = 1
  · subst h1
    rw [if_pos rfl] at hr
    by_cases h2 : o = 0
    · subst h2
      cases c
      all_goals
        simp at hr
        subst hr
        go_enter Tryz.func98, Tryz.ntmps98
        go_wp2
        go_ret
        exact ⟨rfl, (Below.refl _ _).alloc (Nat.le_refl _) _⟩
    · have h3 := ne_beq (n := 0) h2
      have h3' : ((o : Int) == 0) = false := h3
      cases c
      all_goals
        simp [h2] at hr
        subst hr
        go_enter Tryz.func98, Tryz.ntmps98
        go_wp2
        go_ret
        exact ⟨rfl, (Below.refl _ _).alloc (Nat.le_refl _) _⟩
  · rw [if_neg h1] at hr
    have e1 : ((k : Int) == 1) = false := ne_beq (n := 1) h1
    by_cases h2 : t.data.toList = [41]
    · rw [if_pos h2] at hr
      obtain rfl := bytes_of h2
      clear h2
      by_cases h3 : 0 < o
      · cases c
        all_goals
          simp [h3] at hr
          subst hr
          go_enter Tryz.func98, Tryz.ntmps98
          go_wp2
          go_ret
          exact ⟨rfl, (Below.refl _ _).alloc (Nat.le_refl _) _⟩
      · obtain rfl : o = 0 := by omega
        cases c
        all_goals
          simp at hr
          subst hr
          go_enter Tryz.func98, Tryz.ntmps98
          go_wp2
          go_ret
          exact ⟨rfl, (Below.refl _ _).alloc (Nat.le_refl _) _⟩
    · rw [if_neg h2] at hr
      have e2 := str_ne h2
      cases c
      · rw [if_neg (by simp)] at hr
        by_cases h3 : k = 2
        · subst h3
          simp at hr
          subst hr
          go_enter Tryz.func98, Tryz.ntmps98
          go_wp2
          go_ret
          exact ⟨rfl, (Below.refl _ _).alloc (Nat.le_refl _) _⟩
        · have e3 : ((k : Int) == 2) = false := ne_beq (n := 2) h3
          by_cases h4 : k = 3
          · subst h4
            simp at hr
            subst hr
            go_enter Tryz.func98, Tryz.ntmps98
            go_wp2
            go_ret
            exact ⟨rfl, (Below.refl _ _).alloc (Nat.le_refl _) _⟩
          · have e4 : ((k : Int) == 3) = false := ne_beq (n := 3) h4
            by_cases h45 : t.data.toList = [45]
            · obtain rfl := bytes_of h45
              simp at hr
              subst hr
              clear h45
              go_enter Tryz.func98, Tryz.ntmps98
              go_wp2
              go_ret
              exact ⟨rfl, (Below.refl _ _).alloc (Nat.le_refl _) _⟩
            have e45 := str_ne h45
            by_cases h33 : t.data.toList = [33]
            · obtain rfl := bytes_of h33
              simp at hr
              subst hr
              clear h33
              go_enter Tryz.func98, Tryz.ntmps98
              go_wp2
              go_ret
              exact ⟨rfl, (Below.refl _ _).alloc (Nat.le_refl _) _⟩
            have e33 := str_ne h33
            by_cases h40 : t.data.toList = [40]
            · obtain rfl := bytes_of h40
              simp at hr
              subst hr
              clear h40
              go_enter Tryz.func98, Tryz.ntmps98
              go_wp2
              go_ret
              exact ⟨rfl, (Below.refl _ _).alloc (Nat.le_refl _) _⟩
            have e40 := str_ne h40
            simp [h3, h4, h45, h33, h40] at hr
            subst hr
            clear h45 h33 h40
            go_enter Tryz.func98, Tryz.ntmps98
            go_wp2
            go_ret
            exact ⟨rfl, (Below.refl _ _).alloc (Nat.le_refl _) _⟩
      · rw [if_pos rfl] at hr
        obtain ⟨lv, hl⟩ : ∃ lv, levelOf t.data.toList = lv := ⟨_, rfl⟩
        rw [hl] at hr
        have HL := Lib.hid hl
        clear hl
        by_cases h3 : lv = 0
        · subst h3
          simp at hr
          subst hr
          go_enter Tryz.func98, Tryz.ntmps98
          go_wp2_with (go_at_call 107; refine (levelOf_at _ _ HL.out).mono ?_; rintro e w' ⟨rfl, rfl⟩)
          go_ret
          exact ⟨rfl, (Below.refl _ _).alloc (Nat.le_refl _) _⟩
        · have e3 : ((lv : Int) == 0) = false := ne_beq (n := 0) h3
          have e4 : ((lv : Int) != 0) = true := by simp [bne, e3]
          simp [h3] at hr
          subst hr
          go_enter Tryz.func98, Tryz.ntmps98
          go_wp2_with (go_at_call 107; refine (levelOf_at _ _ HL.out).mono ?_; rintro e w' ⟨rfl, rfl⟩)
          go_ret
          exact ⟨rfl, (Below.refl _ _).alloc (Nat.le_refl _) _⟩
set_option maxHeartbeats 1000000 in
theorem isPart_any {w : World} {k at_ : Nat} {t : ByteArray} :
    Calls Tryz.prog 99 #[.agg #[.int .i64 k, .int .i64 at_, .string t]] w fun e w' => e = .returned (.bool (isPart k t.data.toList)) ∧ Below w.heap.size w w' := by
  obtain ⟨r, hr⟩ : ∃ r, isPart k t.data.toList = r := ⟨_, rfl⟩
  rw [hr]
  unfold isPart at hr
  by_cases h1 : k = 1
  · subst h1
    simp at hr
    subst hr
    go_enter Tryz.func99, Tryz.ntmps99
    go_wp2
    go_ret
    exact ⟨rfl, (Below.refl _ _).alloc (Nat.le_refl _) _⟩
  · have e1 : ((k : Int) == 1) = false := ne_beq (n := 1) h1
    have e1' : ((k : Int) != 1) = true := by simp [bne, e1]
    by_cases h2 : t.data.toList = [40]
    · obtain rfl := bytes_of h2
      simp at hr
      subst hr
      clear h2
      go_enter Tryz.func99, Tryz.ntmps99
      go_wp2
      go_ret
      exact ⟨rfl, (Below.refl _ _).alloc (Nat.le_refl _) _⟩
    · have e2 := str_ne h2
      by_cases h3 : t.data.toList = [41]
      · obtain rfl := bytes_of h3
        simp at hr
        subst hr
        clear h3
        go_enter Tryz.func99, Tryz.ntmps99
        go_wp2
        go_ret
        exact ⟨rfl, (Below.refl _ _).alloc (Nat.le_refl _) _⟩
      · have e3 := str_ne h3
        simp [h1, h2, h3] at hr
        subst hr
        clear h2 h3
        go_enter Tryz.func99, Tryz.ntmps99
        go_wp2
        go_ret
        exact ⟨rfl, (Below.refl _ _).alloc (Nat.le_refl _) _⟩
end Go.Proofs.YtfoenfipefhpoaaGreatDoor.Ex
