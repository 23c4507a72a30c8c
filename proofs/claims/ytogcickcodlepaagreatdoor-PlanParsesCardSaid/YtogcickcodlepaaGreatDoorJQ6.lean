/-
  Texts joined into one file. Each part says in its own head what is proved there, and under which conditions.
-/
import Derived.Test.YtogcickcodlepaaGreatDoorJQ5
import Derived.Test.YtogcickcodlepaaGreatDoorJQ3
import Derived.Test.YtogcickcodlepaaGreatDoorJP9
import Derived.Deep.LoopGhost
import Derived.Test.YtogcickcodlepaaGreatDoorJP5
set_option linter.unusedVariables false
set_option linter.unusedSimpArgs false
/-
  The document's Parse: a text's plan, or the first error and its line. Conditions: what the document's test of a flow says is handed in.
-/
namespace Go.Proofs.YtogcickcodlepaaGreatDoor.Pl
open Go.RowKit Go.Proofs.YtogcickcodlepaaGreatDoor.Ex

theorem rcheck_of2 (HFD : FlowDoes) {w : World} {v : Value} {p : Pln} {l : Nat} {E : Int} (h : PlnAt w v p) (hc : check p = (l, E)) : Calls Tryz.prog 10 #[v] w fun e w' => e = .returned (.tuple #[.int .i64 l, .int .i64 E]) ∧ Below w.heap.size w w' := by
  refine (rcheck_any HFD h).mono ?_
  rintro e w' ⟨h1, h2⟩
  rw [hc] at h1
  exact ⟨h1, h2⟩
theorem info25 : (Tryz.prog.info? 25).map (·.size) = some 2 := by kernel_rfl
theorem res_three {P : Program} {fn : Func} {tmps : Array Value} {w : World} {g : Nat} {t : TypeId} {fr : Nat × Nat} {a b u v : Value} {fs : Array Field} (hf : fn.results = #[.cell 2 25, .tmp 3, .tmp 4]) (ha : tmps.getD 2 undef = .pointer (some ⟨g, 0, none⟩)) (h3 : tmps.getD 3 undef = u) (h4 : tmps.getD 4 undef = v)
    (hg : w.heap[g]? = some (.cells #[a, b] t fr)) (hu : P.underlying 25 = some (.struct fs)) (hi : (P.info? 25).map (·.size) = some 2) : (results fn tmps).run P w = .ok (.tuple #[.agg #[a, b], u, v]) w := by
  have ha' : tmps[2]?.getD undef = .pointer (some ⟨g, 0, none⟩) := by simpa using ha
  have h3' : tmps[3]?.getD undef = u := by simpa using h3
  have h4' : tmps[4]?.getD undef = v := by simpa using h4
  unfold results
  rw [hf]
  simp [ha', h3', h4', asAddr, run_loadVar_row w g t 25 #[a, b] fr _ hg hu rfl hi]
def ParseR (R : PRes) (w : World) (e : Ending) (w' : World) : Prop := ∃ v, e = .returned (.tuple #[v, .int .i64 R.line, .int .i64 R.num]) ∧ PlnAt w' v R.plan ∧ Below w.heap.size w w'
set_option maxRecDepth 20000 in
set_option maxHeartbeats 4000000 in
theorem rparse_long {w : World} (s : ByteArray) (hs : 4096 < s.size) : Calls Tryz.prog 14 #[.string s] w (ParseR (.err 0 2) w) := by
  have h1 : (4096 : Int) < (s.size : Int) := by omega
  go_enter Tryz.func14, Tryz.ntmps14
  go_wp2
  refine bodyPost_ret (res_three rfl rfl rfl rfl (heap_alloc_new w _) Tryz.underlying25 info25) rfl ⟨_, rfl, PlnAt.empty _, (Below.refl _ _).alloc (Nat.le_refl _) _⟩
/-- What a round of the reader keeps: the lines, the plan, where it stands. -/
structure RP (KL : Nat × Array Value) (w0 : World) (p : Nat) (L : List Bs) (RR : Ran) (k : Nat) (S : PSt) (vt vf va vb : Value) (es : List FE) (w : World) : Prop where
  qx : QX KL w0 p S vt vf va vb es w
  sz : Sz S k
  run : run S (k + 1) (L.drop k) = RR
theorem RP.grow {KL : Nat × Array Value} {w0 : World} {p : Nat} {L : List Bs} {RR : Ran} {k : Nat} {S : PSt} {vt vf va vb : Value} {es : List FE} {w w' : World} (h : RP KL w0 p L RR k S vt vf va vb es w) (hb : Below w.heap.size w w') : RP KL w0 p L RR k S vt vf va vb es w' := ⟨h.qx.grow hb, h.sz, h.run⟩
theorem QX.pln {KL : Nat × Array Value} {w0 w : World} {p m : Nat} {S : PSt} {vt vf va vb : Value} {es : List FE} (h : QX KL w0 p S vt vf va vb es w) (hz : Sz S m) : PlnAt w (.agg #[vt, vf]) ⟨S.tops, S.flws⟩ := by
  refine ⟨vt, vf, es, rfl, lst_row h.rowT (fun _ _ => rfl), ⟨lst_row h.rowF (fun _ _ => rfl), fun q hq => ?_⟩, h.flws⟩
  have hq' := h.steps q hq
  have hm : q.f ∈ S.flws := by rw [← h.flws]; exact List.mem_map_of_mem hq
  obtain ⟨-, -, h1, h2⟩ := hz.steps q.f hm
  have h4 : (4096 : Nat) ≤ maxLen := by decide
  exact ⟨⟨lst_row hq'.pre (fun _ _ => rfl), fun s hs => Nat.le_trans (h1 s hs) h4⟩, ⟨lst_row hq'.post (fun _ _ => rfl), fun s hs => Nat.le_trans (h2 s hs) h4⟩⟩
theorem row_put1 {w : World} {B size n r : Nat} {e : TypeId} {v : Value} {xs : List Value} (h : w.ownsRow B e size v n xs) (k : r < B) (a b : Value) : ((w.setCell ⟨r, 0, none⟩ a).setCell ⟨r, 1, none⟩ b).ownsRow B e size v n xs := by
  have hne : v.ownBlock ≠ some r := fun hv => by have := (h.lt r hv).1; omega
  exact ownsRow_setCell_other (ownsRow_setCell_other h hne _) hne _
/-- The plan lies there behind the stores of the results. -/
theorem QX.pln_put {KL : Nat × Array Value} {w0 w : World} {p m r : Nat} {S : PSt} {vt vf va vb : Value} {es : List FE} (h : QX KL w0 p S vt vf va vb es w) (hz : Sz S m) (k : r < w0.heap.size) (a b : Value) :
    PlnAt ((w.setCell ⟨r, 0, none⟩ a).setCell ⟨r, 1, none⟩ b) (.agg #[vt, vf]) ⟨S.tops, S.flws⟩ := by
  refine ⟨vt, vf, es, rfl, lst_row (row_put1 h.rowT k a b) (fun _ _ => rfl), ⟨lst_row (row_put1 h.rowF k a b) (fun _ _ => rfl), fun q hq => ?_⟩, h.flws⟩
  have hq' := h.steps q hq
  have hm : q.f ∈ S.flws := by rw [← h.flws]; exact List.mem_map_of_mem hq
  obtain ⟨-, -, h1, h2⟩ := hz.steps q.f hm
  have h4 : (4096 : Nat) ≤ maxLen := by decide
  exact ⟨⟨lst_row (row_put1 hq'.pre k a b) (fun _ _ => rfl), fun s hs => Nat.le_trans (h1 s hs) h4⟩, ⟨lst_row (row_put1 hq'.post k a b) (fun _ _ => rfl), fun s hs => Nat.le_trans (h2 s hs) h4⟩⟩
theorem ret_set {w : World} {r : Nat} {x y : Value} (h : w.heap[r]? = some (.cells #[x, y] 25 (0, 0))) (a b : Value) : ((w.setCell ⟨r, 0, none⟩ a).setCell ⟨r, 1, none⟩ b).heap[r]? = some (.cells #[a, b] 25 (0, 0)) := by
  have e1 := heap_setCell_same w r 0 _ _ a h
  have e2 := heap_setCell_same _ r 1 _ _ b e1
  rw [e2]; rfl
theorem ret_below {B r : Nat} {w0 w : World} (h : Below B w0 w) (hr : B ≤ r) (a b : Value) : Below B w0 ((w.setCell ⟨r, 0, none⟩ a).setCell ⟨r, 1, none⟩ b) := (h.setCell hr a).setCell hr b
def hadB (S : PSt) : Bool := decide (lastKind S.flws ≠ 0)
end Go.Proofs.YtogcickcodlepaaGreatDoor.Pl
/-
  The document's Parse: what a line turns, told of the reader's memory. Conditions: none but what each statement says.
-/
namespace Go.Proofs.YtogcickcodlepaaGreatDoor.Pl
open Go.RowKit Go.Proofs.YtogcickcodlepaaGreatDoor.Ex

/-- What lies there behind the reading of a line: the reader, the result's place, the line. -/
structure MX (KL : Nat × Array Value) (w0 : World) (p r y : Nat) (L : List Bs) (RR : Ran) (k : Nat) (S : PSt) (vt vf va vb : Value) (es : List FE) (x : LnX) (w : World) : Prop where
  rp : RP KL w0 p L RR k S vt vf va vb es w
  ret : w.heap[r]? = some (.cells #[.slice none 0 0, .slice none 0 0] 25 (0, 0))
  ln : w.heap[y]? = some (.cells (lnCs x).toArray 65 (0, 0))
theorem MX.grow {KL : Nat × Array Value} {w0 : World} {p r y : Nat} {L : List Bs} {RR : Ran} {k : Nat} {S : PSt} {vt vf va vb : Value} {es : List FE} {x : LnX} {w w' : World} (h : MX KL w0 p r y L RR k S vt vf va vb es x w) (hb : Below w.heap.size w w') : MX KL w0 p r y L RR k S vt vf va vb es x w' :=
  ⟨h.rp.grow hb, (hb.block r (lt_of_heap h.ret)).trans h.ret, (hb.block y (lt_of_heap h.ln)).trans h.ln⟩
theorem ln_cell {w : World} {y : Nat} {x : LnX} (h : w.heap[y]? = some (.cells (lnCs x).toArray 65 (0, 0))) (i : Nat) {v : Value} (hv : (lnCs x)[i]? = some v) : w.cell? ⟨y, i, none⟩ = some v := by
  rw [cell_of_heap h]
  simpa using hv
/-- A row is stored into a block: the block holds it, what lies below is kept. -/
theorem wpList_store_rowG {P : Program} {ops : Array Oper} {rest : List Oper} {o : Oper} {a : Act} {w : World} {Q : Exit → Act → World → Prop} (hgd : o.guard = none) (ty : TypeId) (x y : Operand) (ho : o.op = .store ty x y)
    (g : Nat) (cells : Array Value) (hx : a.eval x = .pointer (some ⟨g, 0, none⟩)) (hy : a.eval y = .agg cells)
    (t : TypeId) (old : Array Value) (hg : w.heap[g]? = some (.cells old t (0, 0))) (hi : (P.info? ty).map (·.size) = some cells.size)
    (hold : old.size = cells.size) (h1 : cells.all (·.oneCell') = true)
    (h : ∀ w3 : World, w3.heap[g]? = some (.cells cells t (0, 0)) → Below g w w3 → wpList P ops Q rest (a.put o.dst undef) w3) : wpList P ops Q (o :: rest) a w :=
  wpList_store_row hgd ty x y ho g cells hx hy t old hg hi hold h1 (h _ (setRow_heap _ _ _ _ _ _ hg) (below_setRow (Below.refl _ _) (Nat.le_refl _) _))
theorem lastKind_snoc (fs : List Flw) (f : Flw) : lastKind (fs ++ [f]) = f.win.kind := by unfold lastKind; simp
theorem addStep_kind (s : Stp) (f : Flw) : (addStep s f).win.kind = f.win.kind := by unfold addStep; split <;> rfl
theorem windowOf_kind (ws : List Bs) : (windowOf ws).kind ≠ 0 := by
  unfold windowOf
  split
  · simp
  · split <;> simp
theorem hadB_flow {S : PSt} {ws : List Bs} {b : List Nat} : hadB { S with flws := S.flws ++ [flowOf ws], fl := b } = false := by
  unfold hadB
  show decide (lastKind (S.flws ++ [flowOf ws]) ≠ 0) = false
  rw [lastKind_snoc]
  rfl
theorem hadB_step {S : PSt} {s : Stp} {fs : List Flw} {f : Flw} (h : S.flws = fs ++ [f]) : hadB { S with flws := fs ++ [addStep s f] } = hadB S := by
  unfold hadB
  show decide (lastKind (fs ++ [addStep s f]) ≠ 0) = _
  rw [lastKind_snoc, h, lastKind_snoc, addStep_kind]
theorem hadB_win {S : PSt} {fs : List Flw} {f : Flw} {ws : List Bs} {n : Nat} : hadB { S with flws := fs ++ [{ f with win := windowOf ws }], win := n } = true := by
  unfold hadB
  show decide (lastKind (fs ++ [{ f with win := windowOf ws }]) ≠ 0) = true
  rw [lastKind_snoc]
  exact decide_eq_true (windowOf_kind ws)
theorem hadB_agg {S : PSt} {fs : List Flw} {f : Flw} {a : Int} {n : Nat} (h : S.flws = fs ++ [f]) : hadB { S with flws := fs ++ [{ f with agg := a }], win := n } = hadB S := by
  unfold hadB
  show decide (lastKind (fs ++ [{ f with agg := a }]) ≠ 0) = _
  rw [lastKind_snoc, h, lastKind_snoc]
/-- The next round's state. -/
theorem rp_next {KL : Nat × Array Value} {w0 : World} {p : Nat} {L : List Bs} {RR : Ran} {k : Nat} {S : PSt} {vt vf va vb : Value} {es : List FE} {w : World} (h : RP KL w0 p L RR k S vt vf va vb es w) {t : Bs}
    (hr : RR = if S.errOf t = 0 then run (S.next (k + 1) t) (k + 1 + 1) (L.drop (k + 1)) else .bad (k + 1) (S.errOf t)) (he : S.errOf t = 0) (hl : t.length ≤ 4096) {S' : PSt} (hS : S.next (k + 1) t = S') {vt' vf' va' vb' : Value} {es' : List FE} {w' : World} (hq : QX KL w0 p S' vt' vf' va' vb' es' w') :
    RP KL w0 p L RR (k + 1) S' vt' vf' va' vb' es' w' := by
  refine ⟨hq, ?_, ?_⟩
  · rw [← hS]; exact h.sz.next hl he
  · rw [if_pos he, hS] at hr; exact hr.symm
theorem bad_is {RR : Ran} {R : PRes} (hp : (match RR with | .bad n e => PRes.err n e | .fine s => s.finish) = R) {S : PSt} {t : Bs} {k : Nat} {L : List Bs} {E : Int} (hr : RR = if S.errOf t = 0 then run (S.next (k + 1) t) (k + 1 + 1) (L.drop (k + 1)) else .bad (k + 1) (S.errOf t))
    (he : S.errOf t = E) (h0 : E ≠ 0) : R = .err (k + 1) E := by
  rw [he, if_neg h0] at hr
  subst hr
  exact hp.symm
/-- May such a line stand there: by its kind. -/
def mayK (S : PSt) (K : Int) : Bool :=
  if K = 116 ∨ K = 102 then decide (S.win = 0) else if K = 115 then decide (S.win = 0) && decide (S.flws ≠ []) else if K = 119 then decide (S.win = 0) && (decide (S.flws ≠ []) && decide (lastKind S.flws = 0)) else decide (S.win ≠ 0)
theorem may_kind {S : PSt} {ws : List Bs} (h : hasForm ws = true) : S.allows (wd ws 0) = mayK S (lnKind (wd ws 0)) := by
  rcases lnKind_form h with h | h | h | h | h | h | h <;> rw [h]
  · rw [allows_topic (.inl rfl)]; rfl
  · rw [allows_topic (.inr rfl)]; rfl
  · rw [allows_step (.inl rfl)]; rfl
  · rw [allows_step (.inr (.inl rfl))]; rfl
  · rw [allows_step (.inr (.inr rfl))]; rfl
  · rw [allows_window]; rfl
  · rw [allows_agg]; rfl
theorem kind_five {ws : List Bs} (h : hasForm ws = true) : lnKind (wd ws 0) = 116 ∨ lnKind (wd ws 0) = 102 ∨ lnKind (wd ws 0) = 115 ∨ lnKind (wd ws 0) = 119 ∨ lnKind (wd ws 0) = 97 := by
  rcases lnKind_form h with h | h | h | h | h | h | h <;> rw [h]
  · exact .inl rfl
  · exact .inr (.inl rfl)
  · exact .inr (.inr (.inl rfl))
  · exact .inr (.inr (.inl rfl))
  · exact .inr (.inr (.inl rfl))
  · exact .inr (.inr (.inr (.inl rfl)))
  · exact .inr (.inr (.inr (.inr rfl)))
theorem kind_topic {ws : List Bs} (h : hasForm ws = true) (hk : lnKind (wd ws 0) = 116) : wd ws 0 = wTopic := by
  rcases lnKind_form h with h | h | h | h | h | h | h
  · exact h
  all_goals (rw [h] at hk; exact absurd hk (by decide))
theorem kind_flow {ws : List Bs} (h : hasForm ws = true) (hk : lnKind (wd ws 0) = 102) : wd ws 0 = wFlow := by
  rcases lnKind_form h with h | h | h | h | h | h | h
  · rw [h] at hk; exact absurd hk (by decide)
  · exact h
  all_goals (rw [h] at hk; exact absurd hk (by decide))
theorem kind_window {ws : List Bs} (h : hasForm ws = true) (hk : lnKind (wd ws 0) = 119) : wd ws 0 = wWindow := by
  rcases lnKind_form h with h | h | h | h | h | h | h
  iterate 5 (rw [h] at hk; exact absurd hk (by decide))
  · exact h
  · rw [h] at hk; exact absurd hk (by decide)
theorem kind_agg {ws : List Bs} (h : hasForm ws = true) (hk : lnKind (wd ws 0) = 97) : wd ws 0 = wAgg := by
  rcases lnKind_form h with h | h | h | h | h | h | h
  iterate 6 (rw [h] at hk; exact absurd hk (by decide))
  · exact h
/-- What each kind of line puts. -/
theorem put_topic_eq {S : PSt} {n : Nat} {ws : List Bs} {l : Bs} {x : LnX} (hs : Says l ws x) (h : wd ws 0 = wTopic) : S.put n ws l = { S with tops := S.tops ++ [x.top], tl := S.tl ++ [n] } := by
  unfold PSt.put; rw [if_pos h, hs.top h]
theorem put_flow_eq {S : PSt} {n : Nat} {ws : List Bs} {l : Bs} {x : LnX} (hs : Says l ws x) (h : wd ws 0 = wFlow) : S.put n ws l = { S with flws := S.flws ++ [x.flw], fl := S.fl ++ [n] } ∧ x.flw = flowOf ws := by
  refine ⟨?_, hs.flw h⟩
  unfold PSt.put; rw [if_neg (by rw [h]; decide), if_pos h, hs.flw h]
theorem put_step_eq {S : PSt} {n : Nat} {ws : List Bs} {l : Bs} {x : LnX} (hs : Says l ws x) (hf : hasForm ws = true) (hk : lnKind (wd ws 0) = 115) : S.put n ws l = { S with flws := onLast (addStep x.stp) S.flws } := by
  rcases lnKind_form hf with h | h | h | h | h | h | h
  iterate 2 (rw [h] at hk; exact absurd hk (by decide))
  · unfold PSt.put; rw [hs.filter h, if_neg (by rw [h]; decide), if_neg (by rw [h]; decide), if_pos h]
  · unfold PSt.put; rw [hs.set h, if_neg (by rw [h]; decide), if_neg (by rw [h]; decide), if_neg (by rw [h]; decide), if_pos h]
  · unfold PSt.put; rw [hs.key h, if_neg (by rw [h]; decide), if_neg (by rw [h]; decide), if_neg (by rw [h]; decide), if_neg (by rw [h]; decide), if_pos h]
  iterate 2 (rw [h] at hk; exact absurd hk (by decide))
theorem put_window_eq {S : PSt} {n : Nat} {ws : List Bs} {l : Bs} {x : LnX} (hs : Says l ws x) (h : wd ws 0 = wWindow) : S.put n ws l = { S with flws := onLast (fun f => { f with win := x.win }) S.flws, win := n } ∧ x.win = windowOf ws := by
  refine ⟨?_, hs.win h⟩
  unfold PSt.put
  rw [hs.win h, if_neg (by rw [h]; decide), if_neg (by rw [h]; decide), if_neg (by rw [h]; decide), if_neg (by rw [h]; decide), if_neg (by rw [h]; decide), if_pos h]
theorem put_agg_eq {S : PSt} {n : Nat} {ws : List Bs} {l : Bs} {x : LnX} (hs : Says l ws x) (h : wd ws 0 = wAgg) : S.put n ws l = { S with flws := onLast (fun f => { f with agg := x.agg }) S.flws, win := 0 } := by
  unfold PSt.put
  rw [hs.agg h, if_neg (by rw [h]; decide), if_neg (by rw [h]; decide), if_neg (by rw [h]; decide), if_neg (by rw [h]; decide), if_neg (by rw [h]; decide), if_neg (by rw [h]; decide), if_pos h]
/-- The last flow of a reader that has one. -/
theorem QX.lastF {KL : Nat × Array Value} {w0 : World} {p : Nat} {S : PSt} {vt vf va vb : Value} {es : List FE} {w : World} (h : QX KL w0 p S vt vf va vb es w) (hne : S.flws ≠ []) : ∃ es0 f v1 v2 g cap, es = es0 ++ [⟨f, v1, v2⟩] ∧ vf = .slice (some ⟨g, 0, none⟩) (es0.length + 1) cap ∧ S.flws = es0.map FE.f ++ [f] := by
  have hne2 : es ≠ [] := fun e => hne (by rw [← h.flws, e]; rfl)
  rcases List.eq_nil_or_concat es with e | ⟨es0, ⟨f, v1, v2⟩, e⟩
  · exact absurd e hne2
  · rw [List.concat_eq_append] at e
    subst e
    obtain ⟨g, cap, ev, -⟩ := h.last
    exact ⟨es0, f, v1, v2, g, cap, rfl, ev, by rw [← h.flws]; simp⟩
theorem QX.lastCells {KL : Nat × Array Value} {w0 w : World} {p : Nat} {S : PSt} {vt va vb : Value} {es : List FE} {q : FE} {g cap : Nat} (h : QX KL w0 p S vt (.slice (some ⟨g, 0, none⟩) (es.length + 1) cap) va vb (es ++ [q]) w) :
    g < w.heap.size ∧ w0.heap.size ≤ g ∧ g ≠ p ∧ (∀ j u, (flwC q)[j]? = some u → w.cell? ⟨g, es.length * 12 + j, none⟩ = some u) ∧ (∀ i, w.frozen? ⟨g, i, none⟩ = false) := by
  obtain ⟨g', cap', ev, hg, hg0, hgp, hnc, hcell, hfr⟩ := h.last
  injection ev with ev
  injection ev with ev
  injection ev with ev _
  subst ev
  exact ⟨hg, hg0, hgp, hcell, hfr⟩
/-- What a region that puts a step reads of cells that stay. -/
theorem sl_mk {w : World} {p y : Nat} {x : LnX} {vt vf : Value} {s0 : Stp} (hb : w.heap[p]? = some (.cells #[vt, vf] 25 (0, 0))) (hl : w.heap[y]? = some (.cells (lnCs x).toArray 65 (0, 0))) (hs : x.stp = s0) :
    w.cell? ⟨p, 1, none⟩ = some vf ∧ w.cell? ⟨y, 15, none⟩ = some (.int .i64 s0.kind) ∧ w.cell? ⟨y, 16, none⟩ = some (sv s0.text) ∧ w.cell? ⟨y, 17, none⟩ = some (.int .i64 s0.n) := by
  subst hs
  exact ⟨(qx_cells hb).2.1, ln_cell hl 15 rfl, ln_cell hl 16 rfl, ln_cell hl 17 rfl⟩
end Go.Proofs.YtogcickcodlepaaGreatDoor.Pl
