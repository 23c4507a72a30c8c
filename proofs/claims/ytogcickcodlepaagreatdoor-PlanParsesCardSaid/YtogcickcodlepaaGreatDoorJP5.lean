/-
  Texts joined into one file. Each part says in its own head what is proved there, and under which conditions.
-/
import Derived.Test.YtogcickcodlepaaGreatDoorJP4
import Derived.Test.YtogcickcodlepaaGreatDoorJP2
import Derived.Test.YtogcickcodlepaaGreatDoorJP3
import Derived.Test.YtogcickcodlepaaGreatDoorJP1
set_option linter.unusedVariables false
set_option linter.unusedSimpArgs false
/-
  The parser: a line that says a topic. Conditions: the parser keeps what it keeps.
-/
namespace Go.Proofs.YtogcickcodlepaaGreatDoor.Pl
open Go.RowKit Go.Proofs.YtogcickcodlepaaGreatDoor.Ex
variable {KL : Nat × Array Value}

theorem fitsL_wd : ∀ (ws xs : List Bs), fitsL ws xs = true → ∀ i, i < xs.length → okWord (wd xs i) (wd ws i) = true
  | [], [], _, i, hi => by simp at hi
  | [], _ :: _, h, _, _ => by simp [fitsL] at h
  | _ :: _, [], h, _, _ => by simp [fitsL] at h
  | w :: ws, x :: xs, h, i, hi => by
    simp only [fitsL, Bool.and_eq_true] at h
    match i with
    | 0 => exact h.1
    | i + 1 => exact fitsL_wd ws xs h.2 i (by simpa using hi)
theorem okWord_lit {x w : Bs} (h : okWord x w = true) (h1 : x ≠ wNUMBER) (h2 : x ≠ wNAME) : w = x := by
  unfold okWord at h; rw [if_neg h1, if_neg h2] at h; exact (by simpa using h : x = w).symm
theorem info47 : (Tryz.prog.info? 47).map (fun i => (i.zero, i.size, i.bytes)) = some (some (.agg #[.string ⟨#[]⟩, .int .i64 0]), 2, 24) := by kernel_rfl
theorem one_top (s : Top) : ∀ u ∈ topC s, u.oneCell' = true := by
  intro u hu; simp only [topC, List.mem_cons, List.not_mem_nil, or_false] at hu; rcases hu with rfl | rfl <;> rfl
theorem one_int (i : Int) : ∀ u ∈ [Value.int .i64 i], u.oneCell' = true := by
  intro u hu; simp only [List.mem_cons, List.not_mem_nil, or_false] at hu; rcases hu with rfl; rfl
/-- A word's cell behind a call, behind an append to another block. -/
theorem word_below {w w' : World} {b i : Nat} {x : Bs} (hb : b < w.heap.size) (h : w.cell? ⟨b, i, none⟩ = some (sv x)) (hB : Below w.heap.size w w') : w'.cell? ⟨b, i, none⟩ = some (sv x) := by rw [hB.cell (p := ⟨b, i, none⟩) hb]; exact h
set_option maxRecDepth 20000 in
set_option maxHeartbeats 4000000 in
theorem put_topic {w0 w : World} {p b n cap line : Nat} {S : PSt} {vt vf va vb : Value} {es : List FE} (h : PX KL w0 p S vt vf va vb es w) {ws : List Bs} (hw : WdsAt w (.slice (some ⟨b, 0, none⟩) n cap) ws) (hbw : b < w.heap.size) (hf : fitsL ws topicForm = true) (hsm : ∀ x ∈ ws, x.length ≤ 4096) (hn : S.tops.length ≤ 90000) (hm : S.tl.length ≤ 90000) (s : ByteArray) :
    Calls Tryz.prog 53 #[ptr p, .int .i64 line, .slice (some ⟨b, 0, none⟩) n cap, .string s] w fun e w' => e = .returned (.tuple #[]) ∧ ∃ vt' va', PX KL w0 p { S with tops := S.tops ++ [⟨wd ws 1, numOf (wd ws 2)⟩], tl := S.tl ++ [line] } vt' vf va' vb es w' := by
  have hl : ws.length = 3 := fitsL_len _ _ hf
  have hok := fitsL_wd _ _ hf
  obtain ⟨hnn, -, -, -⟩ := Lst.len hw
  have w0e : wd ws 0 = wTopic := okWord_lit (hok 0 (by decide)) (by decide) (by decide)
  have hnum : isNumber (wd ws 2) = true := hok 2 (by decide)
  have x0 := hw.lit (i := 0) (by omega)
  have x1 := hw.lit (i := 1) (by omega)
  have x2 := hw.lit (i := 2) (by omega)
  rw [w0e] at x0
  have hs1 : (wd ws 1).length ≤ 281474976710656 := by
    rw [wd_at (by omega)]; have := hsm _ (mem_at (show 1 < ws.length by omega)); omega
  obtain ⟨x, hx⟩ : ∃ x, wd ws 1 = x := ⟨_, rfl⟩
  obtain ⟨y, hy⟩ : ∃ y, wd ws 2 = y := ⟨_, rfl⟩
  obtain ⟨k, hk⟩ : ∃ k, numOf y = k := ⟨_, rfl⟩
  rw [hy] at hnum x2
  rw [hx] at hs1 x1
  rw [hx, hy, hk]
  obtain rfl : n = 3 := by omega
  obtain ⟨i0, hi0, hz0, hz1, hz2⟩ := info_parts info47
  obtain ⟨j0, hj0, hy0, hy1, hy2⟩ := info_parts info3
  obtain ⟨c0, c1, c2, c3, c4, f0, f1, f2, f3, f4⟩ := px_cells h.blk
  have hp := h.lt
  have HX := Lib.hid h
  have HS1 := Lib.hid hs1
  have HN := Lib.hid hnum
  have HK := Lib.hid hk
  have HX12 := Lib.hid (And.intro x1 x2)
  have HB0 : Hid (Below w.heap.size w w.drew) := Lib.hid (Below.refl _ _).drew
  clear h hw hf hsm hok hnn hx hy hk hnum hs1 hl w0e
  go_enter Tryz.func53, Tryz.ntmps53
  go_upto_region 2 with fail
  go_cut [] (fun wx => ∃ v2, PX KL w0 p { S with tops := S.tops ++ [⟨x, k⟩] } v2 vf va vb es wx)
  case first =>
    go_region_law (first
      | (refine step_append_lies _ (by rfl) (.tmp 18) (.tmp 28) 22 (by rfl) w0.heap.size 47 i0 (.agg #[.string ⟨#[]⟩, .int .i64 0]) 2 24 Tryz.underlying22 hi0 hz0 hz1 hz2 rfl (by decide) vt S.tops.length (topCs S.tops) (by rfl) (HX.out.grow (HB2.out.alloc HB2.out.size _)).rowT ⟨w2.heap.size, 0, none⟩ 1 1 (topC ⟨x, k⟩) (by rfl) rfl (World.news_of_block (heap_alloc_new w2 _)) (one_top _) (by decide) (by unfold maxLen; omega) (by omega) (by have := (HX.out.grow HB2.out).below.size; simp; omega) _ rfl ?_; intro g2 cap2 w3 hown2 hgrow2 hat2 hlt2; obtain ⟨hp1, hx3⟩ := (HX.out.grow (HB2.out.alloc HB2.out.size _)).pushTop hgrow2 hown2; obtain ⟨q0, -, -, -, -, r0, -⟩ := px_cells hp1; have HX3 := Lib.hid hx3; clear hown2 hgrow2 hat2 hlt2 hp1 hx3)
      | (go_simp; (first | (go_at_call 76; refine (clone_at _ _ HS1.out).mono ?_; rintro e w1 ⟨rfl, hb1⟩; have HB1 := Lib.hid (HB0.out.trans (hb1.mono HB0.out.size)); have hp1 : p < w1.heap.size := Nat.lt_of_lt_of_le hp HB1.out.size; have hbb1 : b < w1.heap.size := Nat.lt_of_lt_of_le hbw HB1.out.size; obtain ⟨d0, -, -, -, -, g0, -⟩ := px_cells (HX.out.grow HB1.out).blk; have y1 := word_below hbw HX12.out.1 HB1.out; have y2 := word_below hbw HX12.out.2 HB1.out; clear hb1) | (go_at_call 77; refine (numberOf_at HN.out _ HK.out).mono ?_; rintro e w2 ⟨rfl, hb2⟩; have HB2 := Lib.hid (HB1.out.trans (hb2.mono HB1.out.size)); have hp2 : p < w2.heap.size := Nat.lt_of_lt_of_le hp HB2.out.size; obtain ⟨l0, -, -, -, -, m0, -⟩ := px_cells (HX.out.grow HB2.out).blk; clear hb2))))
    all_goals go_wp2_with fail
    all_goals go_meet
    all_goals exact ⟨_, HX3.out⟩
  case rest =>
    obtain ⟨v2, hx⟩ := hcut
    clear c0 c1 c2 c3 c4 f0 f1 f2 f3 f4 x0 hi0 hz0 hz1 hz2 HX
    rename World => wr
    obtain ⟨c0, c1, c2, c3, c4, f0, f1, f2, f3, f4⟩ := px_cells hx.blk
    have hB : w0.heap.size ≤ wr.heap.size := hx.below.size
    have hpr := hx.lt
    have HX := Lib.hid (hx.grow ((Below.refl _ _).alloc (Nat.le_refl _) (.cells #[.int .i64 line] 3)))
    clear hx
    go_wp2_with (refine wpList_append_lies _ (by rfl) (.tmp 37) (.tmp 39) 55 (by rfl) w0.heap.size 3 j0 (.int .i64 0) 1 8 Tryz.underlying55 hj0 hy0 hy1 hy2 rfl (by decide) va S.tl.length (ixs S.tl) (by rfl) HX.out.rowA ⟨wr.heap.size, 0, none⟩ 1 1 [.int .i64 line] (by rfl) rfl (World.news_of_block (heap_alloc_new wr _)) (one_int _) (by decide) (by unfold maxLen; omega) (by omega) (by simp; omega) _ rfl ?_; intro g2 cap2 w3 hown2 hgrow2 hat2 hlt2; obtain ⟨hp1, hx3⟩ := HX.out.pushA hgrow2 hown2 rfl hat2; obtain ⟨-, -, q0, -, -, -, -, r0, -⟩ := px_cells hp1; have HX3 := Lib.hid hx3; clear hown2 hgrow2 hat2 hlt2 hp1 hx3)
    go_end0
    exact ⟨rfl, _, _, HX3.out⟩
end Go.Proofs.YtogcickcodlepaaGreatDoor.Pl
/-
  The parser: a line that begins a flow. Conditions: the parser keeps what it keeps.
-/
namespace Go.Proofs.YtogcickcodlepaaGreatDoor.Pl
open Go.RowKit Go.Proofs.YtogcickcodlepaaGreatDoor.Ex
variable {KL : Nat × Array Value}

theorem info43 : (Tryz.prog.info? 43).map (fun i => (i.zero, i.size, i.bytes)) = some (some (.agg #[.string ⟨#[]⟩, .string ⟨#[]⟩, .string ⟨#[]⟩, .int .i64 0, .int .i64 0, .int .i64 0, .slice none 0 0, .int .i64 0, .int .i64 0, .int .i64 0, .int .i64 0, .slice none 0 0]), 12, 152) := by kernel_rfl
theorem one_flw (f : Flw) : ∀ u ∈ flwC ⟨f, .slice none 0 0, .slice none 0 0⟩, u.oneCell' = true := by
  intro u hu; simp only [flwC, List.mem_cons, List.not_mem_nil, or_false] at hu; rcases hu with rfl | rfl | rfl | rfl | rfl | rfl | rfl | rfl | rfl | rfl | rfl | rfl <;> rfl
theorem flowOf_lists (ws : List Bs) : (flowOf ws).pre = [] ∧ (flowOf ws).post = [] := ⟨rfl, rfl⟩
set_option maxRecDepth 20000 in
set_option maxHeartbeats 4000000 in
theorem put_flow {w0 w : World} {p b n cap line : Nat} {S : PSt} {vt vf va vb : Value} {es : List FE} (h : PX KL w0 p S vt vf va vb es w) {ws : List Bs} (hw : WdsAt w (.slice (some ⟨b, 0, none⟩) n cap) ws) (hbw : b < w.heap.size) (hf : FlowWs ws n) (h0 : wd ws 0 = wFlow) (hn : es.length ≤ 90000) (hm : S.fl.length ≤ 90000) (s : ByteArray) :
    Calls Tryz.prog 53 #[ptr p, .int .i64 line, .slice (some ⟨b, 0, none⟩) n cap, .string s] w fun e w' => e = .returned (.tuple #[]) ∧ ∃ vf' vb' es', PX KL w0 p { S with flws := S.flws ++ [flowOf ws], fl := S.fl ++ [line] } vt vf' va vb' es' w' := by
  have hl := hf.len
  have h11 := hf.n11
  have x0 := hw.lit (i := 0) (by omega)
  rw [h0] at x0
  have hpos : (0 : Int) < (n : Int) := by omega
  have hposN : 0 < n := by omega
  obtain ⟨r, hr⟩ : ∃ r, flowOf ws = r := ⟨_, rfl⟩
  obtain ⟨hr1, hr2⟩ := flowOf_lists ws
  rw [hr] at hr1 hr2
  rw [hr]
  obtain ⟨i0, hi0, hz0, hz1, hz2⟩ := info_parts info43
  obtain ⟨j0, hj0, hy0, hy1, hy2⟩ := info_parts info3
  obtain ⟨c0, c1, c2, c3, c4, f0, f1, f2, f3, f4⟩ := px_cells h.blk
  have hp := h.lt
  have HX := Lib.hid h
  have HW := Lib.hid hw
  have HFW := Lib.hid hf
  have HR := Lib.hid hr
  have HR12 := Lib.hid (And.intro hr1 hr2)
  have HB0 : Hid (Below w.heap.size w w.drew) := Lib.hid (Below.refl _ _).drew
  clear h hw hf h0 hl hr hr1 hr2
  go_enter Tryz.func53, Tryz.ntmps53
  go_upto_region 5 with fail
  go_cut [] (fun wx => ∃ v2 es', PX KL w0 p { S with flws := S.flws ++ [r] } vt v2 va vb es' wx)
  case first =>
    go_region_law (first
      | (refine step_append_lies _ (by rfl) (.tmp 50) (.tmp 53) 23 (by rfl) w0.heap.size 43 i0 (.agg #[.string ⟨#[]⟩, .string ⟨#[]⟩, .string ⟨#[]⟩, .int .i64 0, .int .i64 0, .int .i64 0, .slice none 0 0, .int .i64 0, .int .i64 0, .int .i64 0, .int .i64 0, .slice none 0 0]) 12 152 Tryz.underlying23 hi0 hz0 hz1 hz2 rfl (by decide) vf es.length (flwCs es) (by rfl) (HX.out.grow (HB2.out.alloc HB2.out.size _)).rowF ⟨w2.heap.size, 0, none⟩ 1 1 (flwC ⟨r, .slice none 0 0, .slice none 0 0⟩) (by rfl) rfl (World.news_of_block (heap_alloc_new w2 _)) (one_flw _) (by decide) (by unfold maxLen; omega) (by omega) (by have := (HX.out.grow HB2.out).below.size; simp; omega) _ rfl ?_; intro g2 cap2 w3 hown2 hgrow2 hat2 hlt2; obtain ⟨hp1, hx3⟩ := (HX.out.grow (HB2.out.alloc HB2.out.size _)).pushFlow hgrow2 HR12.out.1 HR12.out.2 hown2; obtain ⟨-, q0, -, -, -, -, r0, -⟩ := px_cells hp1; have HX3 := Lib.hid hx3; clear hown2 hgrow2 hat2 hlt2 hp1 hx3)
      | (go_simp; go_at_call 78; refine (flowOf_at (HW.out.grow HB0.out) HFW.out HR.out).mono ?_; rintro e w2 ⟨rfl, hb2⟩; have HB2 := Lib.hid (HB0.out.trans (hb2.mono HB0.out.size)); have hp2 : p < w2.heap.size := Nat.lt_of_lt_of_le hp HB2.out.size; obtain ⟨-, l0, -, -, -, -, m0, -⟩ := px_cells (HX.out.grow HB2.out).blk; clear hb2))
    all_goals go_wp2_with fail
    all_goals go_meet
    all_goals exact ⟨_, _, HX3.out⟩
  case rest =>
    obtain ⟨v2, es', hx⟩ := hcut
    clear c0 c1 c2 c3 c4 f0 f1 f2 f3 f4 x0 hi0 hz0 hz1 hz2 HX
    rename World => wr
    obtain ⟨c0, c1, c2, c3, c4, f0, f1, f2, f3, f4⟩ := px_cells hx.blk
    have hB : w0.heap.size ≤ wr.heap.size := hx.below.size
    have hpr := hx.lt
    have HX := Lib.hid (hx.grow ((Below.refl _ _).alloc (Nat.le_refl _) (.cells #[.int .i64 line] 3)))
    clear hx
    go_wp2_with (refine wpList_append_lies _ (by rfl) (.tmp 62) (.tmp 64) 55 (by rfl) w0.heap.size 3 j0 (.int .i64 0) 1 8 Tryz.underlying55 hj0 hy0 hy1 hy2 rfl (by decide) vb S.fl.length (ixs S.fl) (by rfl) HX.out.rowB ⟨wr.heap.size, 0, none⟩ 1 1 [.int .i64 line] (by rfl) rfl (World.news_of_block (heap_alloc_new wr _)) (one_int _) (by decide) (by unfold maxLen; omega) (by omega) (by simp; omega) _ rfl ?_; intro g2 cap2 w3 hown2 hgrow2 hat2 hlt2; obtain ⟨hp1, hx3⟩ := HX.out.pushB hgrow2 hown2 rfl hat2; obtain ⟨-, -, -, q0, -, -, -, -, r0, -⟩ := px_cells hp1; have HX3 := Lib.hid hx3; clear hown2 hgrow2 hat2 hlt2 hp1 hx3)
    go_end0
    exact ⟨rfl, _, _, _, HX3.out⟩
end Go.Proofs.YtogcickcodlepaaGreatDoor.Pl
/-
  The parser: a line that says a step. Conditions: the parser keeps what it keeps.
-/
namespace Go.Proofs.YtogcickcodlepaaGreatDoor.Pl
open Go.RowKit Go.Proofs.YtogcickcodlepaaGreatDoor.Ex
variable {KL : Nat × Array Value}

/-- A parser whose last flow is there. -/
structure LX (KL : Nat × Array Value) (w0 : World) (p : Nat) (S : PSt) (w : World) (vt va vb v1 v2 : Value) (es : List FE) (f : Flw) (g cap : Nat) : Prop where
  px : PX KL w0 p S vt (.slice (some ⟨g, 0, none⟩) (es.length + 1) cap) va vb (es ++ [⟨f, v1, v2⟩]) w
  n : es.length + 1 ≤ 90000
  pre : f.pre.length ≤ 90000
  post : f.post.length ≤ 90000
theorem LX.grow {w0 w w' : World} {p : Nat} {S : PSt} {vt va vb v1 v2 : Value} {es : List FE} {f : Flw} {g cap : Nat} (h : LX KL w0 p S w vt va vb v1 v2 es f g cap) (hb : Below w.heap.size w w') : LX KL w0 p S w' vt va vb v1 v2 es f g cap := ⟨h.px.grow hb, h.n, h.pre, h.post⟩
set_option maxRecDepth 20000 in
set_option maxHeartbeats 4000000 in
theorem put_expr {w0 w : World} {p b n cap line : Nat} {S : PSt} {vt va vb v1 v2 : Value} {es : List FE} {f : Flw} {g cap' : Nat} (h : LX KL w0 p S w vt va vb v1 v2 es f g cap') {ws : List Bs} (hw : WdsAt w (.slice (some ⟨b, 0, none⟩) n cap) ws) (hn : 0 < n) (s : ByteArray) (hs : s.size ≤ 4096) (hbl : 32 ∈ Lib.trimB s.data.toList 32) (k : Int) (hk : (wd ws 0 = wFilter ∧ k = 1) ∨ (wd ws 0 = wSet ∧ k = 2)) :
    Calls Tryz.prog 53 #[ptr p, .int .i64 line, .slice (some ⟨b, 0, none⟩) n cap, .string s] w fun e w' => e = .returned (.tuple #[]) ∧ ∃ q', PX KL w0 p { S with flws := onLast (addStep ⟨k, restOf s.data.toList, 0⟩) S.flws } vt (.slice (some ⟨g, 0, none⟩) (es.length + 1) cap') va vb (es ++ [q']) w' := by
  obtain ⟨hnn, -, -, -⟩ := Lst.len hw
  have x0 := hw.lit (i := 0) (by omega)
  have hpos : (0 : Int) < (n : Int) := by omega
  obtain ⟨r, hr⟩ : ∃ r, restOf s.data.toList = r := ⟨_, rfl⟩
  rw [hr]
  have HX := Lib.hid h
  have HE := Lib.hid (expressionOf_at s w hs hbl hr)
  clear h hw hnn hs hbl hr
  rcases hk with ⟨h0, rfl⟩ | ⟨h0, rfl⟩
  all_goals
    rw [h0] at x0
    clear h0
    go_enter Tryz.func53, Tryz.ntmps53
    go_wp2_with (first
      | (go_at_call 80; refine HE.out.mono ?_; rintro e w1 ⟨rfl, hb1⟩; have HX1 := Lib.hid (HX.out.grow hb1); clear hb1)
      | (go_at_call 79; refine (putStep_at HX1.out.px HX1.out.n HX1.out.pre HX1.out.post ⟨_, r, 0⟩).mono ?_; rintro e w2 ⟨rfl, q', hq⟩; have HQ := Lib.hid hq; clear hq))
    go_end0
    exact ⟨rfl, _, HQ.out⟩
set_option maxRecDepth 20000 in
set_option maxHeartbeats 4000000 in
theorem put_key {w0 w : World} {p b n cap line : Nat} {S : PSt} {vt va vb v1 v2 : Value} {es : List FE} {f : Flw} {g cap' : Nat} (h : LX KL w0 p S w vt va vb v1 v2 es f g cap') {ws : List Bs} (hw : WdsAt w (.slice (some ⟨b, 0, none⟩) n cap) ws) (hn : 1 < n) (s : ByteArray) (hnum : isNumber (wd ws 1) = true) (h0 : wd ws 0 = wKey) :
    Calls Tryz.prog 53 #[ptr p, .int .i64 line, .slice (some ⟨b, 0, none⟩) n cap, .string s] w fun e w' => e = .returned (.tuple #[]) ∧ ∃ q', PX KL w0 p { S with flws := onLast (addStep ⟨3, [], numOf (wd ws 1)⟩) S.flws } vt (.slice (some ⟨g, 0, none⟩) (es.length + 1) cap') va vb (es ++ [q']) w' := by
  obtain ⟨hnn, -, -, -⟩ := Lst.len hw
  have x0 := hw.lit (i := 0) (by omega)
  have x1 := hw.lit (i := 1) (by omega)
  have hpos : (0 : Int) < (n : Int) := by omega
  have hpos0 : 0 < n := by omega
  have hpos1 : (1 : Int) < (n : Int) := by omega
  rw [h0] at x0
  obtain ⟨y, hy⟩ : ∃ y, wd ws 1 = y := ⟨_, rfl⟩
  obtain ⟨k, hk⟩ : ∃ k, numOf y = k := ⟨_, rfl⟩
  rw [hy] at hnum x1
  rw [hy, hk]
  have HX := Lib.hid h
  have HN := Lib.hid hnum
  have HK := Lib.hid hk
  clear h hw hnn h0 hy hk hnum
  go_enter Tryz.func53, Tryz.ntmps53
  go_wp2_with (first
    | (go_at_call 77; refine (numberOf_at HN.out _ HK.out).mono ?_; rintro e w1 ⟨rfl, hb1⟩; have HX1 := Lib.hid (HX.out.grow hb1); clear hb1)
    | (go_at_call 79; refine (putStep_at HX1.out.px HX1.out.n HX1.out.pre HX1.out.post ⟨3, [], k⟩).mono ?_; rintro e w2 ⟨rfl, q', hq⟩; have HQ := Lib.hid hq; clear hq))
  go_end0
  exact ⟨rfl, _, HQ.out⟩
end Go.Proofs.YtogcickcodlepaaGreatDoor.Pl
/-
  The window that a line says. Conditions: its numbers are numbers.
-/
namespace Go.Proofs.YtogcickcodlepaaGreatDoor.Pl
open Go.RowKit Go.Proofs.YtogcickcodlepaaGreatDoor.Ex

set_option maxRecDepth 20000 in
set_option maxHeartbeats 2000000 in
theorem windowOf_at {w : World} {b o n cap : Nat} {ws : List Bs} (h : WdsAt w (.slice (some ⟨b, o, none⟩) n cap) ws) (hl : 3 ≤ ws.length) (h2 : isNumber (wd ws 2) = true) (h3 : wd ws 1 = wSlide → ws.length = 4 ∧ isNumber (wd ws 3) = true) {r : Win} (hr : windowOf ws = r) :
    Calls Tryz.prog 81 #[.slice (some ⟨b, o, none⟩) n cap] w fun e w' => e = .returned (winV r) ∧ Below w.heap.size w w' := by
  obtain ⟨hn, hcap, hmax, -⟩ := Lst.len h
  unfold maxLen at hmax
  have hi1 : (1 : Int) < (n : Int) := by omega
  have hi2 : (2 : Int) < (n : Int) := by omega
  have hn1 : 1 < n := by omega
  have hn2 : 2 < n := by omega
  have hb0 : Below w.heap.size w (w.alloc (.cells #[.int .i64 0, .int .i64 0, .int .i64 0] 41)) := (Below.refl _ _).alloc (Nat.le_refl _) _
  have hbw : b < w.heap.size := by obtain ⟨_, _, e, hl, _⟩ := h.wd (i := 1) (by omega); simp at e; rw [e.1]; exact hl
  have HB := Lib.hid hb0
  have HT := Lib.hid (h.grow hb0)
  have hL := Lib.hid hl
  have hN := Lib.hid h2
  have hS := Lib.hid h3
  have hne : b ≠ w.heap.size := by omega
  have HLN := Lib.hid hn
  have c2 := h.lit (i := 2) (by omega)
  obtain ⟨u, hu⟩ : ∃ u, numOf (wd ws 2) = u := ⟨_, rfl⟩
  have HU := Lib.hid hu
  have hW : ∀ w1, Below (w.alloc (.cells #[.int .i64 0, .int .i64 0, .int .i64 0] 41)).heap.size (w.alloc (.cells #[.int .i64 0, .int .i64 0, .int .i64 0] 41)) w1 → w1.heap[w.heap.size]? = some (.cells #[.int .i64 0, .int .i64 0, .int .i64 0] 41 (0, 0)) ∧ w.heap.size < w1.heap.size := by
    intro w1 hb1
    refine ⟨by rw [hb1.block _ (by simp)]; exact heap_alloc_new w _, ?_⟩
    have := hb1.size; simp at this; omega
  have HW := Lib.hid hW
  clear h hl h2 h3 hn hb0 hu hW
  by_cases ht : wd ws 1 = wTumble
  · have hr' : (⟨1, u, 0⟩ : Win) = r := by rw [← hr, ← HU.out]; unfold windowOf; rw [if_pos ht]
    have HR := Lib.hid hr'
    have HE := Lib.hid ht
    clear hr hr' ht
    go_enter Tryz.func81, Tryz.ntmps81
    go_wp2_with (go_at_call 77; refine (numberOf_at hN.out _ HU.out).mono ?_; rintro e w1 ⟨rfl, hb1⟩; have HB1 := Lib.hid (HB.out.trans (hb1.mono HB.out.size)); have c1 := (HT.out.grow hb1).lit (i := 1) (by have := hL.out; omega); rw [HE.out] at c1; obtain ⟨hk, hlt⟩ := HW.out w1 hb1; have k0 := cell_of_heap hk 0; have k1 := cell_of_heap hk 1; have k2 := cell_of_heap hk 2; have f0 := free_of_heap hk 0; have f1 := free_of_heap hk 1; have f2 := free_of_heap hk 2; simp at k0 k1 k2; clear hb1 hk)
    refine bodyPost_ret (v := winV ⟨1, u, 0⟩) (by simp [results, Tryz.results81, go_sem, k0, k1, k2]) rfl ⟨by rw [← HR.out], ?_⟩
    exact ((HB1.out.setCell (by simp) _).setCell (by simp) _).setCell (by simp) _
  have e1 : (wd ws 1 == [116, 117, 109, 98, 108, 101]) = false := beq_of_ne ht
  by_cases hs : wd ws 1 = wSlide
  · obtain ⟨hl4, hn3⟩ := hS.out hs
    obtain ⟨y, hy⟩ : ∃ y, numOf (wd ws 3) = y := ⟨_, rfl⟩
    have hr' : (⟨2, u, y⟩ : Win) = r := by rw [← hr, ← HU.out, ← hy]; unfold windowOf; rw [if_neg ht, if_pos hs]
    have hi3 : (3 : Int) < (n : Int) := by have := HLN.out; omega
    have hn3' : 3 < n := by have := HLN.out; omega
    have HR := Lib.hid hr'
    have HE := Lib.hid hs
    have H4 := Lib.hid hl4
    have HN3 := Lib.hid hn3
    have HY := Lib.hid hy
    clear hr hr' ht hs hl4 hn3 hy e1
    go_enter Tryz.func81, Tryz.ntmps81
    go_wp2_with fail
    refine (numberOf_at hN.out _ HU.out).mono ?_
    rintro e w1 ⟨rfl, hb1⟩
    have HB1 := Lib.hid (HB.out.trans (hb1.mono HB.out.size))
    have c1 := (HT.out.grow hb1).lit (i := 1) (by have := hL.out; omega)
    have c3 := (HT.out.grow hb1).lit (i := 3) (by have := H4.out; omega)
    rw [HE.out] at c1
    have HBB := Lib.hid hb1
    clear hb1 c2
    go_wp2_with (refine (numberOf_at HN3.out _ HY.out).mono ?_; rintro e w2 ⟨rfl, hb2⟩; have HB2 := Lib.hid (HB1.out.trans (hb2.mono HB1.out.size)); obtain ⟨hk, hlt⟩ := HW.out w2 (HBB.out.trans (hb2.mono HBB.out.size)); have k0 := cell_of_heap hk 0; have k1 := cell_of_heap hk 1; have k2 := cell_of_heap hk 2; have f0 := free_of_heap hk 0; have f1 := free_of_heap hk 1; have f2 := free_of_heap hk 2; simp at k0 k1 k2; clear hb2 hk)
    refine bodyPost_ret (v := winV ⟨2, u, y⟩) (by simp [results, Tryz.results81, go_sem, k0, k1, k2]) rfl ⟨by rw [← HR.out], ?_⟩
    exact ((HB2.out.setCell (by simp) _).setCell (by simp) _).setCell (by simp) _
  · have e2 : (wd ws 1 == [115, 108, 105, 100, 101]) = false := beq_of_ne hs
    have hr' : (⟨3, u, 0⟩ : Win) = r := by rw [← hr, ← HU.out]; unfold windowOf; rw [if_neg ht, if_neg hs]
    have HR := Lib.hid hr'
    clear hr hr' ht hs
    go_enter Tryz.func81, Tryz.ntmps81
    go_wp2_with (go_at_call 77; refine (numberOf_at hN.out _ HU.out).mono ?_; rintro e w1 ⟨rfl, hb1⟩; have HB1 := Lib.hid (HB.out.trans (hb1.mono HB.out.size)); have c1 := (HT.out.grow hb1).lit (i := 1) (by have := hL.out; omega); obtain ⟨hk, hlt⟩ := HW.out w1 hb1; have k0 := cell_of_heap hk 0; have k1 := cell_of_heap hk 1; have k2 := cell_of_heap hk 2; have f0 := free_of_heap hk 0; have f1 := free_of_heap hk 1; have f2 := free_of_heap hk 2; simp at k0 k1 k2; clear hk; clear hb1)
    refine bodyPost_ret (v := winV ⟨3, u, 0⟩) (by simp [results, Tryz.results81, go_sem, k0, k1, k2]) rfl ⟨by rw [← HR.out], ?_⟩
    exact ((HB1.out.setCell (by simp) _).setCell (by simp) _).setCell (by simp) _
end Go.Proofs.YtogcickcodlepaaGreatDoor.Pl
/-
  The parser: lines that say a window, an aggregate. Conditions: the parser keeps what it keeps.
-/
namespace Go.Proofs.YtogcickcodlepaaGreatDoor.Pl
open Go.RowKit Go.Proofs.YtogcickcodlepaaGreatDoor.Ex
variable {KL : Nat × Array Value}

theorem last_frozen {w0 w : World} {p : Nat} {S : PSt} {vt va vb : Value} {es : List FE} {q : FE} {g cap : Nat} (h : PX KL w0 p S vt (.slice (some ⟨g, 0, none⟩) (es.length + 1) cap) va vb (es ++ [q]) w) :
    g < w.heap.size ∧ w0.heap.size ≤ g ∧ g ≠ p ∧ (∀ j u, (flwC q)[j]? = some u → w.cell? ⟨g, es.length * 12 + j, none⟩ = some u) ∧ (∀ i, w.frozen? ⟨g, i, none⟩ = false) := by
  obtain ⟨g', cap', ev, hg, hg0, hgp, hnc, hcell, hfr⟩ := h.last
  injection ev with ev
  injection ev with ev
  injection ev with ev _
  subst ev
  exact ⟨hg, hg0, hgp, hcell, hfr⟩
theorem onLast_last {g : Flw → Flw} {es : List FE} {f : Flw} {v1 v2 : Value} {S : PSt} (h : (es ++ [(⟨f, v1, v2⟩ : FE)]).map FE.f = S.flws) : onLast g S.flws = es.map FE.f ++ [g f] := by
  rw [← h, List.map_append, List.map_cons, List.map_nil, onLast_snoc]
set_option maxRecDepth 20000 in
set_option maxHeartbeats 4000000 in
theorem put_window {w0 w : World} {p b n cap line : Nat} {S : PSt} {vt va vb v1 v2 : Value} {es : List FE} {f : Flw} {g cap' : Nat} (h : LX KL w0 p S w vt va vb v1 v2 es f g cap') {ws : List Bs} (hw : WdsAt w (.slice (some ⟨b, 0, none⟩) n cap) ws) (h0 : wd ws 0 = wWindow)
    (hl : 3 ≤ ws.length) (h2 : isNumber (wd ws 2) = true) (h3 : wd ws 1 = wSlide → ws.length = 4 ∧ isNumber (wd ws 3) = true) (s : ByteArray) :
    Calls Tryz.prog 53 #[ptr p, .int .i64 line, .slice (some ⟨b, 0, none⟩) n cap, .string s] w fun e w' => e = .returned (.tuple #[]) ∧ ∃ q', PX KL w0 p { S with flws := onLast (fun f => { f with win := windowOf ws }) S.flws, win := line } vt (.slice (some ⟨g, 0, none⟩) (es.length + 1) cap') va vb (es ++ [q']) w' := by
  obtain ⟨hnn, -, -, -⟩ := Lst.len hw
  have x0 := hw.lit (i := 0) (by omega)
  have hpos : (0 : Int) < (n : Int) := by omega
  have hposN : 0 < n := by omega
  rw [h0] at x0
  obtain ⟨r, hr⟩ : ∃ r, windowOf ws = r := ⟨_, rfl⟩
  rw [hr]
  have HOL := Lib.hid (onLast_last (g := fun f => { f with win := r }) h.px.flws)
  have HX := Lib.hid h
  have HF := Lib.hid (flow_any h.px (by have := h.n; omega))
  have HW := Lib.hid hw
  have HWC := Lib.hid (And.intro hl (And.intro h2 h3))
  have HR := Lib.hid hr
  clear h hw hnn h0 hl h2 h3 hr
  go_enter Tryz.func53, Tryz.ntmps53
  go_wp2_with (first
    | (go_at_call 75; refine HF.out.mono ?_; rintro e w1 ⟨rfl, k, rfl⟩; have HX1 := Lib.hid (HX.out.grow (belowN w k)); have HW1 := Lib.hid (HW.out.grow (belowN w k)))
    | (go_at_call 81; refine (windowOf_at HW1.out HWC.out.1 HWC.out.2.1 HWC.out.2.2 HR.out).mono ?_; rintro e w2 ⟨rfl, hb2⟩; have HX2 := Lib.hid (HX1.out.grow hb2); obtain ⟨gl, -, gp, hc, fz⟩ := last_frozen HX2.out.px; have k7 := hc 7 _ rfl; have k8 := hc 8 _ rfl; have k9 := hc 9 _ rfl; have z7 := fz (es.length * 12 + 7); have z8 := fz (es.length * 12 + 8); have z9 := fz (es.length * 12 + 9); obtain ⟨c0, c1, c2, c3, c4, f0, f1, f2, f3, f4⟩ := px_cells HX2.out.px.blk; simp only at k7 k8 k9; clear hb2 hc fz))
  go_end0
  refine ⟨rfl, ⟨{ f with win := r }, v1, v2⟩, ?_⟩
  rw [HOL.out]
  obtain ⟨rk, rs, rl⟩ := r
  have e1 := HX2.out.px.setLast (f' := { f with win := ⟨rk, f.win.size, f.win.slide⟩ }) (fs := es.map FE.f ++ [{ f with win := ⟨rk, f.win.size, f.win.slide⟩ }]) 7 (.int .i64 rk) rfl rfl rfl rfl
  have e2 := e1.setLast (f' := { f with win := ⟨rk, rs, f.win.slide⟩ }) (fs := es.map FE.f ++ [{ f with win := ⟨rk, rs, f.win.slide⟩ }]) 8 (.int .i64 rs) rfl rfl rfl rfl
  have e3 := e2.setLast (f' := { f with win := ⟨rk, rs, rl⟩ }) (fs := es.map FE.f ++ [{ f with win := ⟨rk, rs, rl⟩ }]) 9 (.int .i64 rl) rfl rfl rfl rfl
  exact e3.setWin line
set_option maxRecDepth 20000 in
set_option maxHeartbeats 4000000 in
theorem put_agg {w0 w : World} {p b n cap line : Nat} {S : PSt} {vt va vb v1 v2 : Value} {es : List FE} {f : Flw} {g cap' : Nat} (h : LX KL w0 p S w vt va vb v1 v2 es f g cap') {ws : List Bs} (hw : WdsAt w (.slice (some ⟨b, 0, none⟩) n cap) ws) (hbw : b < w.heap.size) (hbg : b ≠ g) (h0 : wd ws 0 = wAgg) (hn : 1 < n) (s : ByteArray) :
    Calls Tryz.prog 53 #[ptr p, .int .i64 line, .slice (some ⟨b, 0, none⟩) n cap, .string s] w fun e w' => e = .returned (.tuple #[]) ∧ ∃ q', PX KL w0 p { S with flws := onLast (fun f => { f with agg := aggOf (wd ws 1) }) S.flws, win := 0 } vt (.slice (some ⟨g, 0, none⟩) (es.length + 1) cap') va vb (es ++ [q']) w' := by
  obtain ⟨hnn, -, -, -⟩ := Lst.len hw
  have x0 := hw.lit (i := 0) (by omega)
  have x1 := hw.lit (i := 1) (by omega)
  have hpos : (0 : Int) < (n : Int) := by omega
  have hposN : 0 < n := by omega
  have hpos1 : (1 : Int) < (n : Int) := by omega
  rw [h0] at x0
  obtain ⟨y, hy⟩ : ∃ y, wd ws 1 = y := ⟨_, rfl⟩
  obtain ⟨r, hr⟩ : ∃ r, aggOf y = r := ⟨_, rfl⟩
  rw [hy] at x1
  rw [hy, hr]
  have HOL := Lib.hid (onLast_last (g := fun f => { f with agg := r }) h.px.flws)
  have HX := Lib.hid h
  have HR := Lib.hid hr
  clear h hw hnn h0 hr hy
  go_enter Tryz.func53, Tryz.ntmps53
  go_upto_region 17 with fail
  refine wp_region_held_drew (S := (fun X => X.cell? ⟨b, 1, none⟩ = some (sv y))) (by kernel_rfl) (by simpa using x1) (fun hHeld => ?_)
  refine wpAnyH_take (i := 0) (oi := ({ dst := some 105, op := Op.move (Operand.tmp 0), type := 82, pos := "parser.go:93", after := #[], guard := none } : Oper)) (v := ?_) rfl (by kernel_rfl) (by kernel_rfl) (by kernel_rfl) (fun _ _ _ h => h) (Or.inl ⟨by rfl, ?hy17_1⟩) hHeld ?_
  case hy17_1 => (intro W hSw; (try dsimp only at hSw); go_simp; (try with_reducible rfl))
  try simp only [Act.put, List.setIfInBounds_toArray, List.set_cons_zero, List.set_cons_succ]
  refine wpAnyH_take (i := 2) (oi := ({ dst := some 107, op := Op.move (Operand.tmp 2), type := 58, pos := "parser.go:93", after := #[], guard := none } : Oper)) (v := ?_) rfl (by kernel_rfl) (by kernel_rfl) (by kernel_rfl) (fun _ _ _ h => h) (Or.inl ⟨by rfl, ?hy17_2⟩) hHeld ?_
  case hy17_2 => (intro W hSw; (try dsimp only at hSw); go_simp; (try with_reducible rfl))
  try simp only [Act.put, List.setIfInBounds_toArray, List.set_cons_zero, List.set_cons_succ]
  refine wpAnyH_take (i := 3) (oi := ({ dst := some 108, op := Op.indexAddr 58 (Operand.tmp 107) (Operand.const (Value.int IntKind.i64 1)), type := 0, pos := "parser.go:93", after := #[{ on := 2, ground := Ground.data }], guard := none } : Oper)) (v := ?_) rfl (by kernel_rfl) (by kernel_rfl) (by kernel_rfl) (fun _ _ _ h => h) (Or.inl ⟨by rfl, ?hy17_3⟩) hHeld ?_
  case hy17_3 => (intro W hSw; (try dsimp only at hSw); go_simp; (try with_reducible rfl))
  try simp only [Act.put, List.setIfInBounds_toArray, List.set_cons_zero, List.set_cons_succ]
  refine wpAnyH_take (i := 4) (oi := ({ dst := some 109, op := Op.load 9 (Operand.tmp 108), type := 9, pos := "parser.go:93", after := #[{ on := 3, ground := Ground.data }], guard := none } : Oper)) (v := ?_) rfl (by kernel_rfl) (by kernel_rfl) (by kernel_rfl) (fun _ _ _ h => h) (Or.inl ⟨by rfl, ?hy17_4⟩) hHeld ?_
  case hy17_4 => (intro W hSw; (try dsimp only at hSw); go_simp; (try with_reducible rfl))
  try simp only [Act.put, List.setIfInBounds_toArray, List.set_cons_zero, List.set_cons_succ]
  refine wpAnyH_ready (rs := [1]) (by kernel_rfl) (by simp) ?_
  refine AllReadyH.cons (o := ({ dst := some 106, op := Op.call { callee := Callee.value (Operand.func 75), args := #[Operand.tmp 105], argTypes := #[82] }, type := 103, pos := "parser.go:93", after := #[{ on := 0, ground := Ground.data }], guard := none } : Oper)) rfl (fun K hK => ?_) AllReadyH.nil
  go_simp
  refine (flow_any (HX.out.grow (Below.refl _ _).drew).px (by have := HX.out.n; omega)).mono ?_
  rintro e w1 ⟨rfl, k, rfl⟩
  refine hK.out _ _ (by simpa using x1) (fun hHeld' => ?_)
  clear hK K hHeld
  have hHeld := hHeld'
  clear hHeld'
  try simp only [Act.put, List.setIfInBounds_toArray, List.set_cons_zero, List.set_cons_succ]
  refine wpAnyH_ready (rs := [5]) (by kernel_rfl) (by simp) ?_
  refine AllReadyH.cons (o := ({ dst := some 110, op := Op.call { callee := Callee.value (Operand.func 74), args := #[Operand.tmp 109], argTypes := #[9] }, type := 3, pos := "parser.go:93", after := #[{ on := 4, ground := Ground.data }, { on := 1, ground := Ground.chain }], guard := none } : Oper)) rfl (fun K hK => ?_) AllReadyH.nil
  go_simp
  refine (aggOf_at y _ HR.out).mono ?_
  rintro e w2 ⟨rfl, rfl⟩
  refine hK.out _ _ hHeld (fun hHeld' => ?_)
  clear hK K hHeld
  have hHeld := hHeld'
  clear hHeld'
  try simp only [Act.put, List.setIfInBounds_toArray, List.set_cons_zero, List.set_cons_succ]
  have HX2 := Lib.hid (HX.out.grow (belowN w (1 + k)))
  obtain ⟨gl, -, gp, hc, fz⟩ := last_frozen HX2.out.px
  have k10 := hc 10 _ rfl
  have z10 := fz (es.length * 12 + 10)
  simp only at k10
  clear hc fz
  refine wpAnyH_take (i := 6) (oi := ({ dst := some 111, op := Op.nilCheck (Operand.tmp 106), type := 0, pos := "parser.go:93", after := #[{ on := 1, ground := Ground.data }, { on := 0, ground := Ground.phase }, { on := 1, ground := Ground.phase }, { on := 2, ground := Ground.phase }, { on := 3, ground := Ground.phase }, { on := 4, ground := Ground.phase }, { on := 5, ground := Ground.phase }], guard := none } : Oper)) (v := ?_) rfl (by kernel_rfl) (by kernel_rfl) (by kernel_rfl) (fun _ _ _ h => h) (Or.inl ⟨by rfl, ?hy17_5⟩) hHeld ?_
  case hy17_5 => (intro W hSw; (try dsimp only at hSw); go_simp; (try with_reducible rfl))
  try simp only [Act.put, List.setIfInBounds_toArray, List.set_cons_zero, List.set_cons_succ]
  refine wpAnyH_take (i := 7) (oi := ({ dst := some 112, op := Op.fieldAddr 43 (Operand.tmp 111) 8, type := 0, pos := "parser.go:93", after := #[{ on := 6, ground := Ground.data }, { on := 0, ground := Ground.phase }, { on := 1, ground := Ground.phase }, { on := 2, ground := Ground.phase }, { on := 3, ground := Ground.phase }, { on := 4, ground := Ground.phase }, { on := 5, ground := Ground.phase }], guard := none } : Oper)) (v := ?_) rfl (by kernel_rfl) (by kernel_rfl) (by kernel_rfl) (fun _ _ _ h => h) (Or.inl ⟨by rfl, ?hy17_6⟩) hHeld ?_
  case hy17_6 => (intro W hSw; (try dsimp only at hSw); go_simp; (try with_reducible rfl))
  try simp only [Act.put, List.setIfInBounds_toArray, List.set_cons_zero, List.set_cons_succ]
  refine wpAnyH_ready (rs := [8]) (by kernel_rfl) (by simp) ?_
  refine AllReadyH.cons (o := ({ dst := none, op := Op.store 3 (Operand.tmp 112) (Operand.tmp 110), type := 0, pos := "parser.go:93", after := #[{ on := 7, ground := Ground.data }, { on := 5, ground := Ground.data }, { on := 5, ground := Ground.chain }, { on := 0, ground := Ground.phase }, { on := 1, ground := Ground.phase }, { on := 2, ground := Ground.phase }, { on := 3, ground := Ground.phase }, { on := 4, ground := Ground.phase }, { on := 5, ground := Ground.phase }], guard := none } : Oper)) rfl (fun K hK => ?_) AllReadyH.nil
  go_simp
  refine hK.out _ _ (show ((w.drewN (1 + k)).setCell ⟨g, es.length * 12 + 10, none⟩ (.int .i64 r)).cell? ⟨b, 1, none⟩ = some (sv y) from by refine (World.cell?_setCell_other _ _ _ _ ?_).trans hHeld; intro e; have e := congrArg Addr.block e; exact hbg (by first | exact e | exact e.symm)) (fun hHeld' => ?_)
  clear hK K hHeld
  have hHeld := hHeld'
  clear hHeld'
  try simp only [Act.put, List.setIfInBounds_toArray, List.set_cons_zero, List.set_cons_succ]
  refine wpAnyH_done (by kernel_rfl) ?_ _
  have e1 := HX2.out.px.setLast (f' := { f with agg := r }) (fs := es.map FE.f ++ [{ f with agg := r }]) 10 (.int .i64 r) rfl rfl rfl rfl
  generalize hWW : (w.drewN (1 + k)).setCell ⟨g, es.length * 12 + 10, none⟩ (.int .i64 r) = WW at e1 hHeld ⊢
  clear hWW k10 z10 hHeld HX2
  obtain ⟨c0, c1, c2, c3, c4, f0, f1, f2, f3, f4⟩ := px_cells e1.blk
  have E1 := Lib.hid e1
  clear e1
  go_wp2
  go_end0
  exact ⟨rfl, ⟨{ f with agg := r }, v1, v2⟩, by rw [HOL.out]; exact E1.out.setWin 0⟩
end Go.Proofs.YtogcickcodlepaaGreatDoor.Pl
/-
  Blanks at the ends of a line make no difference; a line of two words has a blank inside. Conditions: none; nothing of a program.
-/
namespace Go.Proofs.YtogcickcodlepaaGreatDoor.Pl
open Go.RowKit Go.Proofs.YtogcickcodlepaaGreatDoor.Ex

theorem words_lead (r : Bs) : wordsOf (32 :: r) = wordsOf r := by simp [wordsOf, wordsGo]
theorem wordsGo_trail : ∀ (l cur : Bs), wordsGo cur (l ++ [32]) = wordsGo cur l
  | [], cur => by by_cases h : cur = [] <;> simp [wordsGo, h]
  | c :: r, cur => by
    simp only [List.cons_append, wordsGo]
    repeat' split
    all_goals rw [wordsGo_trail]
theorem words_trail (l : Bs) : wordsOf (l ++ [32]) = wordsOf l := wordsGo_trail l []
theorem dropW_split : ∀ l : Bs, ∃ k, l = List.replicate k 32 ++ Lib.trimLeftB l 32
  | [] => ⟨0, rfl⟩
  | c :: r => by
    by_cases h : c = 32
    · subst h
      obtain ⟨k, hk⟩ := dropW_split r
      refine ⟨k + 1, ?_⟩
      have e : Lib.trimLeftB (32 :: r) 32 = Lib.trimLeftB r 32 := by simp [Lib.trimLeftB]
      rw [e, List.replicate_succ, List.cons_append, ← hk]
    · exact ⟨0, by simp [Lib.trimLeftB, h]⟩
theorem dropR_split (l : Bs) : ∃ k, l = Lib.trimRightB l 32 ++ List.replicate k 32 := by
  obtain ⟨k, hk⟩ := dropW_split l.reverse
  refine ⟨k, ?_⟩
  have := congrArg List.reverse hk
  rw [List.reverse_reverse, List.reverse_append, List.reverse_replicate] at this
  exact this
theorem words_leads (l : Bs) : ∀ k, wordsOf (List.replicate k 32 ++ l) = wordsOf l
  | 0 => rfl
  | k + 1 => by rw [List.replicate_succ, List.cons_append, words_lead, words_leads l k]
theorem words_trails (l : Bs) : ∀ k, wordsOf (l ++ List.replicate k 32) = wordsOf l
  | 0 => by simp
  | k + 1 => by rw [List.replicate_succ', ← List.append_assoc, words_trail, words_trails l k]
theorem words_trim (l : Bs) : wordsOf (Lib.trimB l 32) = wordsOf l := by
  obtain ⟨j, hj⟩ := dropR_split l
  obtain ⟨k, hk⟩ := dropW_split (Lib.trimRightB l 32)
  have h1 : wordsOf l = wordsOf (Lib.trimRightB l 32) := by conv => lhs; rw [hj, words_trails]
  rw [h1]
  conv => rhs; rw [hk, words_leads]
  rfl
theorem words_one : ∀ (l cur : Bs), 32 ∉ l → wordsGo cur l = if cur ++ l = [] then [] else [cur ++ l]
  | [], cur, _ => by simp [wordsGo]
  | c :: r, cur, h => by
    have hc : c ≠ 32 := fun e => h (by simp [e])
    simp only [wordsGo, if_neg hc]
    rw [words_one r (cur ++ [c]) (fun e => h (by simp [e]))]
    simp
theorem blank_inside {l : Bs} (h : 1 < (wordsOf l).length) : 32 ∈ Lib.trimB l 32 := by
  rcases Classical.em (32 ∈ Lib.trimB l 32) with h1 | h1
  · exact h1
  · rw [← words_trim, wordsOf, words_one _ _ h1] at h
    split at h <;> simp at h
/-! ### What stands behind a line's first word, padded -/
theorem trimLeft_cons (l : Bs) : Lib.trimLeftB (32 :: l) 32 = Lib.trimLeftB l 32 := by simp [Lib.trimLeftB]
theorem trimRight_snoc (l : Bs) : Lib.trimRightB (l ++ [32]) 32 = Lib.trimRightB l 32 := by
  unfold Lib.trimRightB
  rw [List.reverse_append]
  simp
theorem trimRight_cons (l : Bs) : Lib.trimLeftB (Lib.trimRightB (32 :: l) 32) 32 = Lib.trimLeftB (Lib.trimRightB l 32) 32 := by
  by_cases h : ∀ c ∈ l, c = 32
  · have e : l = List.replicate l.length 32 := List.eq_replicate_iff.2 ⟨rfl, h⟩
    have aux : ∀ n, Lib.trimRightB (List.replicate n 32) 32 = [] := fun n => by
      unfold Lib.trimRightB
      rw [List.reverse_replicate]
      have : ∀ n, (List.replicate n (32 : UInt8)).dropWhile (· == 32) = [] := fun n => by
        induction n with
        | zero => rfl
        | succ n ih => rw [List.replicate_succ]; simp [ih]
      rw [this]; rfl
    rw [e, ← List.replicate_succ, aux, aux]
  · have : Lib.trimRightB (32 :: l) 32 = 32 :: Lib.trimRightB l 32 := by
      unfold Lib.trimRightB
      rw [List.reverse_cons]
      have hx : ∃ c ∈ l.reverse, ¬ (c == 32) = true := by
        rcases Classical.not_forall.1 h with ⟨c, hc⟩
        rcases Classical.not_imp.1 hc with ⟨h1, h2⟩
        exact ⟨c, by simpa using h1, by simpa using h2⟩
      have aux : ∀ (x y : Bs), (∃ c ∈ x, ¬ (c == 32) = true) → (x ++ y).dropWhile (· == 32) = x.dropWhile (· == 32) ++ y := by
        intro x y hx
        induction x with
        | nil => obtain ⟨c, hc, _⟩ := hx; simp at hc
        | cons a r ih =>
          by_cases ha : a = 32
          · subst ha
            have : ∃ c ∈ r, ¬ (c == 32) = true := by
              obtain ⟨c, hc, hn⟩ := hx
              rcases List.mem_cons.1 hc with rfl | hc
              · exact absurd (by decide) hn
              · exact ⟨c, hc, hn⟩
            simpa using ih this
          · simp [ha]
      rw [aux _ _ hx, List.reverse_append]
      rfl
    rw [this, trimLeft_cons]
theorem trimB_lead (l : Bs) : Lib.trimB (32 :: l) 32 = Lib.trimB l 32 := trimRight_cons l
theorem trimB_trail (l : Bs) : Lib.trimB (l ++ [32]) 32 = Lib.trimB l 32 := by unfold Lib.trimB; rw [trimRight_snoc]
theorem restOf_lead (l : Bs) : restOf (32 :: l) = restOf l := by unfold restOf; rw [trimB_lead]
theorem restOf_trail (l : Bs) : restOf (l ++ [32]) = restOf l := by unfold restOf; rw [trimB_trail]
theorem restOf_len (l : Bs) : (restOf l).length ≤ l.length := by
  have h1 : ∀ (P : UInt8 → Bool) (l : Bs), (l.dropWhile P).length ≤ l.length := fun P l => (List.dropWhile_suffix P).length_le
  unfold restOf Lib.trimLeftB Lib.trimB Lib.trimLeftB Lib.trimRightB
  refine Nat.le_trans (h1 _ _) (Nat.le_trans (h1 _ _) (Nat.le_trans (h1 _ _) ?_))
  rw [List.length_reverse]
  exact Nat.le_trans (h1 _ _) (by rw [List.length_reverse]; exact Nat.le_refl _)
end Go.Proofs.YtogcickcodlepaaGreatDoor.Pl
/-
  How large a parser's state gets line by line; what a form that fits says of its words. Conditions: none; nothing of a program.
-/
namespace Go.Proofs.YtogcickcodlepaaGreatDoor.Pl
open Go.RowKit Go.Proofs.YtogcickcodlepaaGreatDoor.Ex

structure Sz (S : PSt) (n : Nat) : Prop where
  tops : S.tops.length ≤ n
  flws : S.flws.length ≤ n
  steps : ∀ f ∈ S.flws, f.pre.length ≤ n ∧ f.post.length ≤ n ∧ (∀ s ∈ f.pre, s.text.length ≤ 4096) ∧ (∀ s ∈ f.post, s.text.length ≤ 4096)
  win : S.win ≠ 0 → S.flws ≠ []
  tle : S.tl.length = S.tops.length
  fle : S.fl.length = S.flws.length
theorem onLast_len {g : Flw → Flw} : ∀ fs : List Flw, (onLast g fs).length = fs.length
  | [] => rfl
  | [_] => rfl
  | _ :: b :: r => by simp only [onLast, List.length_cons]; rw [onLast_len (b :: r)]; rfl
theorem onLast_mem {g : Flw → Flw} : ∀ (fs : List Flw) (f : Flw), f ∈ onLast g fs → f ∈ fs ∨ ∃ f0 ∈ fs, f = g f0
  | [], f, h => by simp [onLast] at h
  | [a], f, h => by simp only [onLast, List.mem_singleton] at h; exact .inr ⟨a, by simp, h⟩
  | a :: b :: r, f, h => by
    simp only [onLast, List.mem_cons] at h
    rcases h with rfl | h
    · exact .inl (by simp)
    · rcases onLast_mem (b :: r) f h with h | ⟨f0, h0, e⟩
      · exact .inl (List.mem_cons_of_mem _ h)
      · exact .inr ⟨f0, List.mem_cons_of_mem _ h0, e⟩
theorem onLast_ne {g : Flw → Flw} {fs : List Flw} (h : fs ≠ []) : onLast g fs ≠ [] := by
  intro e; apply h; have := onLast_len (g := g) fs; rw [e] at this; exact List.eq_nil_of_length_eq_zero this.symm
theorem Sz.mono {S : PSt} {n m : Nat} (h : Sz S n) (hm : n ≤ m) : Sz S m :=
  ⟨Nat.le_trans h.tops hm, Nat.le_trans h.flws hm, fun f hf => ⟨Nat.le_trans (h.steps f hf).1 hm, Nat.le_trans (h.steps f hf).2.1 hm, (h.steps f hf).2.2⟩, h.win, h.tle, h.fle⟩
theorem Sz.step {S : PSt} {n : Nat} (h : Sz S n) {s : Stp} (hs : s.text.length ≤ 4096) : Sz { S with flws := onLast (addStep s) S.flws } (n + 1) := by
  refine ⟨Nat.le_succ_of_le h.tops, by rw [onLast_len]; exact Nat.le_succ_of_le h.flws, fun f hf => ?_, fun hw => onLast_ne (h.win hw), h.tle, by rw [onLast_len]; exact h.fle⟩
  rcases onLast_mem _ _ hf with hf | ⟨f0, hf0, rfl⟩
  · obtain ⟨a, b, c⟩ := h.steps f hf; exact ⟨Nat.le_succ_of_le a, Nat.le_succ_of_le b, c⟩
  · obtain ⟨a, b, c, d⟩ := h.steps f0 hf0
    unfold addStep
    split
    · refine ⟨by simp; exact a, by simpa using Nat.le_succ_of_le b, fun t ht => ?_, d⟩
      rcases List.mem_append.1 ht with ht | ht
      · exact c t ht
      · simp only [List.mem_singleton] at ht; rw [ht]; exact hs
    · refine ⟨by simpa using Nat.le_succ_of_le a, by simp; exact b, c, fun t ht => ?_⟩
      rcases List.mem_append.1 ht with ht | ht
      · exact d t ht
      · simp only [List.mem_singleton] at ht; rw [ht]; exact hs
theorem Sz.field {S : PSt} {n w : Nat} (h : Sz S n) {g : Flw → Flw} (hg : ∀ f, (g f).pre = f.pre ∧ (g f).post = f.post) (h0 : S.flws ≠ []) : Sz { S with flws := onLast g S.flws, win := w } (n + 1) := by
  refine ⟨Nat.le_succ_of_le h.tops, by rw [onLast_len]; exact Nat.le_succ_of_le h.flws, fun f hf => ?_, fun _ => onLast_ne h0, h.tle, by rw [onLast_len]; exact h.fle⟩
  rcases onLast_mem _ _ hf with hf | ⟨f0, hf0, rfl⟩
  · obtain ⟨a, b, c⟩ := h.steps f hf; exact ⟨Nat.le_succ_of_le a, Nat.le_succ_of_le b, c⟩
  · obtain ⟨a, b, c, d⟩ := h.steps f0 hf0
    rw [(hg f0).1, (hg f0).2]
    exact ⟨Nat.le_succ_of_le a, Nat.le_succ_of_le b, c, d⟩
/-- May a line of a flow stand there? Then there is a flow. -/
theorem allows_flow {S : PSt} {n : Nat} (h : Sz S n) {t : Bs} (ha : S.allows t = true) (h1 : t ≠ wTopic) (h2 : t ≠ wFlow) : S.flws ≠ [] := by
  unfold PSt.allows at ha
  by_cases hw : S.win ≠ 0
  · exact h.win hw
  · split at ha
    · simp only [Bool.and_eq_true, decide_eq_true_eq] at ha; exact absurd ha.1 hw
    · rw [if_neg (by simp [h1, h2])] at ha
      split at ha
      · simp only [Bool.and_eq_true, decide_eq_true_eq] at ha; exact ha.1
      · simpa using ha
theorem Sz.put {S : PSt} {n line : Nat} {ws : List Bs} {l : Bs} (h : Sz S n) (hl : l.length ≤ 4096) (ha : S.allows (wd ws 0) = true) : Sz (S.put line ws l) (n + 1) := by
  have hr : (restOf l).length ≤ 4096 := Nat.le_trans (restOf_len l) hl
  unfold PSt.put
  by_cases h1 : wd ws 0 = wTopic
  · rw [if_pos h1]
    exact ⟨by simp; exact h.tops, Nat.le_succ_of_le h.flws, fun f hf => (h.mono (Nat.le_succ _)).steps f hf, h.win, by simp [h.tle], h.fle⟩
  rw [if_neg h1]
  by_cases h2 : wd ws 0 = wFlow
  · rw [if_pos h2]
    refine ⟨Nat.le_succ_of_le h.tops, by simp; exact h.flws, fun f hf => ?_, fun _ => by simp, h.tle, by simp [h.fle]⟩
    rcases List.mem_append.1 hf with hf | hf
    · exact (h.mono (Nat.le_succ _)).steps f hf
    · simp only [List.mem_singleton] at hf; subst hf; simp [flowOf]
  rw [if_neg h2]
  have h0 := allows_flow h ha h1 h2
  by_cases h3 : wd ws 0 = wFilter
  · rw [if_pos h3]; exact h.step hr
  rw [if_neg h3]
  by_cases h4 : wd ws 0 = wSet
  · rw [if_pos h4]; exact h.step hr
  rw [if_neg h4]
  by_cases h5 : wd ws 0 = wKey
  · rw [if_pos h5]; exact h.step (by simp)
  rw [if_neg h5]
  by_cases h6 : wd ws 0 = wWindow
  · rw [if_pos h6]; exact h.field (g := fun f => { f with win := windowOf ws }) (fun f => ⟨rfl, rfl⟩) h0
  rw [if_neg h6]
  by_cases h7 : wd ws 0 = wAgg
  · rw [if_pos h7]; exact h.field (g := fun f => { f with agg := aggOf (wd ws 1) }) (fun f => ⟨rfl, rfl⟩) h0
  rw [if_neg h7]
  exact h.mono (Nat.le_succ _)
theorem Sz.next {S : PSt} {n line : Nat} {l : Bs} (h : Sz S n) (hl : l.length ≤ 4096) (he : S.errOf l = 0) : Sz (S.next line l) (n + 1) := by
  unfold PSt.next
  unfold PSt.errOf at he
  split
  · exact h.mono (Nat.le_succ _)
  · rename_i hi
    rw [if_neg hi] at he
    split at he
    · cases he
    · split at he
      · cases he
      · rename_i _ ha
        exact h.put hl (by simpa using ha)
theorem Sz.init : Sz .init 0 := ⟨Nat.le_refl _, Nat.le_refl _, fun f hf => by simp [PSt.init] at hf, fun h => absurd rfl h, rfl, rfl⟩
end Go.Proofs.YtogcickcodlepaaGreatDoor.Pl
/-
  put: what a line does that has its form and is allowed. Conditions: the parser keeps what it keeps.
-/
namespace Go.Proofs.YtogcickcodlepaaGreatDoor.Pl
open Go.RowKit Go.Proofs.YtogcickcodlepaaGreatDoor.Ex
variable {KL : Nat × Array Value}

def PS (KL : Nat × Array Value) (w0 : World) (p : Nat) (S : PSt) (w : World) : Prop := ∃ vt vf va vb es, PX KL w0 p S vt vf va vb es w
theorem PS.grow {w0 w w' : World} {p : Nat} {S : PSt} (h : PS KL w0 p S w) (hb : Below w.heap.size w w') : PS KL w0 p S w' := by
  obtain ⟨vt, vf, va, vb, es, hx⟩ := h; exact ⟨vt, vf, va, vb, es, hx.grow hb⟩
/-- A parser with a flow, from above. -/
theorem lx_of {w0 w w1 : World} {p n : Nat} {S : PSt} (h : PS KL w0 p S w1) (hB : Below w1.heap.size w1 w) (hz : Sz S n) (hn : n ≤ 80000) (h0 : S.flws ≠ []) :
    ∃ vt va vb v1 v2 es f g cap, LX KL w0 p S w vt va vb v1 v2 es f g cap ∧ g < w1.heap.size := by
  obtain ⟨vt, vf, va, vb, es, hx⟩ := h
  have hne : es ≠ [] := by
    intro e; apply h0; rw [← hx.flws, e]; rfl
  obtain ⟨es0, q, rfl⟩ := snoc_of es hne
  obtain ⟨g, cap, rfl, hg, -⟩ := hx.last
  have hmem : q.f ∈ S.flws := by rw [← hx.flws]; simp
  have hl : S.flws.length = es0.length + 1 := by rw [← hx.flws]; simp
  have h1 := hz.flws
  have h2 := hz.steps q.f hmem
  exact ⟨vt, va, vb, q.pre, q.post, es0, q.f, g, cap, ⟨hx.grow hB, by omega, by omega, by omega⟩, hg⟩
theorem words_small {l : Bs} : ∀ (cur : Bs), cur.length + l.length ≤ 4096 → ∀ x ∈ wordsGo cur l, x.length ≤ 4096 := by
  induction l with
  | nil => intro cur h x hx; simp only [wordsGo] at hx; split at hx <;> simp at hx; rw [hx]; simpa using h
  | cons c r ih =>
    intro cur h x hx
    simp only [List.length_cons] at h
    simp only [wordsGo] at hx
    split at hx
    · split at hx
      · exact ih [] (by simp; omega) x hx
      · rcases List.mem_cons.1 hx with rfl | hx
        · omega
        · exact ih [] (by simp; omega) x hx
    · exact ih (cur ++ [c]) (by simp; omega) x hx
theorem flowWs_of {ws : List Bs} (h : fitsL ws boundForm = true ∨ fitsL ws marksForm = true) (hs : ∀ x ∈ ws, x.length ≤ 4096) : FlowWs ws ws.length := by
  rcases h with h | h
  · have hl := fitsL_len _ _ h
    have hk := fitsL_wd _ _ h
    have hl12 : ws.length = 12 := hl
    exact ⟨rfl, by omega, hs, fun _ => hk 7 (by decide), by rw [hl12]; exact hk 9 (by decide), by rw [hl12]; exact hk 11 (by decide)⟩
  · have hl := fitsL_len _ _ h
    have hk := fitsL_wd _ _ h
    have hl11 : ws.length = 11 := hl
    refine ⟨rfl, by omega, hs, fun e => ?_, by rw [hl11]; exact hk 8 (by decide), by rw [hl11]; exact hk 10 (by decide)⟩
    have := okWord_lit (hk 6 (by decide)) (by decide) (by decide)
    rw [e] at this
    exact absurd this (by decide)
theorem window_of {ws : List Bs} (h : fitsL ws tumbleForm = true ∨ fitsL ws slideForm = true ∨ fitsL ws sessionForm = true) : 3 ≤ ws.length ∧ isNumber (wd ws 2) = true ∧ (wd ws 1 = wSlide → ws.length = 4 ∧ isNumber (wd ws 3) = true) := by
  rcases h with h | h | h
  · have hl : ws.length = 3 := fitsL_len _ _ h
    have hk := fitsL_wd _ _ h
    refine ⟨by omega, hk 2 (by decide), fun e => ?_⟩
    have := okWord_lit (hk 1 (by decide)) (by decide) (by decide)
    rw [e] at this; exact absurd this (by decide)
  · have hl : ws.length = 4 := fitsL_len _ _ h
    have hk := fitsL_wd _ _ h
    exact ⟨by omega, hk 2 (by decide), fun _ => ⟨hl, hk 3 (by decide)⟩⟩
  · have hl : ws.length = 3 := fitsL_len _ _ h
    have hk := fitsL_wd _ _ h
    refine ⟨by omega, hk 2 (by decide), fun e => ?_⟩
    have := okWord_lit (hk 1 (by decide)) (by decide) (by decide)
    rw [e] at this; exact absurd this (by decide)
theorem put_any {w0 w w1 : World} {p b n cap line : Nat} {S : PSt} (h : PS KL w0 p S w1) (hB : Below w1.heap.size w1 w) {m : Nat} (hz : Sz S m) (hm : m ≤ 80000) (s : ByteArray) (hs : s.size ≤ 4096) (hw : WdsAt w (.slice (some ⟨b, 0, none⟩) n cap) (wordsOf s.data.toList)) (hb1 : w1.heap.size ≤ b) (hbw : b < w.heap.size)
    (hne : 0 < (wordsOf s.data.toList).length) (hf : hasForm (wordsOf s.data.toList) = true) (ha : S.allows (wd (wordsOf s.data.toList) 0) = true) :
    Calls Tryz.prog 53 #[ptr p, .int .i64 line, .slice (some ⟨b, 0, none⟩) n cap, .string s] w fun e w' => e = .returned (.tuple #[]) ∧ PS KL w0 p (S.put line (wordsOf s.data.toList) s.data.toList) w' := by
  obtain ⟨ws, hws⟩ : ∃ ws, wordsOf s.data.toList = ws := ⟨_, rfl⟩
  have hlen : s.data.toList.length ≤ 4096 := by simpa using hs
  have hsm : ∀ x ∈ ws, x.length ≤ 4096 := by rw [← hws]; exact words_small [] (by simpa using hs)
  have hbl : 1 < ws.length → 32 ∈ Lib.trimB s.data.toList 32 := fun h => blank_inside (by rw [hws]; exact h)
  rw [hws] at hw hne hf ha ⊢
  obtain ⟨hnn, -, -, -⟩ := Lst.len hw
  subst hnn
  unfold hasForm at hf
  unfold PSt.put
  by_cases h1 : wd ws 0 = wTopic
  · rw [if_pos h1] at hf ⊢
    obtain ⟨vt, vf, va, vb, es, hx⟩ := h
    refine (put_topic (hx.grow hB) hw hbw hf hsm (by have := hz.tops; omega) (by have := hz.tops; have := hz.tle; omega) s).mono ?_
    rintro e w' ⟨rfl, vt', va', hq⟩
    exact ⟨rfl, _, _, _, _, _, hq⟩
  rw [if_neg h1] at hf ⊢
  by_cases h2 : wd ws 0 = wFlow
  · rw [if_pos h2] at hf ⊢
    obtain ⟨vt, vf, va, vb, es, hx⟩ := h
    have hl : es.length = S.flws.length := by rw [← hx.flws]; simp
    refine (put_flow (hx.grow hB) hw hbw (flowWs_of (by simpa using hf) hsm) h2 (by have := hz.flws; omega) (by have := hz.flws; have := hz.fle; omega) s).mono ?_
    rintro e w' ⟨rfl, vf', vb', es', hq⟩
    exact ⟨rfl, _, _, _, _, _, hq⟩
  rw [if_neg h2] at hf ⊢
  obtain ⟨vt, va, vb, v1, v2, es, f, g, gc, hx, hgl⟩ := lx_of h hB hz hm (allows_flow hz ha h1 h2)
  by_cases h3 : wd ws 0 = wFilter ∨ wd ws 0 = wSet
  · rw [if_pos h3] at hf
    have hl : 1 < ws.length := by simpa using hf
    by_cases h4 : wd ws 0 = wFilter
    · rw [if_pos h4]
      refine (put_expr hx hw (by omega) s hs (hbl hl) 1 (.inl ⟨h4, rfl⟩)).mono ?_
      rintro e w' ⟨rfl, q', hq⟩
      exact ⟨rfl, _, _, _, _, _, hq⟩
    · rw [if_neg h4]
      have h5 : wd ws 0 = wSet := h3.resolve_left h4
      rw [if_pos h5]
      refine (put_expr hx hw (by omega) s hs (hbl hl) 2 (.inr ⟨h5, rfl⟩)).mono ?_
      rintro e w' ⟨rfl, q', hq⟩
      exact ⟨rfl, _, _, _, _, _, hq⟩
  rw [if_neg h3] at hf
  rw [if_neg (fun h => h3 (.inl h)), if_neg (fun h => h3 (.inr h))]
  by_cases h4 : wd ws 0 = wKey
  · rw [if_pos h4] at hf ⊢
    have hl : ws.length = 2 := fitsL_len _ _ hf
    refine (put_key hx hw (by omega) s (fitsL_wd _ _ hf 1 (by decide)) h4).mono ?_
    rintro e w' ⟨rfl, q', hq⟩
    exact ⟨rfl, _, _, _, _, _, hq⟩
  rw [if_neg h4] at hf ⊢
  by_cases h5 : wd ws 0 = wWindow
  · rw [if_pos h5] at hf ⊢
    obtain ⟨g1, g2, g3⟩ := window_of (ws := ws) (by simpa using hf)
    refine (put_window hx hw h5 g1 g2 g3 s).mono ?_
    rintro e w' ⟨rfl, q', hq⟩
    exact ⟨rfl, _, _, _, _, _, hq⟩
  rw [if_neg h5] at hf ⊢
  by_cases h6 : wd ws 0 = wAgg
  · rw [if_pos h6] at hf ⊢
    simp only [Bool.and_eq_true] at hf
    have hl : ws.length = 2 := fitsL_len _ _ hf.1
    refine (put_agg hx hw hbw (by omega) h6 (by omega) s).mono ?_
    rintro e w' ⟨rfl, q', hq⟩
    exact ⟨rfl, _, _, _, _, _, hq⟩
  rw [if_neg h6] at hf
  cases hf
end Go.Proofs.YtogcickcodlepaaGreatDoor.Pl
