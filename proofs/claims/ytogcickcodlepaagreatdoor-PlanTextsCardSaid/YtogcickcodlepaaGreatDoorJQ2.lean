/-
  Texts joined into one file. Each part says in its own head what is proved there, and under which conditions.
-/
import Derived.Test.YtogcickcodlepaaGreatDoorJQ1
import Derived.StillTailTactics
import Derived.Lib.Hide
import Derived.Test.YtogcickcodlepaaGreatDoorJE1
set_option linter.unusedVariables false
set_option linter.unusedSimpArgs false
/-
  The document's Copy. Conditions: the plan lies in memory and is small.
-/
namespace Go.Proofs.YtogcickcodlepaaGreatDoor.Pl
open Go.RowKit Go.Proofs.YtogcickcodlepaaGreatDoor.Ex

theorem one_tops (L : List Top) : ∀ x ∈ L, ∀ u ∈ topC x, u.oneCell' = true := fun x _ => one_top x
theorem one_stp' (s : Stp) : ∀ u ∈ stpC s, u.oneCell' = true := by
  intro u hu; simp only [stpC, List.mem_cons, List.not_mem_nil, or_false] at hu; rcases hu with rfl | rfl | rfl <;> rfl
/-- The copy's rows alone. -/
structure CR (B : Nat) (ts : List Top) (es : List FE) (vt vf : Value) (w : World) : Prop where
  rowT : w.ownsRow B 47 2 vt ts.length (topCs ts)
  rowF : w.ownsRow B 43 12 vf es.length (flwCs es)
  steps : ∀ q ∈ es, SR B w q
theorem CR.set {B r i : Nat} {ts : List Top} {es : List FE} {vt vf v : Value} {w : World} (h : CR B ts es vt vf w) (hr : r < B) : CR B ts es vt vf (w.setCell ⟨r, i, none⟩ v) := by
  have hne : ∀ {e : TypeId} {size n : Nat} {u : Value} {xs : List Value}, w.ownsRow B e size u n xs → u.ownBlock ≠ some r := fun h hv => by have := (h.lt r hv).1; omega
  exact ⟨ownsRow_setCell_other h.rowT (hne h.rowT) v, ownsRow_setCell_other h.rowF (hne h.rowF) v, fun q hq => ⟨ownsRow_setCell_other (h.steps q hq).pre (hne (h.steps q hq).pre) v, ownsRow_setCell_other (h.steps q hq).post (hne (h.steps q hq).post) v⟩⟩
theorem CR.pln {B : Nat} {ts : List Top} {es : List FE} {vt vf : Value} {w : World} (h : CR B ts es vt vf w) (hs : ∀ q ∈ es, (∀ s ∈ q.f.pre, s.text.length ≤ maxLen) ∧ (∀ s ∈ q.f.post, s.text.length ≤ maxLen)) : PlnAt w (.agg #[vt, vf]) ⟨ts, es.map FE.f⟩ := by
  refine ⟨vt, vf, es, rfl, lst_row h.rowT (fun _ _ => rfl), ⟨lst_row h.rowF (fun _ _ => rfl), fun q hq => ?_⟩, rfl⟩
  have hq' := h.steps q hq
  exact ⟨⟨lst_row hq'.pre (fun _ _ => rfl), (hs q hq).1⟩, ⟨lst_row hq'.post (fun _ _ => rfl), (hs q hq).2⟩⟩
theorem one_flwS (f : Flw) (a a' : Option Addr) (n c n' c' : Nat) : ∀ u ∈ flwC ⟨f, .slice a n c, .slice a' n' c'⟩, u.oneCell' = true := by
  intro u hu; simp only [flwC, List.mem_cons, List.not_mem_nil, or_false] at hu; rcases hu with rfl | rfl | rfl | rfl | rfl | rfl | rfl | rfl | rfl | rfl | rfl | rfl <;> rfl
set_option maxRecDepth 20000 in
set_option maxHeartbeats 4000000 in
theorem copy_at {w : World} {v : Value} {p : Pln} (h : PlnAt w v p) (hs : Sm p) : Calls Tryz.prog 8 #[v] w fun e w' => ∃ v', e = .returned v' ∧ PlnAt w' v' p ∧ Below w.heap.size w w' := by
  obtain ⟨vt, vf, es, rfl, ht, hf, he⟩ := h
  obtain ⟨i0, hi0, hz0, hz1, hz2⟩ := info_parts info47
  obtain ⟨a1, c1, rfl⟩ := ht.val
  obtain ⟨a2, c2, rfl⟩ := hf.1.val
  obtain ⟨n, hn⟩ : ∃ n, p.tops.length = n := ⟨_, rfl⟩
  obtain ⟨m, hm⟩ : ∃ m, es.length = m := ⟨_, rfl⟩
  rw [hn] at ht ⊢
  rw [hm] at hf ⊢
  obtain ⟨Wa, hWa⟩ : ∃ W, (w.alloc (.cells #[.slice a1 n c1, .slice a2 m c2] 25)).alloc (.cells #[.slice none 0 0, .slice none 0 0] 25) = W := ⟨_, rfl⟩
  have bwa : Below w.heap.size w Wa := by rw [← hWa]; exact ((Below.refl _ _).alloc (Nat.le_refl _) _).alloc (by simp) _
  have hxa : PBox Wa w.heap.size (.slice a1 n c1) (.slice a2 m c2) := by
    rw [← hWa]
    have h0 : PBox (w.alloc (.cells #[.slice a1 n c1, .slice a2 m c2] 25)) w.heap.size (.slice a1 n c1) (.slice a2 m c2) := heap_alloc_new w _
    exact h0.grow ((Below.refl _ _).alloc (Nat.le_refl _) _)
  have hra : Wa.heap[w.heap.size + 1]? = some (.cells #[.slice none 0 0, .slice none 0 0] 25 (0, 0)) := by
    rw [← hWa]; have := heap_alloc_new (w.alloc (.cells #[.slice a1 n c1, .slice a2 m c2] 25)) (.cells #[.slice none 0 0, .slice none 0 0] 25); rwa [World.size_alloc] at this
  have hsa : Wa.heap.size = w.heap.size + 1 + 1 := by rw [← hWa]; simp only [World.size_alloc]
  have cp0 : CP Wa Wa.heap.size [] [] (.slice none 0 0) (.slice none 0 0) (Wa.alloc (.cells #[.slice none 0 0, .slice none 0 0] 25)) := by
    refine ⟨(Below.refl _ _).alloc (Nat.le_refl _) _, Nat.le_refl _, ?_, World.ownsRow_nil _ _ _ _, World.ownsRow_nil _ _ _ _, fun q hq => by cases hq⟩
    exact heap_alloc_new Wa _
  obtain ⟨W, hW⟩ : ∃ W, Wa.alloc (.cells #[.slice none 0 0, .slice none 0 0] 25) = W := ⟨_, rfl⟩
  rw [hW] at cp0
  have baw : Below Wa.heap.size Wa W := by rw [← hW]; exact (Below.refl _ _).alloc (Nat.le_refl _) _
  have HXA := Lib.hid hxa
  have HRA := Lib.hid hra
  have HBA := Lib.hid bwa
  have HT := Lib.hid (Lst.grow ht (bwa.trans (baw.mono bwa.size)))
  have HF := Lib.hid (hf.grow bwa)
  have HE := Lib.hid he
  have HS := Lib.hid hs
  have HNM := Lib.hid (And.intro hn hm)
  have HSA := Lib.hid hsa
  have HBAW := Lib.hid baw
  obtain ⟨x0, x1⟩ := (hxa.grow baw).cells
  obtain ⟨p0, p1, g0, g1, pl⟩ := cp0.cells
  have HCP := Lib.hid cp0
  have hbase : Wa.heap.size ≤ W.heap.size := baw.size
  clear ht hf he hs hn hm bwa hxa hra hsa cp0 baw
  go_enter Tryz.func8, Tryz.ntmps8
  go_upto_region 2 with fail
  go_wp2_with (refine wpList_copy_lst (by rfl) (.tmp 9) (.tmp 11) 22 (by rfl) 47 i0 (.agg #[.string ⟨#[]⟩, .int .i64 0]) 24 Tryz.underlying22 hi0 hz0 hz1 hz2 rfl (by decide) (by rfl) (by rfl) HT.out (fun _ _ => rfl) (one_tops _) (by have := HS.out.tops; omega) (by decide) Wa.heap.size hbase ?_; intro vt2 w2 hown2 hb2; trace "T"; refine Hid.out ?_)
  have hc2 := HCP.out.grow hb2
  have hW2 : Below W.heap.size W w2 := hb2
  obtain ⟨p0', p1', g0', g1', pl'⟩ := hc2.cells
  have hown3 : w2.ownsRow Wa.heap.size 47 2 vt2 p.tops.length (topCs p.tops) := hown2
  have cp2 : CP Wa Wa.heap.size p.tops [] vt2 (.slice none 0 0) (w2.setCell ⟨Wa.heap.size, 0, none⟩ vt2) :=
    ⟨hc2.below.setCell hc2.hp vt2, hc2.hp, by rw [heap_setCell_same w2 _ 0 _ _ vt2 hc2.blk]; rfl, ownsRow_setCell_other hown3 (row_ne hown3 hc2.blk (by decide)) vt2, World.ownsRow_nil _ _ _ _, fun q hq => by cases hq⟩
  obtain ⟨A2, k2, e2⟩ := (lst_row (C := topC) hown3 (fun _ _ => rfl)).val
  subst e2
  have HC2 := Lib.hid cp2
  have hn2 : ¬ w.heap.size = Wa.heap.size := by have := HSA.out; omega
  have HP2 := Lib.hid p0'
  clear hc2 hown2 hown3 hb2 cp2 x0 x1 p0 p1 g0 g1 p1' g1'
  refine Lib.hid ?_
  go_wp2
  generalize w2.setCell ⟨Wa.heap.size, 0, none⟩ (.slice A2 p.tops.length k2) = W2 at HC2 ⊢
  obtain ⟨j0, hj0, hy0, hy1, hy2⟩ := info_parts info50
  obtain ⟨l0, hl0, hv0, hv1, hv2⟩ := info_parts info43
  clear p0' HP2 pl' pl hbase hi0 hz0 hz1 hz2 HCP
  clear hW2 g0'
  go_loopw [4, 5, 6, 7] (fun i _ _ _ wr => ∃ (k : Nat) (es' : List FE) (vf : Value), k ≤ m ∧ i = .int .i64 k ∧ Hid (es'.map FE.f = (es.map FE.f).take k) ∧ Hid (CP Wa Wa.heap.size p.tops es' (.slice A2 p.tops.length k2) vf wr)) (fun i _ _ _ _ => m - (intOf i).toNat)
  case atStart => exact ⟨0, [], _, Nat.zero_le _, rfl, Lib.hid rfl, HC2⟩
  case round =>
    clear HC2
    obtain ⟨k, es', vf, hk, rfl, hmap, hcp⟩ := hrel
    have hbel := hcp.out.below
    obtain ⟨x0, x1⟩ := (HXA.out.grow hbel).cells
    obtain ⟨q0, q1, g0, g1, hpl⟩ := hcp.out.cells
    have hbase : Wa.heap.size ≤ wr.heap.size := hbel.size
    have hml : m ≤ 100 := by have h1 := HS.out.flws; have h2 := HNM.out.2; rw [← HE.out, List.length_map] at h1; omega
    by_cases hlt : k < m
    · have hkl : k < es.length := by rw [HNM.out.2]; exact hlt
      have hFr := HF.out.grow hbel
      have hok := hFr.2 _ (List.getElem_mem hkl)
      obtain ⟨b, o, rfl, hbl, c0, c1', c2', c3, c4, c5, c6, c7, c8, c9, c10, c11⟩ := hFr.cells hkl
      have hst : es[k].f.pre.length ≤ 100 ∧ es[k].f.post.length ≤ 100 := HS.out.steps _ (by rw [← HE.out]; exact List.mem_map_of_mem (List.getElem_mem hkl))
      have hmap2 : (es.map FE.f).take (k + 1) = (es.map FE.f).take k ++ [es[k].f] := by
        rw [List.take_succ_eq_append_getElem (by rw [List.length_map]; exact hkl)]; simp
      obtain ⟨q, hq⟩ : ∃ q, es[k] = q := ⟨_, rfl⟩
      rw [hq] at hok c0 c1' c2' c3 c4 c5 c6 c7 c8 c9 c10 c11 hst hmap2
      have bx := Box.new wr q
      have hel : es'.length = k := by have := congrArg List.length hmap.out; rw [List.length_map, List.length_take, List.length_map] at this; omega
      obtain ⟨f, pre, post⟩ := q
      dsimp only at c0 c1' c2' c3 c4 c5 c7 c8 c9 c10 hst hmap2
      obtain ⟨u1, c5', e5⟩ := hok.1.1.val
      obtain ⟨u2, c6', e6⟩ := hok.2.1.val
      dsimp only at e5 e6
      subst e5 e6
      dsimp only at c6 c11
      have g2 : (0 : Int) ≤ (k : Int) := by omega
      have g3 : (k : Int) < (m : Int) := by omega
      have n1 : ¬ w.heap.size = wr.heap.size := by have := HSA.out; omega
      have n2 : ¬ Wa.heap.size = wr.heap.size := Nat.ne_of_lt hpl
      have n3 : ¬ b = wr.heap.size := Nat.ne_of_lt hbl
      obtain ⟨W3, hW3⟩ : ∃ W3, wr.alloc (.cells (flwC ⟨f, .slice u1 f.pre.length c5', .slice u2 f.post.length c6'⟩).toArray 43) = W3 := ⟨_, rfl⟩
      have bx3 : Box W3 wr.heap.size ⟨f, .slice u1 f.pre.length c5', .slice u2 f.post.length c6'⟩ := by rw [← hW3]; exact bx
      have b3 : Below wr.heap.size wr W3 := by rw [← hW3]; exact (Below.refl _ _).alloc (Nat.le_refl _) _
      have hok3 := hok.grow b3
      obtain ⟨z0, z1, z2, z3, z4, z5, z6, z7, z8, z9, z10, z11⟩ := bx3.cells
      have hb3s : Wa.heap.size ≤ W3.heap.size := Nat.le_trans hbase b3.size
      have P1 : Hid (StpsAt W3 (.slice u1 f.pre.length c5') f.pre) := Lib.hid hok3.1
      have P2 : Hid (StpsAt W3 (.slice u2 f.post.length c6') f.post) := Lib.hid hok3.2
      have BX := Lib.hid bx3
      have HPO : Hid (StpsAt wr (.slice u2 f.post.length c6') f.post) := Lib.hid hok.2
      have B3 := Lib.hid b3
      have HST := Lib.hid hst
      have HM2 := Lib.hid hmap2
      have HEL := Lib.hid hel
      dsimp only [flwC] at hW3
      clear hok hok3 bx bx3 b3 hst hmap2 hFr hkl hq hel
      go_wp2_with (refine wpList_copy_lst (by rfl) (.tmp 26) (.tmp 28) 39 (by rfl) 50 j0 (.agg #[.int .i64 0, .string ⟨#[]⟩, .int .i64 0]) 32 Tryz.underlying39 hj0 hy0 hy1 hy2 rfl (by decide) (by rfl) (by rfl) P1.out.1 (fun _ _ => rfl) (fun x _ => one_stp' x) (Nat.le_trans HST.out.1 (by decide)) (by decide) Wa.heap.size hb3s ?_; intro v1 w4 hown4 hb4; refine Hid.out ?_)
      have bx4 := BX.out.grow hb4
      have hlt4 := lt_of_heap bx4
      have own4 : w4.ownsRow Wa.heap.size 50 3 v1 f.pre.length (stpCs f.pre) := hown4
      obtain ⟨A4, k4, e4⟩ := (lst_row (C := stpC) own4 (fun _ _ => rfl)).val
      subst e4
      have bxs : Box (w4.setCell ⟨wr.heap.size, 6, none⟩ (.slice A4 f.pre.length k4)) wr.heap.size ⟨f, .slice A4 f.pre.length k4, .slice u2 f.post.length c6'⟩ := by
        unfold Box; rw [heap_setCell_same w4 _ 6 _ _ _ bx4]; rfl
      have fz6 : w4.frozen? ⟨wr.heap.size, 6, none⟩ = false := free_of_heap bx4 6
      have cc6 : w4.cell? ⟨wr.heap.size, 6, none⟩ = some (.slice u1 f.pre.length c5') := by rw [cell_of_heap bx4]; rfl
      have b45 : Below wr.heap.size wr (w4.setCell ⟨wr.heap.size, 6, none⟩ (.slice A4 f.pre.length k4)) := (B3.out.trans (hb4.mono B3.out.size)).setCell (Nat.le_refl _) _
      have hbk4 : w4.heap[wr.heap.size]? = some (.cells (flwC ⟨f, .slice u1 f.pre.length c5', .slice u2 f.post.length c6'⟩).toArray 43 (0, 0)) := bx4
      have own5 : (w4.setCell ⟨wr.heap.size, 6, none⟩ (.slice A4 f.pre.length k4)).ownsRow Wa.heap.size 50 3 (.slice A4 f.pre.length k4) f.pre.length (stpCs f.pre) := ownsRow_setCell_other own4 (row_ne own4 hbk4 (by decide)) _
      have p25 : StpsAt (w4.setCell ⟨wr.heap.size, 6, none⟩ (.slice A4 f.pre.length k4)) (.slice u2 f.post.length c6') f.post := HPO.out.grow b45
      obtain ⟨W5, hW5⟩ : ∃ W5, w4.setCell ⟨wr.heap.size, 6, none⟩ (.slice A4 f.pre.length k4) = W5 := ⟨_, rfl⟩
      rw [hW5] at bxs b45 own5 p25
      obtain ⟨-, -, -, -, -, -, -, -, -, -, -, y11⟩ := bxs.cells
      have hb5s : Wa.heap.size ≤ W5.heap.size := Nat.le_trans hbase b45.size
      have BX5 := Lib.hid bxs
      have B45 := Lib.hid b45
      have O5 := Lib.hid own5
      have P25 := Lib.hid p25
      clear hbk4 hW3 z0 z1 z2 z3 z4 z5 z6 z7 z8 z9 z10 z11 bx4 own4 hown4 hb4 bxs b45 own5 p25
      refine Lib.hid ?_
      go_wp2_with (refine wpList_copy_lst (by rfl) (.tmp 32) (.tmp 34) 39 (by rfl) 50 j0 (.agg #[.int .i64 0, .string ⟨#[]⟩, .int .i64 0]) 32 Tryz.underlying39 hj0 hy0 hy1 hy2 rfl (by decide) (by rfl) (by rfl) P25.out.1 (fun _ _ => rfl) (fun x _ => one_stp' x) (Nat.le_trans HST.out.2 (by decide)) (by decide) Wa.heap.size hb5s ?_; intro v2 w6 hown6 hb6; refine Hid.out ?_)
      have bx6 := BX5.out.grow hb6
      have own6 : w6.ownsRow Wa.heap.size 50 3 v2 f.post.length (stpCs f.post) := hown6
      obtain ⟨A6, k6, e6⟩ := (lst_row (C := stpC) own6 (fun _ _ => rfl)).val
      subst e6
      have bx7 : Box (w6.setCell ⟨wr.heap.size, 11, none⟩ (.slice A6 f.post.length k6)) wr.heap.size ⟨f, .slice A4 f.pre.length k4, .slice A6 f.post.length k6⟩ := by
        unfold Box; rw [heap_setCell_same w6 _ 11 _ _ _ bx6]; rfl
      have hbk6 : w6.heap[wr.heap.size]? = some (.cells (flwC ⟨f, .slice A4 f.pre.length k4, .slice u2 f.post.length c6'⟩).toArray 43 (0, 0)) := bx6
      have fz11 : w6.frozen? ⟨wr.heap.size, 11, none⟩ = false := free_of_heap bx6 11
      have cc11 : w6.cell? ⟨wr.heap.size, 11, none⟩ = some (.slice u2 f.post.length c6') := by rw [cell_of_heap bx6]; rfl
      have b47 : Below wr.heap.size wr (w6.setCell ⟨wr.heap.size, 11, none⟩ (.slice A6 f.post.length k6)) := (B45.out.trans (hb6.mono B45.out.size)).setCell (Nat.le_refl _) _
      have own7 : (w6.setCell ⟨wr.heap.size, 11, none⟩ (.slice A6 f.post.length k6)).ownsRow Wa.heap.size 50 3 (.slice A6 f.post.length k6) f.post.length (stpCs f.post) := ownsRow_setCell_other own6 (row_ne own6 hbk6 (by decide)) _
      have own56 := ownsRow_below O5.out hb6
      have own57 : (w6.setCell ⟨wr.heap.size, 11, none⟩ (.slice A6 f.post.length k6)).ownsRow Wa.heap.size 50 3 (.slice A4 f.pre.length k4) f.pre.length (stpCs f.pre) := ownsRow_setCell_other own56 (row_ne own56 hbk6 (by decide)) _
      obtain ⟨W7, hW7⟩ : ∃ W7, w6.setCell ⟨wr.heap.size, 11, none⟩ (.slice A6 f.post.length k6) = W7 := ⟨_, rfl⟩
      rw [hW7] at bx7 b47 own7 own57
      have hcp7 := hcp.out.grow b47
      obtain ⟨z0, z1, z2, z3, z4, z5, z6, z7, z8, z9, z10, z11⟩ := bx7.cells
      obtain ⟨q0, q1, g0, g1, hpl⟩ := hcp7.cells
      have sr7 : SR Wa.heap.size W7 ⟨f, .slice A4 f.pre.length k4, .slice A6 f.post.length k6⟩ := ⟨own57, own7⟩
      have hb7n : Below W7.heap.size W7 (W7.alloc (.cells (flwC ⟨f, .slice A4 f.pre.length k4, .slice A6 f.post.length k6⟩).toArray 43)) := (Below.refl _ _).alloc (Nat.le_refl _) _
      have hcp8 := hcp7.grow hb7n
      have sr8 := sr7.below hb7n
      have hb7s : Wa.heap.size ≤ W7.heap.size := Nat.le_trans hbase b47.size
      have hvf : ∃ a c, vf = .slice a es'.length c := (lst_row (C := flwC) hcp.out.rowF (fun _ _ => rfl)).val
      obtain ⟨avf, cvf, rfl⟩ := hvf
      have HCP8 := Lib.hid hcp8
      have SR8 := Lib.hid sr8
      have B47 := Lib.hid b47
      have n8 : ¬ Wa.heap.size = W7.heap.size := Nat.ne_of_lt hpl
      dsimp only [flwC] at HCP8 SR8
      clear hW5 y11 bx6 own6 hown6 hb6 bx7 hbk6 b47 own7 own57 own56 hcp7 sr7 hb7n hcp8 sr8
      refine Lib.hid ?_
      go_wp2_with (refine wpList_append_lies _ (by rfl) (.tmp 39) (.tmp 41) 23 (by rfl) Wa.heap.size 43 l0 (.agg #[.string ⟨#[]⟩, .string ⟨#[]⟩, .string ⟨#[]⟩, .int .i64 0, .int .i64 0, .int .i64 0, .slice none 0 0, .int .i64 0, .int .i64 0, .int .i64 0, .int .i64 0, .slice none 0 0]) 12 152 Tryz.underlying23 hl0 hv0 hv1 hv2 rfl (by decide) (.slice avf es'.length cvf) es'.length (flwCs es') (by rfl) HCP8.out.rowF ⟨W7.heap.size, 0, none⟩ 1 1 (flwC ⟨f, .slice A4 f.pre.length k4, .slice A6 f.post.length k6⟩) (by rfl) rfl (World.news_of_block (heap_alloc_new W7 _)) (one_flwS _ _ _ _ _ _ _) (by decide) (by have := HEL.out; unfold maxLen; omega) (by have := HEL.out; omega) (by simp; omega) _ rfl ?_; intro g9 cap9 w9 hown9 hgrow9 hat9 hlt9; refine Hid.out ?_)
      obtain ⟨hbk9, hcp9⟩ := HCP8.out.push SR8.out hgrow9 hown9
      have HCP9 := Lib.hid hcp9
      have cc1 : w9.cell? ⟨Wa.heap.size, 1, none⟩ = some (.slice avf es'.length cvf) := by rw [cell_of_heap hbk9]; rfl
      have fz1 : w9.frozen? ⟨Wa.heap.size, 1, none⟩ = false := free_of_heap hbk9 1
      clear hbk9 hcp9 hown9 hgrow9 hat9 hlt9 q0 q1 g0 g1 z0 z1 z2 z3 z4 z5 z6 z7 z8 z9 z10 z11 HCP8 SR8 hW7 fz11 cc11 fz6 cc6
      refine Lib.hid ?_
      go_wp2
      go_roundw
      case rel => exact ⟨k + 1, es' ++ [⟨f, .slice A4 f.pre.length k4, .slice A6 f.post.length k6⟩], _, by omega, by go_num, Lib.hid (by rw [List.map_append, hmap.out, HM2.out]; rfl), HCP9⟩
      case measure => simp [intOf]; omega
    · have hkm : k = m := by omega
      have hfin : es'.map FE.f = p.flws := by
        rw [hmap.out, hkm, List.take_of_length_le (by rw [List.length_map, HNM.out.2]; exact Nat.le_refl _)]
        exact HE.out
      have htx : ∀ q ∈ es', (∀ s ∈ q.f.pre, s.text.length ≤ maxLen) ∧ (∀ s ∈ q.f.post, s.text.length ≤ maxLen) := fun q hq => by
        have hm1 : q.f ∈ es.map FE.f := by rw [HE.out, ← hfin]; exact List.mem_map_of_mem hq
        obtain ⟨q2, hq2, e2⟩ := List.mem_map.1 hm1
        have := HF.out.2 q2 hq2
        rw [← e2]
        exact ⟨this.1.2, this.2.2⟩
      have HTX := Lib.hid htx
      have HFIN := Lib.hid hfin
      have hvf : ∃ a c, vf = .slice a es'.length c := (lst_row (C := flwC) hcp.out.rowF (fun _ _ => rfl)).val
      obtain ⟨avf, cvf, rfl⟩ := hvf
      have hr0 : wr.heap[w.heap.size + 1]? = some (.cells #[.slice none 0 0, .slice none 0 0] 25 (0, 0)) := (hbel.block _ (lt_of_heap HRA.out)).trans HRA.out
      have r0 : wr.cell? ⟨w.heap.size + 1, 0, none⟩ = some (.slice none 0 0) := by rw [cell_of_heap hr0]; rfl
      have r1 : wr.cell? ⟨w.heap.size + 1, 1, none⟩ = some (.slice none 0 0) := by rw [cell_of_heap hr0]; rfl
      have rf0 := free_of_heap hr0 0
      have rf1 := free_of_heap hr0 1
      have HR0 := Lib.hid hr0
      have HBR := Lib.hid hbel
      clear htx hfin hmap hr0 hkm hbel
      go_wp2
      have hlr : w.heap.size + 1 < Wa.heap.size := by have := HSA.out; omega
      have e1 := heap_setCell_same wr (w.heap.size + 1) 0 _ _ (.slice A2 p.tops.length k2) HR0.out
      have e2 := heap_setCell_same _ (w.heap.size + 1) 1 _ _ (.slice avf es'.length cvf) e1
      have s0 : ((wr.setCell ⟨w.heap.size + 1, 0, none⟩ (.slice A2 p.tops.length k2)).setCell ⟨w.heap.size + 1, 1, none⟩ (.slice avf es'.length cvf)).cell? ⟨w.heap.size + 1, 0, none⟩ = some (.slice A2 p.tops.length k2) := by rw [cell_of_heap e2]; rfl
      have s1 : ((wr.setCell ⟨w.heap.size + 1, 0, none⟩ (.slice A2 p.tops.length k2)).setCell ⟨w.heap.size + 1, 1, none⟩ (.slice avf es'.length cvf)).cell? ⟨w.heap.size + 1, 1, none⟩ = some (.slice avf es'.length cvf) := by rw [cell_of_heap e2]; rfl
      have cr : CR Wa.heap.size p.tops es' (.slice A2 p.tops.length k2) (.slice avf es'.length cvf) wr := ⟨hcp.out.rowT, hcp.out.rowF, hcp.out.steps⟩
      have hpn := ((cr.set (i := 0) (v := .slice A2 p.tops.length k2) hlr).set (i := 1) (v := .slice avf es'.length cvf) hlr).pln HTX.out
      rw [HFIN.out] at hpn
      refine bodyPost_ret (v := .agg #[.slice A2 p.tops.length k2, .slice avf es'.length cvf]) (by simp [results, Tryz.results8, go_sem, s0, s1]) rfl ⟨_, rfl, hpn, ?_⟩
      exact ((HBA.out.trans (HBR.out.mono HBA.out.size)).setCell (by simp) _).setCell (by simp) _
end Go.Proofs.YtogcickcodlepaaGreatDoor.Pl
/-
  A region that draws its order, read operation by operation with the region's own text out of the way: what guards ask is told by a function that stands for the text. Conditions: as the statements say.
-/
namespace Go.Proofs.YtogcickcodlepaaGreatDoor.Pl
open Go.RowKit
section
variable {P : Program} {w : World}
/-- What a guard asks of slot d. -/
def gB (t : Array Value) (d : Nat) : Option Bool := match t[d]? with | some (.bool b) => some b | _ => none
def wpY (P : Program) (Y : Array Value → Nat → Option Bool) (w : World) (Q : Act → Prop) : List Oper → Act → Prop
  | [], a => Q a
  | o :: rest, a => if Region.wanted o (Y a.tmps) then o.still P a w (wpY P Y w Q rest) else wpY P Y w Q rest (a.put o.dst undef)
theorem wpY_eq (ops : Array Oper) (Q : Act → Prop) : ∀ (L : List Oper) (a : Act), wpY P (yielded ops) w Q L a = wpStill P ops w Q L a
  | [], _ => rfl
  | o :: rest, a => by
    have ih : wpY P (yielded ops) w Q rest = wpStill P ops w Q rest := funext (wpY_eq ops Q rest)
    simp only [wpY, wpStill, ih]
theorem wpY_nil {Y : Array Value → Nat → Option Bool} {Q : Act → Prop} {a : Act} (h : Q a) : wpY P Y w Q [] a := h
theorem wpY_step {Y : Array Value → Nat → Option Bool} {Q : Act → Prop} {a : Act} {o : Oper} {rest : List Oper}
    (h : ∀ K : Act → Prop, Hid (∀ a, wpY P Y w Q rest a → K a) → if Region.wanted o (Y a.tmps) then o.still P a w K else K (a.put o.dst undef)) : wpY P Y w Q (o :: rest) a :=
  h _ (Lib.hid (fun _ h => h))
theorem yielded_at {ops : Array Oper} {j d : Nat} (h : (ops[j]?.bind fun x => x.dst) = some d) (t : Array Value) : yielded ops t j = gB t d := by
  unfold yielded gB
  rw [h]
  rfl
theorem region_still_tail {id : Nat} {Q : Exit → Act → World → Prop} {a : Act} {l : List Oper} (n : Nat) (hm : P.follows .mixedOrders = true) (hB : Region.lexTailB .any l.toArray n = true)
    (h : ∀ Y : Array Value → Nat → Option Bool, (∀ j d, (l.toArray[j]?.bind fun x => x.dst) = some d → ∀ t, Y t j = gB t d) →
      wpY P Y w.drew (fun a' => wpList P l.toArray Q (l.drop n) a' w.drew) (l.take n) a) : (Code.region id l.toArray true).wp P Q a w := by
  refine wp_region_still_tail n hm hB ?_
  have := h (yielded l.toArray) (fun j d hj t => yielded_at hj t)
  rw [wpY_eq] at this
  exact this
end
end Go.Proofs.YtogcickcodlepaaGreatDoor.Pl
