/-
  Mark by the program: the panes that are over are removed, one by one, and told in the order of their ends. Conditions: the keep lies in memory; at most 4000000 panes, as they may be.
-/
import Derived.Test.YtlmnkmfpdjkijaaKRem
namespace Go.Proofs.Ytlmnkmfpdjkijaa.Kp
set_option linter.unusedVariables false
set_option linter.unusedSimpArgs false
open Go.Proofs.Ytlmnkmfpdjkijaa Go.Proofs.Ytlmnkmfpdjkijaa.Ke
open Go.RowKit
open Go.Proofs.Ytlmnkmfpdjkijaa.Ag (Ac jn vl acV)

theorem len_split (P : Pn → Bool) : ∀ l : List Pn, (l.filter P).length + (l.filter fun x => !P x).length = l.length
  | [] => rfl
  | x :: r => by
    have := len_split P r
    cases h : P x <;> simp [List.filter_cons, h] <;> omega
theorem krow_append (a b : List Pn) (k : Ky) : krow (a ++ b) k = krow a k ++ krow b k := List.filter_append ..
theorem krow_cons_same {p : Pn} {r : List Pn} : krow (p :: r) p.k = p :: krow r p.k := by
  unfold krow; rw [List.filter_cons, if_pos (by simp)]
theorem krow_cons_other {p : Pn} {r : List Pn} {k : Ky} (h : k ≠ p.k) : krow (p :: r) k = krow r k := by
  unfold krow; rw [List.filter_cons, if_neg (by simpa using fun e => h e.symm)]
theorem tsort_row {ses : Bool} {sz : Int} {R : List Pn} {k : Ky} (h : Ke.Good ses sz R) (hk : OneKey R k) : tsort R = R :=
  td_uniq (tsort_td h.sd) ((row_t h hk).imp (fun {x y} q => .inl q)) (fun x => (tsort_perm R).mem_iff)
theorem filter_rest {m : Int} {R : List Pn} (h : Mono (fun x => !Ke.due m x) R) : R.filter (Ke.due m) ++ R.filter (fun x => !Ke.due m x) = R := by
  rw [filter_fst h]
  have h2 : R.filter (fun x => !Ke.due m x) = R.drop (fstAt (fun x => !Ke.due m x) R) := by
    have e := List.take_append_drop (fstAt (fun x => !Ke.due m x) R) R
    have h1 := take_before (fun x => !Ke.due m x) R
    have h2 := drop_after h
    calc R.filter (fun x => !Ke.due m x) = (R.take (fstAt (fun x => !Ke.due m x) R) ++ R.drop (fstAt (fun x => !Ke.due m x) R)).filter (fun x => !Ke.due m x) := by rw [e]
      _ = _ := by rw [List.filter_append, List.filter_eq_nil_iff.2 (fun x hx => by rw [h1 x hx]; simp), List.filter_eq_self.2 h2, List.nil_append]
  rw [h2, List.take_append_drop]
/-- A key's row: what is over, ahead of what is not. -/
theorem row_split {ses : Bool} {sz m : Int} {l : List Pn} (h : Ke.Good ses sz l) (k : Ky) : krow (tsort (l.filter (Ke.due m))) k ++ krow (rest m l) k = krow l k := by
  have h1 := krow_good h k
  have h2 := krow_key l k
  have e1 : krow (tsort (l.filter (Ke.due m))) k = (krow l k).filter (Ke.due m) := by
    unfold krow
    rw [← tsort_filter (h.sd.filter _), List.filter_filter, List.filter_filter]
    have e : l.filter (fun a => decide (a.k = k) && Ke.due m a) = (krow l k).filter (Ke.due m) := by
      unfold krow; rw [List.filter_filter]; apply List.filter_congr; intro y _; exact Bool.and_comm _ _
    rw [e, tsort_row (h1.filter _) (fun x hx => h2 x (mem_fil hx))]
    unfold krow
    rw [List.filter_filter]
  have e2 : krow (rest m l) k = (krow l k).filter (fun x => !Ke.due m x) := by
    unfold krow rest
    rw [List.filter_filter, List.filter_filter]; apply List.filter_congr; intro y _; exact Bool.and_comm _ _
  rw [e1, e2]
  exact filter_rest (mono_due (row_t h1 h2) m)
theorem pnsKeep {w w' : World} {v : Value} {L : List Pn} (h : PnsAt w v L) (hk : ∀ g, v.ownBlock = some g → w'.heap[g]? = w.heap[g]?) (hz : w.heap.size ≤ w'.heap.size) : PnsAt w' v L := by
  obtain ⟨a, cap, rfl, h2, h3, h3', h4⟩ := h
  refine ⟨a, cap, rfl, h2, h3, h3', fun h0 => ?_⟩
  obtain ⟨b, o, rfl, hl, hc⟩ := h4 h0
  exact ⟨b, o, rfl, Nat.lt_of_lt_of_le hl hz, fun i x hi j u hj => (World.cell?_of_block (a := ⟨b, _, none⟩) (hk b rfl)).trans (hc i x hi j u hj)⟩
abbrev rcsC (L : List Rc) : List Value := L.flatMap rcC
theorem rcsC_len (L : List Rc) : (rcsC L).length = L.length * 3 := by
  induction L with
  | nil => rfl
  | cons x r ih =>
    rw [show rcsC (x :: r) = rcC x ++ rcsC r from rfl, List.length_append, ih]
    show 3 + r.length * 3 = (r.length + 1) * 3
    omega
theorem infoR : (Try.prog.info? 32).map (fun i => (i.zero, i.size, i.bytes)) = some (some (.agg #[.string ⟨#[]⟩, .int .i64 0, .int .i64 0]), 3, 32) := by kernel_rfl
abbrev rcO (r : Rc) : Obj := .cells #[kyV r.k, .int .i64 r.t, .int .i64 r.v] 32
theorem one_rc (r : Rc) : ∀ u ∈ rcC r, u.oneCell' = true := by
  intro u hu; simp only [List.mem_cons, List.not_mem_nil, or_false] at hu; rcases hu with rfl | rfl | rfl <;> rfl
/-- One record more. -/
theorem wpList_rc {w : World} {ops : Array Oper} {rest : List Oper} {o : Oper} {a : Act} {Q : Exit → Act → World → Prop} (hgd : o.guard = none) (s x : Operand)
    (ho : o.op = .call { callee := .builtin .append, args := #[s, x], argTypes := #[36, 36] })
    (base : Nat) (v : Value) (M : List Rc) (hs : a.eval s = v) (hown : w.ownsRow base 32 3 v M.length (rcsC M)) (b : Nat) (q : Rc) (hx : a.eval x = .slice (some ⟨b, 0, none⟩) 1 1) (hb : w.heap[b]? = some (rcO q)) (h63 : M.length ≤ 8000000) (hbase : base ≤ w.heap.size)
    (h : ∀ v' w', w'.ownsRow base 32 3 v' (M ++ [q]).length (rcsC (M ++ [q])) → w.grownBy w' v.ownBlock → wpList Try.prog ops Q rest (a.put o.dst v') w') : wpList Try.prog ops Q (o :: rest) a w := by
  obtain ⟨i0, hi, hz0, hz1, hz2⟩ := info_parts infoR
  refine wpList_append_lies w hgd s x 36 ho base 32 i0 (.agg #[.string ⟨#[]⟩, .int .i64 0, .int .i64 0]) 3 32 Try.underlying36 hi hz0 hz1 hz2 rfl (by decide) v M.length (rcsC M) hs hown ⟨b, 0, none⟩ 1 1 (rcC q) hx rfl (fun j u hu => ?_) (one_rc q) (by decide) (by unfold maxLen; omega) (by omega) hbase _ rfl ?_
  · rw [Addr.add_lit, Nat.zero_add, cell_of_heap hb, ← Array.getElem?_toList]
    exact hu
  · intro g cap w' h1 h2 h3 h4
    refine h _ w' ?_ h2
    rw [show rcsC (M ++ [q]) = rcsC M ++ rcC q by simp [rcsC], List.length_append]
    exact h1
/-- Some of what is over is removed and told. -/
structure MkS (w1 : World) (S : Nat → Prop) (b bm : Nat) (k s lw agg x : Int) (ld : Nat → Bool) (v : Value) (T rs : List Pn) (i q : Nat) (res : Value) (wr : World) : Prop where
  rows : Rws wr S bm (fun key => krow (T.drop i) key ++ krow rs key)
  top : KTop wr b k s lw agg x false ld bm
  lst : PnsAt wr v T
  own : wr.ownsRow w1.heap.size 32 3 res ((T.take q).map (rcd agg)).length (rcsC ((T.take q).map (rcd agg)))
  low : w1.grownBy wr (some bm)
section
variable {w1 wr w2 : World} {S : Nat → Prop} {b bm : Nat} {k s lw agg x : Int} {ld : Nat → Bool} {v res res' : Value} {T rs : List Pn} {i q : Nat}
theorem MkS.grow (h : MkS w1 S b bm k s lw agg x ld v T rs i q res wr) (hb : Below wr.heap.size wr w2) (hS : ∀ q, S q → q < w1.heap.size) : MkS w1 S b bm k s lw agg x ld v T rs i q res w2 :=
  ⟨h.rows.keep (fun q hq => hb.block q (Nat.lt_of_lt_of_le (hS q hq) h.low.size)), h.top.keep (hb.block b h.top.lt), h.lst.grow hb, ownsRow_below h.own hb, h.low.andThen (row' := none) ⟨hb.os, hb.tape, hb.output, hb.size, fun q hq _ => hb.block q hq⟩ (fun j e => by cases e)⟩
theorem drop_step {y : Pn} (hy : T[i]? = some y) : T.drop i = y :: T.drop (i + 1) := by
  obtain ⟨hi, e⟩ := List.getElem?_eq_some_iff.1 hy
  rw [List.drop_eq_getElem_cons hi, e]
/-- One pane more is removed. -/
theorem MkS.rem {y : Pn} (h : MkS w1 S b bm k s lw agg x ld v T rs i q res wr) (hy : T[i]? = some y) (hr : Rws w2 S bm (updK (fun key => krow (T.drop i) key ++ krow rs key) y.k (krow (T.drop (i + 1)) y.k ++ krow rs y.k))) (hg : wr.grownBy w2 (some bm)) (hbb : b ≠ bm) (hv : ∀ g, v.ownBlock = some g → g < w1.heap.size ∧ g ≠ bm) (hbm : bm < w1.heap.size) :
    MkS w1 S b bm k s lw agg x ld v T rs (i + 1) q res w2 := by
  refine ⟨?_, h.top.keep (hg.block b h.top.lt (fun e => hbb (by injection e))), pnsKeep h.lst (fun g e => hg.block g (Nat.lt_of_lt_of_le (hv g e).1 h.low.size) (fun e' => (hv g e).2 (by injection e'))) hg.size, h.own.kept hg (.inr (fun e => by have := (h.own.lt _ e).1; omega)), h.low.andThen hg (fun j e => .inr e)⟩
  obtain ⟨D, V, hr⟩ := hr
  refine ⟨D, V, hr.congr (fun key => ?_)⟩
  by_cases e : key = y.k
  · subst e; rw [updK_same]
  · rw [updK_other _ _ e, drop_step hy, krow_cons_other e]
/-- One record more is told. -/
theorem MkS.tell {y : Pn} (h : MkS w1 S b bm k s lw agg x ld v T rs i q res wr) (hy : T[q]? = some y) (ho : w2.ownsRow w1.heap.size 32 3 res' (((T.take q).map (rcd agg)) ++ [rcd agg y]).length (rcsC (((T.take q).map (rcd agg)) ++ [rcd agg y]))) (hg : wr.grownBy w2 res.ownBlock) (hS : ∀ q, S q → q < w1.heap.size) (hb : b < w1.heap.size) (hv : ∀ g, v.ownBlock = some g → g < w1.heap.size) :
    MkS w1 S b bm k s lw agg x ld v T rs i (q + 1) res' w2 := by
  have hlt : ∀ g, res.ownBlock = some g → w1.heap.size ≤ g := fun g e => (h.own.lt g e).1
  have hne : ∀ g, g < w1.heap.size → some g ≠ res.ownBlock := fun g hl e => by have := hlt g e.symm; omega
  refine ⟨h.rows.keep (fun g hq => hg.block g (Nat.lt_of_lt_of_le (hS g hq) h.low.size) (hne g (hS g hq))), h.top.keep (hg.block b h.top.lt (hne b hb)), pnsKeep h.lst (fun g e => hg.block g (Nat.lt_of_lt_of_le (hv g e) h.low.size) (hne g (hv g e))) hg.size, ?_, h.low.andThen hg (fun j e => .inl (hlt j e))⟩
  rw [List.take_add_one, hy, List.map_append]
  exact ho
end
/-- Where block b alone, which is no row and no map, turns. -/
theorem RowsV.apart {w w' : World} {S : Nat → Prop} {bm b : Nat} {D : DataW Value} {V : Ky → Value} {R : Ky → List Pn} {cs : Array Value} {t : TypeId} {fz : Nat × Nat} (h : RowsV w S bm D V R) (hb : w.heap[b]? = some (.cells cs t fz)) (ht : t ≠ 51) (hk : ∀ q, q < w.heap.size → q ≠ b → w'.heap[q]? = w.heap[q]?) : RowsV w' S bm D V R := by
  have hbm : bm ≠ b := fun e => by
    obtain ⟨es, clock, hq, -⟩ := h.own
    rw [e, hb] at hq; cases hq
  obtain ⟨⟨es, clock, hq, r⟩, h1, h2, h3, h4, h5, h6, h7⟩ := id h
  refine ⟨⟨es, clock, (hk bm (lt_of_heap hq) hbm).trans hq, r⟩, h1, h2, h3, h4, fun k hr => (h5 k hr).keep (fun g hg => hk g (h.lt hr hg) (fun e => ?_)), h6, h7⟩
  obtain ⟨g', o, cap, cur, hv, hc, -⟩ := h5 k hr
  rw [hv] at hg
  injection hg with hg
  dsimp only at hg
  rw [hg, e, hb] at hc
  injection hc with hc
  injection hc with _ hc
  exact ht hc
theorem Rws.apart {w w' : World} {S : Nat → Prop} {bm b : Nat} {R : Ky → List Pn} {cs : Array Value} {t : TypeId} {fz : Nat × Nat} (h : Rws w S bm R) (hb : w.heap[b]? = some (.cells cs t fz)) (ht : t ≠ 51) (hk : ∀ q, q < w.heap.size → q ≠ b → w'.heap[q]? = w.heap[q]?) : Rws w' S bm R := by
  obtain ⟨D, V, h⟩ := h; exact ⟨D, V, h.apart hb ht hk⟩
theorem Rws.map_ne {w : World} {S : Nat → Prop} {bm b : Nat} {R : Ky → List Pn} {cs : Array Value} {t : TypeId} {fz : Nat × Nat} (h : Rws w S bm R) (hb : w.heap[b]? = some (.cells cs t fz)) : b ≠ bm := fun e => by
  obtain ⟨D, V, h⟩ := h
  obtain ⟨es, clock, hq, -⟩ := h.own
  rw [← e, hb] at hq; cases hq
theorem KTop.ne {w : World} {b bm : Nat} {k s lw agg m : Int} {fr : Bool} {ld : Nat → Bool} {S : Nat → Prop} {R : Ky → List Pn} (ht : KTop w b k s lw agg m fr ld bm) (h : Rws w S bm R) : b ≠ bm := h.map_ne ht
set_option maxRecDepth 20000 in
set_option maxHeartbeats 4000000 in
theorem mark_go {w : World} {S : Nat → Prop} {b bm : Nat} {k s lw agg m x : Int} {fr ses : Bool} {ld : Nat → Bool} {l : List Pn} (ht : KTop w b k s lw agg m fr ld bm) (hr : Rws w S bm (krow l)) (hS : ∀ q, S q → q < w.heap.size) (hl : l.length ≤ 4000000) (hs : Ke.Good ses s l) (hI : ∀ y ∈ l, I64 (y.t - 1)) (hx0 : okM x = true) (hx : m < x) :
    Calls Try.prog 16 #[.pointer (some ⟨b, 0, none⟩), .int .i64 x] w fun e w' => ∃ v, e = .returned (.tuple #[v, .int .i64 0]) ∧ w'.ownsRow w.heap.size 32 3 v (told agg x l).length (rcsC (told agg x l)) ∧ KTop w' b k s lw agg x false ld bm ∧ Rws w' S bm (krow (rest x l)) ∧ w.heap.size ≤ w'.heap.size ∧ w'.os = w.os ∧ w'.tape = w.tape ∧ w'.output = w.output ∧ ∀ q, q < w.heap.size → q ≠ b → q ≠ bm → w'.heap[q]? = w.heap[q]? := by
  have c4 := ht.c4
  have f4 := ht.fz 4
  have f5 := ht.fz 5
  have c5 := ht.c5
  have hbt := ht.lt
  have hbb := ht.ne hr
  have HX := Lib.hid hx0
  have hnx : ¬ x ≤ m := by omega
  have HTA := Lib.hid ((ht.set4 x).set5 false)
  have HGA : Hid (w.grownBy ((w.setCell ⟨b, 4, none⟩ (.int .i64 x)).setCell ⟨b, 5, none⟩ (.bool false)) (some b)) := Lib.hid ⟨rfl, rfl, rfl, by simp [World.setCell], fun q hq hne => by
    have e : b ≠ q := fun e => hne (by rw [e])
    simp [World.setCell, Array.getElem?_modify, e]⟩
  have HRA := Lib.hid (hr.apart ht (by decide) (fun q hq hne => HGA.out.block q hq (fun e => hne (by injection e))))
  have HS := Lib.hid hS
  have HGD := Lib.hid hs
  have HI := Lib.hid hI
  clear ht hr hS hs hI
  obtain ⟨T, hT⟩ : ∃ T, tsort (l.filter (Ke.due x)) = T := ⟨_, rfl⟩
  obtain ⟨rs, hrs⟩ : ∃ rs, rest x l = rs := ⟨_, rfl⟩
  have HT := Lib.hid hT
  have HRS := Lib.hid hrs
  have htl : told agg x l = T.map (rcd agg) := by unfold told; rw [hT]
  rw [htl, hrs]
  have hTl : T.length ≤ l.length := by rw [← hT, (tsort_perm _).length_eq]; exact List.length_filter_le _ _
  have hTm : ∀ y ∈ T, y ∈ l := fun y hy => mem_fil ((tsort_perm _).mem_iff.1 (by rw [hT]; exact hy))
  have hrl : T.length + rs.length ≤ l.length := by
    rw [← hT, ← hrs, (tsort_perm _).length_eq]
    unfold rest
    have := len_split (Ke.due x) l
    omega
  have HTM := Lib.hid hTm
  clear hT hrs htl hTm
  go_enter Try.func16, Try.ntmps16
  go_upto_region 9 with (go_at_call 35; refine (isMark_at HX.out _).mono ?_; rintro e w' ⟨rfl, hw⟩; rw [hw]; clear hw)
  clear c4 c5 f4 f5
  generalize (w.setCell ⟨b, 4, none⟩ (.int .i64 x)).setCell ⟨b, 5, none⟩ (.bool false) = wa at HTA HGA HRA ⊢
  have hsa : w.heap.size ≤ wa.heap.size := HGA.out.size
  go_wp2_with (go_at_call 36; refine (due_mem HTA.out HRA.out (fun q hq => Nat.lt_of_lt_of_le (HS.out q hq) hsa) hl HGD.out).mono ?_; rintro e w1 ⟨v, rfl, ho, hb⟩; rw [HT.out] at ho; obtain ⟨va, vc, rfl, hvm⟩ := row_slice ho; have HO := Lib.hid ho; have HB := Lib.hid hb; clear ho hb)
  obtain ⟨n, hn⟩ : ∃ n, T.length = n := ⟨_, rfl⟩
  have hbS : bm < w.heap.size := by obtain ⟨D, V, h⟩ := HRA.out; exact HS.out _ h.foot
  have hs1 : w.heap.size ≤ w1.heap.size := Nat.le_trans hsa HB.out.size
  have HS1 : Hid (∀ q, S q → q < w1.heap.size) := Lib.hid (fun q hq => Nat.lt_of_lt_of_le (HS.out q hq) hs1)
  have HV1 : Hid (∀ g, (Value.slice va n vc).ownBlock = some g → g < w1.heap.size ∧ g ≠ bm) := Lib.hid (fun g e => by
    have := HO.out.lt g (by rw [hn]; exact e)
    exact ⟨this.2, by omega⟩)
  have M0 : Hid (MkS w1 S b bm k s lw agg x ld (.slice va n vc) T rs 0 0 (.slice none 0 0) w1) := Lib.hid ⟨by
      obtain ⟨D, V, h⟩ := HRA.out
      refine ⟨D, V, (h.keep (fun q hq => HB.out.block q (Nat.lt_of_lt_of_le (HS.out q hq) hsa))).congr (fun key => ?_)⟩
      rw [List.drop_zero, ← HT.out, ← HRS.out]
      exact (row_split HGD.out key).symm,
    HTA.out.keep (HB.out.block b HTA.out.lt), by rw [← hn]; exact lst_row HO.out (fun _ _ => rfl), World.ownsRow_nil _ _ _ _, ⟨rfl, rfl, rfl, Nat.le_refl _, fun _ _ _ => rfl⟩⟩
  rw [hn] at hTl hrl hvm ⊢
  have HN := Lib.hid hn
  have hbm1 : bm < w1.heap.size := Nat.lt_of_lt_of_le hbS hs1
  have hb1 : b < w1.heap.size := Nat.lt_of_lt_of_le hbt hs1
  clear hn
  go_loopw [6, 30] (fun z i wr => ∃ j : Nat, j ≤ n ∧ i = .int .i64 j ∧ Hid (MkS w1 S b bm k s lw agg x ld (.slice va n vc) T rs j j z wr)) (fun _ i _ => n - (intOf i).toNat)
  case atStart => exact ⟨0, Nat.zero_le _, rfl, M0⟩
  case round =>
    obtain ⟨j, hj, rfl, M⟩ := hrel
    by_cases hjn : j < n
    · have hjl : j < T.length := by rw [HN.out]; exact hjn
      obtain ⟨y, hy⟩ : ∃ y, T[j]? = some y := ⟨_, List.getElem?_eq_getElem hjl⟩
      obtain ⟨g0, o0, rfl, hgl, hcell⟩ := Lst.at_ M.out.lst hjl
      have hyj : T[j] = y := by rw [List.getElem?_eq_getElem hjl] at hy; injection hy
      rw [hyj] at hcell
      have r0 := hcell 0 _ rfl
      have r1 := hcell 1 _ rfl
      have r2 := hcell 2 _ rfl
      have r3 := hcell 3 _ rfl
      have r4 := hcell 4 _ rfl
      have r5 := hcell 5 _ rfl
      have r6 := hcell 6 _ rfl
      rw [Nat.add_zero] at r0
      have HY := Lib.hid hy
      have hIy : I64 (y.t - 1) := HI.out y (HTM.out y (List.mem_of_getElem? hy))
      have HIY := Lib.hid hIy
      clear hy hcell hyj hIy
      go_upto_region 12 with (fail)
      have HZ := Lib.hid (M.out.grow ((Below.refl _ wr).alloc (Nat.le_refl _) (pnO y)) HS1.out)
      have hz0 := heap_alloc_new wr (pnO y)
      have hzs : w1.heap.size ≤ wr.heap.size := M.out.low.size
      clear r0 r1 r2 r3 r4 r5 r6
      generalize wr.alloc (pnO y) = wz at HZ hz0 ⊢
      obtain ⟨bz, hbz⟩ : ∃ bz, wr.heap.size = bz := ⟨_, rfl⟩
      rw [hbz] at hz0 hzs ⊢
      have hzl : bz < wz.heap.size := lt_of_heap hz0
      have hzm : bz ≠ bm := by omega
      have k0 : wz.cell? ⟨bz, 0, none⟩ = some (kyV y.k) := cell_of_heap hz0 0
      obtain ⟨D, V, hrv⟩ := HZ.out.rows
      have hfew : Maps.size D ≤ 4000000 := Nat.le_trans (hrv.few (l := T.drop j ++ rs) (fun key => (krow_append _ _ _).symm)) (by rw [List.length_append, List.length_drop, HN.out]; omega)
      have HRV := Lib.hid hrv
      have HKR : Hid ((fun key => krow (T.drop j) key ++ krow rs key) y.k = y :: (krow (T.drop (j + 1)) y.k ++ krow rs y.k)) := Lib.hid (by
        show krow (T.drop j) y.k ++ krow rs y.k = _
        rw [drop_step HY.out, krow_cons_same]; rfl)
      have HZ0 := Lib.hid hz0
      clear hrv hz0
      go_upto_region 13 with (go_at_call 37; refine (removeFirst_mem HZ.out.top HRV.out HKR.out hfew).mono ?_; rintro e w2 ⟨rfl, hr2, hg2⟩; have HM2 := Lib.hid (HZ.out.rem HY.out hr2 hg2 hbb HV1.out hbm1); have hq2 : w2.heap[bz]? = some (pnO y) := (hg2.block bz hzl (fun e => hzm (by injection e))).trans HZ0.out; clear hr2 hg2)
      have m0 : w2.cell? ⟨bz, 0, none⟩ = some (kyV y.k) := cell_of_heap hq2 0
      have m1 : w2.cell? ⟨bz, 1, none⟩ = some (.int .i64 y.f) := cell_of_heap hq2 1
      have m2 : w2.cell? ⟨bz, 2, none⟩ = some (.int .i64 y.t) := cell_of_heap hq2 2
      have m3 : w2.cell? ⟨bz, 3, none⟩ = some (.int .i64 y.a.c) := cell_of_heap hq2 3
      have m4 : w2.cell? ⟨bz, 4, none⟩ = some (.int .i64 y.a.s) := cell_of_heap hq2 4
      have m5 : w2.cell? ⟨bz, 5, none⟩ = some (.int .i64 y.a.mn) := cell_of_heap hq2 5
      have m6 : w2.cell? ⟨bz, 6, none⟩ = some (.int .i64 y.a.mx) := cell_of_heap hq2 6
      clear hq2 k0
      have hlen : ((T.take j).map (rcd agg)).length ≤ 8000000 := by rw [List.length_map, List.length_take, HN.out]; omega
      go_wp2_with (first
        | (go_at_call 38; refine (result_mem HM2.out.top HIY.out).mono ?_; rintro e w3 ⟨rfl, hb3⟩; have HM3 := Lib.hid (HM2.out.grow hb3 HS1.out); have HM4 := Lib.hid (HM3.out.grow ((Below.refl _ w3).alloc (Nat.le_refl _) (rcO (rcd agg y))) HS1.out); have hs4 : w1.heap.size ≤ (w3.alloc (rcO (rcd agg y))).heap.size := HM4.out.low.size; clear hb3)
        | (at_builtin; refine wpList_rc rfl _ _ rfl w1.heap.size _ ((T.take j).map (rcd agg)) rfl HM4.out.own _ (rcd agg y) rfl (heap_alloc_new w3 _) hlen hs4 ?_; intro v' w5 ho5 hg5))
      have HM5 := Lib.hid (HM4.out.tell HY.out ho5 hg5 HS1.out hb1 (fun g e => (HV1.out g e).1))
      go_roundw
      case rel => exact ⟨j + 1, by omega, by go_num, HM5⟩
      case measure => simp [intOf]; omega
    · obtain rfl : j = n := by omega
      go_wp2
      go_ret2
      have hM := M.out
      have e1 : T.take j = T := List.take_of_length_le (by rw [HN.out]; exact Nat.le_refl _)
      have e2 : T.drop j = [] := List.drop_eq_nil_of_le (by rw [HN.out]; exact Nat.le_refl _)
      have ho := hM.own
      rw [e1] at ho
      refine ⟨_, rfl, ⟨ho.1, ho.2.imp_right (fun ⟨g, cap, cur, a1, a2, a3⟩ => ⟨g, cap, cur, a1, Nat.le_trans hs1 a2, a3⟩)⟩, hM.top, ?_, Nat.le_trans hs1 hM.low.size, hM.low.os.trans (HB.out.os.trans HGA.out.os), hM.low.tape.trans (HB.out.tape.trans HGA.out.tape), hM.low.output.trans (HB.out.output.trans HGA.out.output), fun q hq hq1 hq2 => ?_⟩
      · obtain ⟨D, V, h⟩ := hM.rows
        exact ⟨D, V, h.congr (fun key => by rw [e2]; rfl)⟩
      · exact (hM.low.block q (Nat.lt_of_lt_of_le hq hs1) (fun e => hq2 (by injection e))).trans ((HB.out.block q (Nat.lt_of_lt_of_le hq hsa)).trans (HGA.out.block q hq (fun e => hq1 (by injection e))))
end Go.Proofs.Ytlmnkmfpdjkijaa.Kp
