/-
  Texts joined into one file. Each part says in its own head what is proved there, and under which conditions.
-/
import Derived.Test.YtfoenfipefhpoaaGreatDoorJG4
import Derived.Test.YtfoenfipefhpoaaGreatDoorJG3
import Derived.StringKeys
import Derived.Test.YtfoenfipefhpoaaGreatDoorJG2
import Derived.Test.YtfoenfipefhpoaaGreatDoorJG1
import Derived.LaidMore
import Derived.Lay
import Derived.MakeChecks
import Derived.Stop.LaidErr
import Derived.Lib.LaidTab
import Derived.Shelf.Vars
import Derived.Handed
import Derived.SizedLaws
import Derived.Test.YtfoenfipefhpoaaGreatDoorRows
set_option linter.unusedVariables false
set_option linter.unusedSimpArgs false
/-
  The flows that are reached from a flow, as the program finds them. Conditions: the flows lie in memory; the flow is one of them; the given test tells a step.
-/
namespace Go.Proofs.YtfoenfipefhpoaaGreatDoor.Gr
open Go.RowKit Go.Maps Go.Shelf Go.Proofs.YtfoenfipefhpoaaGreatDoor.Ex Go.Proofs.YtfoenfipefhpoaaGreatDoor.Pl

/-- The search's memory at its start. -/
theorem SV.start (w : World) (fl : Value) (g : Nat) : SV w (((((w.alloc (.cells #[fl] 23)).alloc (.cells #[.func (.func g) #[] #[]] 64)).alloc (.map #[] 0)).alloc (.cells #[.map (some (w.heap.size + 2))] 57)).alloc
    (.cells #[.func (.func 38) #[] #[.pointer (some ⟨w.heap.size, 0, none⟩), .pointer (some ⟨w.heap.size + 3, 0, none⟩), .pointer (some ⟨w.heap.size + 1, 0, none⟩), .pointer (some ⟨w.heap.size + 4, 0, none⟩)]] 75)) w.heap.size (w.heap.size + 3) (w.heap.size + 1) (w.heap.size + 4) (w.heap.size + 2) g fl [] := by
  have s : ∀ (W : World) (o o2 : Obj) (b : Nat), W.heap[b]? = some o → (W.alloc o2).heap[b]? = some o := fun W o o2 b h => (Below.heap_alloc _ _ b (lt_of_heap h)).trans h
  refine ⟨?_, ?_, ?_, ?_, ?_, by omega, ?_⟩
  · exact s _ _ _ _ (s _ _ _ _ (s _ _ _ _ (s _ _ _ _ (heap_alloc_new w _))))
  · exact s _ _ _ _ (by simpa using heap_alloc_new (((w.alloc (.cells #[fl] 23)).alloc (.cells #[.func (.func g) #[] #[]] 64)).alloc (.map #[] 0)) (.cells #[.map (some (w.heap.size + 2))] 57))
  · exact s _ _ _ _ (s _ _ _ _ (s _ _ _ _ (by simpa using heap_alloc_new (w.alloc (.cells #[fl] 23)) (.cells #[.func (.func g) #[] #[]] 64))))
  · simpa using heap_alloc_new ((((w.alloc (.cells #[fl] 23)).alloc (.cells #[.func (.func g) #[] #[]] 64)).alloc (.map #[] 0)).alloc (.cells #[.map (some (w.heap.size + 2))] 57)) (.cells #[.func (.func 38) #[] #[.pointer (some ⟨w.heap.size, 0, none⟩), .pointer (some ⟨w.heap.size + 3, 0, none⟩), .pointer (some ⟨w.heap.size + 1, 0, none⟩), .pointer (some ⟨w.heap.size + 4, 0, none⟩)]] 75)
  · have := World.ownsMap_made (H := Unit) ((w.alloc (.cells #[fl] 23)).alloc (.cells #[.func (.func g) #[] #[]] 64)) Tryz.prog 3 unitElem
    rw [World.size_alloc, World.size_alloc] at this
    exact (this.alloc _).alloc _
  · exact (((((Below.refl _ _).alloc (Nat.le_refl _) _).alloc (by simp) _).alloc (by simp; omega) _).alloc (by simp; omega) _).alloc (by simp; omega) _
theorem size_few {w : World} {b n k : Nat} {D : DataW Unit} (h : w.ownsMap Tryz.prog 3 unitElem b n D) (hn : n ≤ k) (hk : k ≤ 100) : Maps.size D ≤ maxLen ∧ Maps.size D * 8 ≤ 140737488355328 := by
  have := h.size_le
  unfold maxLen
  omega
set_option maxRecDepth 20000 in
set_option maxHeartbeats 4000000 in
theorem preach_at {w : World} {a : Option Addr} {m c : Nat} {es : List FE} {fs : List Flw} {lf : Flw → Flw → Bool} {g i : Nat} {L : List Nat} (hf : FlwsAt w (.slice a m c) es) (he : es.map FE.f = fs) (hs : fs.length ≤ 100)
    (eg : ∀ args w, (callFunc g args).run Tryz.prog w = .ok (.enter g args) w) (ht : Tests g lf) (hi : i < fs.length) (hL : L.Pairwise (· < ·)) (hm : ∀ x, Rch (ldOf lf fs) i x ↔ x ∈ L) :
    Calls Tryz.prog 29 #[.slice a m c, .int .i64 i, .func (.func g) #[] #[]] w fun e w' => ∃ v, e = .returned v ∧ IntsAt w' v L ∧ Below w.heap.size w w' := by
  obtain ⟨W, hW⟩ : ∃ W, (((((w.alloc (.cells #[.slice a m c] 23)).alloc (.cells #[.func (.func g) #[] #[]] 64)).alloc (.map #[] 0)).alloc (.cells #[.map (some (w.heap.size + 2))] 57)).alloc
    (.cells #[.func (.func 38) #[] #[.pointer (some ⟨w.heap.size, 0, none⟩), .pointer (some ⟨w.heap.size + 3, 0, none⟩), .pointer (some ⟨w.heap.size + 1, 0, none⟩), .pointer (some ⟨w.heap.size + 4, 0, none⟩)]] 75)) = W := ⟨_, rfl⟩
  have hsv := SV.start w (.slice a m c) g
  rw [hW] at hsv
  obtain ⟨x0, x1, x2, x3⟩ := hsv.cells
  have HV := Lib.hid (pvisit_at hf he hs eg ht (fs.length - 0) i [] W rfl hi ⟨List.nodup_nil, by simp⟩ hsv)
  have HL := Lib.hid hL
  have HM := Lib.hid hm
  have HS := Lib.hid hs
  clear hf he eg ht hi hL hm hs hsv
  have hmm := @run_makeMap Tryz.prog
  go_enter Tryz.func29, Tryz.ntmps29
  go_wp2_with (first
    | (go_at_call 38; refine HV.out.mono ?_; rintro e w4 ⟨rfl, acc', hv4, hs4⟩; have HV4 := Lib.hid hv4; have HS4 := Lib.hid hs4; obtain ⟨y0, y1, y2, y3⟩ := hs4.cells; clear hv4 hs4 hW hmm x0 x1 x2 x3)
    | (go_at_call 40; refine (pkeys_at _ _).mono ?_; rintro e w5 ⟨rfl, rfl⟩)
    | (go_at_call 39; refine (psorted_at HS4.out.m (size_few HS4.out.m HV4.out.good.len HS.out).1 (size_few HS4.out.m HV4.out.good.len HS.out).2).mono ?_; rintro e w6 ⟨u, ss, rfl, hS, hrow, hb6⟩; have H6 := Lib.hid hS; have HR6 := Lib.hid hrow; have HB6 := Lib.hid hb6; clear hS hrow hb6))
  go_ret
  have hpm := keys_perm HS4.out.m HV4.out.good.1
  obtain ⟨h1, h2⟩ := sorted_eq (H6.out.trans hpm.symm) HV4.out.good.1 HL.out (fun x => (HV4.out.all (fun _ _ h => ldOf_lt h) x).trans (HM.out x))
  have hr := HR6.out
  rw [h1, h2] at hr
  have hbel := HS4.out.bel
  exact ⟨_, rfl, ints_row hr, hbel.trans ((((Below.refl _ _).alloc (Nat.le_refl _) _).trans (HB6.out.mono (Nat.le_succ _))).mono hbel.size)⟩
end Go.Proofs.YtfoenfipefhpoaaGreatDoor.Gr
/-
  A checked plan's names are short; the set of the topics that are written, as a map's datum. Conditions: the plan has no error.
-/
namespace Go.Proofs.YtfoenfipefhpoaaGreatDoor.Gr
open Go.RowKit Go.Maps Go.Proofs.YtfoenfipefhpoaaGreatDoor.Ex Go.Proofs.YtfoenfipefhpoaaGreatDoor.Pl

theorem topErr_name {e : List Top} {t : Top} (h : topErr e t = 0) : t.name.length ≤ 16 := by
  unfold topErr at h
  cases hn : isName t.name with
  | false => rw [if_pos hn] at h; exact absurd h (by decide)
  | true =>
    unfold isName at hn
    simp only [Bool.and_eq_true, decide_eq_true_eq] at hn
    exact hn.2.1
theorem topsErr_names : ∀ (L e : List Top), topsErr e L = none → ∀ t ∈ L, t.name.length ≤ 16
  | [], _, _, t, ht => by cases ht
  | x :: r, e, h, t, ht => by
    unfold topsErr at h
    split at h
    · rename_i h0
      rcases List.mem_cons.1 ht with rfl | ht
      · exact topErr_name h0
      · exact topsErr_names r (e ++ [x]) h t ht
    · cases h
theorem partsOf_mem : ∀ (ts : List Top) (n : Bs), 0 < partsOf ts n → ∃ t ∈ ts, t.name = n
  | [], n, h => absurd (show (0 : Int) < 0 from h) (by decide)
  | x :: r, n, h => by
    unfold partsOf at h
    split at h
    · rename_i hx; exact ⟨x, List.mem_cons_self, hx⟩
    · obtain ⟨t, h1, h2⟩ := partsOf_mem r n h
      exact ⟨t, List.mem_cons_of_mem _ h1, h2⟩
theorem flwErr_dest {ts : List Top} {all e : List Flw} {f : Flw} (h : flwErr ts all e f = 0) : 0 < partsOf ts f.dest := by
  cases hw : areEnds ts f with
  | true =>
    unfold areEnds at hw
    simp only [Bool.and_eq_true, decide_eq_true_eq] at hw
    omega
  | false =>
    exfalso
    unfold flwErr at h
    split at h
    · exact absurd h (by decide)
    · split at h
      · exact absurd h (by decide)
      · rw [if_pos (Or.inl hw)] at h
        exact absurd h (by decide)
theorem flwsErr_dests (ts : List Top) (all : List Flw) : ∀ (L e : List Flw), flwsErr ts all e L = none → ∀ f ∈ L, 0 < partsOf ts f.dest
  | [], _, _, t, ht => by cases ht
  | x :: r, e, h, t, ht => by
    unfold flwsErr at h
    split at h
    · rename_i h0
      rcases List.mem_cons.1 ht with rfl | ht
      · exact flwErr_dest h0
      · exact flwsErr_dests ts all r (e ++ [x]) h t ht
    · cases h
theorem check_names {p : Pln} (h : (check p).2 = 0) : (∀ t ∈ p.tops, t.name.length ≤ 16) ∧ ∀ f ∈ p.flws, f.dest.length ≤ 16 := by
  unfold check at h
  split at h
  · exact absurd h (by decide)
  · split at h
    · rename_i r hr; exact absurd h (topsErr_ne _ _ _ hr)
    · rename_i hn
      split at h
      · rename_i r hr; exact absurd h (flwsErr_ne _ _ _ _ _ hr)
      · rename_i hn2
        have h1 := topsErr_names _ _ hn
        refine ⟨h1, fun f hf => ?_⟩
        obtain ⟨t, h2, h3⟩ := partsOf_mem _ _ (flwsErr_dests _ _ _ _ hn2 f hf)
        rw [← h3]; exact h1 t h2

/-! ### The set of names -/
def setB (acc : List Bs) : DataW Unit := setOf (.agg []) (acc.map fun x => Lit.string x)
theorem setB_snoc (acc : List Bs) (x : Bs) : setB (acc ++ [x]) = (setB acc).put (.string x) (.agg []) := by
  unfold setB
  rw [List.map_append, List.map_singleton, setOf_snoc]
theorem anyB_at (x : Bs) : ∀ l : List Bs, (l.any fun (k : Bs) => (Lit.string k).sameKey (.string x)) = l.any fun (k : Bs) => decide (k = x)
  | [] => rfl
  | a :: r => by
    rw [List.any_cons, List.any_cons, anyB_at x r]
    congr 1
    by_cases h : a = x
    · subst h; simp [Lit.sameKey]
    · simp [Lit.sameKey, h]
theorem has_setB (acc : List Bs) (x : Bs) : Maps.has (setB acc) (.string x) = acc.any fun (k : Bs) => decide (k = x) := by
  unfold setB
  rw [Maps.has_setOf _ _ _ (fun y hy => by obtain ⟨_, _, rfl⟩ := List.mem_map.1 hy; trivial), List.any_map]
  exact anyB_at x acc
theorem has_written (fs : List Flw) (x : Bs) : Maps.has (setB (fs.map Flw.dest)) (.string x) = writtenIn fs x := by
  rw [has_setB, List.any_map]; rfl
theorem law9 : Keyed Tryz.prog 9 := string_keyed Tryz.underlying9
theorem key_name {x : Bs} (h : x.length ≤ 16) : keyOf Tryz.prog 9 (sv x) = some (.string x) :=
  Go.WideMaps.keyOf_string_mk Tryz.underlying9 (s := ⟨x.toArray⟩) (by show x.toArray.size ≤ maxLen; rw [List.size_toArray]; unfold maxLen; omega)
theorem pln_flws {w : World} {a b : Option Addr} {n c m d : Nat} {p : Pln} (h : PlnAt w (.agg #[.slice a n c, .slice b m d]) p) : ∃ es, FlwsAt w (.slice b m d) es ∧ es.map FE.f = p.flws := by
  obtain ⟨vt, vf, es, e, ht, hf, he⟩ := h
  injection e with e
  injection e with e
  injection e with e1 e
  injection e with e2 _
  subst e1 e2
  exact ⟨es, hf, he⟩
theorem pln_tops {w : World} {a b : Option Addr} {n c m d : Nat} {p : Pln} (h : PlnAt w (.agg #[.slice a n c, .slice b m d]) p) : TopsAt w (.slice a n c) p.tops ∧ n = p.tops.length := by
  obtain ⟨vt, vf, es, e, ht, hf, he⟩ := h
  injection e with e
  injection e with e
  injection e with e1 e
  injection e with e2 _
  subst e1 e2
  exact ⟨ht, (Lst.len ht).1⟩
/-- What the program's check of a flow's number answers. -/
def chkE (p : Pln) (i : Int) : Int := if (check p).2 = 0 then (if noFlow p i = true then 1 else 0) else (check p).2
end Go.Proofs.YtfoenfipefhpoaaGreatDoor.Gr
/-
  The program's own calls of layer 6, which answer as the mathematics says: the number's check, the source, the lists. Conditions: the plan lies in memory; the library's table of powers holds what it was laid with.
-/
namespace Go.Proofs.YtfoenfipefhpoaaGreatDoor.Gr
open Go.RowKit Go.Maps Go.Shelf Go.Proofs.YtfoenfipefhpoaaGreatDoor.Ex Go.Proofs.YtfoenfipefhpoaaGreatDoor.Pl
variable {w : World} {v : Value} {p : Pln}

theorem chk_zero {i : Int} (h : chkE p i = 0) : (check p).2 = 0 ∧ 0 ≤ i ∧ i.toNat < p.flws.length := by
  unfold chkE at h
  split at h
  · rename_i h0
    cases hn : noFlow p i with
    | true => rw [hn, if_pos rfl] at h; exact absurd h (by decide)
    | false =>
      unfold noFlow at hn
      simp only [Bool.or_eq_false_iff, decide_eq_false_iff_not] at hn
      exact ⟨h0, by omega, by omega⟩
  · rename_i h0; exact absurd h h0
theorem gSource_eq (i : Int) : gSource p i = if chkE p i = 0 then (oI (srcOf p.flws i.toNat), 0) else (0, chkE p i) := by
  unfold gSource chkE
  by_cases h : (check p).2 = 0
  · rw [if_pos h, if_pos h]
    cases hn : noFlow p i with
    | true => simp
    | false => simp
  · rw [if_neg h, if_neg h, if_neg h]
theorem gList_eq (F : List Flw → Nat → List Nat) (i : Int) : gList F p i = if chkE p i = 0 then (F p.flws i.toNat, 0) else ([], chkE p i) := by
  unfold gList chkE
  by_cases h : (check p).2 = 0
  · rw [if_pos h, if_pos h]
    cases hn : noFlow p i with
    | true => simp
    | false => simp
  · rw [if_neg h, if_neg h, if_neg h]
theorem ahead_mem {fs : List Flw} (hd : Dst fs) (i x : Nat) : Rch (ldOf lfA fs) i x ↔ x ∈ aheadOf fs i := by
  rw [rchA hd]
  unfold aheadOf
  rw [List.mem_filter, List.mem_range, hangs_iff (fun _ _ h => srcOf_lt h)]
  exact ⟨fun h => ⟨by obtain ⟨m, hm⟩ := h; exact hop_lt (fun _ _ h => srcOf_lt h) m i x hm, h⟩, fun h => h.2⟩
theorem src_lt2 {fs : List Flw} {i k : Nat} (h : srcOf fs i = some k) : i < fs.length := by
  obtain ⟨f, g, h1, -, -⟩ := src_some h
  exact (List.getElem?_eq_some_iff.1 h1).1
theorem behind_mem {fs : List Flw} (hd : Dst fs) (i x : Nat) : Rch (ldOf lfB fs) i x ↔ x ∈ behindOf fs i := by
  rw [rchB hd]
  unfold behindOf
  rw [List.mem_filter, List.mem_range, hangs_iff (fun _ _ h => srcOf_lt h)]
  refine ⟨fun h => ⟨?_, h⟩, fun h => h.2⟩
  obtain ⟨m, hm⟩ := h
  change (srcOf fs x).bind (hop (srcOf fs) m) = some i at hm
  cases hs : srcOf fs x with
  | none => rw [hs] at hm; cases hm
  | some b => exact src_lt2 hs
theorem range_up (n : Nat) (P : Nat → Bool) : ((List.range n).filter P).Pairwise (· < ·) := List.pairwise_lt_range.filter P
set_option maxRecDepth 20000 in
set_option maxHeartbeats 2000000 in
theorem pchk_at (h : PlnAt w v p) (hT : Tab w) {i : Int} (lo : -9223372036854775808 ≤ i) (hi : i ≤ 9223372036854775807) {E : Int} (hg : chkE p i = E) : Calls Tryz.prog 27 #[v, .int .i64 i] w fun e w' => e = .returned (.int .i64 E) ∧ Below w.heap.size w w' := by
  obtain ⟨a, n, c, b, m, d, rfl⟩ := pln_two h
  obtain ⟨hmf, hmx⟩ := pln_len h
  obtain ⟨l, hl⟩ : ∃ l, (check p).1 = l := ⟨_, rfl⟩
  obtain ⟨E0, hE⟩ : ∃ E0, (check p).2 = E0 := ⟨_, rfl⟩
  have hc : check p = (l, E0) := by rw [← hl, ← hE]
  have hgw := GW.start hT h
  obtain ⟨W, hW⟩ : ∃ W, w.alloc (.cells #[.slice a n c, .slice b m d] 25) = W := ⟨_, rfl⟩
  rw [hW] at hgw
  unfold chkE noFlow at hg
  rw [hE, ← hmf] at hg
  obtain ⟨p0, p1⟩ := hgw.box.cells
  have HC := Lib.hid hc
  have HG := Lib.hid hgw
  unfold maxLen at hmx
  clear h hT hl hE hc hgw hmf
  by_cases h0 : E0 = 0
  · subst h0
    rw [if_pos rfl] at hg
    by_cases h1 : i < 0
    · have HE : Hid (E = 1) := Lib.hid (by rw [← hg, if_pos (by simp [h1])])
      clear hg
      go_enter Tryz.func27, Tryz.ntmps27
      go_wp2_with (go_at_call 24; refine (pcheck_at HG.out.pln HG.out.tab HC.out).mono ?_; rintro e w2 ⟨rfl, hb2⟩; have HG2 := Lib.hid (HG.out.grow hb2); obtain ⟨q0, q1⟩ := HG2.out.box.cells; clear hb2)
      go_ret
      exact ⟨ret_int HE.out.symm, HG2.out.bel⟩
    · by_cases h2 : (m : Int) ≤ i
      · have HE : Hid (E = 1) := Lib.hid (by rw [← hg, if_pos (by simp [h2])])
        clear hg
        go_enter Tryz.func27, Tryz.ntmps27
        go_wp2_with (go_at_call 24; refine (pcheck_at HG.out.pln HG.out.tab HC.out).mono ?_; rintro e w2 ⟨rfl, hb2⟩; have HG2 := Lib.hid (HG.out.grow hb2); obtain ⟨q0, q1⟩ := HG2.out.box.cells; clear hb2)
        go_ret
        exact ⟨ret_int HE.out.symm, HG2.out.bel⟩
      · have HE : Hid (E = 0) := Lib.hid (by rw [← hg, if_neg (by simp; omega)])
        clear hg
        go_enter Tryz.func27, Tryz.ntmps27
        go_wp2_with (go_at_call 24; refine (pcheck_at HG.out.pln HG.out.tab HC.out).mono ?_; rintro e w2 ⟨rfl, hb2⟩; have HG2 := Lib.hid (HG.out.grow hb2); obtain ⟨q0, q1⟩ := HG2.out.box.cells; clear hb2)
        go_ret
        exact ⟨ret_int HE.out.symm, HG2.out.bel⟩
  · have HE : Hid (E = E0) := Lib.hid (by rw [← hg, if_neg h0])
    have h0b : (E0 != 0) = true := inebt h0
    clear hg
    go_enter Tryz.func27, Tryz.ntmps27
    go_wp2_with (go_at_call 24; refine (pcheck_at HG.out.pln HG.out.tab HC.out).mono ?_; rintro e w2 ⟨rfl, hb2⟩; have HG2 := Lib.hid (HG.out.grow hb2); obtain ⟨q0, q1⟩ := HG2.out.box.cells; clear hb2)
    go_ret
    exact ⟨ret_int HE.out.symm, HG2.out.bel⟩
theorem ret_tup {x y x' y' : Value} (h1 : x = x') (h2 : y = y') : Ending.returned (.tuple #[x, y]) = .returned (.tuple #[x', y']) := by rw [h1, h2]
theorem int_val {k : IntKind} {a b : Int} (h : a = b) : Value.int k a = .int k b := by rw [h]
set_option maxRecDepth 20000 in
set_option maxHeartbeats 2000000 in
theorem psource_at (h : PlnAt w v p) (hT : Tab w) {i : Int} (lo : -9223372036854775808 ≤ i) (hi : i ≤ 9223372036854775807) {s E : Int} (hg : gSource p i = (s, E)) : Calls Tryz.prog 12 #[v, .int .i64 i] w fun e w' => e = .returned (.tuple #[.int .i64 s, .int .i64 E]) ∧ Below w.heap.size w w' := by
  obtain ⟨a, n, c, b, m, d, rfl⟩ := pln_two h
  have hgw := GW.start hT h
  obtain ⟨W, hW⟩ : ∃ W, w.alloc (.cells #[.slice a n c, .slice b m d] 25) = W := ⟨_, rfl⟩
  rw [hW] at hgw
  rw [gSource_eq] at hg
  obtain ⟨E1, hE1⟩ : ∃ E1, chkE p i = E1 := ⟨_, rfl⟩
  rw [hE1] at hg
  obtain ⟨p0, p1⟩ := hgw.box.cells
  have HC := Lib.hid hE1
  have HG := Lib.hid hgw
  clear h hT hgw hE1
  by_cases h0 : E1 = 0
  · subst h0
    rw [if_pos rfl] at hg
    obtain ⟨h1, h2, h3⟩ := chk_zero HC.out
    obtain ⟨k, rfl⟩ : ∃ k : Nat, i = k := ⟨i.toNat, by omega⟩
    rw [Int.toNat_natCast] at hg h3
    injection hg with g1 g2
    have HS := Lib.hid g1
    have HE : Hid (E = 0) := Lib.hid g2.symm
    have HK := Lib.hid h3
    clear h1 h2 h3 g1 g2
    go_enter Tryz.func12, Tryz.ntmps12
    go_wp2_with (first
      | (go_at_call 27; refine (pchk_at HG.out.pln HG.out.tab lo hi HC.out).mono ?_; rintro e w2 ⟨rfl, hb2⟩; have HG2 := Lib.hid (HG.out.grow hb2); obtain ⟨q0, q1⟩ := HG2.out.box.cells; obtain ⟨es, hf, he⟩ := pln_flws HG2.out.pln; have HF := Lib.hid hf; have HF2 := Lib.hid he; clear hb2 hf he)
      | (go_at_call 28; refine (psrc_at HF.out HF2.out HK.out HS.out).mono ?_; rintro e w3 ⟨rfl, hb3⟩; have HB3 := Lib.hid (HG2.out.bel.trans (hb3.mono HG2.out.bel.size)); clear hb3))
    go_ret2
    exact ⟨ret_tup rfl (int_val HE.out.symm), HB3.out⟩
  · rw [if_neg h0] at hg
    injection hg with g1 g2
    subst g1
    have HE : Hid (E = E1) := Lib.hid g2.symm
    have h0b : (E1 != 0) = true := inebt h0
    clear g2
    go_enter Tryz.func12, Tryz.ntmps12
    go_wp2_with (go_at_call 27; refine (pchk_at HG.out.pln HG.out.tab lo hi HC.out).mono ?_; rintro e w2 ⟨rfl, hb2⟩; have HG2 := Lib.hid (HG.out.grow hb2); obtain ⟨q0, q1⟩ := HG2.out.box.cells; clear hb2)
    go_ret2
    exact ⟨ret_tup rfl (int_val HE.out.symm), HG2.out.bel⟩
theorem eg_feeds (args : Array Value) (w : World) : (callFunc 31 args).run Tryz.prog w = .ok (.enter 31 args) w := enters_of Tryz.func31 (by kernel_rfl) rfl args w
theorem eg_ahead (args : Array Value) (w : World) : (callFunc 30 args).run Tryz.prog w = .ok (.enter 30 args) w := enters_of Tryz.func30 (by kernel_rfl) rfl args w
set_option maxRecDepth 20000 in
set_option maxHeartbeats 2000000 in
theorem pahead_at (h : PlnAt w v p) (hT : Tab w) {i : Int} (lo : -9223372036854775808 ≤ i) (hi : i ≤ 9223372036854775807) {L : List Nat} {E : Int} (hg : gList aheadOf p i = (L, E)) : Calls Tryz.prog 13 #[v, .int .i64 i] w (ListRet L E w) := by
  obtain ⟨a, n, c, b, m, d, rfl⟩ := pln_two h
  have hgw := GW.start hT h
  obtain ⟨W, hW⟩ : ∃ W, w.alloc (.cells #[.slice a n c, .slice b m d] 25) = W := ⟨_, rfl⟩
  rw [hW] at hgw
  rw [gList_eq] at hg
  obtain ⟨E1, hE1⟩ : ∃ E1, chkE p i = E1 := ⟨_, rfl⟩
  rw [hE1] at hg
  obtain ⟨p0, p1⟩ := hgw.box.cells
  have HC := Lib.hid hE1
  have HG := Lib.hid hgw
  clear h hT hgw hE1
  by_cases h0 : E1 = 0
  · subst h0
    rw [if_pos rfl] at hg
    obtain ⟨h1, h2, h3⟩ := chk_zero HC.out
    obtain ⟨-, h8, hd⟩ := check_ok h1
    obtain ⟨k, rfl⟩ : ∃ k : Nat, i = k := ⟨i.toNat, by omega⟩
    rw [Int.toNat_natCast] at hg h3
    injection hg with g1 g2
    have hup : L.Pairwise (· < ·) := by rw [← g1]; exact range_up _ _
    have hmem : ∀ x, Rch (ldOf lfA p.flws) k x ↔ x ∈ L := fun x => by rw [← g1]; exact ahead_mem hd k x
    have HU := Lib.hid hup
    have HM := Lib.hid hmem
    have HE : Hid (E = 0) := Lib.hid g2.symm
    have HK := Lib.hid h3
    have H8 : Hid (p.flws.length ≤ 100) := Lib.hid (by omega)
    clear h1 h2 h3 g1 g2 hup hmem h8 hd
    go_enter Tryz.func13, Tryz.ntmps13
    go_wp2_with (first
      | (go_at_call 27; refine (pchk_at HG.out.pln HG.out.tab lo hi HC.out).mono ?_; rintro e w2 ⟨rfl, hb2⟩; have HG2 := Lib.hid (HG.out.grow hb2); obtain ⟨q0, q1⟩ := HG2.out.box.cells; obtain ⟨es, hf, he⟩ := pln_flws HG2.out.pln; have HF := Lib.hid hf; have HF2 := Lib.hid he; clear hb2 hf he)
      | (go_at_call 29; refine (preach_at HF.out HF2.out H8.out eg_ahead ahead_tests HK.out HU.out HM.out).mono ?_; rintro e w3 ⟨u, rfl, hi3, hb3⟩; obtain ⟨a3, c3, rfl⟩ := ints_form hi3; have HI3 := Lib.hid hi3; have HB3 := Lib.hid (HG2.out.bel.trans (hb3.mono HG2.out.bel.size)); clear hb3 hi3))
    go_ret2
    exact ⟨_, ret_tup rfl (int_val HE.out.symm), HI3.out, HB3.out⟩
  · rw [if_neg h0] at hg
    injection hg with g1 g2
    subst g1
    have HE : Hid (E = E1) := Lib.hid g2.symm
    have h0b : (E1 != 0) = true := inebt h0
    clear g2
    go_enter Tryz.func13, Tryz.ntmps13
    go_wp2_with (go_at_call 27; refine (pchk_at HG.out.pln HG.out.tab lo hi HC.out).mono ?_; rintro e w2 ⟨rfl, hb2⟩; have HG2 := Lib.hid (HG.out.grow hb2); obtain ⟨q0, q1⟩ := HG2.out.box.cells; clear hb2)
    go_ret2
    exact ⟨_, ret_tup rfl (int_val HE.out.symm), nil_ints _, HG2.out.bel⟩
set_option maxRecDepth 20000 in
set_option maxHeartbeats 2000000 in
theorem pbehind_at (h : PlnAt w v p) (hT : Tab w) {i : Int} (lo : -9223372036854775808 ≤ i) (hi : i ≤ 9223372036854775807) {L : List Nat} {E : Int} (hg : gList behindOf p i = (L, E)) : Calls Tryz.prog 14 #[v, .int .i64 i] w (ListRet L E w) := by
  obtain ⟨a, n, c, b, m, d, rfl⟩ := pln_two h
  have hgw := GW.start hT h
  obtain ⟨W, hW⟩ : ∃ W, w.alloc (.cells #[.slice a n c, .slice b m d] 25) = W := ⟨_, rfl⟩
  rw [hW] at hgw
  rw [gList_eq] at hg
  obtain ⟨E1, hE1⟩ : ∃ E1, chkE p i = E1 := ⟨_, rfl⟩
  rw [hE1] at hg
  obtain ⟨p0, p1⟩ := hgw.box.cells
  have HC := Lib.hid hE1
  have HG := Lib.hid hgw
  clear h hT hgw hE1
  by_cases h0 : E1 = 0
  · subst h0
    rw [if_pos rfl] at hg
    obtain ⟨h1, h2, h3⟩ := chk_zero HC.out
    obtain ⟨-, h8, hd⟩ := check_ok h1
    obtain ⟨k, rfl⟩ : ∃ k : Nat, i = k := ⟨i.toNat, by omega⟩
    rw [Int.toNat_natCast] at hg h3
    injection hg with g1 g2
    have hup : L.Pairwise (· < ·) := by rw [← g1]; exact range_up _ _
    have hmem : ∀ x, Rch (ldOf lfB p.flws) k x ↔ x ∈ L := fun x => by rw [← g1]; exact behind_mem hd k x
    have HU := Lib.hid hup
    have HM := Lib.hid hmem
    have HE : Hid (E = 0) := Lib.hid g2.symm
    have HK := Lib.hid h3
    have H8 : Hid (p.flws.length ≤ 100) := Lib.hid (by omega)
    clear h1 h2 h3 g1 g2 hup hmem h8 hd
    go_enter Tryz.func14, Tryz.ntmps14
    go_wp2_with (first
      | (go_at_call 27; refine (pchk_at HG.out.pln HG.out.tab lo hi HC.out).mono ?_; rintro e w2 ⟨rfl, hb2⟩; have HG2 := Lib.hid (HG.out.grow hb2); obtain ⟨q0, q1⟩ := HG2.out.box.cells; obtain ⟨es, hf, he⟩ := pln_flws HG2.out.pln; have HF := Lib.hid hf; have HF2 := Lib.hid he; clear hb2 hf he)
      | (go_at_call 29; refine (preach_at HF.out HF2.out H8.out eg_feeds feeds_tests HK.out HU.out HM.out).mono ?_; rintro e w3 ⟨u, rfl, hi3, hb3⟩; obtain ⟨a3, c3, rfl⟩ := ints_form hi3; have HI3 := Lib.hid hi3; have HB3 := Lib.hid (HG2.out.bel.trans (hb3.mono HG2.out.bel.size)); clear hb3 hi3))
    go_ret2
    exact ⟨_, ret_tup rfl (int_val HE.out.symm), HI3.out, HB3.out⟩
  · rw [if_neg h0] at hg
    injection hg with g1 g2
    subst g1
    have HE : Hid (E = E1) := Lib.hid g2.symm
    have h0b : (E1 != 0) = true := inebt h0
    clear g2
    go_enter Tryz.func14, Tryz.ntmps14
    go_wp2_with (go_at_call 27; refine (pchk_at HG.out.pln HG.out.tab lo hi HC.out).mono ?_; rintro e w2 ⟨rfl, hb2⟩; have HG2 := Lib.hid (HG.out.grow hb2); obtain ⟨q0, q1⟩ := HG2.out.box.cells; clear hb2)
    go_ret2
    exact ⟨_, ret_tup rfl (int_val HE.out.symm), nil_ints _, HG2.out.bel⟩
end Go.Proofs.YtfoenfipefhpoaaGreatDoor.Gr
/-
  The program's own Order. Conditions: the plan lies in memory; the library's table of powers holds what it was laid with.
-/
namespace Go.Proofs.YtfoenfipefhpoaaGreatDoor.Gr
open Go.RowKit Go.Maps Go.Shelf Go.Proofs.YtfoenfipefhpoaaGreatDoor.Ex Go.Proofs.YtfoenfipefhpoaaGreatDoor.Pl
variable {w : World} {v : Value} {p : Pln}

theorem own_map_row {w w' : World} {B bm nn n size : Nat} {e : TypeId} {y : Value} {xs : List Value} {D : DataW Unit} {k : TypeId} (hm : w.ownsMap Tryz.prog k unitElem bm nn D) (hr : w.ownsRow B e size y n xs) (hb : bm < B) (hg : w.grownBy w' y.ownBlock) : w'.ownsMap Tryz.prog k unitElem bm nn D :=
  hm.kept hg (fun e => by have := (hr.lt bm e.symm).1; omega)
theorem own_row_map {w w' : World} {B bm n size : Nat} {e : TypeId} {y : Value} {xs : List Value} (hr : w.ownsRow B e size y n xs) (hb : bm < B) (hg : w.grownBy w' (some bm)) : w'.ownsRow B e size y n xs :=
  hr.kept hg (Or.inr (fun e => by have := (hr.lt bm e).1; omega))
set_option maxRecDepth 20000 in
set_option maxHeartbeats 4000000 in
theorem porder_at (h : PlnAt w v p) (hT : Tab w) {L : List Nat} {E : Int} (hg : gOrder p = (L, E)) : Calls Tryz.prog 8 #[v] w (ListRet L E w) := by
  obtain ⟨a, n, c, b, m, d, rfl⟩ := pln_two h
  obtain ⟨hmf, hmx⟩ := pln_len h
  obtain ⟨l, hl⟩ : ∃ l, (check p).1 = l := ⟨_, rfl⟩
  obtain ⟨E0, hE⟩ : ∃ E0, (check p).2 = E0 := ⟨_, rfl⟩
  have hc : check p = (l, E0) := by rw [← hl, ← hE]
  have hgw := GW.start hT h
  obtain ⟨W, hW⟩ : ∃ W, w.alloc (.cells #[.slice a n c, .slice b m d] 25) = W := ⟨_, rfl⟩
  rw [hW] at hgw
  unfold gOrder at hg
  rw [hE] at hg
  obtain ⟨p0, p1⟩ := hgw.box.cells
  have HC := Lib.hid hc
  have HG := Lib.hid hgw
  unfold maxLen at hmx
  by_cases h0 : E0 = 0
  · subst h0
    obtain ⟨O, hO⟩ : ∃ O, order (srcOf p.flws) p.flws.length = O := ⟨_, rfl⟩
    rw [if_pos rfl, hO] at hg
    have hm8 : m ≤ 8 := by have := (check_ok hE).2.1; omega
    have HMF := Lib.hid hmf
    have HR := Lib.hid hg
    have HO0 : Hid (orderGo (srcOf p.flws) m (m - ([] : List Nat).length) ([] : List Nat) = O) := Lib.hid (by rw [hmf]; exact hO)
    obtain ⟨i0, hi0, hz0, hz1, hz2⟩ := info_parts info3
    clear h hT hl hE hc hgw hmf hg hO
    have hmm := @run_makeMap Tryz.prog
    go_enter Tryz.func8, Tryz.ntmps8
    go_wp2_with (go_at_call 24; refine (pcheck_at HG.out.pln HG.out.tab HC.out).mono ?_; rintro e w2 ⟨rfl, hb2⟩; have HG2 := Lib.hid (HG.out.grow hb2); obtain ⟨q0, q1⟩ := HG2.out.box.cells; have hlt0 : w.heap.size < w2.heap.size := lt_of_heap HG2.out.box; have hne0 : ¬ w.heap.size = w2.heap.size := (by omega); clear hb2)
    clear HG p0 p1 hW hmm hlt0 hne0
    go_loopw [6, 21] (fun y z wr => ∃ acc : List Nat, acc.length ≤ m ∧ z = .int .i64 acc.length ∧ Hid (orderGo (srcOf p.flws) m (m - acc.length) acc = O) ∧ Hid (wr.ownsRow (w2.heap.size + 1) 3 1 y acc.length (ics acc)) ∧ Hid (wr.ownsMap Tryz.prog 3 unitElem w2.heap.size acc.length (setI acc)) ∧ Hid (Below w2.heap.size w2 wr)) (fun _ z _ => m - (RowKit.intOf z).toNat)
    case atStart => exact ⟨[], Nat.zero_le _, rfl, HO0, Lib.hid (World.ownsRow_nil _ _ _ _), Lib.hid (World.ownsMap_made w2 _ _ _), Lib.hid ((Below.refl _ _).alloc (Nat.le_refl _) _)⟩
    case round =>
      clear HO0
      obtain ⟨acc, hk, rfl, hr, hrow, hmap, hb⟩ := hrel
      obtain ⟨ya, yc, rfl, hym⟩ := row_slice hrow.out
      have hgr := HG2.out.grow hb.out
      obtain ⟨r0, r1⟩ := hgr.box.cells
      obtain ⟨es, hf, he⟩ := pln_flws hgr.pln
      have HF := Lib.hid hf
      have HF2 := Lib.hid he
      clear hgr hf he q0 q1 hym
      by_cases hlt : acc.length < m
      · obtain ⟨R, hR⟩ : ∃ R, pick (srcOf p.flws) p.flws.length acc = R := ⟨_, rfl⟩
        have hd := hr.out
        rw [show m - acc.length = (m - (acc.length + 1)) + 1 by omega] at hd
        unfold orderGo at hd
        rw [HMF.out, hR, ← HMF.out] at hd
        have HRR := Lib.hid hR
        clear hr hR
        cases R with
        | none =>
          have HL : Hid (L = [] ∧ E = 60) := Lib.hid (by
            have h1 := HR.out
            rw [← hd] at h1
            injection h1 with h1 h2
            exact ⟨h1.symm, h2.symm⟩)
          clear hd
          go_wp2_with (go_at_call 25; refine (pfirst_at HF.out HF2.out hmap.out HRR.out).mono ?_; rintro e w3 ⟨rfl, hb3⟩; have HB3 := Lib.hid (hb.out.trans (hb3.mono hb.out.size)); clear hb3; dsimp only [oI])
          go_ret2
          exact ⟨_, ret_tup rfl (int_val HL.out.2.symm), by rw [HL.out.1]; exact nil_ints _, HG2.out.bel.trans (HB3.out.mono HG2.out.bel.size)⟩
        | some j =>
          have HD : Hid (orderGo (srcOf p.flws) m (m - (acc.length + 1)) (acc ++ [j]) = O) := Lib.hid hd
          have hjm : j < m := by rw [HMF.out]; exact (pick_some HRR.out).1
          have e1 : ((j : Int) == -1) = false := ibne (by omega)
          have hkey : keyOf Tryz.prog 3 (.int .i64 (j : Int)) = some (.int .i64 (j : Int)) := key_nat (by unfold maxLen; omega)
          clear hd
          go_wp2_with (first
            | (go_at_call 25; refine (pfirst_at HF.out HF2.out hmap.out HRR.out).mono ?_; rintro e w3 ⟨rfl, hb3⟩; have b4 : Below w3.heap.size w3 (w3.alloc (.cells #[.int .i64 (j : Int)] 3)) := (Below.refl _ _).alloc (Nat.le_refl _) _; have HB3 := Lib.hid (hb.out.trans ((hb3.trans (b4.mono hb3.size)).mono hb.out.size)); have HO3 := Lib.hid (ownsRow_below (ownsRow_below hrow.out hb3) b4); have HM3 := Lib.hid (ownsMap_below (ownsMap_below hmap.out hb3) b4); have hs3 : w2.heap.size + 1 ≤ w3.heap.size := Nat.le_trans (hmap.out.lt) hb3.size; clear hb3 b4; dsimp only [oI])
            | (refine wpList_append_lies _ (by rfl) (.tmp 29) (.tmp 31) 30 (by rfl) (w2.heap.size + 1) 3 i0 (.int .i64 0) 1 8 Tryz.underlying30 hi0 hz0 hz1 hz2 rfl (by decide) _ acc.length (ics acc) (by rfl) HO3.out ⟨w3.heap.size, 0, none⟩ 1 1 [.int .i64 (j : Int)] (by rfl) rfl (World.news_of_block (heap_alloc_new w3 _)) (one_int _) (by decide) (by unfold maxLen; omega) (by omega) (by simp; omega) _ rfl ?_; intro g2 cap2 w5 hown2 hgrow2 hat2 hlt2; have HO5 := Lib.hid hown2; have HB5 := Lib.hid (HB3.out.grown hgrow2 HB3.out.size (fun k e => Nat.le_of_succ_le (HO3.out.lt k e).1)); have HM5 := Lib.hid (own_map_row HM3.out HO3.out (Nat.lt_succ_self _) hgrow2); clear hown2 hgrow2 hat2 hlt2)
            | (at_mapUpdate; refine wpList_mapUpdate_own _ rfl _ _ _ 57 rfl 3 59 law3 Tryz.underlying57 (unitElem (H := Unit)) w2.heap.size acc.length _ rfl HM5.out (by unfold maxLen; omega) _ _ _ rfl rfl hkey _ [] unitElem_mk ?_; intro w6 hown6 hgrow6; have HM6 := Lib.hid hown6; have HO6 := Lib.hid (own_row_map HO5.out (Nat.lt_succ_self _) hgrow6); have HB6 := Lib.hid (HB5.out.grown hgrow6 HB5.out.size (fun k e => by cases e; exact Nat.le_refl _)); clear hown6 hgrow6))
          go_roundw
          case rel => exact ⟨acc ++ [j], by rw [List.length_append, List.length_singleton]; omega, by rw [List.length_append, List.length_singleton]; go_num, by rw [List.length_append, List.length_singleton]; exact HD, Lib.hid (by rw [ics_snoc, List.length_append, List.length_singleton]; exact HO6.out), Lib.hid (by rw [setI_snoc, List.length_append, List.length_singleton]; exact HM6.out), HB6⟩
          case measure => simp [RowKit.intOf]; omega
      · have HL : Hid (L = acc ∧ E = 0) := Lib.hid (by
          have h1 := hr.out
          rw [show m - acc.length = 0 by omega] at h1
          have h2 := HR.out
          rw [← h1] at h2
          injection h2 with h2 h3
          exact ⟨h2.symm, h3.symm⟩)
        clear hr
        go_wp2
        go_ret2
        exact ⟨_, ret_tup rfl (int_val HL.out.2.symm), by rw [HL.out.1]; exact ints_row hrow.out, HG2.out.bel.trans (hb.out.mono HG2.out.bel.size)⟩
  · rw [if_neg h0] at hg
    injection hg with g1 g2
    subst g1
    have HE : Hid (E = E0) := Lib.hid g2.symm
    have h0b : (E0 != 0) = true := inebt h0
    clear g2 h hT hl hE hc hgw hmf
    go_enter Tryz.func8, Tryz.ntmps8
    go_wp2_with (go_at_call 24; refine (pcheck_at HG.out.pln HG.out.tab HC.out).mono ?_; rintro e w2 ⟨rfl, hb2⟩; have HG2 := Lib.hid (HG.out.grow hb2); obtain ⟨q0, q1⟩ := HG2.out.box.cells; clear hb2)
    go_ret2
    exact ⟨_, ret_tup rfl (int_val HE.out.symm), nil_ints _, HG2.out.bel⟩
end Go.Proofs.YtfoenfipefhpoaaGreatDoor.Gr
/-
  The program's own External. Conditions: the plan lies in memory; the library's table of powers holds what it was laid with.
-/
namespace Go.Proofs.YtfoenfipefhpoaaGreatDoor.Gr
open Go.RowKit Go.Maps Go.Shelf Go.Proofs.YtfoenfipefhpoaaGreatDoor.Ex Go.Proofs.YtfoenfipefhpoaaGreatDoor.Pl
variable {w : World} {v : Value} {p : Pln}

set_option maxHeartbeats 400000 in
theorem clone_any (s : ByteArray) (w : World) (hs : s.size ≤ 281474976710656) : Calls Tryz.prog 32 #[.string s] w fun e w' => e = .returned (.string s) ∧ Below w.heap.size w w' := by
  have HS := Lib.hid hs
  clear hs
  go_enter Tryz.func32, Tryz.ntmps32
  go_wp2_with (go_at_call 41; refine (Any.stringslite_Clone Tryz.laysM316 _ _ HS.out).mono ?_; rintro e w1 ⟨rfl, hb1⟩)
  go_ret
  exact ⟨rfl, hb1⟩
theorem clone_at (l : Bs) (w : World) (hs : l.length ≤ 16) : Calls Tryz.prog 32 #[sv l] w fun e w' => e = .returned (sv l) ∧ Below w.heap.size w w' := clone_any ⟨l.toArray⟩ w (by show l.toArray.size ≤ _; rw [List.size_toArray]; omega)
theorem zeroU2 (w : World) : (zeroValue 59).run Tryz.prog w = .ok (.agg #[]) w := by kernel_rfl
set_option maxRecDepth 20000 in
set_option maxHeartbeats 4000000 in
theorem pexternal_at (h : PlnAt w v p) (hT : Tab w) {L : List Bs} {E : Int} (hg : gExt p = (L, E)) : Calls Tryz.prog 15 #[v] w (NameRet L E w) := by
  obtain ⟨a, n, c, b, m, d, rfl⟩ := pln_two h
  obtain ⟨hmf, hmx⟩ := pln_len h
  obtain ⟨-, hnt⟩ := pln_tops h
  obtain ⟨l, hl⟩ : ∃ l, (check p).1 = l := ⟨_, rfl⟩
  obtain ⟨E0, hE⟩ : ∃ E0, (check p).2 = E0 := ⟨_, rfl⟩
  have hc : check p = (l, E0) := by rw [← hl, ← hE]
  have hgw := GW.start hT h
  obtain ⟨W, hW⟩ : ∃ W, w.alloc (.cells #[.slice a n c, .slice b m d] 25) = W := ⟨_, rfl⟩
  rw [hW] at hgw
  unfold gExt at hg
  rw [hE] at hg
  obtain ⟨p0, p1⟩ := hgw.box.cells
  have HC := Lib.hid hc
  have HG := Lib.hid hgw
  unfold maxLen at hmx
  by_cases h0 : E0 = 0
  · subst h0
    rw [if_pos rfl] at hg
    injection hg with g1 g2
    obtain ⟨hn16, hm8, -⟩ := check_ok hE
    obtain ⟨hnt1, hnf1⟩ := check_names hE
    have hm8' : m ≤ 8 := by omega
    have hn16' : n ≤ 16 := by omega
    have HMF := Lib.hid hmf
    have HNT := Lib.hid hnt
    have HNA := Lib.hid hnt1
    have HNB := Lib.hid hnf1
    have HL : Hid (extOf p = L) := Lib.hid g1
    have HE : Hid (E = 0) := Lib.hid g2.symm
    obtain ⟨i0, hi0, hz0, hz1, hz2⟩ := info_parts info9
    clear h hT hl hE hc hgw hmf hnt g1 g2 hn16 hm8 hnt1 hnf1
    have hmm := @run_makeMap Tryz.prog
    go_enter Tryz.func15, Tryz.ntmps15
    go_wp2_with (go_at_call 24; refine (pcheck_at HG.out.pln HG.out.tab HC.out).mono ?_; rintro e w2 ⟨rfl, hb2⟩; have HG2 := Lib.hid (HG.out.grow hb2); obtain ⟨q0, q1⟩ := HG2.out.box.cells; have hlt0 : w.heap.size < w2.heap.size := lt_of_heap HG2.out.box; have hne0 : ¬ w.heap.size = w2.heap.size := (by omega); clear hb2)
    clear HG p0 p1 hW hmm hlt0 hne0
    go_loopw [26] (fun z wr => ∃ k : Nat, k ≤ m ∧ z = .int .i64 k ∧ Hid (wr.ownsMap Tryz.prog 9 unitElem w2.heap.size k (setB ((p.flws.take k).map Flw.dest))) ∧ Hid (Below w2.heap.size w2 wr)) (fun z _ => m - (RowKit.intOf z).toNat)
    case atStart => exact ⟨0, Nat.zero_le _, rfl, Lib.hid (World.ownsMap_made w2 _ _ _), Lib.hid ((Below.refl _ _).alloc (Nat.le_refl _) _)⟩
    case round =>
      obtain ⟨k, hk, rfl, hmap, hb⟩ := hrel
      have hgr := HG2.out.grow hb.out
      obtain ⟨r0, r1⟩ := hgr.box.cells
      clear q0 q1
      by_cases hlt : k < m
      · obtain ⟨es, hf, he⟩ := pln_flws hgr.pln
        have hl : es.length = p.flws.length := by rw [← he, List.length_map]
        have hke : k < es.length := by rw [hl, ← HMF.out]; exact hlt
        have hkf : k < p.flws.length := by rw [← HMF.out]; exact hlt
        have hfk : p.flws[k] = es[k].f := by simp [← he]
        have hlen := HNB.out _ (List.getElem_mem hkf)
        have hst : setB ((p.flws.take (k + 1)).map Flw.dest) = (setB ((p.flws.take k).map Flw.dest)).put (.string p.flws[k].dest) (.agg []) := by
          rw [List.take_succ_eq_append_getElem hkf, List.map_append, List.map_singleton, setB_snoc]
        rw [hfk] at hlen hst
        obtain ⟨bb, o, e0, hbl, ck⟩ := hf.1.at_ hke
        subst e0
        have hm1 := hf.2 _ (List.getElem_mem hke)
        have f0 : (0 : Int) ≤ (k : Int) := by omega
        have f1 : (k : Int) < (m : Int) := by omega
        generalize es[k] = x at hlen hst ck hm1
        obtain ⟨f, pre1, post1⟩ := x
        obtain ⟨u1, n5, e5⟩ := hm1.1.1.val
        obtain ⟨u2, n6, e6⟩ := hm1.2.1.val
        dsimp only at e5 e6 hlen hst
        subst e5 e6
        have hkey := key_name hlen
        have HST := Lib.hid hst
        have c0 := ck 0 _ rfl; have c1 := ck 1 _ rfl; have c2 := ck 2 _ rfl; have c3 := ck 3 _ rfl; have c4 := ck 4 _ rfl; have c5 := ck 5 _ rfl; have c6 := ck 6 _ rfl; have c7 := ck 7 _ rfl; have c8 := ck 8 _ rfl; have c9 := ck 9 _ rfl; have c10 := ck 10 _ rfl; have c11 := ck 11 _ rfl
        rw [Nat.add_zero] at c0
        obtain ⟨W1, hW1⟩ : ∃ W1, wr.alloc (.cells #[sv f.name, sv f.frm, sv f.dest, .int .i64 f.bound, .int .i64 f.readers, .int .i64 f.keepers, .slice u1 f.pre.length n5, .int .i64 f.win.kind, .int .i64 f.win.size, .int .i64 f.win.slide, .int .i64 f.agg, .slice u2 f.post.length n6] 51) = W1 := ⟨_, rfl⟩
        have bx : Box W1 wr.heap.size ⟨f, .slice u1 f.pre.length n5, .slice u2 f.post.length n6⟩ := by rw [← hW1]; exact Box.new wr ⟨f, .slice u1 f.pre.length n5, .slice u2 f.post.length n6⟩
        have d2 : W1.cell? ⟨wr.heap.size, 2, none⟩ = some (sv f.dest) := by rw [cell_of_heap bx]; rfl
        have bw : Below wr.heap.size wr W1 := by rw [← hW1]; exact (Below.refl _ _).alloc (Nat.le_refl _) _
        have HM1 := Lib.hid (ownsMap_below hmap.out bw)
        have HB1 := Lib.hid (hb.out.trans (bw.mono hb.out.size))
        clear hgr hf he hl hke hkf hfk hlen hst ck hm1 bx bw hmap
        go_wp2_with (at_mapUpdate; (try rw [hW1]); refine wpList_mapUpdate_own _ rfl _ _ _ 65 rfl 9 59 law9 Tryz.underlying65 (unitElem (H := Unit)) w2.heap.size k _ rfl HM1.out (by unfold maxLen; omega) _ _ _ rfl rfl hkey _ [] unitElem_mk ?_; intro w6 hown6 hgrow6; have HM6 := Lib.hid hown6; have HB6 := Lib.hid (HB1.out.grown hgrow6 HB1.out.size (fun k e => by cases e; exact Nat.le_refl _)); clear hown6 hgrow6)
        go_roundw
        case rel => exact ⟨k + 1, by omega, by go_num, Lib.hid (by rw [HST.out]; exact HM6.out), HB6⟩
        case measure => simp [RowKit.intOf]; omega
      · have HMP : Hid (wr.ownsMap Tryz.prog 9 unitElem w2.heap.size m (setB (p.flws.map Flw.dest))) := Lib.hid (by
          have h1 := hmap.out
          rw [show k = m by omega, List.take_of_length_le (by rw [HMF.out]; exact Nat.le_refl _)] at h1
          exact h1)
        have hHM : Hid (HMP.out = HMP.out) := Lib.hid rfl
        obtain ⟨P, hP⟩ : ∃ P : Bs → Bool, (fun x => !writtenIn p.flws x) = P := ⟨_, rfl⟩
        have hL2 := HL.out
        unfold extOf at hL2
        rw [hP] at hL2
        have HL2 := Lib.hid hL2
        have HPX : Hid (∀ x, (!writtenIn p.flws x) = P x) := Lib.hid (fun x => by rw [← hP])
        clear hmap hHM hgr hP hL2
        rename World => wq
        go_wp2
        go_loopw [9, 38] (fun y z wr => ∃ (k : Nat) (acc : List Bs), k ≤ n ∧ z = .int .i64 k ∧ Hid (acc = ((p.tops.take k).map Top.name).filter P) ∧ Hid (wr.ownsRow (w2.heap.size + 1) 9 1 y acc.length (ncs acc)) ∧ Hid (wr.ownsMap Tryz.prog 9 unitElem w2.heap.size m (setB (p.flws.map Flw.dest))) ∧ Hid (Below w2.heap.size w2 wr)) (fun _ z _ => n - (RowKit.intOf z).toNat)
        case atStart => exact ⟨0, [], Nat.zero_le _, rfl, Lib.hid rfl, Lib.hid (World.ownsRow_nil _ _ _ _), HMP, hb⟩
        case round =>
          clear r0 r1
          obtain ⟨k2, acc, hk2, rfl, hacc, hrow, hmap2, hb2⟩ := hrel
          obtain ⟨ya, yc, rfl, hym⟩ := row_slice hrow.out
          have hal : acc.length ≤ 16 := by
            rw [hacc.out]
            have := List.length_filter_le P ((p.tops.take k2).map Top.name)
            rw [List.length_map, List.length_take] at this
            omega
          by_cases hlt2 : k2 < n
          · obtain ⟨ht, -⟩ := pln_tops (HG2.out.grow hb2.out).pln
            have hkt : k2 < p.tops.length := by rw [← HNT.out]; exact hlt2
            obtain ⟨bb, o, e0, hbl, t0, t1⟩ := ht.cells hkt
            subst e0
            have hlen := HNA.out _ (List.getElem_mem hkt)
            have hnx := ext_take p.tops P hkt
            have f0 : (0 : Int) ≤ (k2 : Int) := by omega
            have f1 : (k2 : Int) < (n : Int) := by omega
            generalize p.tops[k2] = x at hlen hnx t0 t1
            obtain ⟨x, parts⟩ := x
            dsimp only at hlen hnx t0 t1
            have hkey := key_name hlen
            obtain ⟨tk, htk⟩ : ∃ tk, writtenIn p.flws x = tk := ⟨_, rfl⟩
            have hh : Maps.has (setB (p.flws.map Flw.dest)) (.string x) = tk := by rw [has_written, htk]
            have hPx : P x = !tk := by rw [← HPX.out, htk]
            rw [hPx] at hnx
            obtain ⟨W1, hW1⟩ : ∃ W1, wr.alloc (.cells #[sv x, .int .i64 parts] 53) = W1 := ⟨_, rfl⟩
            have bw : Below wr.heap.size wr W1 := by rw [← hW1]; exact (Below.refl _ _).alloc (Nat.le_refl _) _
            have d0 : W1.cell? ⟨wr.heap.size, 0, none⟩ = some (sv x) := by rw [← hW1, cell_of_heap (heap_alloc_new wr _)]; rfl
            have hW1s : wr.heap.size < W1.heap.size := by rw [← hW1]; simp
            have HM1 := Lib.hid (ownsMap_below hmap2.out bw)
            have HO1 := Lib.hid (ownsRow_below hrow.out bw)
            have HB1 := Lib.hid (hb2.out.trans (bw.mono hb2.out.size))
            have HX := Lib.hid hlen
            clear ht hkt hlen hPx htk bw hrow hmap2
            cases tk with
            | true =>
              have HN2 : Hid (acc = ((p.tops.take (k2 + 1)).map Top.name).filter P) := Lib.hid (by rw [hnx, ← hacc.out]; simp)
              clear hnx hacc
              go_wp2_with (at_lookup; (try rw [hW1]); refine wpList_lookup_own_unit _ rfl _ _ 65 rfl 9 59 law9 Tryz.underlying65 (zeroU _) w2.heap.size m (setB (p.flws.map Flw.dest)) rfl HM1.out _ _ rfl hkey ?_)
              go_roundw
              case rel =>
                have b4 : Below W1.heap.size W1 (W1.alloc (.cells #[] 59)) := (Below.refl _ _).alloc (Nat.le_refl _) _
                exact ⟨k2 + 1, acc, by omega, by go_num, HN2, Lib.hid (ownsRow_below HO1.out b4), Lib.hid (ownsMap_below HM1.out b4), Lib.hid (HB1.out.trans (b4.mono HB1.out.size))⟩
              case measure => simp [RowKit.intOf]; omega
            | false =>
              have HN2 : Hid (acc ++ [x] = ((p.tops.take (k2 + 1)).map Top.name).filter P) := Lib.hid (by rw [hnx, ← hacc.out]; rfl)
              clear hnx hacc
              have b4 : Below W1.heap.size W1 (W1.alloc (.cells #[] 59)) := (Below.refl _ _).alloc (Nat.le_refl _) _
              have hs1 : w2.heap.size + 1 ≤ W1.heap.size := HM1.out.lt
              have d1 : (W1.alloc (.cells #[] 59)).cell? ⟨wr.heap.size, 0, none⟩ = some (sv x) := by rw [b4.cell (p := ⟨wr.heap.size, 0, none⟩) hW1s]; exact d0
              have HM2 := Lib.hid (ownsMap_below HM1.out b4)
              have HO2 := Lib.hid (ownsRow_below HO1.out b4)
              have HB2 := Lib.hid (HB1.out.trans (b4.mono HB1.out.size))
              have hs2 : W1.heap.size ≤ (W1.alloc (.cells #[] 59)).heap.size := b4.size
              clear b4
              go_wp2_with (first
                | (at_lookup; (try rw [hW1]); refine wpList_lookup_own_unit _ rfl _ _ 65 rfl 9 59 law9 Tryz.underlying65 (zeroU _) w2.heap.size m (setB (p.flws.map Flw.dest)) rfl HM1.out _ _ rfl hkey ?_)
                | (go_at_call 32; refine (clone_at x _ HX.out).mono ?_; rintro e w3 ⟨rfl, hb3⟩; have b5 : Below w3.heap.size w3 (w3.alloc (.cells #[sv x] 9)) := (Below.refl _ _).alloc (Nat.le_refl _) _; have HB3 := Lib.hid (HB2.out.trans ((hb3.trans (b5.mono hb3.size)).mono HB2.out.size)); have HO3 := Lib.hid (ownsRow_below (ownsRow_below HO2.out hb3) b5); have HM3 := Lib.hid (ownsMap_below (ownsMap_below HM2.out hb3) b5); have hs3 : w2.heap.size + 1 ≤ w3.heap.size := Nat.le_trans hs1 (Nat.le_trans hs2 hb3.size); clear hb3 b5)
                | (refine wpList_append_lies _ (by rfl) (.tmp 51) (.tmp 55) 39 (by rfl) (w2.heap.size + 1) 9 i0 (.string ⟨#[]⟩) 1 16 Tryz.underlying39 hi0 hz0 hz1 hz2 rfl (by decide) _ acc.length (ncs acc) (by rfl) HO3.out ⟨w3.heap.size, 0, none⟩ 1 1 [sv x] (by rfl) rfl (World.news_of_block (heap_alloc_new w3 _)) (one_name _) (by decide) (by unfold maxLen; omega) (by omega) (by simp; omega) _ rfl ?_; intro g2 cap2 w5 hown2 hgrow2 hat2 hlt2; have HO5 := Lib.hid hown2; have HB5 := Lib.hid (HB3.out.grown hgrow2 HB3.out.size (fun k e => Nat.le_of_succ_le (HO3.out.lt k e).1)); have HM5 := Lib.hid (own_map_row HM3.out HO3.out (Nat.lt_succ_self _) hgrow2); clear hown2 hgrow2 hat2 hlt2))
              go_roundw
              case rel => exact ⟨k2 + 1, acc ++ [x], by omega, by go_num, HN2, Lib.hid (by rw [ncs_snoc]; simpa using HO5.out), HM5, HB5⟩
              case measure => simp [RowKit.intOf]; omega
          · have HA : Hid (L = acc) := Lib.hid (by rw [hacc.out, ← HL2.out, List.take_of_length_le (by rw [← HNT.out]; omega)])
            clear hacc
            go_wp2
            go_ret2
            exact ⟨_, ret_tup rfl (int_val HE.out.symm), by rw [HA.out]; exact names_row hrow.out, HG2.out.bel.trans (hb2.out.mono HG2.out.bel.size)⟩
  · rw [if_neg h0] at hg
    injection hg with g1 g2
    subst g1
    have HE : Hid (E = E0) := Lib.hid g2.symm
    have h0b : (E0 != 0) = true := inebt h0
    clear g2 h hT hl hE hc hgw hmf hnt
    go_enter Tryz.func15, Tryz.ntmps15
    go_wp2_with (go_at_call 24; refine (pcheck_at HG.out.pln HG.out.tab HC.out).mono ?_; rintro e w2 ⟨rfl, hb2⟩; have HG2 := Lib.hid (HG.out.grow hb2); obtain ⟨q0, q1⟩ := HG2.out.box.cells; clear hb2)
    go_ret2
    exact ⟨_, ret_tup rfl (int_val HE.out.symm), nil_names _, HG2.out.bel⟩
end Go.Proofs.YtfoenfipefhpoaaGreatDoor.Gr
/-
  The law's look at the document's examples of layer 6: they come out. Conditions: the library's table of powers holds what it was laid with.
-/
namespace Go.Proofs.YtfoenfipefhpoaaGreatDoor.Gr
open Go.RowKit Go.Proofs.YtfoenfipefhpoaaGreatDoor.Ex Go.Proofs.YtfoenfipefhpoaaGreatDoor.Pl

theorem ex1 : gOrder (linePln [(99, 100), (97, 99)]) = ([1, 0], 0) := by decide +kernel
theorem ex2 : gOrder (linePln [(97, 99), (99, 97)]) = ([], 60) := by decide +kernel
theorem ex3 : gList behindOf (linePln [(97, 99), (99, 100), (97, 101)]) 0 = ([1], 0) := by decide +kernel
theorem ex4 : gSource (linePln [(97, 99), (99, 100), (97, 101)]) 2 = (-1, 0) := by decide +kernel
set_option maxRecDepth 20000 in
set_option maxHeartbeats 4000000 in
theorem awake_any {w : World} (hT : Tab w) : Calls Tryz.prog 9 #[] w fun e w' => e = .returned (.bool true) ∧ Below w.heap.size w w' := by
  have HT := Lib.hid hT
  have HB := Lib.hid (Below.refl w.heap.size w)
  clear hT
  go_enter Tryz.func9, Tryz.ntmps9
  go_upto_region 2 with (first
    | (go_at_call 26; refine (line_at (L := [(99, 100), (97, 99)]) (names_lit _ [[99, 100], [97, 99]] (by decide)) (by decide)).mono ?_; rintro e w1 ⟨v1, rfl, hp1, hb1⟩; have HP1 := Lib.hid hp1; have HB1 := Lib.hid ((HB.out.alloc HB.out.size _).trans (hb1.mono (by simp))); clear hp1 hb1)
    | (go_at_call 8; refine (porder_at HP1.out (HT.out.below HB1.out) ex1).mono ?_; rintro e w2 ⟨u1, rfl, hi1, hb2⟩; obtain ⟨a1, c1, rfl⟩ := ints_form hi1; have HI1 := Lib.hid hi1; have HB2 := Lib.hid (HB1.out.trans (hb2.mono HB1.out.size)); clear hi1 hb2))
  clear HB HP1 HB1
  go_upto_region 3 with (first
    | (go_at_call 26; refine (line_at (L := [(97, 99), (99, 97)]) (names_lit _ [[97, 99], [99, 97]] (by decide)) (by decide)).mono ?_; rintro e w3 ⟨v3, rfl, hp1, hb1⟩; have HP3 := Lib.hid hp1; have HB3 := Lib.hid ((HB2.out.alloc HB2.out.size _).trans (hb1.mono (Nat.le_trans HB2.out.size (by simp)))); have HI3 := Lib.hid (Lst.grow HI1.out (((Below.refl _ _).alloc (Nat.le_refl _) _).trans (hb1.mono (by simp)))); clear hp1 hb1)
    | (go_at_call 8; refine (porder_at HP3.out (HT.out.below HB3.out) ex2).mono ?_; rintro e w4 ⟨u4, rfl, hi4, hb4⟩; obtain ⟨a4, c4, rfl⟩ := ints_form hi4; have HI4 := Lib.hid (Lst.grow HI3.out hb4); have HB4 := Lib.hid (HB3.out.trans (hb4.mono HB3.out.size)); clear hi4 hb4))
  clear HI1 HB2 HP3 HB3 HI3
  go_upto_region 4 with (first
    | (go_at_call 26; refine (line_at (L := [(97, 99), (99, 100), (97, 101)]) (names_lit _ [[97, 99], [99, 100], [97, 101]] (by decide)) (by decide)).mono ?_; rintro e w5 ⟨v5, rfl, hp1, hb1⟩; have HP5 := Lib.hid hp1; have HB5 := Lib.hid ((HB4.out.alloc HB4.out.size _).trans (hb1.mono (Nat.le_trans HB4.out.size (by simp)))); have HI5 := Lib.hid (Lst.grow HI4.out (((Below.refl _ _).alloc (Nat.le_refl _) _).trans (hb1.mono (by simp)))); clear hp1 hb1)
    | (go_at_call 14; refine (pbehind_at HP5.out (HT.out.below HB5.out) (by decide) (by decide) ex3).mono ?_; rintro e w6 ⟨u6, rfl, hi6, hb6⟩; obtain ⟨a6, c6, rfl⟩ := ints_form hi6; have HJ6 := Lib.hid hi6; have HI6 := Lib.hid (Lst.grow HI5.out hb6); have HB6 := Lib.hid (HB5.out.trans (hb6.mono HB5.out.size)); clear hi6 hb6))
  clear HI4 HB4 HP5 HB5 HI5
  go_upto_region 5 with (first
    | (go_at_call 26; refine (line_at (L := [(97, 99), (99, 100), (97, 101)]) (names_lit _ [[97, 99], [99, 100], [97, 101]] (by decide)) (by decide)).mono ?_; rintro e w7 ⟨v7, rfl, hp1, hb1⟩; have HP7 := Lib.hid hp1; have HB7 := Lib.hid ((HB6.out.alloc HB6.out.size _).trans (hb1.mono (Nat.le_trans HB6.out.size (by simp)))); have HI7 := Lib.hid (Lst.grow HI6.out (((Below.refl _ _).alloc (Nat.le_refl _) _).trans (hb1.mono (by simp)))); have HJ7 := Lib.hid (Lst.grow HJ6.out (((Below.refl _ _).alloc (Nat.le_refl _) _).trans (hb1.mono (by simp)))); clear hp1 hb1)
    | (go_at_call 12; refine (psource_at HP7.out (HT.out.below HB7.out) (by decide) (by decide) ex4).mono ?_; rintro e w8 ⟨rfl, hb8⟩; have HI8 := Lib.hid (Lst.grow HI7.out hb8); have HJ8 := Lib.hid (Lst.grow HJ7.out hb8); have HB8 := Lib.hid (HB7.out.trans (hb8.mono HB7.out.size)); clear hb8))
  clear HI6 HJ6 HB6 HP7 HB7 HI7 HJ7
  obtain ⟨b, o, rfl, hbl, y0⟩ := IntsAt.cell HI8.out (i := 0) (by decide)
  obtain ⟨b', o', e', -, y1⟩ := IntsAt.cell HI8.out (i := 1) (by decide)
  injection e' with e'
  injection e' with e1 e2
  subst e1 e2
  obtain ⟨b2, o2, rfl, hbl2, z0⟩ := IntsAt.cell HJ8.out (i := 0) (by decide)
  replace y0 : w8.cell? ⟨b, o, none⟩ = some (.int .i64 1) := y0
  replace y1 : w8.cell? ⟨b, o + 1, none⟩ = some (.int .i64 0) := y1
  replace z0 : w8.cell? ⟨b2, o2, none⟩ = some (.int .i64 1) := z0
  go_wp2
  go_ret
  exact ⟨rfl, HB8.out⟩
end Go.Proofs.YtfoenfipefhpoaaGreatDoor.Gr
/-
  What the listed variables give: the library's table of powers of ten. And a start that meets the list; and the wrap that hands a contract the list and the shape. Conditions: none.
-/
namespace Go.Proofs.YtfoenfipefhpoaaGreatDoor.Gr
open Go.RowKit Go.Proofs.YtfoenfipefhpoaaGreatDoor.Ex Go.Proofs.YtfoenfipefhpoaaGreatDoor.Pl
abbrev laidList : List (String × DataW Unit) := Rows.graphOrdersRow.laid
theorem door_met (os : Os) (args : Array Value) : laidMetH Tryz.prog laidList ((World.laidAll Tryz.prog os laidList).forCall (fun _ _ => 0) ⟨#[], args, []⟩).memory := by
  rw [MakeChecks.laidMetH_plain _ _ _ (by kernel_rfl)]; exact laidMet_laidAll _ (by kernel_rfl) (by kernel_rfl)
theorem tab_type : (Tryz.prog.globals[3]?).map (·.type) = some 192 := by kernel_rfl
theorem tab_of_laid {W : World} (h : laidMetH Tryz.prog laidList W) : Tab W := by
  rw [MakeChecks.laidMetH_plain _ _ _ (by kernel_rfl)] at h
  have h2 := h.tail.tail
  have ht : Lib.TabIs Tryz.prog W "internal/strconv.uint64pow10" .u64 Lib.pow10Tab :=
    Lib.tabIs_of_head tab_global tab_type Tryz.underlying192 Tryz.underlying127 (by kernel_rfl) (by kernel_rfl) h2
  exact ⟨ht, World.block_lt_of_cell? W _ (ht.cell tab_global 0 (by decide))⟩
theorem given_of {W : World} (h : laidMetH Tryz.prog laidList W) (_hsh : W.ShapedOpen Tryz.prog) : Tab W := tab_of_laid h
/-- A contract that asks for the listed variables, for the world's shape and for the reach gives the row's own word. -/
theorem handed_listed_shaped {H : Type} {enc : TypeId × Value → H} {a : Assume} {C : Checked} {os : Os} {f : FuncId} {fn : Func} {s : ChangeSpec} {conds : List PathCond} {apart fresh handsOn again : Bool} {X : World → Array Value → Prop}
    (hX : ∀ (w w' : World) (args : Array Value), w.heap = w'.heap → X w args → X w' args)
    (own : ownKnob C.prog.godebug = none) (started : os.Started) (noInit : C.prog.inits.idxOf? f = none) (hfn : C.prog.funcs[f]? = some fn)
    (witness : ∃ (w : World) (tape : Tape) (i : Input), w.os = os ∧ (w.forCall tape i).Shaped C.prog ∧ i.vars = [] ∧ Input.okWide C.prog (w.forCall tape i) .any w.heap.size f i ∧
      ((s.pre enc C.prog fn conds apart (w.forCall tape i).memory i.args ∧ X (w.forCall tape i).memory i.args) ∧ sizedMet enc C.prog fn (OpenSpec.ofChange s) apart (w.forCall tape i).memory i.args) ∧ a.holds C.prog (lone (Frame.enter C.prog f i.args .normal) [] (w.forCall tape i)))
    (contract : ∀ (W : World) (base : Nat) (args : Array Value) (ds gs : List (DataW H)) (before : List MemPlace),
      (∀ (j : Nat) t v, fn.params[j]? = some t → args[j]? = some v → Value.okWide C.prog W .any base t v) →
      DataW.Whole enc C.prog fn.params.toList s.vars apart W args.toList ds gs before →
      (DataW.weightsEach C.prog (fn.params.toList ++ s.plain.varTypes C.prog) (ds ++ gs)).all (· ≤ reachBytes) = true → X W args → W.ShapedOpen C.prog →
      Calls C.prog f args W fun e W' => ∃ v, e = .returned v ∧ s.post enc C.prog fn apart fresh handsOn again W args v W') :
    ReturnsInHanded a C os f .any (fun w args => (s.pre enc C.prog fn conds apart w args ∧ X w args) ∧ sizedMet enc C.prog fn (OpenSpec.ofChange s) apart w args) (s.post enc C.prog fn apart fresh handsOn again) := by
  refine returnsInHanded_of_calls own started noInit witness ?_
  intro w tape i _ hshape _ hok hpre _
  obtain ⟨_, _, _, fn', hfn', _, _, _, _, hval⟩ := hok
  cases Option.some.inj (hfn'.symm.trans hfn)
  obtain ⟨⟨⟨ds, gs, before, hwhole, _⟩, hx⟩, hsize⟩ := hpre
  have key := contract (w.forCall tape i) w.heap.size i.args ds gs before hval (DataW.Whole.of_heap (w' := w.forCall tape i) (by rfl) hwhole) (hsize.weights hwhole) (hX _ _ _ (by rfl) hx) hshape
  exact key.mono fun e W' ⟨v, he, hp⟩ => by
    subst he
    exact ChangeSpec.post_blind hp
end Go.Proofs.YtfoenfipefhpoaaGreatDoor.Gr
