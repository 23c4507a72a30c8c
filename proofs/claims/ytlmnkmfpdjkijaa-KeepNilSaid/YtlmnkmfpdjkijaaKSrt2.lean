/-
  A row of one's own of panes, sorted by the library's sort: by key and beginning, or by end, key and beginning: the one sorted row of the same panes. Conditions: at most 4000000 panes, all different.
-/
import Derived.Test.YtlmnkmfpdjkijaaKSrt
namespace Go.Proofs.Ytlmnkmfpdjkijaa.Kp
set_option linter.unusedVariables false
set_option linter.unusedSimpArgs false
open Go.Proofs.Ytlmnkmfpdjkijaa Go.Proofs.Ytlmnkmfpdjkijaa.Ke
open Go.RowKit Go.Sort
open Go.Proofs.Ytlmnkmfpdjkijaa.Wi (cmpI)

abbrev pns (L : List Pn) : List Value := L.flatMap pnC
instance : Inhabited Pn := ⟨⟨[], 0, 0, ⟨0, 0, 0, 0⟩⟩⟩
theorem pns_at {L : List Pn} {j : Nat} (hj : j < L.length * 7) : (pns L)[j]? = (pnC L[j / 7]!)[j % 7]? := by
  have hi : j / 7 < L.length := by omega
  have hr : j % 7 < 7 := Nat.mod_lt _ (by decide)
  have hr' : j % 7 < (pnC L[j / 7]!).length := by rw [pn7]; exact hr
  have e := List.getElem?_eq_getElem hr'
  rw [e]
  have hx : L[j / 7]? = some L[j / 7]! := by rw [List.getElem?_eq_getElem hi, getElem!_pos L (j / 7) hi]
  have := (flatMap_at L (fun x _ => pn7 x) (j / 7) _ hx (j % 7) _ e).1
  rw [show j / 7 * 7 + j % 7 = j by omega] at this
  exact this
theorem flat_pns (d : Array Pn) : (flatK pnC 7 d).toList = pns d.toList := by
  apply List.ext_getElem?
  intro j
  by_cases hj : j < d.size * 7
  · have h1 := get_flatK pnC 7 d j hj
    have hs : j < (flatK pnC 7 d).size := by rw [size_flatK]; exact hj
    rw [getElem!_pos _ j hs] at h1
    rw [Array.getElem?_toList, Array.getElem?_eq_getElem hs, h1, pns_at (by rw [Array.length_toList]; exact hj)]
    have hi : j / 7 < d.size := by omega
    have e : d.toList[j / 7]! = d[j / 7]! := by rw [getElem!_pos d.toList (j / 7) (by simpa using hi), getElem!_pos d (j / 7) hi]; simp
    have hr' : j % 7 < (pnC d[j / 7]!).length := by rw [pn7]; exact Nat.mod_lt _ (by decide)
    rw [e, List.getElem?_eq_getElem hr', getElem!_pos (pnC d[j / 7]!) (j % 7) hr']
  · rw [List.getElem?_eq_none (by rw [Array.length_toList, size_flatK]; omega), List.getElem?_eq_none (by rw [pns_len, Array.length_toList]; omega)]
theorem take_put (cur F : Array Value) (h : F.size ≤ cur.size) : (putCells id 0 F cur).toList.take F.size = F.toList := by
  apply List.ext_getElem?
  intro j
  by_cases hj : j < F.size
  · rw [List.getElem?_take_of_lt hj, Array.getElem?_toList]
    simp [putCells, hj, show j < cur.size by omega]
  · rw [List.getElem?_take_eq_none (by omega), List.getElem?_eq_none (by simp; omega)]
theorem heap_sorted {w : World} {g n : Nat} {os : Array Obj} {cur F : Array Value} {e : TypeId} {fr : Nat × Nat} (hb : w.heap[g]? = some (.cells cur e fr)) :
    (grow (putRow id (Sort.ahead w n) g 0 F) os).heap[g]? = some (.cells (putCells id 0 F cur) e fr) := by
  have hg : g < w.heap.size := (Array.getElem?_eq_some_iff.1 hb).1
  rw [heap_grow_old _ _ (by simpa using hg)]
  simp [putRow, mapBlock, Sort.ahead, Array.getElem?_modify, hb, onCells]
theorem grown_sorted {w : World} {g n : Nat} {os : Array Obj} (F : Array Value) : w.grownBy (grow (putRow id (Sort.ahead w n) g 0 F) os) (some g) := by
  refine ⟨rfl, rfl, rfl, by simp, fun k hk hne => ?_⟩
  rw [heap_grow_old _ _ (by simpa using hk)]
  have : g ≠ k := fun e => hne (by rw [e])
  simp [putRow, mapBlock, Sort.ahead, Array.getElem?_modify, this]
theorem row_sorted {w : World} {base g cap n m : Nat} {e : TypeId} {os : Array Obj} {L : List Pn} (h : w.ownsRow base e 7 (.slice (some ⟨g, 0, none⟩) m cap) m (pns L)) {d : Array Pn} (hd : d.size = m) :
    (sortWorldK pnC 7 w g 0 n d os).ownsRow base e 7 (.slice (some ⟨g, 0, none⟩) m cap) m (pns d.toList) ∧ w.grownBy (sortWorldK pnC 7 w g 0 n d os) (some g) := by
  refine ⟨⟨by rw [pns_len, Array.length_toList, hd], ?_⟩, grown_sorted _⟩
  rcases h.2 with ⟨e', -⟩ | ⟨g', cap', cur, e', hb, hg, h1, h2, h3, -⟩
  · simp at e'
  · simp only [Value.slice.injEq, Option.some.injEq, Addr.mk.injEq, and_true, true_and] at e'
    obtain ⟨rfl, rfl⟩ := e'
    have hF : (flatK pnC 7 d).size = m * 7 := by rw [size_flatK, hd]
    refine .inr ⟨g, cap, putCells id 0 (flatK pnC 7 d) cur, rfl, hb, heap_sorted hg, h1, h2, by simp [putCells, h3], ?_⟩
    rw [← flat_pns, ← hF]
    exact take_put cur _ (by rw [hF, h3]; omega)
theorem holds_row {w : World} {base g cap m : Nat} {e : TypeId} {L : List Pn} (h : w.ownsRow base e 7 (.slice (some ⟨g, 0, none⟩) m cap) m (pns L)) (hm : L.length = m) : HoldsK pnC 7 w g 0 L.toArray := by
  intro j hj
  rw [size_flatK] at hj
  have hj' : j < m * 7 := by rw [← hm]; simpa using hj
  rw [Nat.zero_add]
  refine ⟨?_, h.frozenAt j⟩
  have e1 := flat_pns L.toArray
  rw [h.cellAt j hj', show pns L = pns L.toArray.toList from rfl, ← e1, Array.getElem?_toList, Array.getElem?_eq_getElem (by rw [size_flatK]; exact hj), getElem!_pos _ j (by rw [size_flatK]; exact hj)]
  rfl
theorem one_pn : ∀ x : Pn, ∀ v ∈ pnC x, v.oneCell' = true := by
  intro x v hv
  simp only [List.mem_cons, List.not_mem_nil, or_false] at hv
  rcases hv with rfl | rfl | rfl | rfl | rfl | rfl | rfl <;> rfl
theorem cmpK_lt {x y : Ky} : cmpK x y < 0 ↔ x < y := by
  unfold cmpK
  split
  · rename_i h; exact ⟨fun _ => h, fun _ => by decide⟩
  · rename_i h
    split
    · exact ⟨fun q => by omega, fun q => absurd q h⟩
    · exact ⟨fun q => by omega, fun q => absurd q h⟩
theorem cmpK_eq {x y : Ky} : cmpK x y = 0 ↔ x = y := by
  unfold cmpK
  constructor
  · intro h
    rcases ky_tri x y with q | q | q
    · rw [if_pos q] at h; omega
    · exact q
    · rw [if_neg (fun r => ky_irr _ (ky_tr r q)), if_pos q] at h; omega
  · rintro rfl
    rw [if_neg (ky_irr _), if_neg (ky_irr _)]
theorem orZ_lt {a b : Int} : orZ a b < 0 ↔ a < 0 ∨ (a = 0 ∧ b < 0) := by
  unfold orZ
  split <;> omega
theorem orZ_eq {a b : Int} : orZ a b = 0 ↔ a = 0 ∧ b = 0 := by
  unfold orZ
  split <;> omega
theorem cmpI_lt {x y : Int} : cmpI x y < 0 ↔ x < y := by
  unfold cmpI
  split
  · omega
  · split <;> omega
theorem cmpI_eq {x y : Int} : cmpI x y = 0 ↔ x = y := by
  unfold cmpI
  split
  · omega
  · split <;> omega
theorem cmpP_lt {x y : Pn} : cmpP x y < 0 ↔ plt x y := by
  unfold cmpP plt
  rw [orZ_lt, cmpK_lt, cmpK_eq, cmpI_lt]
theorem cmpT_lt {x y : Pn} : cmpT x y < 0 ↔ tlt x y := by
  unfold cmpT tlt
  rw [orZ_lt, cmpI_lt, cmpI_eq, cmpP_lt]
theorem plt_nt {x y z : Pn} (h : ¬ plt x y) (k : ¬ plt y z) : ¬ plt x z := by
  unfold plt at *
  rcases ky_tri x.k y.k with e | e | e
  · exact absurd (.inl e) h
  · rw [e] at h ⊢
    rcases ky_tri y.k z.k with e' | e' | e'
    · exact absurd (.inl e') k
    · rw [e'] at k h ⊢
      have h1 : ¬ x.f < y.f := fun q => h (.inr ⟨rfl, q⟩)
      have h2 : ¬ y.f < z.f := fun q => k (.inr ⟨rfl, q⟩)
      rintro (q | ⟨-, q⟩)
      · exact ky_irr _ q
      · omega
    · rintro (q | ⟨q, -⟩)
      · exact ky_irr _ (ky_tr q e')
      · rw [q] at e'; exact ky_irr _ e'
  · rintro (q | ⟨q, -⟩)
    · have h3 := ky_tr e q
      exact k (.inl h3)
    · rw [q] at e; exact k (.inl e)
theorem tlt_nt {x y z : Pn} (h : ¬ tlt x y) (k : ¬ tlt y z) : ¬ tlt x z := by
  unfold tlt at *
  have h1 : ¬ x.t < y.t := fun q => h (.inl q)
  have k1 : ¬ y.t < z.t := fun q => k (.inl q)
  rintro (q | ⟨q, q'⟩)
  · omega
  · have e1 : x.t = y.t := by omega
    have e2 : y.t = z.t := by omega
    exact plt_nt (fun r => h (.inr ⟨e1, r⟩)) (fun r => k (.inr ⟨e2, r⟩)) q'
theorem swoP : SWO (ltOf cmpP) where
  irrefl x := by unfold ltOf; rw [decide_eq_false_iff_not, cmpP_lt]; exact plt_irr x
  trans x y z h1 h2 := by unfold ltOf at *; rw [decide_eq_true_eq, cmpP_lt] at *; exact plt_tr h1 h2
  ntrans x y z h1 h2 := by unfold ltOf at *; rw [decide_eq_false_iff_not, cmpP_lt] at *; exact plt_nt h1 h2
theorem swoT : SWO (ltOf cmpT) where
  irrefl x := by unfold ltOf; rw [decide_eq_false_iff_not, cmpT_lt]; exact tlt_irr x
  trans x y z h1 h2 := by unfold ltOf at *; rw [decide_eq_true_eq, cmpT_lt] at *; exact tlt_tr h1 h2
  ntrans x y z h1 h2 := by unfold ltOf at *; rw [decide_eq_false_iff_not, cmpT_lt] at *; exact tlt_nt h1 h2
set_option maxHeartbeats 1000000 in
theorem sort_any {cf : Pn → Pn → Int} (hswo : SWO (ltOf cf)) {f : Nat} (eg : ∀ args w, (callFunc f args).run Try.prog w = .ok (.enter f args) w) (hc : ∀ x y w, Calls Try.prog f #[pnV x, pnV y] w fun e w' => e = .returned (.int .i64 (cf x y)) ∧ ∃ q os, w' = Go.Sort.grow (w.drewN q) os)
    {w : World} {B : Nat} {v : Value} {L : List Pn} (hown : w.ownsRow B 51 7 v L.length (pns L)) (hl : L.length ≤ 4000000) : Calls Try.prog 39 #[v, .func (.func f) #[] #[]] w fun e w' => e = .returned (.tuple #[]) ∧ ∃ S : List Pn, S.Perm L ∧ S.Pairwise (fun a b => ¬ cf b a < 0) ∧ w'.ownsRow B 51 7 v S.length (pns S) ∧ w.grownBy w' v.ownBlock := by
  rcases hown.2 with ⟨rfl, h0⟩ | ⟨g, cap, cur, rfl, hbg, hg, -⟩
  · have hL : L = [] := List.length_eq_zero_iff.1 h0
    subst hL
    have hcon := AnyF.slices_SortFunc_none (P := Try.prog) Try.sortF none 0 (.func (.func f) #[] #[]) w
    refine hcon.mono ?_
    rintro e w' ⟨rfl, rfl⟩
    exact ⟨rfl, [], List.Perm.refl _, List.Pairwise.nil, hown, ⟨rfl, rfl, rfl, Nat.le_refl _, fun _ _ _ => rfl⟩⟩
  · have hsz : L.toArray.size = L.length := by simp
    have hcon := AnyQ.slices_SortFunc (P := Try.prog) Try.sortF 7 Try.isAgg51 Try.sizeOf51 pnC (fun _ => rfl) one_pn cf hswo f #[] g 0 cap L.toArray w eg (fun _ _ _ _ x y => hc x y _) (holds_row hown rfl) (lt_of_heap hg) (by rw [hsz]; omega)
    rw [hsz] at hcon
    refine hcon.mono ?_
    rintro e w' ⟨rfl, d, n, os, hp, hs, rfl⟩
    have hd : d.size = L.length := hp.1.trans hsz
    obtain ⟨h1, h2⟩ := row_sorted (os := os) (n := n) hown hd
    refine ⟨rfl, d.toList, ?_, ?_, ?_, h2⟩
    · have h3 := hp.2.2
      rw [show d.extract 0 L.length = d by rw [← hd]; simp, show L.toArray.extract 0 L.length = L.toArray by rw [← hsz]; simp] at h3
      exact h3
    · rw [List.pairwise_iff_getElem]
      intro i j hi hj hij
      have h3 := hs i j (Nat.zero_le _) hij (by rw [← hd]; simpa using hj)
      unfold ltOf at h3
      rw [decide_eq_false_iff_not, getElem!_pos d i (by simpa using hi), getElem!_pos d j (by simpa using hj)] at h3
      simpa using h3
    · have e : d.toList.length = L.length := (Array.length_toList).trans hd
      rw [e]
      exact h1
theorem pw_all {Q Q' : Pn → Pn → Prop} {S M : List Pn} (hM : M.Pairwise Q) (irr : ∀ x, ¬ Q x x) (hp : S.Perm M) (hs : S.Pairwise Q') (hq : ∀ x y, Q' x y → ¬ Q y x) : S.Pairwise Q := by
  have nd : M.Nodup := by
    unfold List.Nodup
    exact hM.imp (fun {x y} h (e : x = y) => irr x (by rw [← e] at h; exact h))
  have nd2 : S.Nodup := hp.nodup_iff.2 nd
  refine (List.Pairwise.and_mem.1 (List.Pairwise.and nd2 hs)).imp (fun {x y} h => ?_)
  obtain ⟨hx, hy, hne, h2⟩ := h
  have mx := hp.mem_iff.1 hx
  have my := hp.mem_iff.1 hy
  obtain ⟨i, hi, ei⟩ := List.getElem_of_mem mx
  obtain ⟨j, hj, ej⟩ := List.getElem_of_mem my
  rcases Nat.lt_trichotomy i j with q | q | q
  · have := List.pairwise_iff_getElem.1 hM i j hi hj q
    rw [ei, ej] at this; exact this
  · subst q; rw [ei] at ej; exact absurd ej hne
  · have := List.pairwise_iff_getElem.1 hM j i hj hi q
    rw [ei, ej] at this
    exact absurd this (hq x y h2)
/-- Sorted by key, by beginning. -/
theorem sortP_at {w : World} {B : Nat} {v : Value} {L M : List Pn} (hown : w.ownsRow B 51 7 v L.length (pns L)) (hl : L.length ≤ 4000000) (hM : Sd M) (hp : L.Perm M) : Calls Try.prog 39 #[v, .func (.func 40) #[] #[]] w fun e w' => e = .returned (.tuple #[]) ∧ w'.ownsRow B 51 7 v M.length (pns M) ∧ w.grownBy w' v.ownBlock := by
  have eg : ∀ args w, (callFunc 40 args).run Try.prog w = .ok (.enter 40 args) w := enters_of Try.func40 (by kernel_rfl) rfl
  refine (sort_any swoP eg byKey_at hown hl).mono ?_
  rintro e w' ⟨rfl, S, h1, h2, h3, h4⟩
  have hS : S = M := sd_uniq (pw_all hM plt_irr (h1.trans hp) h2 (fun x y q r => q (cmpP_lt.2 r))) hM (fun x => (h1.trans hp).mem_iff)
  subst hS
  exact ⟨rfl, h3, h4⟩
/-- Sorted by end, by key, by beginning. -/
theorem sortT_at {w : World} {B : Nat} {v : Value} {L M : List Pn} (hown : w.ownsRow B 51 7 v L.length (pns L)) (hl : L.length ≤ 4000000) (hM : Td M) (hp : L.Perm M) : Calls Try.prog 39 #[v, .func (.func 53) #[] #[]] w fun e w' => e = .returned (.tuple #[]) ∧ w'.ownsRow B 51 7 v M.length (pns M) ∧ w.grownBy w' v.ownBlock := by
  have eg : ∀ args w, (callFunc 53 args).run Try.prog w = .ok (.enter 53 args) w := enters_of Try.func53 (by kernel_rfl) rfl
  refine (sort_any swoT eg byTo_at hown hl).mono ?_
  rintro e w' ⟨rfl, S, h1, h2, h3, h4⟩
  have hS : S = M := td_uniq (pw_all hM tlt_irr (h1.trans hp) h2 (fun x y q r => q (cmpT_lt.2 r))) hM (fun x => (h1.trans hp).mem_iff)
  subst hS
  exact ⟨rfl, h3, h4⟩
end Go.Proofs.Ytlmnkmfpdjkijaa.Kp
