/-
  A keep in mathematics: records put, marks that advance, what is told; what follows for counts, sums, order, keys that a test tells apart. Conditions: as each theorem names them; nothing of a program.
-/
import Derived.Test.YtlmnkmfpdjkijaaKComm
import Derived.Test.YtlmnkmfpdjkijaaWSpan
namespace Go.Proofs.Ytlmnkmfpdjkijaa.Ke
set_option linter.unusedVariables false
set_option linter.unusedSimpArgs false
open Go.Proofs.Ytlmnkmfpdjkijaa.Ag (Ac jn vl wr wr_in wr_add wr_add2 ac_ext)
open Go.Proofs.Ytlmnkmfpdjkijaa.Wi (Sp ofS okW okT okT_is okW_cases cov_of Cov)

/-- Is a pane's span over? -/
def due (m : Int) (x : Pn) : Bool := decide (x.t ≤ m) || decide (m = 1000000001)
theorem due_no {m : Int} {x : Pn} : due m x = false ↔ m < x.t ∧ m ≠ 1000000001 := by
  unfold due
  rw [Bool.or_eq_false_iff, decide_eq_false_iff_not, decide_eq_false_iff_not]
  constructor
  · rintro ⟨h1, h2⟩; exact ⟨by omega, h2⟩
  · rintro ⟨h1, h2⟩; exact ⟨by omega, h2⟩
theorem due_yes {m : Int} {x : Pn} : due m x = true ↔ x.t ≤ m ∨ m = 1000000001 := by
  unfold due
  rw [Bool.or_eq_true, decide_eq_true_eq, decide_eq_true_eq]
/-- The order in which panes are told: by end, by key, by beginning. -/
def tlt (x y : Pn) : Prop := x.t < y.t ∨ (x.t = y.t ∧ plt x y)
instance (x y : Pn) : Decidable (tlt x y) := by unfold tlt; infer_instance
theorem tlt_irr (x : Pn) : ¬ tlt x x := by
  rintro (h | ⟨-, h⟩)
  · omega
  · exact plt_irr _ h
theorem tlt_tr {x y z : Pn} (h : tlt x y) (k : tlt y z) : tlt x z := by
  rcases h with h | ⟨h1, h2⟩
  · rcases k with k | ⟨k1, k2⟩
    · exact .inl (by omega)
    · exact .inl (by omega)
  · rcases k with k | ⟨k1, k2⟩
    · exact .inl (by omega)
    · exact .inr ⟨by omega, plt_tr h2 k2⟩
def Td (l : List Pn) : Prop := l.Pairwise tlt
theorem td_uniq : ∀ {l m : List Pn}, Td l → Td m → (∀ x, x ∈ l ↔ x ∈ m) → l = m
  | [], [], _, _, _ => rfl
  | [], y :: m, _, _, h => by have := (h y).2 (by simp); simp at this
  | x :: l, [], _, _, h => by have := (h x).1 (by simp); simp at this
  | x :: l, y :: m, hl, hm, h => by
    obtain ⟨h1, h2⟩ := List.pairwise_cons.1 hl
    obtain ⟨k1, k2⟩ := List.pairwise_cons.1 hm
    have hxy : x = y := by
      rcases List.mem_cons.1 ((h x).1 (by simp)) with e | e
      · exact e
      · rcases List.mem_cons.1 ((h y).2 (by simp)) with e' | e'
        · exact e'.symm
        · exact absurd (tlt_tr (k1 x e) (h1 y e')) (tlt_irr _)
    subst hxy
    rw [td_uniq h2 k2 (fun z => ?_)]
    constructor
    · intro hz
      rcases List.mem_cons.1 ((h z).1 (List.mem_cons_of_mem _ hz)) with e | e
      · subst e; exact absurd (h1 z hz) (tlt_irr z)
      · exact e
    · intro hz
      rcases List.mem_cons.1 ((h z).2 (List.mem_cons_of_mem _ hz)) with e | e
      · subst e; exact absurd (k1 z hz) (tlt_irr z)
      · exact e
def tins : List Pn → Pn → List Pn
  | [], p => [p]
  | x :: r, p => if tlt x p then x :: tins r p else p :: x :: r
theorem tins_perm (p : Pn) : ∀ l : List Pn, (tins l p).Perm (p :: l)
  | [] => List.Perm.refl _
  | x :: r => by
    unfold tins
    split
    · exact (List.Perm.cons x (tins_perm p r)).trans (List.Perm.swap p x r)
    · exact List.Perm.refl _
theorem tins_td {p : Pn} : ∀ {l : List Pn}, Td l → (∀ x ∈ l, tlt x p ∨ tlt p x) → Td (tins l p)
  | [], _, _ => List.pairwise_singleton _ _
  | x :: r, h, hp => by
    obtain ⟨h1, h2⟩ := List.pairwise_cons.1 h
    unfold tins
    split
    · rename_i hx
      refine List.pairwise_cons.2 ⟨fun y hy => ?_, tins_td h2 (fun z hz => hp z (List.mem_cons_of_mem _ hz))⟩
      rcases List.mem_cons.1 ((tins_perm p r).mem_iff.1 hy) with rfl | hy
      · exact hx
      · exact h1 y hy
    · rename_i hx
      have hpx := (hp x (by simp)).resolve_left hx
      refine List.pairwise_cons.2 ⟨fun y hy => ?_, h⟩
      rcases List.mem_cons.1 hy with rfl | hy
      · exact hpx
      · exact tlt_tr hpx (h1 y hy)
def tsort : List Pn → List Pn
  | [] => []
  | x :: r => tins (tsort r) x
theorem tsort_perm : ∀ l : List Pn, (tsort l).Perm l
  | [] => List.Perm.refl _
  | x :: r => (tins_perm x (tsort r)).trans (List.Perm.cons x (tsort_perm r))
theorem tsort_td : ∀ {l : List Pn}, Sd l → Td (tsort l)
  | [], _ => List.Pairwise.nil
  | x :: r, h => by
    obtain ⟨h1, h2⟩ := List.pairwise_cons.1 h
    refine tins_td (tsort_td h2) (fun y hy => ?_)
    have hxy := h1 y ((tsort_perm r).mem_iff.1 hy)
    rcases Int.lt_trichotomy x.t y.t with e | e | e
    · exact .inr (.inl e)
    · exact .inr (.inr ⟨e, hxy⟩)
    · exact .inl (.inl e)
theorem tsort_filter {l : List Pn} (h : Sd l) (P : Pn → Bool) : tsort (l.filter P) = (tsort l).filter P :=
  td_uniq (tsort_td (h.filter P)) (List.Pairwise.filter P (tsort_td h)) (fun x => by
    rw [(tsort_perm _).mem_iff, List.mem_filter, List.mem_filter, (tsort_perm l).mem_iff])
/-- A record: its key, time and value. -/
structure Rc where
  k : Ky
  t : Int
  v : Int
def rcd (agg : Int) (x : Pn) : Rc := ⟨x.k, min (x.t - 1) 1000000000, (vl agg x.a).1⟩
/-- What is told when the mark becomes m. -/
def told (agg m : Int) (l : List Pn) : List Rc := (tsort (l.filter (due m))).map (rcd agg)
def rest (m : Int) (l : List Pn) : List Pn := l.filter fun x => !due m x
/-- The panes of a record's value. -/
def raws (k s l : Int) (key : Ky) (t v : Int) : List Pn := (ofS k s l t).map fun sp => ⟨key, sp.1, sp.2, Ag.one v⟩
def I64 (z : Int) : Prop := -9223372036854775808 ≤ z ∧ z ≤ 9223372036854775807
theorem raws_mem {k s l t v : Int} {key : Ky} (hw : okW k s l = true) (ht : okT t = true) {p : Pn} (hp : p ∈ raws k s l key t v) : p.k = key ∧ p.f ≤ t ∧ t < p.t ∧ p.t = p.f + s ∧ -1000000 ≤ p.f ∧ p.a = Ag.one v := by
  obtain ⟨sp, hsp, rfl⟩ := List.mem_map.1 hp
  obtain ⟨i, hi, rfl⟩ := List.getElem_of_mem hsp
  obtain ⟨h1, h2, h3, h4⟩ := (cov_of hw ht rfl).at_ i _ (List.getElem?_eq_getElem hi)
  exact ⟨rfl, h1, h2, h3, h4, rfl⟩
theorem raws_put {k s l t v : Int} {key : Ky} (hw : okW k s l = true) (ht : okT t = true) (hv : I64 v) : ∀ p ∈ raws k s l key t v, Put (decide (k = 3)) s p := fun p hp => by
  obtain ⟨h1, h2, h3, h4, h5, h6⟩ := raws_mem hw ht hp
  exact ⟨by omega, fun _ => h4, by rw [h6]; exact Int.le_refl _, by unfold Nrm; rw [h6]; exact wr_in hv⟩
theorem raws_len (k s l : Int) (key : Ky) (t v : Int) : csum (raws k s l key t v) = ((ofS k s l t).length : Int) := by
  unfold raws
  induction ofS k s l t with
  | nil => rfl
  | cons x r ih =>
    rw [List.map_cons, csum_cons, ih, List.length_cons]
    show (1 : Int) + _ = _
    omega
theorem raws_sum (k s l : Int) (key : Ky) (t v : Int) : ssum (raws k s l key t v) = ((ofS k s l t).length : Int) * v := by
  unfold raws
  induction ofS k s l t with
  | nil => show (0 : Int) = 0 * v; rw [Int.zero_mul]
  | cons x r ih =>
    rw [List.map_cons, ssum_cons, ih, List.length_cons]
    show v + _ = ((r.length + 1 : Nat) : Int) * v
    rw [Int.natCast_add, Int.add_mul]
    show v + _ = _ + 1 * v
    omega
/-- A keep as it may be: its panes and its mark. -/
structure Inv (k s : Int) (l : List Pn) (m : Int) : Prop where
  good : Good (decide (k = 3)) s l
  pos : Pos l
  nrm : ∀ x ∈ l, Nrm x
  live : ∀ x ∈ l, due m x = false
  lo : 0 ≤ m
  hi : m ≤ 1000000001
theorem Inv.nil (k s : Int) : Inv k s [] 0 := ⟨Good.nil _ _, (fun x h => by cases h), (fun x h => by cases h), (fun x h => by cases h), by omega, by omega⟩
theorem kins_keep {ses : Bool} {sz m : Int} {l : List Pn} {p : Pn} (hl : Pos l) (hn : ∀ x ∈ l, Nrm x) (hv : ∀ x ∈ l, due m x = false) (hp : Put ses sz p) (hd : due m p = false) (hm : p.a.c + csum l ≤ 1000000000) : (∀ x ∈ kins ses l p, Nrm x) ∧ ∀ x ∈ kins ses l p, due m x = false := by
  refine ⟨fun x hx => ?_, fun x hx => ?_⟩
  · rcases kins_mem.1 hx with rfl | ⟨hx, -⟩
    · have := (isM_mrg (l.filter (one ses p)) p (hl.filter _) hp.pos hp.nrm (by have := csum_filter_le hl (one ses p); omega)).s
      unfold Nrm
      rw [this]; exact wr_wr _
    · exact hn x hx
  · rcases kins_mem.1 hx with rfl | ⟨hx, -⟩
    · rw [due_no] at hd ⊢
      have := (mrg_t_ge (l.filter (one ses p)) p).1
      exact ⟨by omega, hd.2⟩
    · exact hv x hx
theorem kall_keep {ses : Bool} {sz m : Int} : ∀ (ps : List Pn) {l : List Pn}, Pos l → (∀ x ∈ l, Nrm x) → (∀ x ∈ l, due m x = false) → (∀ p ∈ ps, Put ses sz p) → (∀ p ∈ ps, due m p = false) → csum ps + csum l ≤ 1000000000 → (∀ x ∈ kall ses l ps, Nrm x) ∧ ∀ x ∈ kall ses l ps, due m x = false
  | [], l, _, hn, hv, _, _, _ => ⟨hn, hv⟩
  | p :: ps, l, hl, hn, hv, hp, hd, hm => by
    have hpp := hp p (by simp)
    have hps : ∀ q ∈ ps, Put ses sz q := fun q hq => hp q (List.mem_cons_of_mem _ hq)
    have hc : 0 ≤ csum ps := Pos.csum (fun q hq => (hps q hq).pos)
    rw [csum_cons] at hm
    obtain ⟨c1, c2, -⟩ := csum_kins (ses := ses) (l := l) (p := p) hl hpp.pos (by omega)
    obtain ⟨n1, n2⟩ := kins_keep hl hn hv hpp (hd p (by simp)) (by omega)
    rw [kall_cons]
    exact kall_keep ps c2 n1 n2 hps (fun q hq => hd q (List.mem_cons_of_mem _ hq)) (by omega)
/-- A record put that isn't late. -/
theorem Inv.put {k s l t v m : Int} {key : Ky} {ps : List Pn} (h : Inv k s ps m) (hw : okW k s l = true) (ht : okT t = true) (hv : I64 v) (hlate : m ≤ t) (hm : ((ofS k s l t).length : Int) + csum ps ≤ 1000000000) :
    Inv k s (kall (decide (k = 3)) ps (raws k s l key t v)) m ∧ csum (kall (decide (k = 3)) ps (raws k s l key t v)) = ((ofS k s l t).length : Int) + csum ps ∧ wr (ssum (kall (decide (k = 3)) ps (raws k s l key t v))) = wr (((ofS k s l t).length : Int) * v + ssum ps) := by
  have hp := raws_put (key := key) hw ht hv
  have hc : csum (raws k s l key t v) + csum ps ≤ 1000000000 := by rw [raws_len]; exact hm
  obtain ⟨t0, t1⟩ := okT_is ht
  have hd : ∀ p ∈ raws k s l key t v, due m p = false := fun p hp => by
    obtain ⟨-, -, h3, -⟩ := raws_mem hw ht hp
    exact due_no.2 ⟨by omega, by omega⟩
  obtain ⟨g1, g2, g3, g4⟩ := kall_is _ h.good h.pos hp hc
  obtain ⟨n1, n2⟩ := kall_keep (m := m) _ h.pos h.nrm h.live hp hd hc
  exact ⟨⟨g1, g2, n1, n2, h.lo, h.hi⟩, by rw [g3, raws_len], by rw [g4, raws_sum]⟩
theorem Inv.mark {k s m m' : Int} {ps : List Pn} (h : Inv k s ps m) (hm : m < m') (hi : m' ≤ 1000000001) : Inv k s (rest m' ps) m' :=
  ⟨h.good.filter _, h.pos.filter _, fun x hx => h.nrm x (mem_fil hx), fun x hx => by have := (List.mem_filter.1 hx).2; simpa using this, by have := h.lo; omega, hi⟩
/-- At the last mark nothing is left. -/
theorem Inv.over {k s : Int} {ps : List Pn} (h : Inv k s ps 1000000001) : ps = [] := by
  cases ps with
  | nil => rfl
  | cons x r => exact absurd rfl (due_no.1 (h.live x (by simp))).2
theorem told_mem {agg m : Int} {ps : List Pn} {r : Rc} (h : r ∈ told agg m ps) : ∃ x ∈ ps, due m x = true ∧ r = rcd agg x := by
  obtain ⟨x, hx, rfl⟩ := List.mem_map.1 h
  obtain ⟨h1, h2⟩ := List.mem_filter.1 ((tsort_perm _).mem_iff.1 hx)
  exact ⟨x, h1, h2, rfl⟩
theorem told_time {k s agg m m' : Int} {ps : List Pn} (h : Inv k s ps m) (hm : m < m') {r : Rc} (hr : r ∈ told agg m' ps) (hi : m' ≤ 1000000001) : m ≤ r.t ∧ r.t < m' := by
  obtain ⟨x, hx, hd, rfl⟩ := told_mem hr
  obtain ⟨h1, h2⟩ := due_no.1 (h.live x hx)
  have := h.hi
  unfold rcd
  simp only
  rcases due_yes.1 hd with e | e <;> exact ⟨by omega, by omega⟩
theorem told_sorted {agg m : Int} {ps : List Pn} (h : Sd ps) : (told agg m ps).Pairwise fun a b => a.t ≤ b.t := by
  unfold told
  rw [List.pairwise_map]
  refine (tsort_td (h.filter _)).imp (fun {x y} hxy => ?_)
  unfold rcd
  simp only
  rcases hxy with e | ⟨e, -⟩ <;> omega
def vsum (l : List Rc) : Int := l.foldr (fun r s => r.v + s) 0
theorem vsum_perm {l m : List Rc} (h : l.Perm m) : vsum l = vsum m := by
  induction h with
  | nil => rfl
  | cons x _ ih => show x.v + vsum _ = x.v + vsum _; rw [ih]
  | swap x y l => show y.v + (x.v + vsum l) = x.v + (y.v + vsum l); omega
  | trans _ _ h1 h2 => exact h1.trans h2
theorem told_count {m : Int} {ps : List Pn} (h : Pos ps) : vsum (told 1 m ps) = csum (ps.filter (due m)) := by
  unfold told
  rw [vsum_perm ((tsort_perm _).map _)]
  have hp := h.filter (due m)
  generalize ps.filter (due m) = l at hp
  induction l with
  | nil => rfl
  | cons x r ih =>
    have hx := hp x (by simp)
    show (vl 1 x.a).1 + vsum (r.map (rcd 1)) = x.a.c + csum r
    rw [ih (fun y hy => hp y (List.mem_cons_of_mem _ hy))]
    unfold vl
    rw [if_neg (by omega), if_neg (by omega), if_pos rfl]
theorem told_sum {m : Int} {ps : List Pn} (h : Pos ps) : vsum (told 2 m ps) = ssum (ps.filter (due m)) := by
  unfold told
  rw [vsum_perm ((tsort_perm _).map _)]
  have hp := h.filter (due m)
  generalize ps.filter (due m) = l at hp
  induction l with
  | nil => rfl
  | cons x r ih =>
    have hx := hp x (by simp)
    show (vl 2 x.a).1 + vsum (r.map (rcd 2)) = x.a.s + ssum r
    rw [ih (fun y hy => hp y (List.mem_cons_of_mem _ hy))]
    unfold vl
    rw [if_neg (by omega), if_neg (by omega), if_neg (by omega), if_pos rfl]
theorem split_count (m : Int) (ps : List Pn) : csum ps = csum (ps.filter (due m)) + csum (rest m ps) := csum_split (due m) ps
theorem split_sum (m : Int) (ps : List Pn) : ssum ps = ssum (ps.filter (due m)) + ssum (rest m ps) := ssum_split (due m) ps
/-- No two told ones of a key have one time but the last. -/
theorem told_apart {s agg m : Int} {ps : List Pn} (h : Good false s ps) : (told agg m ps).Pairwise fun a b => a.k = b.k → a.t = b.t → a.t = 1000000000 := by
  unfold told
  rw [List.pairwise_map]
  have hmem : ∀ x ∈ tsort (ps.filter (due m)), x ∈ ps := fun x hx => mem_fil ((tsort_perm _).mem_iff.1 hx)
  refine (List.Pairwise.and_mem.1 (tsort_td (h.sd.filter (due m)))).imp (fun {x y} hxy => ?_)
  obtain ⟨hx, hy, hlt⟩ := hxy
  have sx := h.size rfl x (hmem x hx)
  have sy := h.size rfl y (hmem y hy)
  unfold rcd
  simp only
  intro hk ht
  by_cases e : x.t = y.t
  · exfalso
    rcases hlt with q | ⟨-, q | ⟨-, q⟩⟩
    · omega
    · rw [hk] at q; exact ky_irr _ q
    · omega
  · omega
/-- Keys that a test tells apart. -/
theorem kall_filter {ses : Bool} {sz : Int} (P : Ky → Bool) : ∀ (ps : List Pn) {l : List Pn}, Good ses sz l → Pos l → (∀ p ∈ ps, Put ses sz p) → csum ps + csum l ≤ 1000000000 → (kall ses l ps).filter (fun x => P x.k) = kall ses (l.filter fun x => P x.k) (ps.filter fun x => P x.k)
  | [], l, _, _, _, _ => rfl
  | p :: ps, l, h, hl, hp, hm => by
    have hpp := hp p (by simp)
    have hps : ∀ q ∈ ps, Put ses sz q := fun q hq => hp q (List.mem_cons_of_mem _ hq)
    have hc : 0 ≤ csum ps := Pos.csum (fun q hq => (hps q hq).pos)
    rw [csum_cons] at hm
    obtain ⟨c1, c2, -⟩ := csum_kins (ses := ses) (l := l) (p := p) hl hpp.pos (by omega)
    rw [kall_cons, kall_filter P ps (kins_good h hpp.full hpp.size) c2 hps (by omega), kins_filter h hpp.full hpp.size P]
    by_cases hP : P p.k = true
    · rw [if_pos hP, List.filter_cons, if_pos hP, kall_cons]
    · rw [if_neg hP, List.filter_cons, if_neg hP]
theorem raws_filter (k s l : Int) (key : Ky) (t v : Int) (P : Ky → Bool) : (raws k s l key t v).filter (fun x => P x.k) = if P key = true then raws k s l key t v else [] := by
  have hk : ∀ p ∈ raws k s l key t v, p.k = key := fun p hp => by
    obtain ⟨sp, -, rfl⟩ := List.mem_map.1 hp; rfl
  split
  · rename_i h
    exact List.filter_eq_self.2 (fun p hp => by rw [hk p hp]; exact h)
  · rename_i h
    exact List.filter_eq_nil_iff.2 (fun p hp => by rw [hk p hp]; exact h)
theorem told_filter {agg m : Int} {ps : List Pn} (h : Sd ps) (P : Ky → Bool) : (told agg m ps).filter (fun r => P r.k) = told agg m (ps.filter fun x => P x.k) := by
  unfold told
  rw [List.filter_map]
  congr 1
  rw [List.filter_filter, ← tsort_filter (h.filter _)]
  congr 1
  rw [List.filter_filter]
  apply List.filter_congr
  intro x _
  exact Bool.and_comm _ _
theorem rest_filter (m : Int) (ps : List Pn) (P : Ky → Bool) : (rest m ps).filter (fun x => P x.k) = rest m (ps.filter fun x => P x.k) := by
  unfold rest
  rw [List.filter_filter, List.filter_filter]
  apply List.filter_congr
  intro x _
  exact Bool.and_comm _ _
end Go.Proofs.Ytlmnkmfpdjkijaa.Ke
