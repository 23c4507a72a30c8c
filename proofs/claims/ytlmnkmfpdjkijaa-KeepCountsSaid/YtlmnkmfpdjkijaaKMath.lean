/-
  Layer 11 in mathematics: open windows by key: rows of panes sorted by key and beginning, a pane put among them, merged with those of its key that it meets. Conditions: none but those that each theorem names; nothing of a program.
-/
import Derived.Test.YtlmnkmfpdjkijaaAMath
import Derived.Test.YtlmnkmfpdjkijaaWMath
namespace Go.Proofs.Ytlmnkmfpdjkijaa.Ke
set_option linter.unusedVariables false
set_option linter.unusedSimpArgs false
open Go.Proofs.Ytlmnkmfpdjkijaa.Ag (Ac jn vl wr wr_in wr_add wr_add2 ac_ext)
open Go.Proofs.Ytlmnkmfpdjkijaa.Wi (Sp share share_iff)

abbrev Ky := List UInt8
/-- A pane: its key, its span, what is kept. -/
structure Pn where
  k : Ky
  f : Int
  t : Int
  a : Ac
theorem ky_tri (x y : Ky) : x < y ∨ x = y ∨ y < x := by
  rcases Classical.em (x < y) with h | h
  · exact .inl h
  · rcases Classical.em (y < x) with h' | h'
    · exact .inr (.inr h')
    · exact .inr (.inl (List.le_antisymm (List.not_lt.1 h') (List.not_lt.1 h)))
theorem ky_irr (x : Ky) : ¬ x < x := List.lt_irrefl x
theorem ky_tr {x y z : Ky} (h : x < y) (k : y < z) : x < z := List.lt_trans h k
def plt (x y : Pn) : Prop := x.k < y.k ∨ (x.k = y.k ∧ x.f < y.f)
instance (x y : Pn) : Decidable (plt x y) := by unfold plt; infer_instance
theorem plt_irr (x : Pn) : ¬ plt x x := by
  rintro (h | ⟨-, h⟩)
  · exact ky_irr _ h
  · omega
theorem plt_tr {x y z : Pn} (h : plt x y) (k : plt y z) : plt x z := by
  rcases h with h | ⟨h1, h2⟩
  · rcases k with k | ⟨k1, k2⟩
    · exact .inl (ky_tr h k)
    · exact .inl (by rw [← k1]; exact h)
  · rcases k with k | ⟨k1, k2⟩
    · exact .inl (by rw [h1]; exact k)
    · exact .inr ⟨h1.trans k1, by omega⟩
theorem plt_asy {x y : Pn} (h : plt x y) (k : plt y x) : False := plt_irr x (plt_tr h k)
/-- Sorted. -/
def Sd (l : List Pn) : Prop := l.Pairwise plt
theorem sd_nil : Sd [] := List.Pairwise.nil
theorem Sd.filter {l : List Pn} (h : Sd l) (p : Pn → Bool) : Sd (l.filter p) := List.Pairwise.filter p h
/-- There is one sorted row of the same panes. -/
theorem sd_uniq : ∀ {l m : List Pn}, Sd l → Sd m → (∀ x, x ∈ l ↔ x ∈ m) → l = m
  | [], [], _, _, _ => rfl
  | [], y :: m, _, _, h => by have := (h y).2 (by simp); simp at this
  | x :: l, [], _, _, h => by have := (h x).1 (by simp); simp at this
  | x :: l, y :: m, hl, hm, h => by
    obtain ⟨h1, h2⟩ := List.pairwise_cons.1 hl
    obtain ⟨k1, k2⟩ := List.pairwise_cons.1 hm
    have hxy : x = y := by
      rcases List.mem_cons.1 ((h x).1 (by simp)) with e | e
      · exact e
      · rcases List.mem_cons.1 ((h y).2 (by simp)) with e' | e'
        · exact e'.symm
        · exact absurd (k1 x e) (fun q => plt_asy q (h1 y e'))
    subst hxy
    rw [sd_uniq h2 k2 (fun z => ?_)]
    constructor
    · intro hz
      rcases List.mem_cons.1 ((h z).1 (List.mem_cons_of_mem _ hz)) with e | e
      · subst e; exact absurd (h1 z hz) (plt_irr z)
      · exact e
    · intro hz
      rcases List.mem_cons.1 ((h z).2 (List.mem_cons_of_mem _ hz)) with e | e
      · subst e; exact absurd (k1 z hz) (plt_irr z)
      · exact e
/-- Put at its place. -/
def ins : List Pn → Pn → List Pn
  | [], p => [p]
  | x :: r, p => if plt x p then x :: ins r p else p :: x :: r
theorem ins_mem {p y : Pn} : ∀ {l : List Pn}, y ∈ ins l p ↔ y = p ∨ y ∈ l
  | [] => by simp [ins]
  | x :: r => by
    unfold ins
    split
    · rw [List.mem_cons, ins_mem (l := r), List.mem_cons]
      constructor
      · rintro (h | h | h)
        · exact .inr (.inl h)
        · exact .inl h
        · exact .inr (.inr h)
      · rintro (h | h | h)
        · exact .inr (.inl h)
        · exact .inl h
        · exact .inr (.inr h)
    · simp
theorem ins_sd {p : Pn} : ∀ {l : List Pn}, Sd l → (∀ x ∈ l, plt x p ∨ plt p x) → Sd (ins l p)
  | [], _, _ => List.pairwise_singleton _ _
  | x :: r, h, hp => by
    obtain ⟨h1, h2⟩ := List.pairwise_cons.1 h
    unfold ins
    split
    · rename_i hx
      refine List.pairwise_cons.2 ⟨fun y hy => ?_, ins_sd h2 (fun z hz => hp z (List.mem_cons_of_mem _ hz))⟩
      rcases ins_mem.1 hy with rfl | hy
      · exact hx
      · exact h1 y hy
    · rename_i hx
      have hpx := (hp x (by simp)).resolve_left hx
      refine List.pairwise_cons.2 ⟨fun y hy => ?_, h⟩
      rcases List.mem_cons.1 hy with rfl | hy
      · exact hpx
      · exact plt_tr hpx (h1 y hy)
/-- Do two spans share a time? Is x one with p: of the same key, and of the same span or (sessions) sharing a time? -/
def shr (x y : Pn) : Bool := decide (x.f < y.t) && decide (y.f < x.t)
def one (ses : Bool) (p x : Pn) : Bool := decide (x.k = p.k) && ((decide (x.f = p.f) && decide (x.t = p.t)) || (ses && shr x p))
theorem one_iff {ses : Bool} {p x : Pn} : one ses p x = true ↔ x.k = p.k ∧ ((x.f = p.f ∧ x.t = p.t) ∨ (ses = true ∧ x.f < p.t ∧ p.f < x.t)) := by
  simp [one, shr]
/-- All of them made one. -/
def mrg (p : Pn) (l : List Pn) : Pn := l.foldl (fun p x => ⟨p.k, min p.f x.f, max p.t x.t, jn x.a p.a⟩) p
theorem mrg_cons (p x : Pn) (l : List Pn) : mrg p (x :: l) = mrg ⟨p.k, min p.f x.f, max p.t x.t, jn x.a p.a⟩ l := rfl
theorem mrg_k : ∀ (l : List Pn) (p : Pn), (mrg p l).k = p.k
  | [], p => rfl
  | x :: r, p => by rw [mrg_cons, mrg_k r]
theorem mrg_f_le : ∀ (l : List Pn) (p : Pn), (mrg p l).f ≤ p.f ∧ ∀ x ∈ l, (mrg p l).f ≤ x.f
  | [], p => ⟨Int.le_refl _, fun x h => by cases h⟩
  | y :: r, p => by
    obtain ⟨h1, h2⟩ := mrg_f_le r ⟨p.k, min p.f y.f, max p.t y.t, jn y.a p.a⟩
    rw [mrg_cons]
    simp only at h1
    refine ⟨by omega, fun x hx => ?_⟩
    rcases List.mem_cons.1 hx with rfl | hx
    · omega
    · exact h2 x hx
theorem mrg_t_ge : ∀ (l : List Pn) (p : Pn), p.t ≤ (mrg p l).t ∧ ∀ x ∈ l, x.t ≤ (mrg p l).t
  | [], p => ⟨Int.le_refl _, fun x h => by cases h⟩
  | y :: r, p => by
    obtain ⟨h1, h2⟩ := mrg_t_ge r ⟨p.k, min p.f y.f, max p.t y.t, jn y.a p.a⟩
    rw [mrg_cons]
    simp only at h1
    refine ⟨by omega, fun x hx => ?_⟩
    rcases List.mem_cons.1 hx with rfl | hx
    · omega
    · exact h2 x hx
theorem mrg_f_is : ∀ (l : List Pn) (p : Pn), (mrg p l).f = p.f ∨ ∃ x ∈ l, (mrg p l).f = x.f
  | [], p => .inl rfl
  | y :: r, p => by
    rw [mrg_cons]
    rcases mrg_f_is r ⟨p.k, min p.f y.f, max p.t y.t, jn y.a p.a⟩ with h | ⟨x, hx, h⟩
    · simp only at h
      rcases Int.le_total p.f y.f with e | e
      · exact .inl (by omega)
      · exact .inr ⟨y, by simp, by omega⟩
    · exact .inr ⟨x, List.mem_cons_of_mem _ hx, h⟩
theorem mrg_t_is : ∀ (l : List Pn) (p : Pn), (mrg p l).t = p.t ∨ ∃ x ∈ l, (mrg p l).t = x.t
  | [], p => .inl rfl
  | y :: r, p => by
    rw [mrg_cons]
    rcases mrg_t_is r ⟨p.k, min p.f y.f, max p.t y.t, jn y.a p.a⟩ with h | ⟨x, hx, h⟩
    · simp only at h
      rcases Int.le_total y.t p.t with e | e
      · exact .inl (by omega)
      · exact .inr ⟨y, by simp, by omega⟩
    · exact .inr ⟨x, List.mem_cons_of_mem _ hx, h⟩
/-- A pane put among others. -/
def kins (ses : Bool) (l : List Pn) (p : Pn) : List Pn := ins (l.filter fun x => !one ses p x) (mrg p (l.filter (one ses p)))
theorem mem_fil {p : Pn → Bool} {x : Pn} {l : List Pn} (h : x ∈ l.filter p) : x ∈ l := (List.mem_filter.1 h).1
/-- Panes as they may be: sorted; in sessions those of a key share no time; else all of one size. -/
structure Good (ses : Bool) (sz : Int) (l : List Pn) : Prop where
  sd : Sd l
  full : ∀ x ∈ l, x.f < x.t
  apart : ses = true → ∀ x ∈ l, ∀ y ∈ l, x.k = y.k → plt x y → x.t ≤ y.f
  size : ses = false → ∀ x ∈ l, x.t = x.f + sz
theorem Good.nil (ses : Bool) (sz : Int) : Good ses sz [] := ⟨sd_nil, (fun x h => by cases h), (fun _ x h => by cases h), (fun _ x h => by cases h)⟩
theorem Good.filter {ses : Bool} {sz : Int} {l : List Pn} (h : Good ses sz l) (p : Pn → Bool) : Good ses sz (l.filter p) :=
  ⟨h.sd.filter p, fun x hx => h.full x (mem_fil hx), fun e x hx y hy => h.apart e x (mem_fil hx) y (mem_fil hy), fun e x hx => h.size e x (mem_fil hx)⟩
theorem Good.disj {sz : Int} {l : List Pn} (h : Good true sz l) {x y : Pn} (hx : x ∈ l) (hy : y ∈ l) (hk : x.k = y.k) (hne : x ≠ y) : x.t ≤ y.f ∨ y.t ≤ x.f := by
  have hp : plt x y ∨ plt y x := by
    by_cases e : x.f = y.f
    · exfalso
      have hs := h.sd
      obtain ⟨i, hi, rfl⟩ := List.getElem_of_mem hx
      obtain ⟨j, hj, rfl⟩ := List.getElem_of_mem hy
      rcases Nat.lt_trichotomy i j with q | q | q
      · rcases List.pairwise_iff_getElem.1 hs i j hi hj q with r | ⟨-, r⟩
        · rw [hk] at r; exact ky_irr _ r
        · omega
      · subst q; exact hne rfl
      · rcases List.pairwise_iff_getElem.1 hs j i hj hi q with r | ⟨-, r⟩
        · rw [hk] at r; exact ky_irr _ r
        · omega
    · rcases Int.lt_or_gt_of_ne e with e | e
      · exact .inl (.inr ⟨hk, e⟩)
      · exact .inr (.inr ⟨hk.symm, e⟩)
  rcases hp with hp | hp
  · exact .inl (h.apart rfl x hx y hy hk hp)
  · exact .inr (h.apart rfl y hy x hx hk.symm hp)
theorem mem_rest {ses : Bool} {p x : Pn} {l : List Pn} : x ∈ l.filter (fun x => !one ses p x) ↔ x ∈ l ∧ one ses p x = false := by
  rw [List.mem_filter]; simp
theorem mem_hit {ses : Bool} {p x : Pn} {l : List Pn} : x ∈ l.filter (one ses p) ↔ x ∈ l ∧ one ses p x = true := List.mem_filter
/-- In sessions: what isn't hit lies apart from all that is. -/
theorem rest_apart {sz : Int} {l : List Pn} {p x : Pn} (h : Good true sz l) (hp : p.f < p.t) (hx : x ∈ l) (hk : x.k = p.k) (ho : one true p x = false) : x.t ≤ (mrg p (l.filter (one true p))).f ∨ (mrg p (l.filter (one true p))).t ≤ x.f := by
  have hxf := h.full x hx
  have hno : ¬ (x.f < p.t ∧ p.f < x.t) := fun e => by
    have := one_iff (ses := true) (p := p) (x := x)
    rw [ho] at this
    exact absurd (this.2 ⟨hk, .inr ⟨rfl, e⟩⟩) (by simp)
  have hd : ∀ y ∈ l.filter (one true p), y.f < p.t ∧ p.f < y.t ∧ y.f < y.t ∧ (x.t ≤ y.f ∨ y.t ≤ x.f) := fun y hy => by
    obtain ⟨hy1, hy2⟩ := mem_hit.1 hy
    obtain ⟨k1, k2⟩ := one_iff.1 hy2
    have hyf := h.full y hy1
    have hne : x ≠ y := fun e => by rw [e, hy2] at ho; simp at ho
    have := h.disj hx hy1 (hk.trans k1.symm) hne
    rcases k2 with ⟨k3, k4⟩ | ⟨-, k3, k4⟩
    · exact ⟨by omega, by omega, hyf, this⟩
    · exact ⟨k3, k4, hyf, this⟩
  rcases Int.le_total x.t p.f with hxp | hxp
  · left
    rcases mrg_f_is (l.filter (one true p)) p with e | ⟨y, hy, e⟩
    · omega
    · have := hd y hy; omega
  · by_cases hq : x.t = p.f
    · left
      rcases mrg_f_is (l.filter (one true p)) p with e | ⟨y, hy, e⟩
      · omega
      · have := hd y hy; omega
    · right
      have hxp2 : p.t ≤ x.f := by omega
      rcases mrg_t_is (l.filter (one true p)) p with e | ⟨y, hy, e⟩
      · omega
      · have := hd y hy; omega
theorem mrg_same {sz : Int} {l : List Pn} {p : Pn} : (mrg p (l.filter (one false p))).f = p.f ∧ (mrg p (l.filter (one false p))).t = p.t := by
  constructor
  · rcases mrg_f_is (l.filter (one false p)) p with e | ⟨y, hy, e⟩
    · exact e
    · obtain ⟨-, h⟩ := mem_hit.1 hy
      have := (one_iff.1 h).2
      simp at this
      omega
  · rcases mrg_t_is (l.filter (one false p)) p with e | ⟨y, hy, e⟩
    · exact e
    · obtain ⟨-, h⟩ := mem_hit.1 hy
      have := (one_iff.1 h).2
      simp at this
      omega
theorem mrg_full {l : List Pn} {p : Pn} (hp : p.f < p.t) : (mrg p l).f < (mrg p l).t := by
  have h1 := (mrg_f_le l p).1
  have h2 := (mrg_t_ge l p).1
  omega
theorem kins_mem {ses : Bool} {l : List Pn} {p y : Pn} : y ∈ kins ses l p ↔ y = mrg p (l.filter (one ses p)) ∨ (y ∈ l ∧ one ses p y = false) := by
  unfold kins
  rw [ins_mem, mem_rest]
/-- A pane that is put lies well among the others. -/
theorem rest_plt {ses : Bool} {sz : Int} {l : List Pn} {p : Pn} (h : Good ses sz l) (hp : p.f < p.t) (hz : ses = false → p.t = p.f + sz) : ∀ x ∈ l.filter (fun x => !one ses p x), plt x (mrg p (l.filter (one ses p))) ∨ plt (mrg p (l.filter (one ses p))) x := fun x hx => by
  obtain ⟨h1, h2⟩ := mem_rest.1 hx
  rcases ky_tri x.k p.k with e | e | e
  · exact .inl (.inl (by rw [mrg_k]; exact e))
  · cases ses with
    | true =>
      have hxf := h.full x h1
      have hm := mrg_full (l := l.filter (one true p)) hp
      rcases rest_apart h hp h1 e h2 with q | q
      · exact .inl (.inr ⟨by rw [mrg_k]; exact e, by omega⟩)
      · exact .inr (.inr ⟨by rw [mrg_k]; exact e.symm, by omega⟩)
    | false =>
      have hs := h.size rfl x h1
      have hs2 := hz rfl
      have hmf := (mrg_same (sz := sz) (l := l) (p := p)).1
      have hne : x.f ≠ p.f := fun q => by
        have := one_iff (ses := false) (p := p) (x := x)
        rw [h2] at this
        exact absurd (this.2 ⟨e, .inl ⟨q, by omega⟩⟩) (by simp)
      rcases Int.lt_or_gt_of_ne hne with q | q
      · exact .inl (.inr ⟨by rw [mrg_k]; exact e, by omega⟩)
      · exact .inr (.inr ⟨by rw [mrg_k]; exact e.symm, by omega⟩)
  · exact .inr (.inl (by rw [mrg_k]; exact e))
theorem kins_good {ses : Bool} {sz : Int} {l : List Pn} {p : Pn} (h : Good ses sz l) (hp : p.f < p.t) (hz : ses = false → p.t = p.f + sz) : Good ses sz (kins ses l p) := by
  refine ⟨ins_sd (h.sd.filter _) (rest_plt h hp hz), fun x hx => ?_, fun e x hx y hy hk hlt => ?_, fun e x hx => ?_⟩
  · rcases kins_mem.1 hx with rfl | ⟨hx, -⟩
    · exact mrg_full hp
    · exact h.full x hx
  · subst e
    rcases kins_mem.1 hx with rfl | ⟨hx, ox⟩
    · rcases kins_mem.1 hy with rfl | ⟨hy, oy⟩
      · exact absurd hlt (plt_irr _)
      · rw [mrg_k] at hk
        have hyf := h.full y hy
        have hm := mrg_full (l := l.filter (one true p)) hp
        rcases rest_apart h hp hy hk.symm oy with q | q
        · rcases hlt with r | ⟨-, r⟩
          · rw [mrg_k, hk] at r; exact absurd r (ky_irr _)
          · omega
        · exact q
    · rcases kins_mem.1 hy with rfl | ⟨hy, oy⟩
      · rw [mrg_k] at hk
        have hxf := h.full x hx
        have hm := mrg_full (l := l.filter (one true p)) hp
        rcases rest_apart h hp hx hk ox with q | q
        · exact q
        · rcases hlt with r | ⟨-, r⟩
          · rw [mrg_k, hk] at r; exact absurd r (ky_irr _)
          · omega
      · exact h.apart rfl x hx y hy hk hlt
  · subst e
    rcases kins_mem.1 hx with rfl | ⟨hx, -⟩
    · rw [(mrg_same (sz := sz)).1, (mrg_same (sz := sz)).2]; exact hz rfl
    · exact h.size rfl x hx
/-- Keys that a test tells apart: what is put under such a key turns these alone. -/
theorem kins_filter {ses : Bool} {sz : Int} {l : List Pn} {p : Pn} (h : Good ses sz l) (hp : p.f < p.t) (hz : ses = false → p.t = p.f + sz) (P : Ky → Bool) :
    (kins ses l p).filter (fun x => P x.k) = if P p.k = true then kins ses (l.filter fun x => P x.k) p else l.filter fun x => P x.k := by
  have hg := kins_good h hp hz
  have hf := h.filter (fun x => P x.k)
  have hhit : P p.k = true → (l.filter fun x => P x.k).filter (one ses p) = l.filter (one ses p) := fun hP => by
    rw [List.filter_filter]
    apply List.filter_congr
    intro x _
    cases ho : one ses p x with
    | false => rfl
    | true => rw [(one_iff.1 ho).1, hP]; rfl
  split
  · rename_i hP
    refine sd_uniq (hg.sd.filter _) (kins_good hf hp hz).sd (fun x => ?_)
    rw [List.mem_filter, kins_mem, kins_mem, hhit hP, List.mem_filter]
    constructor
    · rintro ⟨h1 | ⟨h1, h2⟩, h3⟩
      · exact .inl h1
      · exact .inr ⟨⟨h1, h3⟩, h2⟩
    · rintro (h1 | ⟨⟨h1, h3⟩, h2⟩)
      · exact ⟨.inl h1, by rw [h1, mrg_k]; exact hP⟩
      · exact ⟨.inr ⟨h1, h2⟩, h3⟩
  · rename_i hP
    refine sd_uniq (hg.sd.filter _) hf.sd (fun x => ?_)
    rw [List.mem_filter, kins_mem, List.mem_filter]
    constructor
    · rintro ⟨h1 | ⟨h1, h2⟩, h3⟩
      · rw [h1, mrg_k] at h3; exact absurd h3 hP
      · exact ⟨h1, h3⟩
    · rintro ⟨h1, h3⟩
      refine ⟨.inr ⟨h1, ?_⟩, h3⟩
      cases ho : one ses p x with
      | false => rfl
      | true => rw [(one_iff.1 ho).1] at h3; exact absurd h3 hP
/-- How many values, and their sum. -/
def csum (l : List Pn) : Int := l.foldr (fun x s => x.a.c + s) 0
def ssum (l : List Pn) : Int := l.foldr (fun x s => x.a.s + s) 0
theorem csum_cons (x : Pn) (l : List Pn) : csum (x :: l) = x.a.c + csum l := rfl
theorem ssum_cons (x : Pn) (l : List Pn) : ssum (x :: l) = x.a.s + ssum l := rfl
theorem csum_ins (p : Pn) : ∀ l : List Pn, csum (ins l p) = p.a.c + csum l
  | [] => rfl
  | x :: r => by
    unfold ins
    split
    · rw [csum_cons, csum_ins p r, csum_cons]; omega
    · rfl
theorem ssum_ins (p : Pn) : ∀ l : List Pn, ssum (ins l p) = p.a.s + ssum l
  | [] => rfl
  | x :: r => by
    unfold ins
    split
    · rw [ssum_cons, ssum_ins p r, ssum_cons]; omega
    · rfl
theorem csum_split (P : Pn → Bool) : ∀ l : List Pn, csum l = csum (l.filter P) + csum (l.filter fun x => !P x)
  | [] => rfl
  | x :: r => by
    have := csum_split P r
    cases h : P x with
    | true => simp only [List.filter_cons, h, if_true, Bool.not_true, Bool.false_eq_true, if_false, csum_cons]; omega
    | false => simp only [List.filter_cons, h, if_true, Bool.not_false, Bool.false_eq_true, if_false, csum_cons]; omega
theorem ssum_split (P : Pn → Bool) : ∀ l : List Pn, ssum l = ssum (l.filter P) + ssum (l.filter fun x => !P x)
  | [] => rfl
  | x :: r => by
    have := ssum_split P r
    cases h : P x with
    | true => simp only [List.filter_cons, h, if_true, Bool.not_true, Bool.false_eq_true, if_false, ssum_cons]; omega
    | false => simp only [List.filter_cons, h, if_true, Bool.not_false, Bool.false_eq_true, if_false, ssum_cons]; omega
/-- Each holds a value at least. -/
def Pos (l : List Pn) : Prop := ∀ x ∈ l, 1 ≤ x.a.c
theorem Pos.csum {l : List Pn} (h : Pos l) : 0 ≤ csum l := by
  induction l with
  | nil => exact Int.le_refl _
  | cons x r ih =>
    have h1 := ih (fun y hy => h y (List.mem_cons_of_mem _ hy))
    have h2 := h x (by simp)
    rw [csum_cons]; omega
theorem Pos.filter {l : List Pn} (h : Pos l) (P : Pn → Bool) : Pos (l.filter P) := fun x hx => h x (mem_fil hx)
theorem jn_pos {a b : Ac} (ha : 1 ≤ a.c) (hb : 1 ≤ b.c) : jn a b = ⟨wr (a.c + b.c), wr (a.s + b.s), min a.mn b.mn, max a.mx b.mx⟩ := by
  unfold jn
  rw [if_neg (by omega), if_neg (by omega)]
theorem mrg_acc : ∀ (l : List Pn) (p : Pn), Pos l → 1 ≤ p.a.c → p.a.c + csum l ≤ 1000000000 → (mrg p l).a.c = p.a.c + csum l ∧ wr (mrg p l).a.s = wr (p.a.s + ssum l)
  | [], p, _, _, _ => ⟨by show p.a.c = p.a.c + 0; omega, by show wr p.a.s = wr (p.a.s + 0); rw [Int.add_zero]⟩
  | x :: r, p, h, hp, hm => by
    have hx := h x (by simp)
    have hr : Pos r := fun y hy => h y (List.mem_cons_of_mem _ hy)
    have hc := hr.csum
    rw [csum_cons] at hm
    have e : (jn x.a p.a).c = x.a.c + p.a.c := by rw [jn_pos hx hp]; exact wr_in (by omega)
    have e2 : (jn x.a p.a).s = wr (x.a.s + p.a.s) := by rw [jn_pos hx hp]
    obtain ⟨h1, h2⟩ := mrg_acc r ⟨p.k, min p.f x.f, max p.t x.t, jn x.a p.a⟩ hr (by simp only; omega) (by simp only; omega)
    rw [mrg_cons]
    simp only at h1 h2
    refine ⟨by rw [h1, e, csum_cons]; omega, ?_⟩
    rw [h2, e2, wr_add, ssum_cons]
    congr 1
    omega
theorem csum_kins {ses : Bool} {l : List Pn} {p : Pn} (h : Pos l) (hp : 1 ≤ p.a.c) (hm : p.a.c + csum l ≤ 1000000000) : csum (kins ses l p) = p.a.c + csum l ∧ Pos (kins ses l p) ∧ wr (ssum (kins ses l p)) = wr (p.a.s + ssum l) := by
  have hs := csum_split (one ses p) l
  have hs2 := ssum_split (one ses p) l
  have h1 := (h.filter (one ses p)).csum
  have h2 := (h.filter (fun x => !one ses p x)).csum
  obtain ⟨m1, m2⟩ := mrg_acc (l.filter (one ses p)) p (h.filter _) hp (by omega)
  refine ⟨?_, fun x hx => ?_, ?_⟩
  · unfold kins
    rw [csum_ins, m1]; omega
  · rcases kins_mem.1 hx with rfl | ⟨hx, -⟩
    · rw [m1]; omega
    · exact h x hx
  · unfold kins
    rw [ssum_ins, ← wr_add, m2, wr_add]
    congr 1
    omega
end Go.Proofs.Ytlmnkmfpdjkijaa.Ke
