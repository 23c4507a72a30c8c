/-
  Two panes put one behind the other: whichever comes first, the same panes lie there; so with any rows of panes that are the same but for their order. Conditions: each holds a value at least, all together no more than 1000000000.
-/
import Derived.Test.YtlmnkmfpdjkijaaKMath2
namespace Go.Proofs.Ytlmnkmfpdjkijaa.Ke
set_option linter.unusedVariables false
set_option linter.unusedSimpArgs false
open Go.Proofs.Ytlmnkmfpdjkijaa.Ag (Ac jn vl wr wr_in wr_add wr_add2 ac_ext)

theorem ins_perm (p : Pn) : ∀ l : List Pn, (ins l p).Perm (p :: l)
  | [] => List.Perm.refl _
  | x :: r => by
    unfold ins
    split
    · exact (List.Perm.cons x (ins_perm p r)).trans (List.Perm.swap p x r)
    · exact List.Perm.refl _
/-- A pane that may be put. -/
structure Put (ses : Bool) (sz : Int) (p : Pn) : Prop where
  full : p.f < p.t
  size : ses = false → p.t = p.f + sz
  pos : 1 ≤ p.a.c
  nrm : Nrm p
theorem one_symm {ses : Bool} {p q : Pn} : one ses p q = one ses q p := by
  rw [Bool.eq_iff_iff, one_iff, one_iff]
  constructor
  · rintro ⟨h1, ⟨h2, h3⟩ | ⟨h2, h3, h4⟩⟩
    · exact ⟨h1.symm, .inl ⟨h2.symm, h3.symm⟩⟩
    · exact ⟨h1.symm, .inr ⟨h2, h4, h3⟩⟩
  · rintro ⟨h1, ⟨h2, h3⟩ | ⟨h2, h3, h4⟩⟩
    · exact ⟨h1.symm, .inl ⟨h2.symm, h3.symm⟩⟩
    · exact ⟨h1.symm, .inr ⟨h2, h4, h3⟩⟩
/-- What is made of p meets q just if p does, or one of the panes that p meets. -/
theorem meet_iff {ses : Bool} {sz : Int} {l : List Pn} {p q : Pn} (h : Good ses sz l) (hp : Put ses sz p) (hq : Put ses sz q) : one ses q (mrg p (l.filter (one ses p))) = true ↔ one ses q p = true ∨ ∃ x ∈ l, one ses p x = true ∧ one ses q x = true := by
  rw [one_iff, mrg_k]
  have hqf := hq.full
  have hpf := hp.full
  cases ses with
  | false =>
    rw [(mrg_same (sz := sz)).1, (mrg_same (sz := sz)).2]
    constructor
    · rintro ⟨h1, h2⟩
      exact .inl (one_iff.2 ⟨h1, by simpa using h2⟩)
    · rintro (h1 | ⟨x, hx, h1, h2⟩)
      · exact ⟨(one_iff.1 h1).1, by simpa using (one_iff.1 h1).2⟩
      · obtain ⟨k1, k2⟩ := one_iff.1 h1
        obtain ⟨j1, j2⟩ := one_iff.1 h2
        simp at k2 j2
        exact ⟨k1.symm.trans j1, .inl ⟨by omega, by omega⟩⟩
  | true =>
    have m1 := mrg_f_le (l.filter (one true p)) p
    have m2 := mrg_t_ge (l.filter (one true p)) p
    have hh : ∀ y ∈ l.filter (one true p), y ∈ l ∧ y.k = p.k ∧ y.f < y.t ∧ y.f < p.t ∧ p.f < y.t ∧ one true p y = true := fun y hy => by
      obtain ⟨y1, y2⟩ := mem_hit.1 hy
      obtain ⟨k1, k2⟩ := one_iff.1 y2
      have := h.full y y1
      rcases k2 with ⟨k3, k4⟩ | ⟨-, k3, k4⟩
      · exact ⟨y1, k1, this, by omega, by omega, y2⟩
      · exact ⟨y1, k1, this, k3, k4, y2⟩
    constructor
    · rintro ⟨h1, h2⟩
      have h3 : (mrg p (l.filter (one true p))).f < q.t ∧ q.f < (mrg p (l.filter (one true p))).t := by
        have := mrg_full (l := l.filter (one true p)) hpf
        rcases h2 with ⟨k3, k4⟩ | ⟨-, k3, k4⟩
        · omega
        · exact ⟨k3, k4⟩
      by_cases hs : p.f < q.t ∧ q.f < p.t
      · exact .inl (one_iff.2 ⟨h1, .inr ⟨rfl, hs.1, hs.2⟩⟩)
      · right
        rcases Int.le_total p.t q.f with e | e
        · rcases mrg_t_is (l.filter (one true p)) p with e' | ⟨y, hy, e'⟩
          · omega
          · obtain ⟨y1, y2, y3, y4, y5, y6⟩ := hh y hy
            exact ⟨y, y1, y6, one_iff.2 ⟨y2.trans h1, .inr ⟨rfl, by omega, by omega⟩⟩⟩
        · by_cases hpq : p.t = q.f
          · rcases mrg_t_is (l.filter (one true p)) p with e' | ⟨y, hy, e'⟩
            · omega
            · obtain ⟨y1, y2, y3, y4, y5, y6⟩ := hh y hy
              exact ⟨y, y1, y6, one_iff.2 ⟨y2.trans h1, .inr ⟨rfl, by omega, by omega⟩⟩⟩
          · rcases mrg_f_is (l.filter (one true p)) p with e' | ⟨y, hy, e'⟩
            · omega
            · obtain ⟨y1, y2, y3, y4, y5, y6⟩ := hh y hy
              exact ⟨y, y1, y6, one_iff.2 ⟨y2.trans h1, .inr ⟨rfl, by omega, by omega⟩⟩⟩
    · rintro (h1 | ⟨x, hx, h1, h2⟩)
      · obtain ⟨k1, k2⟩ := one_iff.1 h1
        refine ⟨k1, .inr ⟨rfl, ?_⟩⟩
        have := m1.1
        have := m2.1
        rcases k2 with ⟨k3, k4⟩ | ⟨-, k3, k4⟩ <;> exact ⟨by omega, by omega⟩
      · obtain ⟨k1, k2⟩ := one_iff.1 h2
        have hxh := mem_hit.2 ⟨hx, h1⟩
        have a1 := m1.2 x hxh
        have a2 := m2.2 x hxh
        have hxf := h.full x hx
        refine ⟨(one_iff.1 h1).1.symm.trans k1, .inr ⟨rfl, ?_⟩⟩
        rcases k2 with ⟨k3, k4⟩ | ⟨-, k3, k4⟩ <;> exact ⟨by omega, by omega⟩
theorem csum_filter_le {l : List Pn} (h : Pos l) (P : Pn → Bool) : csum (l.filter P) ≤ csum l := by
  have h1 := csum_split P l
  have h2 := (h.filter (fun x => !P x)).csum
  omega
theorem comm_half {ses : Bool} {sz : Int} {l : List Pn} {p q : Pn} (h : Good ses sz l) (hl : Pos l) (hp : Put ses sz p) (hq : Put ses sz q) (hm : p.a.c + q.a.c + csum l ≤ 1000000000) {y : Pn} (hy : y ∈ kins ses (kins ses l p) q) : y ∈ kins ses (kins ses l q) p := by
  have gA := kins_good h hp.full hp.size
  have gB := kins_good h hq.full hq.size
  have pq := hp.pos
  have qq := hq.pos
  obtain ⟨cA, PA, -⟩ := csum_kins (ses := ses) (l := l) (p := p) hl hp.pos (by omega)
  obtain ⟨cB, PB, -⟩ := csum_kins (ses := ses) (l := l) (p := q) hl hq.pos (by omega)
  have hmeet := meet_iff h hp hq
  have hmeet2 := meet_iff h hq hp
  cases hI : one ses q (mrg p (l.filter (one ses p))) with
  | false =>
    have hno : ¬ (one ses q p = true ∨ ∃ x ∈ l, one ses p x = true ∧ one ses q x = true) := fun e => by
      have := hmeet.2 e; rw [hI] at this; exact absurd this (by simp)
    have hI2 : one ses p (mrg q (l.filter (one ses q))) = false := by
      cases e : one ses p (mrg q (l.filter (one ses q))) with
      | false => rfl
      | true =>
        exfalso
        rcases hmeet2.1 e with e' | ⟨x, hx, e1, e2⟩
        · exact hno (.inl (by rw [one_symm]; exact e'))
        · exact hno (.inr ⟨x, hx, e2, e1⟩)
    have fA : (kins ses l p).filter (one ses q) = l.filter (one ses q) := sd_uniq (gA.sd.filter _) (h.sd.filter _) (fun x => by
      rw [List.mem_filter, kins_mem, List.mem_filter]
      constructor
      · rintro ⟨rfl | ⟨h1, h2⟩, h3⟩
        · rw [hI] at h3; exact absurd h3 (by simp)
        · exact ⟨h1, h3⟩
      · rintro ⟨h1, h3⟩
        refine ⟨.inr ⟨h1, ?_⟩, h3⟩
        cases e : one ses p x with
        | false => rfl
        | true => exact absurd (.inr ⟨x, h1, e, h3⟩) hno)
    have fB : (kins ses l q).filter (one ses p) = l.filter (one ses p) := sd_uniq (gB.sd.filter _) (h.sd.filter _) (fun x => by
      rw [List.mem_filter, kins_mem, List.mem_filter]
      constructor
      · rintro ⟨rfl | ⟨h1, h2⟩, h3⟩
        · rw [hI2] at h3; exact absurd h3 (by simp)
        · exact ⟨h1, h3⟩
      · rintro ⟨h1, h3⟩
        refine ⟨.inr ⟨h1, ?_⟩, h3⟩
        cases e : one ses q x with
        | false => rfl
        | true => exact absurd (.inr ⟨x, h1, h3, e⟩) hno)
    rw [kins_mem, fA, kins_mem] at hy
    rw [kins_mem, fB, kins_mem]
    rcases hy with hy | ⟨hy | ⟨h1, h2⟩, h3⟩
    · exact .inr ⟨.inl hy, by rw [hy]; exact hI2⟩
    · exact .inl hy
    · exact .inr ⟨.inr ⟨h1, h3⟩, h2⟩
  | true =>
    have hI2 : one ses p (mrg q (l.filter (one ses q))) = true := hmeet2.2 (by
      rcases hmeet.1 hI with e' | ⟨x, hx, e1, e2⟩
      · exact .inl (by rw [one_symm]; exact e')
      · exact .inr ⟨x, hx, e2, e1⟩)
    have hk : p.k = q.k := by have := (one_iff.1 hI).1; rwa [mrg_k] at this
    rw [kins_mem] at hy
    rw [kins_mem]
    rcases hy with hy | ⟨hy, h3⟩
    · left
      have mp := isM_mrg (l.filter (one ses p)) p (hl.filter _) hp.pos hp.nrm (by have := csum_filter_le hl (one ses p); omega)
      have mq := isM_mrg (l.filter (one ses q)) q (hl.filter _) hq.pos hq.nrm (by have := csum_filter_le hl (one ses q); omega)
      have X := isM_mrg ((kins ses l p).filter (one ses q)) q (PA.filter _) hq.pos hq.nrm (by have := csum_filter_le PA (one ses q); omega)
      have Y := isM_mrg ((kins ses l q).filter (one ses p)) p (PB.filter _) hp.pos hp.nrm (by have := csum_filter_le PB (one ses p); omega)
      have permA : ((kins ses l p).filter (one ses q)).Perm (mrg p (l.filter (one ses p)) :: l.filter (fun x => one ses q x && !one ses p x)) := by
        unfold kins
        refine ((ins_perm _ _).filter _).trans ?_
        rw [List.filter_cons, if_pos hI, List.filter_filter]
      have permB : ((kins ses l q).filter (one ses p)).Perm (mrg q (l.filter (one ses q)) :: l.filter (fun x => one ses p x && !one ses q x)) := by
        unfold kins
        refine ((ins_perm _ _).filter _).trans ?_
        rw [List.filter_cons, if_pos hI2, List.filter_filter]
      have X1 := (X.perm ((List.Perm.cons q permA).trans (List.Perm.swap _ _ _))).flat mp
      have Y1 := (Y.perm ((List.Perm.cons p permB).trans (List.Perm.swap _ _ _))).flat mq
      have pX : ((p :: l.filter (one ses p)) ++ (q :: l.filter (fun x => one ses q x && !one ses p x))).Perm (p :: q :: l.filter fun x => one ses p x || one ses q x) := by
        rw [List.cons_append]
        refine List.Perm.cons p (List.perm_middle.trans (List.Perm.cons q ?_))
        exact perm_or (one ses p) (one ses q) l
      have pY : ((q :: l.filter (one ses q)) ++ (p :: l.filter (fun x => one ses p x && !one ses q x))).Perm (p :: q :: l.filter fun x => one ses p x || one ses q x) := by
        rw [List.cons_append]
        refine (List.Perm.cons q (List.perm_middle.trans (List.Perm.cons p ?_))).trans (List.Perm.swap _ _ _)
        refine (perm_or (one ses q) (one ses p) l).trans ?_
        rw [show (fun x => one ses q x || one ses p x) = (fun x => one ses p x || one ses q x) from funext fun x => Bool.or_comm _ _]
      rw [hy]
      exact (X1.perm pX).uniq (Y1.perm pY) (by rw [mrg_k, mrg_k, hk])
    · right
      rcases kins_mem.1 hy with rfl | ⟨h1, h2⟩
      · rw [hI] at h3; exact absurd h3 (by simp)
      · exact ⟨kins_mem.2 (.inr ⟨h1, h3⟩), h2⟩
theorem kins_comm {ses : Bool} {sz : Int} {l : List Pn} {p q : Pn} (h : Good ses sz l) (hl : Pos l) (hp : Put ses sz p) (hq : Put ses sz q) (hm : p.a.c + q.a.c + csum l ≤ 1000000000) : kins ses (kins ses l p) q = kins ses (kins ses l q) p :=
  sd_uniq (kins_good (kins_good h hp.full hp.size) hq.full hq.size).sd (kins_good (kins_good h hq.full hq.size) hp.full hp.size).sd (fun y =>
    ⟨fun hy => comm_half h hl hp hq hm hy, fun hy => comm_half h hl hq hp (by omega) hy⟩)
/-- Panes put one behind the other. -/
def kall (ses : Bool) (l ps : List Pn) : List Pn := ps.foldl (kins ses) l
theorem kall_cons (ses : Bool) (l : List Pn) (p : Pn) (ps : List Pn) : kall ses l (p :: ps) = kall ses (kins ses l p) ps := rfl
theorem kall_append (ses : Bool) (l ps qs : List Pn) : kall ses l (ps ++ qs) = kall ses (kall ses l ps) qs := by simp [kall, List.foldl_append]
theorem kall_is {ses : Bool} {sz : Int} : ∀ (ps : List Pn) {l : List Pn}, Good ses sz l → Pos l → (∀ p ∈ ps, Put ses sz p) → csum ps + csum l ≤ 1000000000 → Good ses sz (kall ses l ps) ∧ Pos (kall ses l ps) ∧ csum (kall ses l ps) = csum ps + csum l ∧ wr (ssum (kall ses l ps)) = wr (ssum ps + ssum l)
  | [], l, h, hl, _, _ => ⟨h, hl, by show csum l = 0 + csum l; omega, by show wr (ssum l) = wr (0 + ssum l); rw [Int.zero_add]⟩
  | p :: ps, l, h, hl, hp, hm => by
    have hpp := hp p (by simp)
    have hps : ∀ q ∈ ps, Put ses sz q := fun q hq => hp q (List.mem_cons_of_mem _ hq)
    have hc : 0 ≤ csum ps := Pos.csum (fun q hq => (hps q hq).pos)
    rw [csum_cons] at hm
    obtain ⟨c1, c2, c3⟩ := csum_kins (ses := ses) (l := l) (p := p) hl hpp.pos (by omega)
    obtain ⟨h1, h2, h3, h4⟩ := kall_is ps (kins_good h hpp.full hpp.size) c2 hps (by omega)
    rw [kall_cons]
    refine ⟨h1, h2, by rw [h3, c1, csum_cons]; omega, ?_⟩
    rw [h4, Int.add_comm, ← wr_add, c3, wr_add, ssum_cons]
    congr 1
    omega
theorem kall_perm {ses : Bool} {sz : Int} {ps qs : List Pn} (hpm : ps.Perm qs) : ∀ {l : List Pn}, Good ses sz l → Pos l → (∀ p ∈ ps, Put ses sz p) → csum ps + csum l ≤ 1000000000 → kall ses l ps = kall ses l qs := by
  induction hpm with
  | nil => intro l _ _ _ _; rfl
  | @cons x ps qs hperm ih =>
    intro l h hl hp hm
    have hx := hp x (by simp)
    have hps : ∀ q ∈ ps, Put ses sz q := fun q hq => hp q (List.mem_cons_of_mem _ hq)
    have hc : 0 ≤ csum ps := Pos.csum (fun q hq => (hps q hq).pos)
    rw [csum_cons] at hm
    obtain ⟨c1, c2, -⟩ := csum_kins (ses := ses) (l := l) (p := x) hl hx.pos (by omega)
    rw [kall_cons, kall_cons]
    exact ih (kins_good h hx.full hx.size) c2 hps (by omega)
  | swap x y r =>
    intro l h hl hp hm
    have hx := hp x (by simp)
    have hy := hp y (by simp)
    have hr : 0 ≤ csum r := Pos.csum (fun q hq => (hp q (by simp [hq])).pos)
    rw [csum_cons, csum_cons] at hm
    rw [kall_cons, kall_cons, kall_cons, kall_cons, kins_comm h hl hy hx (by omega)]
  | trans h1 _ ih1 ih2 =>
    intro l h hl hp hm
    rw [ih1 h hl hp hm]
    exact ih2 h hl (fun p hq => hp p (h1.mem_iff.2 hq)) (by rw [← csum_perm h1]; exact hm)
end Go.Proofs.Ytlmnkmfpdjkijaa.Ke
