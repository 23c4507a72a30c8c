/-
  The panes of one key among all, in mathematics: what is put turns this row alone, and where in it; a row cut at the first pane that is not over; rows counted. Conditions: as each theorem names them; nothing of a program.
-/
import Derived.Test.YtlmnkmfpdjkijaaKFine
namespace Go.Proofs.Ytlmnkmfpdjkijaa.Kp
set_option linter.unusedVariables false
set_option linter.unusedSimpArgs false
open Go.Proofs.Ytlmnkmfpdjkijaa Go.Proofs.Ytlmnkmfpdjkijaa.Ke
open Go.Proofs.Ytlmnkmfpdjkijaa.Ag (Ac jn vl wr wr_in wr_add wr_add2 ac_ext)

/-- The panes of a key. -/
def krow (l : List Pn) (k : Ky) : List Pn := l.filter fun x => decide (x.k = k)
theorem krow_mem {l : List Pn} {k : Ky} {x : Pn} : x ∈ krow l k ↔ x ∈ l ∧ x.k = k := by
  unfold krow; rw [List.mem_filter, decide_eq_true_eq]
theorem krow_nil (k : Ky) : krow [] k = [] := rfl
theorem krow_none {l : List Pn} {k : Ky} (h : ∀ x ∈ l, x.k ≠ k) : krow l k = [] :=
  List.filter_eq_nil_iff.2 (fun x hx => by simpa using h x hx)
theorem krow_empty {l : List Pn} {k : Ky} : krow l k = [] ↔ ∀ x ∈ l, x.k ≠ k := by
  constructor
  · intro h x hx e
    have := krow_mem.2 ⟨hx, e⟩
    rw [h] at this
    cases this
  · exact krow_none
theorem krow_len (l : List Pn) (k : Ky) : (krow l k).length ≤ l.length := List.length_filter_le _ _
theorem krow_good {ses : Bool} {sz : Int} {l : List Pn} (h : Good ses sz l) (k : Ky) : Good ses sz (krow l k) := h.filter _
/-- All panes that there are, by their rows. -/
theorem sd_rows {l m : List Pn} (hl : Sd l) (hm : Sd m) (h : ∀ k, krow l k = krow m k) : l = m :=
  sd_uniq hl hm (fun x => by
    have := h x.k
    constructor
    · intro hx
      have h1 := krow_mem.2 ⟨hx, rfl⟩
      rw [this] at h1
      exact (krow_mem.1 h1).1
    · intro hx
      have h1 := krow_mem.2 ⟨hx, rfl⟩
      rw [← this] at h1
      exact (krow_mem.1 h1).1)
theorem krow_kins_other {ses : Bool} {sz : Int} {l : List Pn} {p : Pn} (h : Good ses sz l) (hp : p.f < p.t) (hz : ses = false → p.t = p.f + sz) {k : Ky} (hk : k ≠ p.k) : krow (kins ses l p) k = krow l k := by
  have := kins_filter h hp hz (fun y => decide (y = k))
  rw [if_neg (by simpa using fun e => hk e.symm)] at this
  exact this
theorem krow_kins_same {ses : Bool} {sz : Int} {l : List Pn} {p : Pn} (h : Good ses sz l) (hp : p.f < p.t) (hz : ses = false → p.t = p.f + sz) : krow (kins ses l p) p.k = kins ses (krow l p.k) p := by
  have := kins_filter h hp hz (fun y => decide (y = p.k))
  rw [if_pos (by simp)] at this
  exact this
theorem ins_mid {q : Pn} {B : List Pn} (hB : ∀ x ∈ B, ¬ plt x q) : ∀ (A : List Pn), (∀ x ∈ A, plt x q) → ins (A ++ B) q = A ++ q :: B
  | [], _ => by
    cases B with
    | nil => rfl
    | cons y r =>
      show ins (y :: r) q = _
      unfold ins
      rw [if_neg (hB y (by simp))]; rfl
  | x :: A, h => by
    show ins (x :: (A ++ B)) q = _
    unfold ins
    rw [if_pos (h x (by simp)), ins_mid hB A (fun y hy => h y (by simp [hy]))]; rfl
/-- A row of which the middle is hit. -/
theorem kins_mid {ses : Bool} {A M B : List Pn} {p : Pn} (hA : ∀ x ∈ A, one ses p x = false ∧ plt x (mrg p M)) (hM : ∀ x ∈ M, one ses p x = true) (hB : ∀ x ∈ B, one ses p x = false ∧ ¬ plt x (mrg p M)) : kins ses (A ++ (M ++ B)) p = A ++ mrg p M :: B := by
  have e1 : (A ++ (M ++ B)).filter (one ses p) = M := by
    rw [List.filter_append, List.filter_append, List.filter_eq_nil_iff.2 (fun x hx => by rw [(hA x hx).1]; simp), List.filter_eq_self.2 hM, List.filter_eq_nil_iff.2 (fun x hx => by rw [(hB x hx).1]; simp)]
    simp
  have e2 : (A ++ (M ++ B)).filter (fun x => !one ses p x) = A ++ B := by
    rw [List.filter_append, List.filter_append, List.filter_eq_self.2 (fun x hx => by rw [(hA x hx).1]; rfl), List.filter_eq_nil_iff.2 (fun x hx => by rw [hM x hx]; simp), List.filter_eq_self.2 (fun x hx => by rw [(hB x hx).1]; rfl)]
    simp
  unfold kins
  rw [e1, e2]
  exact ins_mid (fun x hx => (hB x hx).2) A (fun x hx => (hA x hx).2)
/-- The first place at which a test says yes. -/
def fstAt (P : Pn → Bool) : List Pn → Nat
  | [] => 0
  | x :: r => if P x = true then 0 else fstAt P r + 1
theorem fstAt_le (P : Pn → Bool) : ∀ l : List Pn, fstAt P l ≤ l.length
  | [] => Nat.le_refl _
  | x :: r => by
    unfold fstAt
    split
    · exact Nat.zero_le _
    · have := fstAt_le P r; simp only [List.length_cons]; omega
theorem fstAt_before (P : Pn → Bool) : ∀ (l : List Pn) (i : Nat) (x : Pn), i < fstAt P l → l[i]? = some x → P x = false
  | [], i, x, h, _ => by simp [fstAt] at h
  | y :: r, i, x, h, hx => by
    unfold fstAt at h
    split at h
    · omega
    · rename_i hP
      cases i with
      | zero => simp at hx; subst hx; simpa using hP
      | succ i => exact fstAt_before P r i x (by omega) (by simpa using hx)
theorem fstAt_hit (P : Pn → Bool) : ∀ (l : List Pn) (x : Pn), l[fstAt P l]? = some x → P x = true
  | [], x, h => by simp at h
  | y :: r, x, h => by
    unfold fstAt at h
    split at h
    · rename_i hP
      simp at h; subst h; exact hP
    · exact fstAt_hit P r x (by simpa using h)
/-- A test that stays yes. -/
def Mono (P : Pn → Bool) (l : List Pn) : Prop := l.Pairwise fun x y => P x = true → P y = true
theorem fstAt_after {P : Pn → Bool} : ∀ {l : List Pn}, Mono P l → ∀ (i : Nat) (x : Pn), fstAt P l ≤ i → l[i]? = some x → P x = true
  | [], _, i, x, _, h => by simp at h
  | y :: r, hm, i, x, h, hx => by
    obtain ⟨h1, h2⟩ := List.pairwise_cons.1 hm
    unfold fstAt at h
    split at h
    · rename_i hP
      cases i with
      | zero => simp at hx; subst hx; exact hP
      | succ i => exact h1 x (List.mem_of_getElem? (by simpa using hx)) hP
    · cases i with
      | zero => omega
      | succ i => exact fstAt_after h2 i x (by omega) (by simpa using hx)
/-- That place is told by what is ahead of it and what is behind. -/
theorem fstAt_is {P : Pn → Bool} {l : List Pn} {i : Nat} (hi : i ≤ l.length) (h1 : ∀ j x, j < i → l[j]? = some x → P x = false) (h2 : ∀ j x, i ≤ j → l[j]? = some x → P x = true) : fstAt P l = i := by
  rcases Nat.lt_trichotomy (fstAt P l) i with h | h | h
  · have hl : fstAt P l < l.length := by omega
    have a := fstAt_hit P l _ (List.getElem?_eq_getElem hl)
    rw [h1 _ _ h (List.getElem?_eq_getElem hl)] at a; simp at a
  · exact h
  · have := fstAt_le P l
    have hl : i < l.length := by omega
    have a := fstAt_before P l i _ h (List.getElem?_eq_getElem hl)
    rw [h2 _ _ (Nat.le_refl _) (List.getElem?_eq_getElem hl)] at a; simp at a
theorem take_before (P : Pn → Bool) (l : List Pn) : ∀ x ∈ l.take (fstAt P l), P x = false := fun x hx => by
  obtain ⟨i, hi, e⟩ := List.getElem_of_mem hx
  rw [List.length_take] at hi
  rw [List.getElem_take] at e
  exact fstAt_before P l i x (by omega) (by rw [List.getElem?_eq_getElem (by omega), e])
theorem drop_after {P : Pn → Bool} {l : List Pn} (h : Mono P l) : ∀ x ∈ l.drop (fstAt P l), P x = true := fun x hx => by
  obtain ⟨i, hi, e⟩ := List.getElem_of_mem hx
  rw [List.length_drop] at hi
  rw [List.getElem_drop] at e
  exact fstAt_after h (fstAt P l + i) x (by omega) (by rw [List.getElem?_eq_getElem (by omega), e])
/-- What a test lets by up to the first that it does not. -/
theorem filter_fst {P : Pn → Bool} {l : List Pn} (h : Mono (fun x => !P x) l) : l.filter P = l.take (fstAt (fun x => !P x) l) := by
  have e := List.take_append_drop (fstAt (fun x => !P x) l) l
  have h1 := take_before (fun x => !P x) l
  have h2 := drop_after h
  calc l.filter P = (l.take (fstAt (fun x => !P x) l) ++ l.drop (fstAt (fun x => !P x) l)).filter P := by rw [e]
    _ = _ := by
      rw [List.filter_append, List.filter_eq_self.2 (fun x hx => by have := h1 x hx; simpa using this), List.filter_eq_nil_iff.2 (fun x hx => by have := h2 x hx; simpa using this), List.append_nil]
/-- Which panes of a row a new span meets: from the first to the second place. -/
def metA (ses : Bool) (f t : Int) (R : List Pn) : Nat := if ses = true then fstAt (fun x => decide (f < x.t)) R else fstAt (fun x => decide (f ≤ x.f)) R
def metB (ses : Bool) (f t : Int) (R : List Pn) : Nat :=
  if ses = true then fstAt (fun x => decide (t ≤ x.f)) R
  else match R[fstAt (fun x => decide (f ≤ x.f)) R]? with
    | some x => if x.f = f ∧ x.t = t then fstAt (fun x => decide (f ≤ x.f)) R + 1 else fstAt (fun x => decide (f ≤ x.f)) R
    | none => fstAt (fun x => decide (f ≤ x.f)) R
/-- Of one key. -/
def OneKey (R : List Pn) (k : Ky) : Prop := ∀ x ∈ R, x.k = k
theorem krow_key (l : List Pn) (k : Ky) : OneKey (krow l k) k := fun x hx => (krow_mem.1 hx).2
theorem row_f {R : List Pn} {k : Ky} (hs : Sd R) (hk : OneKey R k) : R.Pairwise fun x y => x.f < y.f := by
  refine (List.Pairwise.and_mem.1 hs).imp (fun {x y} h => ?_)
  obtain ⟨hx, hy, h⟩ := h
  rcases h with h | h
  · rw [hk x hx, hk y hy] at h; exact absurd h (ky_irr _)
  · exact h.2
theorem row_t {ses : Bool} {sz : Int} {R : List Pn} {k : Ky} (h : Good ses sz R) (hk : OneKey R k) : R.Pairwise fun x y => x.t < y.t := by
  refine (List.Pairwise.and_mem.1 (List.Pairwise.and_mem.1 h.sd)).imp (fun {x y} h0 => ?_)
  obtain ⟨hx, hy, -, -, h0⟩ := h0
  have hf : x.f < y.f := by
    rcases h0 with q | q
    · rw [hk x hx, hk y hy] at q; exact absurd q (ky_irr _)
    · exact q.2
  have f1 := h.full x hx
  have f2 := h.full y hy
  cases ses with
  | true =>
    have := h.apart rfl x hx y hy ((hk x hx).trans (hk y hy).symm) h0
    omega
  | false =>
    have := h.size rfl x hx
    have := h.size rfl y hy
    omega
theorem mono_f {R : List Pn} (h : R.Pairwise fun x y => x.f < y.f) (z : Int) : Mono (fun x => decide (z ≤ x.f)) R :=
  h.imp (fun {x y} h e => by simp only [decide_eq_true_eq] at *; omega)
theorem mono_t {R : List Pn} (h : R.Pairwise fun x y => x.t < y.t) (z : Int) : Mono (fun x => decide (z < x.t)) R :=
  h.imp (fun {x y} h e => by simp only [decide_eq_true_eq] at *; omega)
theorem mono_due {R : List Pn} (h : R.Pairwise fun x y => x.t < y.t) (m : Int) : Mono (fun x => !Ke.due m x) R :=
  h.imp (fun {x y} h e => by
    simp only [Bool.not_eq_true'] at *
    rw [due_no] at *
    omega)
theorem take_mid (R : List Pn) {a b : Nat} (hab : a ≤ b) : R = R.take a ++ ((R.drop a).take (b - a) ++ R.drop b) := by
  have h1 : (R.drop a).drop (b - a) = R.drop b := by rw [List.drop_drop]; congr 1; omega
  rw [← h1, List.take_append_drop, List.take_append_drop]
theorem pw_at {R : List Pn} {Q : Pn → Pn → Prop} (h : R.Pairwise Q) {i j : Nat} {x y : Pn} (hij : i < j) (hx : R[i]? = some x) (hy : R[j]? = some y) : Q x y := by
  obtain ⟨h1, e1⟩ := List.getElem?_eq_some_iff.1 hx
  obtain ⟨h2, e2⟩ := List.getElem?_eq_some_iff.1 hy
  rw [← e1, ← e2]
  exact List.pairwise_iff_getElem.1 h i j h1 h2 hij
theorem mem_take_at {R : List Pn} {a : Nat} {x : Pn} (h : x ∈ R.take a) : ∃ i, i < a ∧ R[i]? = some x := by
  obtain ⟨i, hi, e⟩ := List.getElem_of_mem h
  rw [List.length_take] at hi
  rw [List.getElem_take] at e
  exact ⟨i, by omega, by rw [List.getElem?_eq_getElem (by omega), e]⟩
theorem mem_drop_at {R : List Pn} {a : Nat} {x : Pn} (h : x ∈ R.drop a) : ∃ i, a ≤ i ∧ R[i]? = some x := by
  obtain ⟨i, hi, e⟩ := List.getElem_of_mem h
  rw [List.length_drop] at hi
  rw [List.getElem_drop] at e
  exact ⟨a + i, by omega, by rw [List.getElem?_eq_getElem (by omega), e]⟩
theorem mem_mid_at {R : List Pn} {a b : Nat} {x : Pn} (h : x ∈ (R.drop a).take (b - a)) : ∃ i, a ≤ i ∧ i < b ∧ R[i]? = some x := by
  obtain ⟨i, hi, e⟩ := List.getElem_of_mem h
  rw [List.length_take, List.length_drop] at hi
  rw [List.getElem_take, List.getElem_drop] at e
  exact ⟨a + i, by omega, by omega, by rw [List.getElem?_eq_getElem (by omega), e]⟩
theorem met_le {ses : Bool} {sz : Int} {R : List Pn} {k : Ky} {f t : Int} (h : Good ses sz R) (hk : OneKey R k) (hft : f < t) : metA ses f t R ≤ metB ses f t R ∧ metB ses f t R ≤ R.length := by
  cases ses with
  | true =>
    unfold metA metB
    rw [if_pos rfl, if_pos rfl]
    refine ⟨?_, fstAt_le _ _⟩
    rcases Nat.lt_or_ge (fstAt (fun x => decide (t ≤ x.f)) R) (fstAt (fun x => decide (f < x.t)) R) with q | q
    · exfalso
      have := fstAt_le (fun x => decide (f < x.t)) R
      have hl : fstAt (fun x => decide (t ≤ x.f)) R < R.length := by omega
      have h1 := fstAt_hit _ R _ (List.getElem?_eq_getElem hl)
      have h2 := fstAt_before _ R _ _ q (List.getElem?_eq_getElem hl)
      have h3 := h.full _ (List.getElem_mem hl)
      simp only [decide_eq_true_eq, decide_eq_false_iff_not] at h1 h2
      omega
    · exact q
  | false =>
    unfold metA metB
    rw [if_neg (by decide), if_neg (by decide)]
    have := fstAt_le (fun x => decide (f ≤ x.f)) R
    split
    · rename_i x hx
      have := (List.getElem?_eq_some_iff.1 hx).1
      split <;> omega
    · omega
/-- Where a pane is put in its row, and with which it is made one. -/
theorem kins_met {ses : Bool} {sz : Int} {R : List Pn} {p : Pn} (h : Good ses sz R) (hk : OneKey R p.k) (hp : p.f < p.t) (hz : ses = false → p.t = p.f + sz) :
    kins ses R p = R.take (metA ses p.f p.t R) ++ mrg p ((R.drop (metA ses p.f p.t R)).take (metB ses p.f p.t R - metA ses p.f p.t R)) :: R.drop (metB ses p.f p.t R) := by
  obtain ⟨hab, hb⟩ := met_le h hk hp
  have hpf := row_f h.sd hk
  have hpt := row_t h hk
  obtain ⟨a, ha⟩ : ∃ a, metA ses p.f p.t R = a := ⟨_, rfl⟩
  obtain ⟨b, hb2⟩ : ∃ b, metB ses p.f p.t R = b := ⟨_, rfl⟩
  rw [ha, hb2] at hab ⊢
  conv => lhs; rw [take_mid R hab]
  have hmf := mrg_f_is ((R.drop a).take (b - a)) p
  have hml := mrg_f_le ((R.drop a).take (b - a)) p
  cases ses with
  | true =>
    unfold metA at ha
    unfold metB at hb2
    rw [if_pos rfl] at ha hb2
    refine kins_mid (fun x hx => ?_) (fun x hx => ?_) (fun x hx => ?_)
    · have hxm := List.mem_of_mem_take hx
      obtain ⟨i, hi, e⟩ := mem_take_at hx
      have h1 := fstAt_before _ R i x (ha ▸ hi) e
      simp only [decide_eq_false_iff_not] at h1
      have h2 := h.full x hxm
      refine ⟨?_, .inr ⟨by rw [mrg_k]; exact hk x hxm, ?_⟩⟩
      · rw [Bool.eq_false_iff]
        intro e'
        obtain ⟨-, h3 | h3⟩ := one_iff.1 e' <;> omega
      · rcases hmf with q | ⟨y, hy, q⟩
        · omega
        · obtain ⟨j, hj1, hj2, e2⟩ := mem_mid_at hy
          have := pw_at hpf (show i < j by omega) e e2
          omega
    · obtain ⟨i, hi1, hi2, e⟩ := mem_mid_at hx
      have hxm := List.mem_of_getElem? e
      have h1 := fstAt_after (mono_t hpt p.f) i x (by omega) e
      have h2 := fstAt_before _ R i x (hb2 ▸ hi2) e
      simp only [decide_eq_true_eq, decide_eq_false_iff_not] at h1 h2
      exact one_iff.2 ⟨hk x hxm, .inr ⟨rfl, by omega, by omega⟩⟩
    · obtain ⟨i, hi1, e⟩ := mem_drop_at hx
      have hxm := List.mem_of_getElem? e
      have h1 := fstAt_after (mono_f hpf p.t) i x (by omega) e
      simp only [decide_eq_true_eq] at h1
      have h2 := h.full x hxm
      refine ⟨?_, ?_⟩
      · rw [Bool.eq_false_iff]
        intro e'
        obtain ⟨-, h3 | h3⟩ := one_iff.1 e' <;> omega
      · rintro (q | ⟨-, q⟩)
        · rw [mrg_k, hk x hxm] at q; exact ky_irr _ q
        · have := hml.1; omega
  | false =>
    have hz2 := hz rfl
    have hsz : ∀ x ∈ R, x.t = x.f + sz := h.size rfl
    unfold metA at ha
    unfold metB at hb2
    rw [if_neg (by decide)] at ha hb2
    rw [ha] at hb2
    have hM : ∀ x ∈ (R.drop a).take (b - a), x.f = p.f ∧ x.t = p.t := fun x hx => by
      obtain ⟨i, hi1, hi2, e⟩ := mem_mid_at hx
      split at hb2
      · rename_i y hy
        split at hb2
        · rename_i hc
          obtain rfl : i = a := by omega
          rw [hy] at e
          injection e with e
          subst e; exact hc
        · omega
      · omega
    refine kins_mid (fun x hx => ?_) (fun x hx => ?_) (fun x hx => ?_)
    · have hxm := List.mem_of_mem_take hx
      obtain ⟨i, hi, e⟩ := mem_take_at hx
      have h1 := fstAt_before _ R i x (ha ▸ hi) e
      simp only [decide_eq_false_iff_not] at h1
      refine ⟨?_, .inr ⟨by rw [mrg_k]; exact hk x hxm, ?_⟩⟩
      · rw [Bool.eq_false_iff]
        intro e'
        obtain ⟨-, h3 | h3⟩ := one_iff.1 e'
        · omega
        · exact absurd h3.1 (by decide)
      · rcases hmf with q | ⟨y, hy, q⟩
        · omega
        · have := (hM y hy).1; omega
    · obtain ⟨i, hi1, hi2, e⟩ := mem_mid_at hx
      exact one_iff.2 ⟨hk x (List.mem_of_getElem? e), .inl (hM x hx)⟩
    · obtain ⟨i, hi1, e⟩ := mem_drop_at hx
      have hxm := List.mem_of_getElem? e
      have h1 := fstAt_after (mono_f hpf p.f) i x (by omega) e
      simp only [decide_eq_true_eq] at h1
      have hne : x.f ≠ p.f := fun q => by
        have hxt := hsz x hxm
        rcases Nat.lt_or_ge a i with r | r
        · have hal : a < R.length := by have := (List.getElem?_eq_some_iff.1 e).1; omega
          have h3 := pw_at hpf r (List.getElem?_eq_getElem hal) e
          have h4 := fstAt_after (mono_f hpf p.f) a _ (by omega) (List.getElem?_eq_getElem hal)
          simp only [decide_eq_true_eq] at h4
          omega
        · obtain rfl : i = a := by omega
          rw [e] at hb2
          dsimp only at hb2
          rw [if_pos ⟨q, by omega⟩] at hb2
          omega
      refine ⟨?_, ?_⟩
      · rw [Bool.eq_false_iff]
        intro e'
        obtain ⟨-, h3 | h3⟩ := one_iff.1 e'
        · omega
        · exact absurd h3.1 (by decide)
      · rintro (q | ⟨-, q⟩)
        · rw [mrg_k, hk x hxm] at q; exact ky_irr _ q
        · have := hml.1; omega
/-- Panes that meet none of those there are: they stand beside them. -/
theorem kall_apart {ses : Bool} {sz : Int} : ∀ (xs : List Pn) {l : List Pn}, Good ses sz l → (∀ x ∈ xs, x.f < x.t ∧ (ses = false → x.t = x.f + sz)) → xs.Pairwise (fun x y => one ses y x = false) → (∀ x ∈ xs, ∀ y ∈ l, one ses x y = false) →
    Good ses sz (kall ses l xs) ∧ ∀ z, z ∈ kall ses l xs ↔ z ∈ l ∨ z ∈ xs
  | [], l, h, _, _, _ => ⟨h, fun z => by show z ∈ l ↔ _; simp⟩
  | x :: xs, l, h, hf, hp, ha => by
    obtain ⟨p1, p2⟩ := List.pairwise_cons.1 hp
    have hx := hf x (by simp)
    have e : l.filter (one ses x) = [] := List.filter_eq_nil_iff.2 (fun y hy => by rw [ha x (by simp) y hy]; simp)
    have hm : ∀ z, z ∈ kins ses l x ↔ z ∈ l ∨ z = x := fun z => by
      rw [kins_mem, e]
      show z = x ∨ _ ↔ _
      constructor
      · rintro (q | q)
        · exact .inr q
        · exact .inl q.1
      · rintro (q | q)
        · exact .inr ⟨q, ha x (by simp) z q⟩
        · exact .inl q
    rw [kall_cons]
    obtain ⟨g, k⟩ := kall_apart xs (kins_good h hx.1 hx.2) (fun y hy => hf y (by simp [hy])) p2 (fun y hy z hz => by
      rcases (hm z).1 hz with q | q
      · exact ha y (by simp [hy]) z q
      · rw [q]; exact p1 y hy)
    refine ⟨g, fun z => ?_⟩
    rw [k, hm, List.mem_cons]
    constructor
    · rintro ((q | q) | q)
      · exact .inl q
      · exact .inr (.inl q)
      · exact .inr (.inr q)
    · rintro (q | q | q)
      · exact .inl (.inl q)
      · exact .inl (.inr q)
      · exact .inr q
/-- As many different ones as there are. -/
theorem nodup_le {α : Type} [DecidableEq α] : ∀ (a b : List α), a.Nodup → (∀ x ∈ a, x ∈ b) → a.length ≤ b.length
  | [], b, _, _ => Nat.zero_le _
  | x :: a, b, h, hb => by
    obtain ⟨h1, h2⟩ := List.nodup_cons.1 h
    have hx := hb x (by simp)
    have := nodup_le a (b.erase x) h2 (fun y hy => (List.mem_erase_of_ne (fun (e : y = x) => h1 (by rw [← e]; exact hy))).2 (hb y (by simp [hy])))
    rw [List.length_erase_of_mem hx] at this
    have : 0 < b.length := List.length_pos_of_mem hx
    simp only [List.length_cons]
    omega
end Go.Proofs.Ytlmnkmfpdjkijaa.Kp
