/-
  Texts joined into one file. Each part says in its own head what is proved there, and under which conditions.
-/
import Derived.Test.YtfoenfipefhpoaaGreatDoorJP1
import Derived.Test.YtfoenfipefhpoaaGreatDoorJQ1
import Derived.Test.YtfoenfipefhpoaaGreatDoorJR2
set_option linter.unusedVariables false
set_option linter.unusedSimpArgs false
/-
  Layer 6 in mathematics: what writes what a flow reads, who hangs on whom, an order; that all who are ahead are reached in as many hops as there are flows, and that an order is there just if nobody hangs on himself. Conditions: a source is a flow of the plan; nothing of a program.
-/
namespace Go.Proofs.YtfoenfipefhpoaaGreatDoor.Gr

/-- So many hops from source to source. -/
def hop (src : Nat → Option Nat) : Nat → Nat → Option Nat
  | 0, i => some i
  | m + 1, i => (src i).bind (hop src m)
theorem hop_add (src : Nat → Option Nat) : ∀ (a b i : Nat), hop src (a + b) i = (hop src a i).bind (hop src b)
  | 0, b, i => by simp [hop]
  | a + 1, b, i => by
    rw [Nat.succ_add]
    show (src i).bind (hop src (a + b)) = ((src i).bind (hop src a)).bind (hop src b)
    cases src i with
    | none => rfl
    | some k => exact hop_add src a b k
theorem hop_one (src : Nat → Option Nat) (i : Nat) : hop src 1 i = src i := by
  show (src i).bind (hop src 0) = src i
  cases src i <;> rfl
/-- To hang on another one. -/
def Hang (src : Nat → Option Nat) (i k : Nat) : Prop := ∃ m, hop src (m + 1) i = some k
/-- The document's loop: so many hops, each looked at. -/
def hangsGo (src : Nat → Option Nat) (k : Nat) : Nat → Nat → Bool
  | 0, _ => false
  | m + 1, a => match src a with
    | none => false
    | some b => if b = k then true else hangsGo src k m b
theorem hangsGo_iff (src : Nat → Option Nat) (k : Nat) : ∀ (m a : Nat), hangsGo src k m a = true ↔ ∃ j, j < m ∧ hop src (j + 1) a = some k
  | 0, a => by simp [hangsGo]
  | m + 1, a => by
    unfold hangsGo
    cases h : src a with
    | none =>
      simp only [Bool.false_eq_true, false_iff]
      rintro ⟨j, -, hj⟩
      rw [show hop src (j + 1) a = (src a).bind (hop src j) from rfl, h] at hj
      cases hj
    | some b =>
      by_cases hb : b = k
      · simp only [if_pos hb, true_iff]
        exact ⟨0, by omega, by rw [hop_one, h, hb]⟩
      · simp only [if_neg hb]
        rw [hangsGo_iff src k m b]
        constructor
        · rintro ⟨j, hj, e⟩
          exact ⟨j + 1, by omega, by rw [show hop src (j + 1 + 1) a = (src a).bind (hop src (j + 1)) from rfl, h]; exact e⟩
        · rintro ⟨j, hj, e⟩
          rw [show hop src (j + 1) a = (src a).bind (hop src j) from rfl, h] at e
          cases j with
          | zero => exact absurd (Option.some.inj e) hb
          | succ j => exact ⟨j, by omega, e⟩
/-- Of more numbers than there is room for, two are the same. -/
theorem pigeon : ∀ (n : Nat) (f : Nat → Nat), (∀ j, j ≤ n → f j < n) → ∃ a b, a < b ∧ b ≤ n ∧ f a = f b
  | 0, f, h => by have := h 0 (Nat.le_refl 0); omega
  | n + 1, f, h => by
    by_cases hd : ∃ a, a < n + 1 ∧ f a = f (n + 1)
    · obtain ⟨a, ha, e⟩ := hd
      exact ⟨a, n + 1, ha, Nat.le_refl _, e⟩
    · have hne : ∀ a, a < n + 1 → f a ≠ f (n + 1) := fun a ha e => hd ⟨a, ha, e⟩
      obtain ⟨a, b, hab, hb, e⟩ := pigeon n (fun j => if f j = n then f (n + 1) else f j) (fun j hj => by
        have h1 := h j (by omega)
        have h2 := h (n + 1) (Nat.le_refl _)
        have h3 := hne j (by omega)
        show (if f j = n then f (n + 1) else f j) < n
        split
        · omega
        · omega)
      refine ⟨a, b, hab, by omega, ?_⟩
      have ha3 := hne a (by omega)
      have hb3 := hne b (by omega)
      have e : (if f a = n then f (n + 1) else f a) = (if f b = n then f (n + 1) else f b) := e
      split at e <;> split at e
      · omega
      · exact absurd e.symm hb3
      · exact absurd e ha3
      · exact e
variable {src : Nat → Option Nat} {n : Nat}
theorem hop_lt (hs : ∀ i k, src i = some k → k < n) : ∀ (m i k : Nat), hop src (m + 1) i = some k → k < n
  | 0, i, k, h => by rw [hop_one] at h; exact hs i k h
  | m + 1, i, k, h => by
    rw [show hop src (m + 1 + 1) i = (src i).bind (hop src (m + 1)) from rfl] at h
    cases e : src i with
    | none => rw [e] at h; cases h
    | some b => rw [e] at h; exact hop_lt hs m b k h
/-- Hops on the way are there. -/
theorem hop_part {a b i k : Nat} (h : hop src (a + b) i = some k) : ∃ x, hop src a i = some x ∧ hop src b x = some k := by
  rw [hop_add] at h
  cases e : hop src a i with
  | none => rw [e] at h; cases h
  | some x => rw [e] at h; exact ⟨x, rfl, h⟩
/-- Who hangs on another one reaches it in as many hops as there are flows. -/
theorem hang_few (hs : ∀ i k, src i = some k → k < n) {i k : Nat} : ∀ m, hop src (m + 1) i = some k → ∃ j, j < n ∧ hop src (j + 1) i = some k := by
  intro m
  induction m using Nat.strongRecOn with
  | ind m ih =>
    intro h
    by_cases hm : m < n
    · exact ⟨m, hm, h⟩
    · have hx : ∀ j, j ≤ n → ∃ x, hop src (j + 1) i = some x ∧ x < n := by
        intro j hj
        have h' : hop src ((j + 1) + (m - j)) i = some k := by rw [show j + 1 + (m - j) = m + 1 by omega]; exact h
        obtain ⟨x, h1, -⟩ := hop_part h'
        exact ⟨x, h1, hop_lt hs j i x h1⟩
      obtain ⟨a, b, hab, hb, e⟩ := pigeon n (fun j => (hop src (j + 1) i).getD 0) (fun j hj => by
        obtain ⟨x, h1, h2⟩ := hx j hj
        simp only [h1, Option.getD_some]
        exact h2)
      obtain ⟨xa, a1, -⟩ := hx a (by omega)
      obtain ⟨xb, b1, -⟩ := hx b hb
      simp only [a1, b1, Option.getD_some] at e
      subst e
      have h' : hop src ((b + 1) + (m - b)) i = some k := by rw [show b + 1 + (m - b) = m + 1 by omega]; exact h
      obtain ⟨x, h1, h2⟩ := hop_part h'
      rw [b1] at h1
      have h1 := Option.some.inj h1
      subst h1
      refine ih (a + (m - b)) (by omega) ?_
      rw [show a + (m - b) + 1 = (a + 1) + (m - b) by omega, hop_add, a1]
      exact h2
theorem hangs_iff (hs : ∀ i k, src i = some k → k < n) (i k : Nat) : hangsGo src k n i = true ↔ Hang src i k := by
  rw [hangsGo_iff]
  constructor
  · rintro ⟨j, -, h⟩; exact ⟨j, h⟩
  · rintro ⟨m, h⟩; exact hang_few hs m h
theorem hang_trans {i k l : Nat} (h1 : Hang src i k) (h2 : Hang src k l) : Hang src i l := by
  obtain ⟨a, ha⟩ := h1
  obtain ⟨b, hb⟩ := h2
  exact ⟨a + 1 + b, by rw [show a + 1 + b + 1 = (a + 1) + (b + 1) by omega, hop_add, ha]; exact hb⟩
/-! ### An order -/
/-- May this one be next? -/
def free (src : Nat → Option Nat) (told : List Nat) (i : Nat) : Bool := !told.contains i && (match src i with | none => true | some s => told.contains s)
def pick (src : Nat → Option Nat) (n : Nat) (told : List Nat) : Option Nat := (List.range n).find? (free src told)
def orderGo (src : Nat → Option Nat) (n : Nat) : Nat → List Nat → Option (List Nat)
  | 0, told => some told
  | m + 1, told => match pick src n told with
    | none => none
    | some i => orderGo src n m (told ++ [i])
def order (src : Nat → Option Nat) (n : Nat) : Option (List Nat) := orderGo src n n []
/-- What a row of told ones keeps: each is one, once, behind its source. -/
inductive Row (src : Nat → Option Nat) (n : Nat) : List Nat → Prop where
  | nil : Row src n []
  | snoc {l : List Nat} {i : Nat} (h : Row src n l) (hi : i < n) (hn : i ∉ l) (hs : ∀ s, src i = some s → s ∈ l) : Row src n (l ++ [i])
theorem free_true {told : List Nat} {i : Nat} (h : free src told i = true) : i ∉ told ∧ ∀ s, src i = some s → s ∈ told := by
  unfold free at h
  simp only [Bool.and_eq_true, Bool.not_eq_true', List.contains_eq_mem, decide_eq_false_iff_not] at h
  refine ⟨h.1, fun s hs => ?_⟩
  have h2 := h.2
  rw [hs] at h2
  simpa using h2
theorem pick_some {told : List Nat} {i : Nat} (h : pick src n told = some i) : i < n ∧ free src told i = true := by
  unfold pick at h
  have h1 := List.find?_some h
  have h2 := List.mem_of_find?_eq_some h
  exact ⟨List.mem_range.1 h2, h1⟩
theorem pick_none {told : List Nat} (h : pick src n told = none) : ∀ i, i < n → free src told i = false := by
  unfold pick at h
  intro i hi
  have := List.find?_eq_none.1 h i (List.mem_range.2 hi)
  simpa using this
theorem orderGo_row : ∀ (m : Nat) (told l : List Nat), Row src n told → orderGo src n m told = some l → Row src n l ∧ l.length = told.length + m
  | 0, told, l, hr, h => by
    have h := Option.some.inj h
    subst h
    exact ⟨hr, rfl⟩
  | m + 1, told, l, hr, h => by
    unfold orderGo at h
    cases e : pick src n told with
    | none => rw [e] at h; cases h
    | some i =>
      rw [e] at h
      obtain ⟨h1, h2⟩ := pick_some e
      obtain ⟨h3, h4⟩ := free_true h2
      obtain ⟨h5, h6⟩ := orderGo_row m (told ++ [i]) l (hr.snoc h1 h3 h4) h
      exact ⟨h5, by rw [h6]; simp; omega⟩
theorem Row.lt {l : List Nat} (h : Row src n l) : ∀ i ∈ l, i < n := by
  induction h with
  | nil => intro i hi; cases hi
  | snoc h hi hn hs ih =>
    intro j hj
    rcases List.mem_append.1 hj with hj | hj
    · exact ih j hj
    · rw [List.mem_singleton.1 hj]; exact hi
/-- Whom a told one hangs on is told. -/
theorem Row.hang {l : List Nat} (h : Row src n l) : ∀ m i k, i ∈ l → hop src m i = some k → k ∈ l := by
  have h1 : ∀ i s, i ∈ l → src i = some s → s ∈ l := by
    induction h with
    | nil => intro i s hi; cases hi
    | snoc h hi hn hs ih =>
      intro i s hi' e
      rcases List.mem_append.1 hi' with hj | hj
      · exact List.mem_append_left _ (ih i s hj e)
      · rw [List.mem_singleton.1 hj] at e
        exact List.mem_append_left _ (hs s e)
  intro m
  induction m with
  | zero => intro i k hi e; have e := Option.some.inj e; rw [← e]; exact hi
  | succ m ih =>
    intro i k hi e
    rw [show hop src (m + 1) i = (src i).bind (hop src m) from rfl] at e
    cases hs : src i with
    | none => rw [hs] at e; cases e
    | some s => rw [hs] at e; exact ih s k (h1 i s hi hs) e
/-- No told one hangs on itself; nor on one that is told behind it. -/
theorem Row.behind {l : List Nat} {i : Nat} (h : Row src n l) (hs : ∀ s, src i = some s → s ∈ l) {k : Nat} (hk : Hang src i k) : k ∈ l := by
  obtain ⟨m, e⟩ := hk
  rw [show hop src (m + 1) i = (src i).bind (hop src m) from rfl] at e
  cases h1 : src i with
  | none => rw [h1] at e; cases e
  | some s => rw [h1] at e; exact h.hang m s k (hs s h1) e
theorem Row.noloop {l : List Nat} (h : Row src n l) : ∀ i ∈ l, ¬ Hang src i i := by
  induction h with
  | nil => intro i hi; cases hi
  | snoc h hi hn hs ih =>
    intro j hj
    rcases List.mem_append.1 hj with hj | hj
    · exact ih j hj
    · rw [List.mem_singleton.1 hj]
      exact fun hh => hn (h.behind hs hh)
theorem Row.nodup {l : List Nat} (h : Row src n l) : l.Nodup := by
  induction h with
  | nil => exact List.nodup_nil
  | snoc h hi hn hs ih =>
    rw [List.nodup_append]
    exact ⟨ih, by simp, fun a ha b hb => by rw [List.mem_singleton.1 hb]; exact fun e => hn (e ▸ ha)⟩
/-- As many different ones as there are: all. -/
theorem all_in : ∀ (n : Nat) (l : List Nat), l.Nodup → (∀ i ∈ l, i < n) → l.length = n → ∀ i, i < n → i ∈ l
  | 0, _, _, _, _, i, hi => by omega
  | n + 1, l, hd, hl, hn, i, hi => by
    by_cases hin : i ∈ l
    · exact hin
    · exfalso
      obtain ⟨a, b, hab, hb, e⟩ := pigeon n (fun j => let x := l.getD j 0; if x = n then i else x) (fun j hj => by
        have hj2 : j < l.length := by omega
        have hx : l.getD j 0 = l[j] := by rw [List.getD_eq_getElem?_getD, List.getElem?_eq_getElem hj2]; rfl
        have h1 := hl _ (List.getElem_mem hj2)
        have h2 : l[j] ≠ i := fun e => hin (e ▸ List.getElem_mem hj2)
        simp only [hx]
        split
        · rename_i h3
          rw [h3] at h2; omega
        · omega)
      have ha2 : a < l.length := by omega
      have hb2 : b < l.length := by omega
      have xa : l.getD a 0 = l[a] := by rw [List.getD_eq_getElem?_getD, List.getElem?_eq_getElem ha2]; rfl
      have xb : l.getD b 0 = l[b] := by rw [List.getD_eq_getElem?_getD, List.getElem?_eq_getElem hb2]; rfl
      have na : l[a] ≠ i := fun e => hin (e ▸ List.getElem_mem ha2)
      have nb : l[b] ≠ i := fun e => hin (e ▸ List.getElem_mem hb2)
      have hne : l[a] ≠ l[b] := List.pairwise_iff_getElem.1 hd a b ha2 hb2 hab
      simp only [xa, xb] at e
      split at e <;> split at e
      · rename_i p q; exact hne (p.trans q.symm)
      · exact nb e.symm
      · exact na e
      · exact hne e
theorem order_row {l : List Nat} (h : order src n = some l) : Row src n l ∧ l.length = n := by
  have := orderGo_row n [] l .nil h
  simpa using this
theorem order_all {l : List Nat} (h : order src n = some l) : ∀ i, i < n → i ∈ l := by
  obtain ⟨h1, h2⟩ := order_row h
  exact all_in n l h1.nodup h1.lt h2
/-- If nobody may be next and somebody is left, somebody hangs on himself. -/
theorem stuck_loop (hs : ∀ i k, src i = some k → k < n) {told : List Nat} (hr : Row src n told) (hp : pick src n told = none) {i : Nat} (hi : i < n) (hn : i ∉ told) : ∃ k, k < n ∧ Hang src k k := by
  have hstep : ∀ j, j < n → j ∉ told → ∃ s, src j = some s ∧ s < n ∧ s ∉ told := by
    intro j hj hjn
    have := pick_none hp j hj
    unfold free at this
    cases e : src j with
    | none => rw [e] at this; simp [hjn] at this
    | some s => rw [e] at this; refine ⟨s, rfl, hs j s e, ?_⟩; simpa [hjn] using this
  have hchain : ∀ m, ∃ x, hop src m i = some x ∧ x < n ∧ x ∉ told := by
    intro m
    induction m with
    | zero => exact ⟨i, rfl, hi, hn⟩
    | succ m ih =>
      obtain ⟨x, h1, h2, h3⟩ := ih
      obtain ⟨s, h4, h5, h6⟩ := hstep x h2 h3
      exact ⟨s, by rw [hop_add, h1]; show hop src 1 x = some s; rw [hop_one]; exact h4, h5, h6⟩
  obtain ⟨a, b, hab, hb, e⟩ := pigeon n (fun m => (hop src m i).getD 0) (fun m _ => by
    obtain ⟨x, h1, h2, -⟩ := hchain m
    simp only [h1, Option.getD_some]
    exact h2)
  obtain ⟨x, a1, a2, -⟩ := hchain a
  obtain ⟨y, b1, -, -⟩ := hchain b
  simp only [a1, b1, Option.getD_some] at e
  subst e
  refine ⟨x, a2, b - a - 1, ?_⟩
  have h' : hop src (a + (b - a)) i = some x := by rw [show a + (b - a) = b by omega]; exact b1
  obtain ⟨z, h1, h2⟩ := hop_part h'
  rw [a1] at h1
  have h1 := Option.some.inj h1
  subst h1
  rw [show b - a - 1 + 1 = b - a by omega]
  exact h2
theorem orderGo_none (hs : ∀ i k, src i = some k → k < n) : ∀ (m : Nat) (told : List Nat), Row src n told → told.length + m = n → orderGo src n m told = none → ∃ k, k < n ∧ Hang src k k
  | 0, told, hr, hl, h => by cases h
  | m + 1, told, hr, hl, h => by
    unfold orderGo at h
    cases e : pick src n told with
    | none =>
      by_cases hx : ∃ i, i < n ∧ i ∉ told
      · obtain ⟨i, hi, hn⟩ := hx
        exact stuck_loop hs hr e hi hn
      · exfalso
        obtain ⟨a, b, hab, hb, e2⟩ := pigeon told.length (fun j => told.idxOf j) (fun j hj => List.idxOf_lt_length_of_mem (Classical.byContradiction fun hc => hx ⟨j, by omega, hc⟩))
        have ha : a ∈ told := Classical.byContradiction fun hc => hx ⟨a, by omega, hc⟩
        have hb : b ∈ told := Classical.byContradiction fun hc => hx ⟨b, by omega, hc⟩
        have h1 := List.getElem_idxOf (List.idxOf_lt_length_of_mem ha)
        have h2 := List.getElem_idxOf (List.idxOf_lt_length_of_mem hb)
        have : a = b := by rw [← h1, ← h2]; congr 1
        omega
    | some i =>
      rw [e] at h
      obtain ⟨h1, h2⟩ := pick_some e
      obtain ⟨h3, h4⟩ := free_true h2
      exact orderGo_none hs m (told ++ [i]) (hr.snoc h1 h3 h4) (by simp; omega) h
/-- An order is there just if nobody hangs on himself. -/
theorem order_none_iff (hs : ∀ i k, src i = some k → k < n) : order src n = none ↔ ∃ k, k < n ∧ Hang src k k := by
  constructor
  · exact orderGo_none hs n [] .nil (by simp)
  · rintro ⟨k, hk, hh⟩
    cases e : order src n with
    | none => rfl
    | some l => exact absurd hh ((order_row e).1.noloop k (order_all e k hk))
/-- Behind all that it hangs on. -/
theorem Row.split {l : List Nat} (h : Row src n l) : ∀ a i b, l = a ++ i :: b → (∀ k, Hang src i k → k ∈ a) ∧ i ∉ a := by
  induction h with
  | nil => intro a i b e; cases a <;> cases e
  | @snoc l0 i0 h hi hn hs ih =>
    intro a i b e
    rcases List.eq_nil_or_concat b with rfl | ⟨b', x, rfl⟩
    · obtain ⟨e1, e2⟩ := List.append_inj' e rfl
      injection e2 with e2 _
      subst e1 e2
      exact ⟨fun k hk => h.behind hs hk, hn⟩
    · have e' : l0 ++ [i0] = (a ++ i :: b') ++ [x] := by rw [e]; simp
      obtain ⟨e1, -⟩ := List.append_inj' e' rfl
      exact ih a i b' e1
end Go.Proofs.YtfoenfipefhpoaaGreatDoor.Gr
/-
  Rows of numbers and of names that a call of layer 6 makes, seen from outside; who writes what a flow reads. Conditions: as the statements say.
-/
namespace Go.Proofs.YtfoenfipefhpoaaGreatDoor.Gr
open Go.RowKit Go.Proofs.YtfoenfipefhpoaaGreatDoor.Ex Go.Proofs.YtfoenfipefhpoaaGreatDoor.Pl

theorem flatMap_at {α : Type} {C : α → List Value} {k : Nat} : ∀ (L : List α), (∀ x ∈ L, (C x).length = k) → ∀ (i : Nat) (x : α), L[i]? = some x → ∀ (j : Nat) (u : Value), (C x)[j]? = some u → (L.flatMap C)[i * k + j]? = some u ∧ i * k + j < L.length * k
  | [], _, i, x, hi, _, _, _ => by simp at hi
  | y :: r, hC, 0, x, hi, j, u, hj => by
    simp only [List.getElem?_cons_zero, Option.some.injEq] at hi
    subst hi
    have hl : (C y).length = k := hC y (by simp)
    have hjk : j < k := by rw [← hl]; exact (List.getElem?_eq_some_iff.1 hj).1
    refine ⟨?_, ?_⟩
    · simp only [List.flatMap_cons, Nat.zero_mul, Nat.zero_add]
      rw [List.getElem?_append_left (by omega)]; exact hj
    · simp only [List.length_cons, Nat.zero_mul, Nat.zero_add, Nat.succ_mul]; omega
  | y :: r, hC, i + 1, x, hi, j, u, hj => by
    have hl : (C y).length = k := hC y (by simp)
    obtain ⟨h1, h2⟩ := flatMap_at r (fun z hz => hC z (by simp [hz])) i x (by simpa using hi) j u hj
    refine ⟨?_, ?_⟩
    · simp only [List.flatMap_cons]
      rw [List.getElem?_append_right (by rw [hl, Nat.succ_mul]; omega), hl]
      rw [show (i + 1) * k + j - k = i * k + j by rw [Nat.succ_mul]; omega]
      exact h1
    · simp only [List.length_cons, Nat.succ_mul]; omega
theorem lst_row {α : Type} {k : Nat} {C : α → List Value} {w : World} {B : Nat} {e : TypeId} {v : Value} {L : List α} (h : w.ownsRow B e k v L.length (L.flatMap C)) (hC : ∀ x ∈ L, (C x).length = k) : Lst k C w v L := by
  rcases h.2 with ⟨rfl, h0⟩ | ⟨g, cap, cur, rfl, hb, hg, hnc, hcm, -⟩
  · have hL : L = [] := List.length_eq_zero_iff.1 h0
    subst hL
    exact ⟨none, 0, rfl, Nat.le_refl _, Nat.zero_le _, Nat.zero_le _, fun h => absurd rfl h⟩
  · refine ⟨_, cap, rfl, hnc, Nat.le_trans hnc hcm, hcm, fun _ => ⟨g, 0, rfl, lt_of_heap hg, fun i x hi j u hj => ?_⟩⟩
    obtain ⟨h1, h2⟩ := flatMap_at L hC i x hi j u hj
    have c := h.cellAt (i * k + j) h2
    rw [Nat.zero_add, c, h1]
/-- Numbers, as they lie in a row. -/
def ics (L : List Nat) : List Value := L.flatMap fun (k : Nat) => [Value.int .i64 (k : Int)]
theorem ics_snoc (L : List Nat) (k : Nat) : ics (L ++ [k]) = ics L ++ [.int .i64 (k : Int)] := by simp [ics]
theorem one_int (i : Int) : ∀ u ∈ [Value.int .i64 i], u.oneCell' = true := by
  intro u hu; simp only [List.mem_cons, List.not_mem_nil, or_false] at hu; subst hu; rfl
def ncs (L : List Bs) : List Value := L.flatMap fun x => [sv x]
theorem ncs_snoc (L : List Bs) (x : Bs) : ncs (L ++ [x]) = ncs L ++ [sv x] := by simp [ncs]
theorem one_name (x : Bs) : ∀ u ∈ [sv x], u.oneCell' = true := by
  intro u hu; simp only [List.mem_cons, List.not_mem_nil, or_false] at hu; subst hu; rfl
/-- The slice v lists the numbers L. -/
def IntsAt (w : World) (v : Value) (L : List Nat) : Prop := Lst 1 (fun (k : Nat) => [Value.int .i64 (k : Int)]) w v L
def NamesAt (w : World) (v : Value) (L : List Bs) : Prop := Lst 1 (fun x => [sv x]) w v L
theorem IntsAt.grow {w w' : World} {v : Value} {L : List Nat} (h : IntsAt w v L) (hb : Below w.heap.size w w') : IntsAt w' v L := Lst.grow h hb
theorem NamesAt.grow {w w' : World} {v : Value} {L : List Bs} (h : NamesAt w v L) (hb : Below w.heap.size w w') : NamesAt w' v L := Lst.grow h hb
theorem ints_row {w : World} {B : Nat} {v : Value} {L : List Nat} (h : w.ownsRow B 3 1 v L.length (ics L)) : IntsAt w v L := lst_row h (fun _ _ => rfl)
theorem names_row {w : World} {B : Nat} {v : Value} {L : List Bs} (h : w.ownsRow B 9 1 v L.length (ncs L)) : NamesAt w v L := lst_row h (fun _ _ => rfl)
/-- Who writes the topic of that name. -/
def wrGo (x : Bs) : List Flw → Nat → Option Nat
  | [], _ => none
  | f :: r, k => if f.dest = x then some k else wrGo x r (k + 1)
def srcOf (fs : List Flw) (i : Nat) : Option Nat := match fs[i]? with
  | none => none
  | some f => wrGo f.frm fs 0
def oI : Option Nat → Int
  | none => -1
  | some k => (k : Int)
theorem wrGo_lt (x : Bs) : ∀ (L : List Flw) (k j : Nat), wrGo x L k = some j → k ≤ j ∧ j < k + L.length
  | [], k, j, h => by cases h
  | f :: r, k, j, h => by
    unfold wrGo at h
    rw [List.length_cons]
    split at h
    · injection h with h; omega
    · have := wrGo_lt x r (k + 1) j h; omega
theorem srcOf_lt {fs : List Flw} {i k : Nat} (h : srcOf fs i = some k) : k < fs.length := by
  unfold srcOf at h
  split at h
  · cases h
  · have := wrGo_lt _ _ _ _ h; omega
theorem srcOf_at {fs : List Flw} {i : Nat} (hi : i < fs.length) : srcOf fs i = wrGo fs[i].frm fs 0 := by
  unfold srcOf
  rw [List.getElem?_eq_getElem hi]
theorem wrGo_drop (x : Bs) (L : List Flw) (k : Nat) (hk : k < L.length) : wrGo x (L.drop k) k = if L[k].dest = x then some k else wrGo x (L.drop (k + 1)) (k + 1) := by
  rw [List.drop_eq_getElem_cons hk]; rfl
theorem drewN_below {B : Nat} (w : World) (k : Nat) : Below B w (w.drewN k) := ⟨rfl, rfl, rfl, Nat.le_refl _, fun _ _ => rfl⟩
/-- A plan's value and its lengths. -/
theorem pln_form {w : World} {v : Value} {p : Pln} (h : PlnAt w v p) : ∃ a c b d, v = .agg #[.slice a p.tops.length c, .slice b p.flws.length d] ∧ p.tops.length ≤ maxLen ∧ p.flws.length ≤ maxLen ∧ TopsAt w (.slice a p.tops.length c) p.tops ∧ ∃ es, FlwsAt w (.slice b p.flws.length d) es ∧ es.map FE.f = p.flws ∧ es.length = p.flws.length := by
  obtain ⟨vt, vf, es, rfl, ht, hf, he⟩ := h
  obtain ⟨a1, c1, rfl⟩ := ht.val
  obtain ⟨a2, c2, rfl⟩ := hf.1.val
  have hl : es.length = p.flws.length := by rw [← he, List.length_map]
  obtain ⟨-, -, k1, -⟩ := ht.len
  obtain ⟨-, -, k2, -⟩ := hf.1.len
  rw [hl] at hf k2 ⊢
  exact ⟨a1, c1, a2, c2, rfl, k1, k2, ht, es, hf, he, hl⟩
end Go.Proofs.YtfoenfipefhpoaaGreatDoor.Gr
/-
  The law's own small functions of layer 6: is a number in a row, are two rows the same. Conditions: the rows lie in memory.
-/
namespace Go.Proofs.YtfoenfipefhpoaaGreatDoor.Gr
open Go.RowKit Go.Proofs.YtfoenfipefhpoaaGreatDoor.Ex Go.Proofs.YtfoenfipefhpoaaGreatDoor.Pl

theorem IntsAt.cell {w : World} {a : Option Addr} {n c : Nat} {L : List Nat} (h : IntsAt w (.slice a n c) L) {i : Nat} (hi : i < L.length) : ∃ b o, a = some ⟨b, o, none⟩ ∧ b < w.heap.size ∧ w.cell? ⟨b, o + i, none⟩ = some (.int .i64 (L[i] : Int)) := by
  obtain ⟨b, o, e, hl, hc⟩ := h.at_ hi
  refine ⟨b, o, e, hl, ?_⟩
  have := hc 0 _ rfl
  rwa [Nat.mul_one, Nat.add_zero] at this
theorem any_drop (L : List Nat) (n : Nat) {k : Nat} (hk : k < L.length) : (L.drop k).contains n = (decide (L[k] = n) || (L.drop (k + 1)).contains n) := by
  rw [List.drop_eq_getElem_cons hk, List.contains_cons]
  congr 1
  rw [Bool.eq_iff_iff]
  simp only [beq_iff_eq, decide_eq_true_eq]
  exact eq_comm
set_option maxRecDepth 20000 in
set_option maxHeartbeats 1000000 in
theorem in_at {w : World} {v : Value} {L : List Nat} (h : IntsAt w v L) (n : Nat) {r : Bool} (hr : L.contains n = r) : Calls Tryz.prog 20 #[v, .int .i64 n] w fun e w' => e = .returned (.bool r) ∧ w = w' := by
  obtain ⟨a, c, rfl⟩ := h.val
  obtain ⟨-, k1, k2, k3⟩ := h.len
  unfold maxLen at k2 k3
  obtain ⟨m, hm⟩ : ∃ m, L.length = m := ⟨_, rfl⟩
  rw [hm] at h k1 k2 ⊢
  have HI := Lib.hid h
  have HM := Lib.hid hm
  have HR : Hid ((L.drop 0).contains n = r) := Lib.hid hr
  clear h hm hr
  go_enter Tryz.func20, Tryz.ntmps20
  go_wp2
  go_loop [5] (fun z => ∃ k : Nat, k ≤ m ∧ z = .int .i64 k ∧ Hid ((L.drop k).contains n = r)) (fun z => m - (intOf z).toNat)
  case atStart => exact ⟨0, Nat.zero_le _, rfl, HR⟩
  case round =>
    obtain ⟨k, hk, rfl, hr⟩ := hrel
    by_cases hlt : k < m
    · have hkl : k < L.length := by rw [HM.out]; exact hlt
      obtain ⟨b, o, rfl, hbl, y0⟩ := HI.out.cell hkl
      have hd := any_drop L n hkl
      obtain ⟨x, hx⟩ : ∃ x, L[k] = x := ⟨_, rfl⟩
      rw [hx] at hd y0
      have g0 : (0 : Int) ≤ (k : Int) := by omega
      have g1 : (k : Int) < (m : Int) := by omega
      by_cases hq : x = n
      · have HD : Hid (true = r) := Lib.hid (by rw [← hr.out, hd, decide_eq_true hq]; rfl)
        have e1 : ((x : Int) == (n : Int)) = true := ibeq (by omega)
        clear hr hd hq hx hkl
        go_wp2
        go_ret
        exact ⟨ret_bool HD.out, rfl⟩
      · have HD : Hid ((L.drop (k + 1)).contains n = r) := Lib.hid (by rw [← hr.out, hd, decide_eq_false hq]; rfl)
        have e1 : ((x : Int) == (n : Int)) = false := ibne (by omega)
        clear hr hd hq hx hkl
        go_wp2
        go_round
        case rel => exact ⟨k + 1, by omega, by go_num, HD⟩
        case measure => simp [intOf]; omega
    · have HD : Hid (false = r) := Lib.hid (by rw [← hr.out, List.drop_eq_nil_of_le (by rw [HM.out]; omega)]; rfl)
      clear hr
      go_wp2
      go_ret
      exact ⟨ret_bool HD.out, rfl⟩
theorem eq_at {L M : List Nat} (hl : L.length = M.length) (h : ∀ i (h1 : i < L.length) (h2 : i < M.length), L[i] = M[i]) : L = M := List.ext_getElem hl h
set_option maxRecDepth 20000 in
set_option maxHeartbeats 1000000 in
theorem same_at {w : World} {v u : Value} {L M : List Nat} (h : IntsAt w v L) (h' : IntsAt w u M) {r : Bool} (hr : decide (L = M) = r) : Calls Tryz.prog 11 #[v, u] w fun e w' => e = .returned (.bool r) ∧ Below w.heap.size w w' := by
  obtain ⟨a, c, rfl⟩ := h.val
  obtain ⟨a', c', rfl⟩ := h'.val
  obtain ⟨-, k1, k2, k3⟩ := h.len
  obtain ⟨-, k4, k5, k6⟩ := h'.len
  unfold maxLen at k2 k3 k5 k6
  obtain ⟨m, hm⟩ : ∃ m, L.length = m := ⟨_, rfl⟩
  obtain ⟨n, hn⟩ : ∃ n, M.length = n := ⟨_, rfl⟩
  rw [hm] at h k1 k2 ⊢
  rw [hn] at h' k4 k5 ⊢
  by_cases hmn : m = n
  · subst hmn
    have e0 := inebf (show (m : Int) = (m : Int) from rfl)
    have HI := Lib.hid h
    have HJ := Lib.hid h'
    have HM := Lib.hid hm
    have HN := Lib.hid hn
    have HR := Lib.hid hr
    clear h h' hm hn hr
    go_enter Tryz.func11, Tryz.ntmps11
    go_wp2
    go_loopw [5] (fun z wr => ∃ k : Nat, k ≤ m ∧ z = .int .i64 k ∧ Hid (∀ i, i < k → L[i]? = M[i]?) ∧ Hid (Below w.heap.size w wr)) (fun z _ => m - (intOf z).toNat)
    case atStart => exact ⟨0, Nat.zero_le _, rfl, Lib.hid (fun i h => by omega), Lib.hid (Below.refl _ _)⟩
    case round =>
      obtain ⟨k, hk, rfl, hr, hb⟩ := hrel
      by_cases hlt : k < m
      · have hkl : k < L.length := by rw [HM.out]; exact hlt
        have hkl2 : k < M.length := by rw [HN.out]; exact hlt
        obtain ⟨b, o, rfl, hbl, y0⟩ := IntsAt.cell (Lst.grow HI.out hb.out) hkl
        obtain ⟨b', o', rfl, hbl', z0⟩ := IntsAt.cell (Lst.grow HJ.out hb.out) hkl2
        obtain ⟨x, hx⟩ : ∃ x, L[k] = x := ⟨_, rfl⟩
        obtain ⟨y, hy⟩ : ∃ y, M[k] = y := ⟨_, rfl⟩
        rw [hx] at y0
        rw [hy] at z0
        have g0 : (0 : Int) ≤ (k : Int) := by omega
        have g1 : (k : Int) < (m : Int) := by omega
        by_cases hq : x = y
        · have HD : Hid (∀ i, i < k + 1 → L[i]? = M[i]?) := Lib.hid (fun i hi => by
            by_cases e : i = k
            · subst e; rw [List.getElem?_eq_getElem hkl, List.getElem?_eq_getElem hkl2, hx, hy, hq]
            · exact hr.out i (by omega))
          have e1 : ((x : Int) != (y : Int)) = false := inebf (by omega)
          clear hr hq hx hy hkl hkl2
          go_wp2
          go_region_held3 (fun X => X.cell? ⟨b, o + k, none⟩ = some (.int .i64 (x : Int)) ∧ X.cell? ⟨b', o' + k, none⟩ = some (.int .i64 (y : Int))) (exact ⟨y0, z0⟩) (fail)
          all_goals go_wp2
          all_goals go_roundw
          case rel => exact ⟨k + 1, by omega, by go_num, HD, Lib.hid (hb.out.trans (((Below.refl _ _).drew).mono hb.out.size))⟩
          case measure => simp [intOf]; omega
        · have HD : Hid (false = r) := Lib.hid (by
            rw [← HR.out]
            refine (decide_eq_false (fun e => hq ?_)).symm
            subst e
            rw [← hx, ← hy])
          have e1 : ((x : Int) != (y : Int)) = true := inebt (by omega)
          clear hr hq hx hy hkl hkl2
          go_wp2
          go_region_held3 (fun X => X.cell? ⟨b, o + k, none⟩ = some (.int .i64 (x : Int)) ∧ X.cell? ⟨b', o' + k, none⟩ = some (.int .i64 (y : Int))) (exact ⟨y0, z0⟩) (fail)
          all_goals go_wp2
          all_goals go_ret
          all_goals exact ⟨ret_bool HD.out, hb.out.trans (((Below.refl _ _).drew).mono hb.out.size)⟩
      · have HD : Hid (true = r) := Lib.hid (by
          rw [← HR.out]
          refine (decide_eq_true (eq_at (HM.out.trans HN.out.symm) fun i h1 h2 => ?_)).symm
          have := hr.out i (by rw [HM.out] at h1; omega)
          rw [List.getElem?_eq_getElem h1, List.getElem?_eq_getElem h2] at this
          exact Option.some.inj this)
        clear hr
        go_wp2
        go_ret
        exact ⟨ret_bool HD.out, hb.out⟩
  · have e0 : ((m : Int) != (n : Int)) = true := inebt (by omega)
    have HD : Hid (false = r) := Lib.hid (by
      rw [← hr]
      refine (decide_eq_false (fun e => hmn ?_)).symm
      rw [← hm, ← hn, e])
    clear h h' hm hn hr
    go_enter Tryz.func11, Tryz.ntmps11
    go_wp2
    go_ret
    exact ⟨ret_bool HD.out, Below.refl _ _⟩
end Go.Proofs.YtfoenfipefhpoaaGreatDoor.Gr
