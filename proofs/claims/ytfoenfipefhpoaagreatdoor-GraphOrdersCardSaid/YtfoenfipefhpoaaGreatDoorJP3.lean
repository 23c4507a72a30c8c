/-
  A plan without an error is small: its numbers, its texts, its own text. Conditions: none; nothing of a program.
-/
import Derived.Test.YtfoenfipefhpoaaGreatDoorJP1
import Derived.Lib.ItoaLen
set_option linter.unusedVariables false
set_option linter.unusedSimpArgs false
namespace Go.Proofs.YtfoenfipefhpoaaGreatDoor.Pl
open Go.RowKit Go.Proofs.YtfoenfipefhpoaaGreatDoor.Ex

def Num64 (i : Int) : Prop := -9223372036854775808 ≤ i ∧ i ≤ 9223372036854775807
/-- The numbers of a flow are 64-bit. -/
structure NumF (f : Flw) : Prop where
  bound : Num64 f.bound
  readers : Num64 f.readers
  keepers : Num64 f.keepers
  size : Num64 f.win.size
  slide : Num64 f.win.slide
  pre : ∀ s ∈ f.pre, Num64 s.n
  post : ∀ s ∈ f.post, Num64 s.n
theorem topsErr_none : ∀ (L e : List Top), topsErr e L = none → ∀ t ∈ L, ∃ e', topErr e' t = 0
  | [], _, _, t, ht => by cases ht
  | x :: r, e, h, t, ht => by
    simp only [topsErr] at h
    split at h
    · rename_i h0
      rcases List.mem_cons.1 ht with rfl | ht
      · exact ⟨e, h0⟩
      · exact topsErr_none r _ h t ht
    · cases h
theorem flwsErr_none (ts : List Top) (all : List Flw) : ∀ (L e : List Flw), flwsErr ts all e L = none → ∀ f ∈ L, ∃ e', flwErr ts all e' f = 0
  | [], _, _, t, ht => by cases ht
  | x :: r, e, h, t, ht => by
    simp only [flwsErr] at h
    split at h
    · rename_i h0
      rcases List.mem_cons.1 ht with rfl | ht
      · exact ⟨e, h0⟩
      · exact flwsErr_none ts all r _ h t ht
    · cases h
theorem isName_len {n : Bs} (h : isName n = true) : n.length ≤ 16 := by
  unfold isName at h
  simp only [Bool.and_eq_true, decide_eq_true_eq] at h
  exact h.2.1
theorem topErr_zero {e : List Top} {t : Top} (h : topErr e t = 0) : t.name.length ≤ 16 ∧ 1 ≤ t.parts ∧ t.parts ≤ 16 := by
  unfold topErr at h
  split at h
  · omega
  · rename_i h1
    split at h
    · omega
    · split at h
      · omega
      · rename_i h3
        exact ⟨isName_len (by simpa using h1), by omega, by omega⟩
theorem exprErr_zero {t : Bs} (h : exprErr t = 0) : t.length ≤ 200 := by
  rcases Nat.lt_or_ge 200 t.length with hl | hl
  · exfalso
    unfold exprErr parse at h
    rw [if_pos hl] at h
    exact absurd h (by decide)
  · exact hl
theorem stepErr_zero {s : Stp} (h : stepErr s = 0) : s.text.length ≤ 200 ∧ 0 ≤ s.n ∧ s.n ≤ 16 := by
  unfold stepErr at h
  split at h
  · split at h
    · omega
    · rename_i h2
      have h3 : s.text = [] := by
        rcases Classical.em (s.text = []) with h | h
        · exact h
        · exact absurd (.inr (.inr h)) h2
      exact ⟨by rw [h3]; decide, by omega, by omega⟩
  · split at h
    · split at h
      · omega
      · rename_i h2
        have h3 : s.n = 0 := by
          rcases Classical.em (s.n = 0) with h | h
          · exact h
          · exact absurd (.inl h) h2
        exact ⟨exprErr_zero h, by omega, by omega⟩
    · omega
theorem firstErr_zero {g : Stp → Int} : ∀ {L : List Stp}, firstErr g L = 0 → ∀ s ∈ L, g s = 0
  | [], _, s, hs => by cases hs
  | x :: r, h, s, hs => by
    simp only [firstErr] at h
    split at h
    · rename_i h0
      rcases List.mem_cons.1 hs with rfl | hs
      · exact h0
      · exact firstErr_zero h s hs
    · rename_i h0; exact absurd h h0
theorem postErr_zero {s : Stp} (h : postErr s = 0) : stepErr s = 0 := by
  unfold postErr at h
  split at h
  · omega
  · exact h
theorem partsOf_mem : ∀ {L : List Top} {n : Bs}, 0 < partsOf L n → ∃ t ∈ L, t.name = n
  | [], n, h => by simp [partsOf] at h
  | t :: r, n, h => by
    simp only [partsOf] at h
    split at h
    · rename_i e; exact ⟨t, by simp, e⟩
    · obtain ⟨x, hx, e⟩ := partsOf_mem h
      exact ⟨x, by simp [hx], e⟩
/-- What a flow without an error keeps to. -/
structure FSm (f : Flw) : Prop where
  num : NumF f
  name : f.name.length ≤ 16
  frm : f.frm.length ≤ 16
  dest : f.dest.length ≤ 16
  lpre : f.pre.length ≤ 8
  lpost : f.post.length ≤ 8
  tpre : ∀ s ∈ f.pre, s.text.length ≤ 200 ∧ 0 ≤ s.n ∧ s.n ≤ 16
  tpost : ∀ s ∈ f.post, s.text.length ≤ 200 ∧ 0 ≤ s.n ∧ s.n ≤ 16
theorem isWindow_num {v : Win} (h : isWindow v = true) : Num64 v.size ∧ Num64 v.slide := by
  unfold isWindow at h
  unfold Num64
  split at h
  · simp only [Bool.and_eq_true, decide_eq_true_eq] at h; omega
  · split at h
    · simp only [Bool.and_eq_true, decide_eq_true_eq] at h; omega
    · split at h
      · simp only [Bool.and_eq_true, decide_eq_true_eq] at h; omega
      · cases h
theorem flwErr_zero {ts : List Top} {all e : List Flw} {f : Flw} (ht : ∀ t ∈ ts, t.name.length ≤ 16) (h : flwErr ts all e f = 0) : FSm f := by
  unfold flwErr at h
  split at h
  · omega
  rename_i h1
  split at h
  · omega
  split at h
  · omega
  rename_i h3
  split at h
  · omega
  rename_i h4
  split at h
  · omega
  rename_i h5
  split at h
  · omega
  have hs := h
  unfold stepsErr at hs
  have hp : firstErr stepErr f.pre = 0 := by
    rcases Classical.em (firstErr stepErr f.pre = 0) with h | h
    · exact h
    · rw [if_neg h] at hs; exact absurd hs h
  rw [if_pos hp] at hs
  have hpre := fun s hs => stepErr_zero (firstErr_zero hp s hs)
  have hpost := fun s h2 => stepErr_zero (postErr_zero (firstErr_zero hs s h2))
  have e1 : areEnds ts f = true := by cases h : areEnds ts f <;> simp [h] at h3 ⊢
  have e2 : isBound all f = true := by cases h : isBound all f <;> simp [h] at h4 ⊢
  have e3 : areCounts ts f = true := by cases h : areCounts ts f <;> simp [h] at h4 ⊢
  have e4 : isWindow f.win = true := by cases h : isWindow f.win <;> simp [h] at h4 ⊢
  unfold areEnds at e1
  unfold isBound at e2
  unfold areCounts at e3
  simp only [Bool.and_eq_true, Bool.or_eq_true, decide_eq_true_eq] at e1 e2 e3
  obtain ⟨t1, m1, n1⟩ := partsOf_mem e1.1
  obtain ⟨t2, m2, n2⟩ := partsOf_mem (show 0 < partsOf ts f.dest by omega)
  obtain ⟨w1, w2⟩ := isWindow_num e4
  exact {
    num := ⟨by unfold Num64; omega, by unfold Num64; omega, by unfold Num64; omega, w1, w2, fun s hs => by have := hpre s hs; unfold Num64; omega, fun s hs => by have := hpost s hs; unfold Num64; omega⟩
    name := isName_len (by simpa using h1)
    frm := by rw [← n1]; exact ht _ m1
    dest := by rw [← n2]; exact ht _ m2
    lpre := by omega
    lpost := by omega
    tpre := hpre
    tpost := hpost }
theorem check_zero {p : Pln} (h : (check p).2 = 0) : p.tops.length ≤ 16 ∧ p.flws.length ≤ 8 ∧ (∀ t ∈ p.tops, t.name.length ≤ 16 ∧ 1 ≤ t.parts ∧ t.parts ≤ 16) ∧ ∀ f ∈ p.flws, FSm f := by
  unfold check at h
  split at h
  · cases h
  · rename_i h0
    split at h
    · rename_i r hr
      exfalso
      have : ∀ (L e : List Top) (q : Nat × Int), topsErr e L = some q → q.2 ≠ 0 := by
        intro L
        induction L with
        | nil => intro e q h; cases h
        | cons t r ih =>
          intro e q h
          simp only [topsErr] at h
          split at h
          · exact ih _ _ h
          · rename_i hn; injection h with h; subst h; exact hn
      exact this _ _ _ hr h
    · rename_i ht
      split at h
      · rename_i r hr
        exfalso
        have : ∀ (L e : List Flw) (q : Nat × Int), flwsErr p.tops p.flws e L = some q → q.2 ≠ 0 := by
          intro L
          induction L with
          | nil => intro e q h; cases h
          | cons t r ih =>
            intro e q h
            simp only [flwsErr] at h
            split at h
            · exact ih _ _ h
            · rename_i hn; injection h with h; subst h; exact hn
        exact this _ _ _ hr h
      · rename_i hf
        have h1 : ∀ t ∈ p.tops, t.name.length ≤ 16 ∧ 1 ≤ t.parts ∧ t.parts ≤ 16 := fun t m => by
          obtain ⟨e, he⟩ := topsErr_none _ _ ht t m
          exact topErr_zero he
        refine ⟨by omega, by omega, h1, fun f m => ?_⟩
        obtain ⟨e, he⟩ := flwsErr_none _ _ _ _ hf f m
        exact flwErr_zero (fun t m => (h1 t m).1) he
theorem lineB_len : ∀ ws : List Bs, (lineB ws).length ≤ (ws.map List.length).sum + ws.length + 1
  | [] => by simp [lineB]
  | [w] => by simp [lineB]
  | w :: x :: r => by
    have := lineB_len (x :: r)
    simp only [lineB, List.length_append, List.length_cons, List.map_cons, List.sum_cons] at *
    omega
theorem itoa_len (i : Int) (h : Num64 i) : (Lib.itoa i).length ≤ 21 := Lib.itoa_length_le i h.1 h.2
theorem num_small {i a b : Int} (h : a ≤ i ∧ i ≤ b) (ha : -9223372036854775808 ≤ a) (hb : b ≤ 9223372036854775807) : Num64 i := by unfold Num64; omega
theorem stepText_len {s : Stp} (h : s.text.length ≤ 200 ∧ 0 ≤ s.n ∧ s.n ≤ 16) : (stepText s).length ≤ 300 := by
  have h1 := lineB_len [wFilter, s.text]
  have h2 := lineB_len [wSet, s.text]
  have h3 := lineB_len [wKey, Lib.itoa s.n]
  have h4 := itoa_len s.n (by unfold Num64; omega)
  simp only [List.map_cons, List.map_nil, List.sum_cons, List.sum_nil, List.length_cons, List.length_nil, show wFilter.length = 6 from rfl, show wSet.length = 3 from rfl, show wKey.length = 3 from rfl] at h1 h2 h3
  unfold stepText
  split
  · omega
  · split
    · omega
    · split
      · omega
      · simp
theorem flat_len {α : Type} {g : α → Bs} {k : Nat} : ∀ (L : List α), (∀ x ∈ L, (g x).length ≤ k) → (L.flatMap g).length ≤ L.length * k
  | [], _ => by simp
  | x :: r, h => by
    have h1 := h x (by simp)
    have h2 := flat_len r (fun y hy => h y (by simp [hy]))
    simp only [List.flatMap_cons, List.length_append, List.length_cons, Nat.succ_mul]
    omega
theorem flwText_len {f : Flw} (h : FSm f) : (flwText f).length ≤ 10000 := by
  have hb : (boundWord f.bound).length ≤ 30 := by
    have := itoa_len _ h.num.bound
    unfold boundWord
    split
    · simp only [List.length_append, show wBound.length = 5 from rfl, List.length_cons, List.length_nil]; omega
    · decide
  have h1 := lineB_len [wFlow, f.name, wFrom, f.frm, wTo, f.dest, boundWord f.bound, wReaders, Lib.itoa f.readers, wKeepers, Lib.itoa f.keepers]
  have i1 := itoa_len _ h.num.readers
  have i2 := itoa_len _ h.num.keepers
  have i3 := itoa_len _ h.num.size
  have i4 := itoa_len _ h.num.slide
  have n1 := h.name
  have n2 := h.frm
  have n3 := h.dest
  simp only [List.map_cons, List.map_nil, List.sum_cons, List.sum_nil, List.length_cons, List.length_nil, show wFlow.length = 4 from rfl, show wFrom.length = 4 from rfl, show wTo.length = 2 from rfl, show wReaders.length = 7 from rfl, show wKeepers.length = 7 from rfl] at h1
  have s1 : (stepsText f.pre).length ≤ 8 * 300 := Nat.le_trans (flat_len f.pre (fun s hs => stepText_len (h.tpre s hs))) (Nat.mul_le_mul_right _ h.lpre)
  have s2 : (stepsText f.post).length ≤ 8 * 300 := Nat.le_trans (flat_len f.post (fun s hs => stepText_len (h.tpost s hs))) (Nat.mul_le_mul_right _ h.lpost)
  have w1 : (winText f.win).length ≤ 100 := by
    have a1 := lineB_len [wWindow, wTumble, Lib.itoa f.win.size]
    have a2 := lineB_len [wWindow, wSlide, Lib.itoa f.win.size, Lib.itoa f.win.slide]
    have a3 := lineB_len [wWindow, wSession, Lib.itoa f.win.size]
    simp only [List.map_cons, List.map_nil, List.sum_cons, List.sum_nil, List.length_cons, List.length_nil, show wWindow.length = 6 from rfl, show wTumble.length = 6 from rfl, show wSlide.length = 5 from rfl, show wSession.length = 7 from rfl] at a1 a2 a3
    unfold winText
    split
    · omega
    · split <;> omega
  have g1 : (lineB [wAgg, aggWord f.agg]).length ≤ 100 := by
    have a1 := lineB_len [wAgg, aggWord f.agg]
    have a2 : (aggWord f.agg).length ≤ 5 := by
      unfold aggWord
      split
      · decide
      · split
        · decide
        · split <;> decide
    simp only [List.map_cons, List.map_nil, List.sum_cons, List.sum_nil, List.length_cons, List.length_nil, show wAgg.length = 3 from rfl] at a1
    omega
  unfold flwText
  simp only [List.length_append]
  split
  · simp only [List.length_append]; omega
  · simp only [List.length_nil]; omega
theorem topText_len {t : Top} (h : t.name.length ≤ 16 ∧ 1 ≤ t.parts ∧ t.parts ≤ 16) : (topText t).length ≤ 100 := by
  have h1 := lineB_len [wTopic, t.name, Lib.itoa t.parts]
  have i1 := itoa_len t.parts (by unfold Num64; omega)
  simp only [List.map_cons, List.map_nil, List.sum_cons, List.sum_nil, List.length_cons, List.length_nil, show wTopic.length = 5 from rfl] at h1
  unfold topText
  omega
theorem planText_len {p : Pln} (h : (check p).2 = 0) : (planText p).length ≤ 100000 := by
  obtain ⟨h1, h2, h3, h4⟩ := check_zero h
  have a := flat_len (g := topText) p.tops (fun t m => topText_len (h3 t m))
  have b := flat_len (g := flwText) p.flws (fun t m => flwText_len (h4 t m))
  unfold planText
  rw [List.length_append]
  have := Nat.mul_le_mul_right 100 h1
  have := Nat.mul_le_mul_right 10000 h2
  omega
end Go.Proofs.YtfoenfipefhpoaaGreatDoor.Pl
