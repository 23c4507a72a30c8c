/-
  Layer 10 in mathematics: what is kept of some values, whatever their order and grouping. Conditions: none but those that each theorem names; nothing of a program.
-/
import Derived.IntWalk
import Derived.RowKit
namespace Go.Proofs.Ytlmnkmfpdjkijaa.Ag
set_option linter.unusedVariables false
set_option linter.unusedSimpArgs false

/-- What is kept: how many, their sum, the least, the greatest. -/
structure Ac where
  c : Int
  s : Int
  mn : Int
  mx : Int
def zer : Ac := ⟨0, 0, 0, 0⟩
def one (v : Int) : Ac := ⟨1, v, v, v⟩
def wr (n : Int) : Int := IntKind.i64.wrap n
theorem wr_in {n : Int} (h : -9223372036854775808 ≤ n ∧ n ≤ 9223372036854775807) : wr n = n := IntWalk.i64_in n h
theorem wr_add (a b : Int) : wr (wr a + b) = wr (a + b) := by
  unfold wr
  rw [IntKind.wrap_i64, IntKind.wrap_i64, IntKind.wrap_i64]
  omega
theorem wr_add2 (a b : Int) : wr (wr a + wr b) = wr (a + b) := by
  rw [wr_add, Int.add_comm, wr_add, Int.add_comm]
def jn (a b : Ac) : Ac :=
  if a.c = 0 then (if b.c = 0 then zer else b)
  else if b.c = 0 then a
  else ⟨wr (a.c + b.c), wr (a.s + b.s), min a.mn b.mn, max a.mx b.mx⟩
/-- What is told of it, and the error. -/
def vl (k : Int) (a : Ac) : Int × Int :=
  if k < 1 ∨ 4 < k then (0, 1)
  else if a.c = 0 then (0, 6)
  else if k = 1 then (a.c, 0)
  else if k = 2 then (a.s, 0)
  else if k = 3 then (a.mn, 0)
  else (a.mx, 0)
def sm (L : List Int) : Int := L.foldr (fun x s => x + s) 0
theorem sm_append (L M : List Int) : sm (L ++ M) = sm L + sm M := by
  induction L with
  | nil => simp [sm]
  | cons x r ih =>
    show x + sm (r ++ M) = x + sm r + sm M
    rw [ih]; omega
theorem sm_reverse (L : List Int) : sm L.reverse = sm L := by
  induction L with
  | nil => rfl
  | cons x r ih =>
    rw [List.reverse_cons, sm_append, ih]
    show sm r + (x + 0) = x + sm r
    omega
def I64 (z : Int) : Prop := -9223372036854775808 ≤ z ∧ z ≤ 9223372036854775807
/-- a is kept of L. -/
structure Is (a : Ac) (L : List Int) : Prop where
  c : a.c = (L.length : Int)
  s : a.s = wr (sm L)
  non : L = [] → a.mn = 0 ∧ a.mx = 0
  mn : L ≠ [] → a.mn ∈ L ∧ ∀ x ∈ L, a.mn ≤ x
  mx : L ≠ [] → a.mx ∈ L ∧ ∀ x ∈ L, x ≤ a.mx
theorem ac_ext {a b : Ac} (h1 : a.c = b.c) (h2 : a.s = b.s) (h3 : a.mn = b.mn) (h4 : a.mx = b.mx) : a = b := by
  cases a; cases b
  simp only at h1 h2 h3 h4
  subst h1 h2 h3 h4
  rfl
theorem Is.uniq {a b : Ac} {L : List Int} (h : Is a L) (k : Is b L) : a = b := by
  by_cases h0 : L = []
  · exact ac_ext (by rw [h.c, k.c]) (by rw [h.s, k.s]) (by rw [(h.non h0).1, (k.non h0).1]) (by rw [(h.non h0).2, (k.non h0).2])
  · refine ac_ext (by rw [h.c, k.c]) (by rw [h.s, k.s]) ?_ ?_
    · have h1 := (h.mn h0).2 _ (k.mn h0).1
      have h2 := (k.mn h0).2 _ (h.mn h0).1
      omega
    · have h1 := (h.mx h0).2 _ (k.mx h0).1
      have h2 := (k.mx h0).2 _ (h.mx h0).1
      omega
/-- The same values in another order. -/
theorem Is.turn {a : Ac} {L M : List Int} (h : Is a L) (hl : L.length = M.length) (hs : sm L = sm M) (hm : ∀ x, x ∈ L ↔ x ∈ M) : Is a M := by
  have h0 : L = [] ↔ M = [] := by
    rw [← List.length_eq_zero_iff, ← List.length_eq_zero_iff, hl]
  exact ⟨by rw [h.c, hl], by rw [h.s, hs], fun e => h.non (h0.2 e), fun e => ⟨(hm _).1 (h.mn (fun e' => e (h0.1 e'))).1, fun x hx => (h.mn (fun e' => e (h0.1 e'))).2 x ((hm x).2 hx)⟩,
    fun e => ⟨(hm _).1 (h.mx (fun e' => e (h0.1 e'))).1, fun x hx => (h.mx (fun e' => e (h0.1 e'))).2 x ((hm x).2 hx)⟩⟩
theorem Is.reverse {a : Ac} {L : List Int} (h : Is a L.reverse) : Is a L := h.turn (by simp) (sm_reverse L) (fun x => by simp)
theorem Is.swap {a : Ac} {L M : List Int} (h : Is a (L ++ M)) : Is a (M ++ L) := h.turn (by simp; omega) (by rw [sm_append, sm_append, Int.add_comm]) (fun x => by simp [or_comm])
theorem is_nil : Is zer [] := ⟨rfl, (wr_in (n := 0) (by omega)).symm, fun _ => ⟨rfl, rfl⟩, fun h => absurd rfl h, fun h => absurd rfl h⟩
theorem is_one {v : Int} (h : I64 v) : Is (one v) [v] := by
  refine ⟨rfl, ?_, fun e => by simp at e, fun _ => ⟨List.mem_singleton.2 rfl, fun x hx => ?_⟩, fun _ => ⟨List.mem_singleton.2 rfl, fun x hx => ?_⟩⟩
  · show v = wr (v + 0)
    rw [Int.add_zero, wr_in h]
  · rw [List.mem_singleton.1 hx]; exact Int.le_refl _
  · rw [List.mem_singleton.1 hx]; exact Int.le_refl _
theorem Is.c_zero {a : Ac} {L : List Int} (h : Is a L) : a.c = 0 ↔ L = [] := by
  rw [h.c]
  constructor
  · intro e; exact List.length_eq_zero_iff.1 (by omega)
  · intro e; rw [e]; rfl
theorem Is.join {a b : Ac} {L M : List Int} (h : Is a L) (k : Is b M) (hl : L.length + M.length ≤ 1000000) : Is (jn a b) (L ++ M) := by
  by_cases h0 : L = []
  · subst h0
    rw [List.nil_append]
    unfold jn
    rw [if_pos (h.c_zero.2 rfl)]
    by_cases k0 : M = []
    · subst k0
      rw [if_pos (k.c_zero.2 rfl)]
      exact is_nil
    · rw [if_neg (fun e => k0 (k.c_zero.1 e))]
      exact k
  · by_cases k0 : M = []
    · subst k0
      rw [List.append_nil]
      unfold jn
      rw [if_neg (fun e => h0 (h.c_zero.1 e)), if_pos (k.c_zero.2 rfl)]
      exact h
    · unfold jn
      rw [if_neg (fun e => h0 (h.c_zero.1 e)), if_neg (fun e => k0 (k.c_zero.1 e))]
      obtain ⟨m1, m2⟩ := h.mn h0
      obtain ⟨m3, m4⟩ := k.mn k0
      obtain ⟨x1, x2⟩ := h.mx h0
      obtain ⟨x3, x4⟩ := k.mx k0
      have hne : L ++ M ≠ [] := fun e => h0 (List.append_eq_nil_iff.1 e).1
      refine ⟨?_, ?_, fun e => absurd e hne, fun _ => ⟨?_, fun x hx => ?_⟩, fun _ => ⟨?_, fun x hx => ?_⟩⟩
      · show wr (a.c + b.c) = _
        rw [h.c, k.c, wr_in (by omega), List.length_append]
        omega
      · show wr (a.s + b.s) = _
        rw [h.s, k.s, wr_add2, sm_append]
      · show min a.mn b.mn ∈ L ++ M
        rcases Int.le_total a.mn b.mn with e | e
        · rw [show min a.mn b.mn = a.mn by omega]; exact List.mem_append_left _ m1
        · rw [show min a.mn b.mn = b.mn by omega]; exact List.mem_append_right _ m3
      · show min a.mn b.mn ≤ x
        rcases List.mem_append.1 hx with e | e
        · have := m2 x e; omega
        · have := m4 x e; omega
      · show max a.mx b.mx ∈ L ++ M
        rcases Int.le_total a.mx b.mx with e | e
        · rw [show max a.mx b.mx = b.mx by omega]; exact List.mem_append_right _ x3
        · rw [show max a.mx b.mx = a.mx by omega]; exact List.mem_append_left _ x1
      · show x ≤ max a.mx b.mx
        rcases List.mem_append.1 hx with e | e
        · have := x2 x e; omega
        · have := x4 x e; omega
theorem take_next {L : List Int} {k : Nat} (h : k < L.length) {x : Int} (hx : L[k] = x) : L.take (k + 1) = L.take k ++ [x] := by
  rw [List.take_succ_eq_append_getElem h, hx]
end Go.Proofs.Ytlmnkmfpdjkijaa.Ag
