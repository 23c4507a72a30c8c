/-
  Values fit an int; signs doubled. Conditions: none; nothing of a program.
-/
import Derived.Test.YtlkaaembeakicaaDoorExprBackWalk
namespace Go.Proofs.YtlkaaembeakicaaDoor.Ex
open Go.RowKit
def Fits (x : Int) : Prop := -9223372036854775808 ≤ x ∧ x ≤ 9223372036854775807
theorem fits_wrap (x : Int) : Fits (wrap64 x) := by unfold Fits wrap64; omega
theorem fits_bit (b : Bool) : Fits (bit b) := by cases b <;> (unfold Fits bit; simp)
theorem fits_tmod {a b : Int} (hb : Fits b) (h0 : b ≠ 0) : Fits (a.tmod b) := by
  unfold Fits at *
  have h1 := Int.natAbs_tmod a b
  have h2 : a.natAbs % b.natAbs < b.natAbs := Nat.mod_lt _ (by omega)
  omega
theorem fits_ite {p : Prop} [Decidable p] {x y : Int} (hx : Fits x) (hy : Fits y) : Fits (if p then x else y) := by split <;> assumption
theorem fits_two {a b : Int} (hb : Fits b) (s : Bs) : Fits (two s a b) := by
  have h1 : Fits (if b = 0 then 0 else if s = [47] then wrap64 (a.tdiv b) else a.tmod b) := by
    by_cases h0 : b = 0
    · rw [if_pos h0]; unfold Fits; omega
    · rw [if_neg h0]; exact fits_ite (fits_wrap _) (fits_tmod hb h0)
  exact fits_ite (fits_bit _) (fits_ite (fits_bit _) (fits_ite (fits_bit _) (fits_ite (fits_bit _) (fits_ite (fits_bit _) (fits_ite (fits_bit _) (fits_ite (fits_bit _) (fits_ite (fits_bit _) (fits_ite (fits_wrap _) (fits_ite (fits_wrap _) (fits_ite (fits_wrap _) h1))))))))))
theorem fits_eval {n t v : Int} (hn : Fits n) (ht : Fits t) (hv : Fits v) : ∀ {T : Tree}, T.WF → Fits (T.eval n t v)
  | .num k, h => by
    have hk : k < 1000000000000000000 := h
    unfold Fits Tree.eval; omega
  | .name c, _ => by
    unfold Tree.eval
    repeat' split
    all_goals assumption
  | .pre s x, _ => by
    unfold Tree.eval
    split
    · exact fits_bit _
    · exact fits_wrap _
  | .bin s a b, ⟨_, _, hb⟩ => fits_two (fits_eval hn ht hv hb) s
theorem neg_neg {x : Int} (h : Fits x) : wrap64 (-(wrap64 (-x))) = x := by unfold Fits at h; unfold wrap64; omega
theorem not_not (x : Int) : bit (bit (x == 0) == 0) = if x = 0 then 0 else 1 := by
  by_cases h : x = 0
  · subst h; rfl
  · rw [if_neg h, show (x == 0) = false by simpa using h]; rfl
/-- Two signs ahead of a parenthesis. -/
theorem parse_signs {l : Bs} {T : Tree} (h : parse l = .ok T) (h190 : l.length ≤ 190) {t : Bs} (ht : t = [45] ∨ t = [33]) :
    (T.size + 2 ≤ 64 → parse (t ++ (t ++ 40 :: (l ++ [41]))) = .ok (.pre t (.pre t T))) ∧ (64 < T.size + 2 → ∃ pos, parse (t ++ (t ++ 40 :: (l ++ [41]))) = .err pos 5) := by
  obtain ⟨-, s', r', hR, hE⟩ := parse_run h
  have hl : (t ++ (t ++ 40 :: (l ++ [41]))).length ≤ 200 := by rcases ht with rfl | rfl <;> (simp; omega)
  have n40 : t ≠ [40] := by rcases ht with rfl | rfl <;> decide
  have n41 : t ≠ [41] := by rcases ht with rfl | rfl <;> decide
  have hq : isPart 4 t = true := by simp [isPart, n40, n41]
  obtain ⟨d, hd, h61⟩ : ∃ d, t = [d] ∧ d ≠ 61 := by rcases ht with rfl | rfl <;> exact ⟨_, rfl, by decide⟩
  have st : ∀ (b : St) (e : UInt8) (r : Bs), e ≠ 61 → b.complete = false → b.parts ≠ 64 → Step b (t ++ e :: r) { b with parts := b.parts + 1, waits := (t, 6) :: b.waits } (e :: r) := by
    intro b e r he hc hp
    obtain ⟨t1, t2, t3⟩ := tok_sign ht he r
    unfold Step
    rw [t1, t2, t3]
    refine ⟨by decide, err_of_way (.sign _ hc ht) (fun _ => hp), ?_, by simp⟩
    rw [count_eq, hq]
    unfold St.put
    rw [if_neg (by decide), if_neg (by decide), if_neg (by decide), if_neg n40, if_neg n41, if_neg (by simp [hc])]
    rfl
  have st1 : Step St.init (t ++ (t ++ 40 :: (l ++ [41]))) ⟨[], [(t, 6)], 0, 1, false⟩ (t ++ 40 :: (l ++ [41])) := by
    have := st St.init d (40 :: (l ++ [41])) h61 rfl (by decide)
    rw [show d :: 40 :: (l ++ [41]) = t ++ 40 :: (l ++ [41]) by rw [hd]; rfl] at this
    exact this
  have st2 : Step ⟨[], [(t, 6)], 0, 1, false⟩ (t ++ 40 :: (l ++ [41])) ⟨[], [(t, 6), (t, 6)], 0, 2, false⟩ (40 :: (l ++ [41])) := st ⟨[], [(t, 6)], 0, 1, false⟩ 40 (l ++ [41]) (by decide) rfl (by show (1 : Nat) ≠ 64; decide)
  obtain ⟨f1, f2⟩ := embed hR hE [] [(t, 6), (t, 6)] 0 2 (by omega) (c := 41) (.inr rfl) (post := []) (post2 := []) rfl
  refine ⟨fun h64 => ?_, fun h64 => ?_⟩
  · refine run_parse hl (.cons st1 (.cons st2 (f1 h64))) ⟨rfl, err_of_way (.fin rfl rfl) (by simp [isPart]), ?_⟩
    show (joinL 1 [T] [(t, 6), (t, 6)]).1 = _
    rw [joinL_pre (by omega), joinL_pre (by omega)]; rfl
  · obtain ⟨x, y, hx, hy⟩ := f2 h64
    exact run_many hl (.cons st1 (.cons st2 hx)) hy
end Go.Proofs.YtlkaaembeakicaaDoor.Ex
