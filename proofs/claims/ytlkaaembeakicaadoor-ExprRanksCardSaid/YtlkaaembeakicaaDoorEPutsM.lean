/-
  Two expressions in parentheses, an operator between. Conditions: none; nothing of a program.
-/
import Derived.Test.YtlkaaembeakicaaDoorESign
namespace Go.Proofs.YtlkaaembeakicaaDoor.Ex
open Go.RowKit
def putsOf (l o r : Bs) : Bs := 40 :: (l ++ 41 :: (o ++ 40 :: ((32 :: r) ++ 32 :: [41])))
theorem parse_puts {l r o : Bs} {A B : Tree} (hA : parse l = .ok A) (hB : parse r = .ok B) (ho : o ∈ ops) :
    ((putsOf l o r).length ≤ 200 ∧ parse (putsOf l o r) = .ok (.bin o A B)) ∨ ∃ pos k, parse (putsOf l o r) = .err pos k ∧ (k = 2 ∨ k = 5) := by
  by_cases h200 : 200 < (putsOf l o r).length
  · right
    exact ⟨0, 2, by unfold parse; rw [if_pos h200], .inl rfl⟩
  have hl : (putsOf l o r).length ≤ 200 := by omega
  obtain ⟨-, sa, ra, hRa, hEa⟩ := parse_run hA
  obtain ⟨-, sb, rb, hRb0, hEb0⟩ := parse_run hB
  obtain ⟨s1, r1, hRb, hEb⟩ := blank_run hRb0 hEb0
  have hA64 := (parse_wf hA).2
  obtain ⟨n40, n41, l1, l5⟩ := ops_no ho
  have hq : isPart 4 o = true := by simp [isPart, n40, n41]
  obtain ⟨f1, -⟩ := embed hRa hEa [] [] 0 0 (by omega) (c := 41) (.inr rfl) (post := o ++ 40 :: ((32 :: r) ++ 32 :: [41])) (post2 := o ++ 40 :: ((32 :: r) ++ 32 :: [41])) rfl
  have run1 := f1 (by omega)
  obtain ⟨t1, t2, t3⟩ := tok_op ho (.inr rfl) ((32 :: r) ++ 32 :: [41])
  by_cases h64 : A.size = 64
  · right
    have hm : Many ⟨[A], [], 0, A.size + 0, true⟩ (o ++ 40 :: ((32 :: r) ++ 32 :: [41])) := by
      unfold Many
      rw [t1, t2, t3]
      unfold St.errOf
      rw [way_allows (.bin _ rfl ho), if_neg (by simp), if_pos ⟨hq, by show A.size + 0 = 64; omega⟩]
    obtain ⟨pos, hp⟩ := run_many hl run1 hm
    exact ⟨pos, 5, hp, .inr rfl⟩
  have st : Step ⟨[A], [], 0, A.size + 0, true⟩ (o ++ 40 :: ((32 :: r) ++ 32 :: [41])) ⟨[A], [(o, levelOf o)], 0, A.size + 1, false⟩ (40 :: ((32 :: r) ++ 32 :: [41])) := by
    unfold Step
    rw [t1, t2, t3]
    refine ⟨by decide, err_of_way (.bin _ rfl ho) (fun _ => by show A.size + 0 ≠ 64; omega), ?_, by simp⟩
    rw [count_eq, hq]
    unfold St.put
    rw [if_neg (by decide), if_neg (by decide), if_neg (by decide), if_neg n40, if_neg n41, if_pos rfl]
    rfl
  obtain ⟨g1, g2⟩ := embed hRb hEb [A] [(o, levelOf o)] 0 (A.size + 1) (by omega) (c := 32) (.inl rfl) (post := [41]) (post2 := []) rfl
  by_cases hs : B.size + (A.size + 1) ≤ 64
  · left
    refine ⟨hl, run_parse hl (run1.trans (.cons st (g1 hs))) ⟨rfl, err_of_way (.fin rfl rfl) (by simp [isPart]), ?_⟩⟩
    show (joinL 1 [B, A] [(o, levelOf o)]).1 = _
    rw [joinL_bin (by omega) (by omega)]; rfl
  · right
    obtain ⟨x, y, hx, hy⟩ := g2 (by omega)
    obtain ⟨pos, hp⟩ := run_many hl (run1.trans (.cons st hx)) hy
    exact ⟨pos, 5, hp, .inr rfl⟩
end Go.Proofs.YtlkaaembeakicaaDoor.Ex
