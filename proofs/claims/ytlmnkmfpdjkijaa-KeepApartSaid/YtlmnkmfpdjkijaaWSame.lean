/-
  The law's own look at two rows of spans: are they the same. Conditions: they lie in memory.
-/
import Derived.Test.YtlmnkmfpdjkijaaWSmall
namespace Go.Proofs.Ytlmnkmfpdjkijaa.Wi
set_option linter.unusedVariables false
set_option linter.unusedSimpArgs false
open Go.RowKit

theorem run_sp (w : World) (a b c d : Int) : (Op.equalIn 10000 49 (.agg #[.int .i64 a, .int .i64 b]) (.agg #[.int .i64 c, .int .i64 d])).run Try.prog w = .ok (a == c && b == d) w := by
  rw [run_equalIn_struct w 9999 _ _ _ (by kernel_rfl) (by kernel_rfl)]
  have hf : (Try.prog.fieldsOf 49).toList.map (fun f => (f.name, f.type, f.offset)) = [("From", 3, 0), ("To", 3, 1)] := by kernel_rfl
  generalize (Try.prog.fieldsOf 49).toList = fs at hf
  match fs with
  | [] => simp at hf
  | [_] => simp at hf
  | _ :: _ :: _ :: _ => simp at hf
  | [f, g] =>
    simp only [List.map_cons, List.map_nil, List.cons.injEq, Prod.mk.injEq, and_true] at hf
    obtain ⟨⟨f1, f2, f3⟩, g1, g2, g3⟩ := hf
    have hp : Try.prog.plainKey 3 = true := by kernel_rfl
    have h0 : ∀ (x y : Value) (w : World), (part 3 #[x, y] 0).run Try.prog w = .ok x w := fun x y w => run_part_plain w hp rfl
    have h1 : ∀ (x y : Value) (w : World), (part 3 #[x, y] 1).run Try.prog w = .ok y w := fun x y w => run_part_plain w hp rfl
    have he : ∀ (x y : Int) (w : World), (Op.equalIn 9999 3 (.int .i64 x) (.int .i64 y)).run Try.prog w = .ok (x == y) w := fun x y w => run_equalIn_int w 9998 3 .i64 .i64 x y Try.underlying3
    cases ha : (a == c) <;> cases hb : (b == d) <;> simp [Op.eqFields, f1, f2, f3, g1, g2, g3, Sem.run_bind, Result.andThen_ok, h0, h1, he, ha, hb]
attribute [local go_sem] run_sp
theorem sp_ne {s r : Sp} (h : ¬ s = r) : (s.1 == r.1 && s.2 == r.2) = false := by
  cases h1 : (s.1 == r.1 && s.2 == r.2) with
  | false => rfl
  | true =>
    simp only [Bool.and_eq_true, beq_iff_eq] at h1
    exact absurd (Prod.ext h1.1 h1.2) h
theorem list_eq {α : Type} {L M : List α} (hl : L.length = M.length) (h : ∀ i, i < L.length → L[i]? = M[i]?) : L = M := by
  apply List.ext_getElem?
  intro i
  by_cases hi : i < L.length
  · exact h i hi
  · rw [List.getElem?_eq_none (by omega), List.getElem?_eq_none (by omega)]
end Go.Proofs.Ytlmnkmfpdjkijaa.Wi
