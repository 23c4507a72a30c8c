/-
  Spans appended within a region that draws its order, as one step. Conditions: as the theorem names them.
-/
import Derived.Test.YtfkdkcdknpjoeaaWApp
import Derived.Deep.RegionLaw
import Derived.Deep.AppendLies
namespace Go.Proofs.Ytfkdkcdknpjoeaa.Wi
set_option linter.unusedVariables false
set_option linter.unusedSimpArgs false
open Go.RowKit

theorem step_spans {w : World} {ops : Array Oper} {o : Oper} {a : Act} {K : Act → World → Prop} {Q : Exit → Act → World → Prop} {E : Prop} (hgd : o.guard = none) (s x : Operand)
    (ho : o.op = .call { callee := .builtin .append, args := #[s, x], argTypes := #[24, 24] })
    (base : Nat) (v : Value) (M : List Sp) (hs : a.eval s = v) (hown : w.ownsRow base 34 2 v M.length (scs M))
    (p : Option Addr) (m c : Nat) (L : List Sp) (hx : a.eval x = .slice p m c) (hl : SpansAt w (.slice p m c) L)
    (h63 : M.length + m ≤ 100000) (hbase : base ≤ w.heap.size)
    (h : ∀ v' w', w'.ownsRow base 34 2 v' (M ++ L).length (scs (M ++ L)) → w.grownBy w' v.ownBlock → K (a.put o.dst v') w') : if Region.wanted o (yielded ops a.tmps) = true then Oper.wp Try.prog o a w K Q else E := by
  obtain ⟨hml, k1, k2, k3⟩ := hl.len
  by_cases h0 : m = 0
  · have hL : L = [] := List.length_eq_zero_iff.1 (by omega)
    subst hL
    subst h0
    have hr := run_append_no base v M.length (scs M) hown o.type p c
    have hw : Region.wanted o (yielded ops a.tmps) = true := by simp [Region.wanted, hgd]
    rw [if_pos hw]
    unfold Oper.wp
    simp [execOp, ho, resolve, invoke, builtin, hs, hx, hr, Result.andThen]
    exact h v w (by simpa using hown) ⟨rfl, rfl, rfl, Nat.le_refl _, fun _ _ _ => rfl⟩
  · have hL0 : L ≠ [] := fun e => h0 (by rw [hml, e]; rfl)
    obtain ⟨b, oo, rfl, -, -⟩ := hl.at_ (i := 0) (by omega)
    obtain ⟨i0, hi, hz0, hz1, hz2⟩ := info_parts infoS
    refine step_append_lies w hgd s x 24 ho base 34 i0 (.agg #[.int .i64 0, .int .i64 0]) 2 16 Try.underlying24 hi hz0 hz1 hz2 rfl (by decide) v M.length (scs M) hs hown ⟨b, oo, none⟩ m c (scs L) hx (by rw [scs_len, hml]) (hl.flat hL0) (one_scs L) (by omega) (by unfold maxLen; omega) (by omega) hbase _ rfl ?_
    intro g cap w' h1 h2 h3 h4
    refine h _ w' ?_ h2
    rw [scs_append, List.length_append, ← hml]
    exact h1
end Go.Proofs.Ytfkdkcdknpjoeaa.Wi
