/-
  The law's own look at two rows of spans: are they the same. Conditions: they lie in memory.
-/
import Derived.Test.YtfkdkcdknpjoeaaWSmall
namespace Go.Proofs.Ytfkdkcdknpjoeaa.Wi
set_option linter.unusedVariables false
set_option linter.unusedSimpArgs false
open Go.RowKit

theorem run_sp (w : World) (a b c d : Int) : (Op.equalIn 10000 34 (.agg #[.int .i64 a, .int .i64 b]) (.agg #[.int .i64 c, .int .i64 d])).run Try.prog w = .ok (a == c && b == d) w := by
  rw [run_equalIn_struct w 9999 _ _ _ (by kernel_rfl) (by kernel_rfl)]
  have hf : (Try.prog.fieldsOf 34).toList.map (fun f => (f.name, f.type, f.offset)) = [("From", 3, 0), ("To", 3, 1)] := by kernel_rfl
  generalize (Try.prog.fieldsOf 34).toList = fs at hf
  match fs with
  | [] => simp at hf
  | [_] => simp at hf
  | _ :: _ :: _ :: _ => simp at hf
  | [f, g] =>
    simp only [List.map_cons, List.map_nil, List.cons.injEq, Prod.mk.injEq, and_true] at hf
    obtain ⟨⟨f1, f2, f3⟩, g1, g2, g3⟩ := hf
    have hp : Try.prog.plainKey 3 = true := by kernel_rfl
    have h0 : ∀ (x y : Value) (w : World), (part 3 #[x, y] 0).run Try.prog w = .ok x w := fun x y w => run_part_plain w hp rfl
    have h1 : ∀ (x y : Value) (w : World), (part 3 #[x, y] 1).run Try.prog w = .ok y w := fun x y w => run_part_plain w hp rfl
    have he : ∀ (x y : Int) (w : World), (Op.equalIn 9999 3 (.int .i64 x) (.int .i64 y)).run Try.prog w = .ok (x == y) w := fun x y w => run_equalIn_int w 9998 3 .i64 .i64 x y Try.underlying3
    cases ha : (a == c) <;> cases hb : (b == d) <;> simp [Op.eqFields, f1, f2, f3, g1, g2, g3, Sem.run_bind, Result.andThen_ok, h0, h1, he, ha, hb]
attribute [local go_sem] run_sp
theorem sp_ne {s r : Sp} (h : ¬ s = r) : (s.1 == r.1 && s.2 == r.2) = false := by
  cases h1 : (s.1 == r.1 && s.2 == r.2) with
  | false => rfl
  | true =>
    simp only [Bool.and_eq_true, beq_iff_eq] at h1
    exact absurd (Prod.ext h1.1 h1.2) h
theorem list_eq {α : Type} {L M : List α} (hl : L.length = M.length) (h : ∀ i, i < L.length → L[i]? = M[i]?) : L = M := by
  apply List.ext_getElem?
  intro i
  by_cases hi : i < L.length
  · exact h i hi
  · rw [List.getElem?_eq_none (by omega), List.getElem?_eq_none (by omega)]
set_option maxRecDepth 20000 in
set_option maxHeartbeats 2000000 in
theorem same_at {w : World} {v u : Value} {L M : List Sp} (h : SpansAt w v L) (h' : SpansAt w u M) {r : Bool} (hr : decide (L = M) = r) : Calls Try.prog 14 #[v, u] w fun e w' => e = .returned (.bool r) ∧ Below w.heap.size w w' := by
  obtain ⟨a, c, rfl⟩ := h.val
  obtain ⟨a', c', rfl⟩ := h'.val
  obtain ⟨-, k1, k2, k3⟩ := h.len
  obtain ⟨-, k4, k5, k6⟩ := h'.len
  unfold maxLen at k2 k3 k5 k6
  obtain ⟨m, hm⟩ : ∃ m, L.length = m := ⟨_, rfl⟩
  obtain ⟨n, hn⟩ : ∃ n, M.length = n := ⟨_, rfl⟩
  rw [hm] at h k1 k2 ⊢
  rw [hn] at h' k4 k5 ⊢
  by_cases hmn : m = n
  · subst hmn
    have e0 := inebf (show (m : Int) = (m : Int) from rfl)
    have HI := Lib.hid h
    have HJ := Lib.hid h'
    have HM := Lib.hid hm
    have HN := Lib.hid hn
    have HR := Lib.hid hr
    clear h h' hm hn hr
    go_enter Try.func14, Try.ntmps14
    go_wp2
    go_loopw [5] (fun z wr => ∃ k : Nat, k ≤ m ∧ z = .int .i64 k ∧ Hid (∀ i, i < k → L[i]? = M[i]?) ∧ Hid (Below w.heap.size w wr)) (fun z _ => m - (intOf z).toNat)
    case atStart => exact ⟨0, Nat.zero_le _, rfl, Lib.hid (fun i h => by omega), Lib.hid (Below.refl _ _)⟩
    case round =>
      obtain ⟨k, hk, rfl, hr, hb⟩ := hrel
      by_cases hlt : k < m
      · have hkl : k < L.length := by rw [HM.out]; exact hlt
        have hkl2 : k < M.length := by rw [HN.out]; exact hlt
        obtain ⟨b, o, rfl, hbl, y0, y1⟩ := SpansAt.cells (SpansAt.grow HI.out hb.out) hkl
        obtain ⟨b', o', rfl, hbl', z0, z1⟩ := SpansAt.cells (SpansAt.grow HJ.out hb.out) hkl2
        obtain ⟨x, hx⟩ : ∃ x, L[k] = x := ⟨_, rfl⟩
        obtain ⟨y, hy⟩ : ∃ y, M[k] = y := ⟨_, rfl⟩
        rw [hx] at y0 y1
        rw [hy] at z0 z1
        have g0 : (0 : Int) ≤ (k : Int) := by omega
        have g1 : (k : Int) < (m : Int) := by omega
        by_cases hq : x = y
        · subst hq
          have HD : Hid (∀ i, i < k + 1 → L[i]? = M[i]?) := Lib.hid (fun i hi => by
            by_cases e : i = k
            · subst e; rw [List.getElem?_eq_getElem hkl, List.getElem?_eq_getElem hkl2, hx, hy]
            · exact hr.out i (by omega))
          clear hr hx hy hkl hkl2
          go_wp2
          go_quiet (fail)
          go_wp2
          go_roundw
          case rel => exact ⟨k + 1, by omega, by go_num, HD, Lib.hid (hb.out.trans ((drewN_below wr nq).mono hb.out.size))⟩
          case measure => simp [intOf]; omega
        · have HD : Hid (false = r) := Lib.hid (by
            rw [← HR.out]
            refine (decide_eq_false (fun e => hq ?_)).symm
            subst e
            rw [← hx, ← hy])
          obtain ⟨x1, x2⟩ := x
          obtain ⟨y1', y2'⟩ := y
          dsimp only at y0 y1 z0 z1
          have hd : ¬ x1 = y1' ∨ ¬ x2 = y2' := by
            rcases Classical.em (x1 = y1') with h1 | h1
            · exact .inr fun h2 => hq (by rw [h1, h2])
            · exact .inl h1
          clear hr hq hx hy hkl hkl2
          by_cases hq1 : x1 = y1'
          · subst hq1
            have hq2 : ¬ x2 = y2' := hd.resolve_left (fun h => h rfl)
            have e2 : (x2 == y2') = false := ibne hq2
            have e3 : (x2 != y2') = true := inebt hq2
            clear hd hq2
            go_wp2
            go_quiet (fail)
            go_wp2
            go_ret
            exact ⟨ret_bool HD.out, hb.out.trans ((drewN_below wr nq).mono hb.out.size)⟩
          · have e2 : (x1 == y1') = false := ibne hq1
            have e3 : (x1 != y1') = true := inebt hq1
            clear hd hq1
            go_wp2
            go_quiet (fail)
            go_wp2
            go_ret
            exact ⟨ret_bool HD.out, hb.out.trans ((drewN_below wr nq).mono hb.out.size)⟩
      · have HD : Hid (true = r) := Lib.hid (by
          rw [← HR.out]
          exact (decide_eq_true (list_eq (HM.out.trans HN.out.symm) fun i h1 => hr.out i (by rw [HM.out] at h1; omega))).symm)
        clear hr
        go_wp2
        go_ret
        exact ⟨ret_bool HD.out, hb.out⟩
  · have e0 : ((m : Int) != (n : Int)) = true := inebt (by omega)
    have HD : Hid (false = r) := Lib.hid (by
      rw [← hr]
      refine (decide_eq_false (fun e => hmn ?_)).symm
      rw [← hm, ← hn, e])
    clear h h' hm hn hr hmn
    go_enter Try.func14, Try.ntmps14
    go_wp2
    go_ret
    exact ⟨ret_bool HD.out, Below.refl _ _⟩
end Go.Proofs.Ytfkdkcdknpjoeaa.Wi
