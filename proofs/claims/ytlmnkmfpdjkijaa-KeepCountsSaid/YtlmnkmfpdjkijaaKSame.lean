/-
  The law's own look at two rows of records, at two rows of panes: are they the same. Conditions: they lie in memory.
-/
import Derived.Test.YtlmnkmfpdjkijaaKAwake
namespace Go.Proofs.Ytlmnkmfpdjkijaa.Ke
set_option linter.unusedVariables false
set_option linter.unusedSimpArgs false
open Go.RowKit

theorem part_agg {e : TypeId} {n : Nat} (ha : ∀ w, (isAgg e).run Try.prog w = .ok true w) (hs : ∀ w, (Go.sizeOf e).run Try.prog w = .ok n w) (xs : Array Value) (off : Nat) (w : World) : (part e xs off).run Try.prog w = .ok (.agg (xs.extract off (off + n))) w := by
  unfold part
  simp [Sem.run_bind, ha, hs, Result.andThen_ok]
theorem run_sp9 (w : World) (a b c d : Int) : (Op.equalIn 9999 49 (.agg #[.int .i64 a, .int .i64 b]) (.agg #[.int .i64 c, .int .i64 d])).run Try.prog w = .ok (a == c && b == d) w := by
  rw [run_equalIn_struct w 9998 _ _ _ (by kernel_rfl) (by kernel_rfl)]
  have hf : (Try.prog.fieldsOf 49).toList.map (fun f => (f.name, f.type, f.offset)) = [("From", 3, 0), ("To", 3, 1)] := by kernel_rfl
  generalize (Try.prog.fieldsOf 49).toList = fs at hf
  match fs with
  | [] => simp at hf
  | [_] => simp at hf
  | _ :: _ :: _ :: _ => simp at hf
  | [f, g] =>
    simp only [List.map_cons, List.map_nil, List.cons.injEq, Prod.mk.injEq, and_true] at hf
    obtain ⟨⟨f1, f2, f3⟩, g1, g2, g3⟩ := hf
    have hp : Try.prog.plainKey 3 = true := by kernel_rfl
    have h0 : ∀ (x y : Value) (w : World), (part 3 #[x, y] 0).run Try.prog w = .ok x w := fun x y w => run_part_plain w hp rfl
    have h1 : ∀ (x y : Value) (w : World), (part 3 #[x, y] 1).run Try.prog w = .ok y w := fun x y w => run_part_plain w hp rfl
    have he : ∀ (x y : Int) (w : World), (Op.equalIn 9998 3 (.int .i64 x) (.int .i64 y)).run Try.prog w = .ok (x == y) w := fun x y w => run_equalIn_int w 9997 3 .i64 .i64 x y Try.underlying3
    cases ha : (a == c) <;> cases hb : (b == d) <;> simp [Op.eqFields, f1, f2, f3, g1, g2, g3, Sem.run_bind, Result.andThen_ok, h0, h1, he, ha, hb]
theorem run_ac9 (w : World) (a b c d a' b' c' d' : Int) : (Op.equalIn 9999 47 (.agg #[.int .i64 a, .int .i64 b, .int .i64 c, .int .i64 d]) (.agg #[.int .i64 a', .int .i64 b', .int .i64 c', .int .i64 d'])).run Try.prog w = .ok (a == a' && (b == b' && (c == c' && d == d'))) w := by
  rw [run_equalIn_struct w 9998 _ _ _ (by kernel_rfl) (by kernel_rfl)]
  have hf : (Try.prog.fieldsOf 47).toList.map (fun f => (f.name, f.type, f.offset)) = [("Count", 3, 0), ("Sum", 3, 1), ("Min", 3, 2), ("Max", 3, 3)] := by kernel_rfl
  generalize (Try.prog.fieldsOf 47).toList = fs at hf
  match fs with
  | [] => simp at hf
  | [_] => simp at hf
  | [_, _] => simp at hf
  | [_, _, _] => simp at hf
  | _ :: _ :: _ :: _ :: _ :: _ => simp at hf
  | [f, g, h, i] =>
    simp only [List.map_cons, List.map_nil, List.cons.injEq, Prod.mk.injEq, and_true] at hf
    obtain ⟨⟨f1, f2, f3⟩, ⟨g1, g2, g3⟩, ⟨h1, h2, h3⟩, i1, i2, i3⟩ := hf
    have hp : Try.prog.plainKey 3 = true := by kernel_rfl
    have p0 : ∀ (x y z u : Value) (w : World), (part 3 #[x, y, z, u] 0).run Try.prog w = .ok x w := fun x y z u w => run_part_plain w hp rfl
    have p1 : ∀ (x y z u : Value) (w : World), (part 3 #[x, y, z, u] 1).run Try.prog w = .ok y w := fun x y z u w => run_part_plain w hp rfl
    have p2 : ∀ (x y z u : Value) (w : World), (part 3 #[x, y, z, u] 2).run Try.prog w = .ok z w := fun x y z u w => run_part_plain w hp rfl
    have p3 : ∀ (x y z u : Value) (w : World), (part 3 #[x, y, z, u] 3).run Try.prog w = .ok u w := fun x y z u w => run_part_plain w hp rfl
    have he : ∀ (x y : Int) (w : World), (Op.equalIn 9998 3 (.int .i64 x) (.int .i64 y)).run Try.prog w = .ok (x == y) w := fun x y w => run_equalIn_int w 9997 3 .i64 .i64 x y Try.underlying3
    cases ha : (a == a') <;> cases hb : (b == b') <;> cases hc : (c == c') <;> cases hd : (d == d') <;> simp [Op.eqFields, f1, f2, f3, g1, g2, g3, h1, h2, h3, i1, i2, i3, Sem.run_bind, Result.andThen_ok, p0, p1, p2, p3, he, ha, hb, hc, hd]
abbrev pnV (x : Pn) : Value := .agg #[kyV x.k, .int .i64 x.f, .int .i64 x.t, .int .i64 x.a.c, .int .i64 x.a.s, .int .i64 x.a.mn, .int .i64 x.a.mx]
def pnEq (x y : Pn) : Bool := x.k == y.k && ((x.f == y.f && x.t == y.t) && (x.a.c == y.a.c && (x.a.s == y.a.s && (x.a.mn == y.a.mn && x.a.mx == y.a.mx))))
theorem run_pn (w : World) (x y : Pn) : (Op.equalIn 10000 51 (pnV x) (pnV y)).run Try.prog w = .ok (pnEq x y) w := by
  unfold pnEq
  rw [run_equalIn_struct w 9999 _ _ _ (by kernel_rfl) (by kernel_rfl)]
  have hf : (Try.prog.fieldsOf 51).toList.map (fun f => (f.name, f.type, f.offset)) = [("Key", 9, 0), ("Span", 49, 1), ("Acc", 47, 3)] := by kernel_rfl
  generalize (Try.prog.fieldsOf 51).toList = fs at hf
  match fs with
  | [] => simp at hf
  | [_] => simp at hf
  | [_, _] => simp at hf
  | _ :: _ :: _ :: _ :: _ => simp at hf
  | [f, g, h] =>
    simp only [List.map_cons, List.map_nil, List.cons.injEq, Prod.mk.injEq, and_true] at hf
    obtain ⟨⟨f1, f2, f3⟩, ⟨g1, g2, g3⟩, h1, h2, h3⟩ := hf
    have hp9 : Try.prog.plainKey 9 = true := by kernel_rfl
    have p0 : ∀ (x : Pn) (w : World), (part 9 #[kyV x.k, .int .i64 x.f, .int .i64 x.t, .int .i64 x.a.c, .int .i64 x.a.s, .int .i64 x.a.mn, .int .i64 x.a.mx] 0).run Try.prog w = .ok (kyV x.k) w := fun x w => run_part_plain w hp9 rfl
    have p1 : ∀ (x : Pn) (w : World), (part 49 #[kyV x.k, .int .i64 x.f, .int .i64 x.t, .int .i64 x.a.c, .int .i64 x.a.s, .int .i64 x.a.mn, .int .i64 x.a.mx] 1).run Try.prog w = .ok (.agg #[.int .i64 x.f, .int .i64 x.t]) w := fun x w => part_agg Try.isAgg49 Try.sizeOf49 _ _ w
    have p2 : ∀ (x : Pn) (w : World), (part 47 #[kyV x.k, .int .i64 x.f, .int .i64 x.t, .int .i64 x.a.c, .int .i64 x.a.s, .int .i64 x.a.mn, .int .i64 x.a.mx] 3).run Try.prog w = .ok (.agg #[.int .i64 x.a.c, .int .i64 x.a.s, .int .i64 x.a.mn, .int .i64 x.a.mx]) w := fun x w => part_agg Try.isAgg47 Try.sizeOf47 _ _ w
    have hs : ∀ (x y : Ky) (w : World), (Op.equalIn 9999 9 (kyV x) (kyV y)).run Try.prog w = .ok (x == y) w := fun x y w => by
      have := run_equalIn_string w 9998 9 ⟨x.toArray⟩ ⟨y.toArray⟩ Try.underlying9
      rw [this, ByteArray.toList_eq, ByteArray.toList_eq]
    simp only [Op.eqFields, f1, f2, f3, g1, g2, g3, h1, h2, h3]
    cases ha : (x.k == y.k) <;> cases hb : (x.f == y.f && x.t == y.t) <;> cases hc : (x.a.c == y.a.c && (x.a.s == y.a.s && (x.a.mn == y.a.mn && x.a.mx == y.a.mx))) <;> simp [Sem.run_bind, Result.andThen_ok, p0, p1, p2, hs, run_sp9, run_ac9, ha, hb, hc]
theorem pnEq_iff {x y : Pn} : pnEq x y = true ↔ x = y := by
  unfold pnEq
  simp only [Bool.and_eq_true, beq_iff_eq]
  constructor
  · rintro ⟨h1, ⟨h2, h3⟩, h4, h5, h6, h7⟩
    obtain ⟨k, f, t, a⟩ := x
    obtain ⟨k', f', t', a'⟩ := y
    simp only at h1 h2 h3 h4 h5 h6 h7
    have ha : a = a' := Ag.ac_ext h4 h5 h6 h7
    subst h1 h2 h3 ha
    rfl
  · rintro rfl
    exact ⟨rfl, ⟨rfl, rfl⟩, rfl, rfl, rfl, rfl⟩
def rcEq (x y : Rc) : Bool := x.k == y.k && (x.t == y.t && x.v == y.v)
theorem rcEq_iff {x y : Rc} : rcEq x y = true ↔ x = y := by
  unfold rcEq
  simp only [Bool.and_eq_true, beq_iff_eq]
  constructor
  · rintro ⟨h1, h2, h3⟩
    cases x; cases y
    simp only at h1 h2 h3
    subst h1 h2 h3
    rfl
  · rintro rfl
    exact ⟨rfl, rfl, rfl⟩
theorem list_eq {α : Type} {L M : List α} (hl : L.length = M.length) (h : ∀ i, i < L.length → L[i]? = M[i]?) : L = M := by
  apply List.ext_getElem?
  intro i
  by_cases hi : i < L.length
  · exact h i hi
  · rw [List.getElem?_eq_none (by omega), List.getElem?_eq_none (by omega)]
theorem run_rc2 (w : World) (x y : Rc) : (Op.equalIn 10000 32 (rcV x) (rcV y)).run Try.prog w = .ok (rcEq x y) w := run_rc w x.k y.k x.t x.v y.t y.v
instance : DecidableEq Rc := fun x y => decidable_of_iff (rcEq x y = true) rcEq_iff
instance : DecidableEq Pn := fun x y => decidable_of_iff (pnEq x y = true) pnEq_iff
attribute [local go_sem ↓] run_rc2
set_option maxRecDepth 20000 in
set_option maxHeartbeats 2000000 in
theorem sameRcs_at {w : World} {v u : Value} {L M : List Rc} (h : RcsAt w v L) (h' : RcsAt w u M) {r : Bool} (hr : decide (L = M) = r) : Calls Try.prog 19 #[v, u] w fun e w' => e = .returned (.bool r) ∧ Below w.heap.size w w' := by
  obtain ⟨a, c, rfl⟩ := Lst.val h
  obtain ⟨a', c', rfl⟩ := Lst.val h'
  obtain ⟨-, k1, k2, k3⟩ := Lst.len h
  obtain ⟨-, k4, k5, k6⟩ := Lst.len h'
  unfold maxLen at k2 k3 k5 k6
  obtain ⟨m, hm⟩ : ∃ m, L.length = m := ⟨_, rfl⟩
  obtain ⟨n, hn⟩ : ∃ n, M.length = n := ⟨_, rfl⟩
  rw [hm] at h k1 k2 ⊢
  rw [hn] at h' k4 k5 ⊢
  by_cases hmn : m = n
  · subst hmn
    have e0 := inebf (show (m : Int) = (m : Int) from rfl)
    have HI := Lib.hid h
    have HJ := Lib.hid h'
    have HM := Lib.hid hm
    have HN := Lib.hid hn
    have HR := Lib.hid hr
    clear h h' hm hn hr
    go_enter Try.func19, Try.ntmps19
    go_wp2
    go_loopw [5] (fun z wr => ∃ k : Nat, k ≤ m ∧ z = .int .i64 k ∧ Hid (∀ i, i < k → L[i]? = M[i]?) ∧ Hid (Below w.heap.size w wr)) (fun z _ => m - (intOf z).toNat)
    case atStart => exact ⟨0, Nat.zero_le _, rfl, Lib.hid (fun i h => by omega), Lib.hid (Below.refl _ _)⟩
    case round =>
      obtain ⟨k, hk, rfl, hr, hb⟩ := hrel
      by_cases hlt : k < m
      · have hkl : k < L.length := by rw [HM.out]; exact hlt
        have hkl2 : k < M.length := by rw [HN.out]; exact hlt
        obtain ⟨b, o, ha, hbl, y0, y1, y2⟩ := RcsAt.cells (RcsAt.grow HI.out hb.out) hkl
        subst ha
        obtain ⟨b', o', ha', hbl', z0, z1, z2⟩ := RcsAt.cells (RcsAt.grow HJ.out hb.out) hkl2
        subst ha'
        obtain ⟨x, hx⟩ : ∃ x, L[k] = x := ⟨_, rfl⟩
        obtain ⟨y, hy⟩ : ∃ y, M[k] = y := ⟨_, rfl⟩
        rw [hx] at y0 y1 y2
        rw [hy] at z0 z1 z2
        have g0 : (0 : Int) ≤ (k : Int) := by omega
        have g1 : (k : Int) < (m : Int) := by omega
        cases hq : rcEq x y with
        | true =>
          have HD : Hid (∀ i, i < k + 1 → L[i]? = M[i]?) := Lib.hid (fun i hi => by
            by_cases e : i = k
            · subst e; rw [List.getElem?_eq_getElem hkl, List.getElem?_eq_getElem hkl2, hx, hy, rcEq_iff.1 hq]
            · exact hr.out i (by omega))
          clear hr hx hy hkl hkl2
          go_wp2
          go_quiet (fail)
          go_wp2
          go_roundw
          case rel => exact ⟨k + 1, by omega, by go_num, HD, Lib.hid (hb.out.trans ((drewN_below wr nq).mono hb.out.size))⟩
          case measure => simp [intOf]; omega
        | false =>
          have HD : Hid (false = r) := Lib.hid (by
            rw [← HR.out]
            refine (decide_eq_false (fun e => ?_)).symm
            subst e
            rw [hx] at hy
            rw [rcEq_iff.2 hy] at hq
            cases hq)
          clear hr hx hy hkl hkl2
          go_wp2
          go_quiet (fail)
          go_wp2
          go_ret
          exact ⟨ret_bool HD.out, hb.out.trans ((drewN_below wr nq).mono hb.out.size)⟩
      · have HD : Hid (true = r) := Lib.hid (by
          rw [← HR.out]
          exact (decide_eq_true (list_eq (HM.out.trans HN.out.symm) fun i h1 => hr.out i (by rw [HM.out] at h1; omega))).symm)
        clear hr
        go_wp2
        go_ret
        exact ⟨ret_bool HD.out, hb.out⟩
  · have e0 : ((m : Int) != (n : Int)) = true := inebt (by omega)
    have HD : Hid (false = r) := Lib.hid (by
      rw [← hr]
      refine (decide_eq_false (fun e => hmn ?_)).symm
      rw [← hm, ← hn, e])
    clear h h' hm hn hr hmn
    go_enter Try.func19, Try.ntmps19
    go_wp2
    go_ret
    exact ⟨ret_bool HD.out, Below.refl _ _⟩
attribute [local go_sem ↓] run_pn
set_option maxRecDepth 20000 in
set_option maxHeartbeats 2000000 in
theorem samePns_at {w : World} {v u : Value} {L M : List Pn} (h : PnsAt w v L) (h' : PnsAt w u M) {r : Bool} (hr : decide (L = M) = r) : Calls Try.prog 18 #[v, u] w fun e w' => e = .returned (.bool r) ∧ Below w.heap.size w w' := by
  obtain ⟨a, c, rfl⟩ := Lst.val h
  obtain ⟨a', c', rfl⟩ := Lst.val h'
  obtain ⟨-, k1, k2, k3⟩ := Lst.len h
  obtain ⟨-, k4, k5, k6⟩ := Lst.len h'
  unfold maxLen at k2 k3 k5 k6
  obtain ⟨m, hm⟩ : ∃ m, L.length = m := ⟨_, rfl⟩
  obtain ⟨n, hn⟩ : ∃ n, M.length = n := ⟨_, rfl⟩
  rw [hm] at h k1 k2 ⊢
  rw [hn] at h' k4 k5 ⊢
  by_cases hmn : m = n
  · subst hmn
    have e0 := inebf (show (m : Int) = (m : Int) from rfl)
    have HI := Lib.hid h
    have HJ := Lib.hid h'
    have HM := Lib.hid hm
    have HN := Lib.hid hn
    have HR := Lib.hid hr
    clear h h' hm hn hr
    go_enter Try.func18, Try.ntmps18
    go_wp2
    go_loopw [5] (fun z wr => ∃ k : Nat, k ≤ m ∧ z = .int .i64 k ∧ Hid (∀ i, i < k → L[i]? = M[i]?) ∧ Hid (Below w.heap.size w wr)) (fun z _ => m - (intOf z).toNat)
    case atStart => exact ⟨0, Nat.zero_le _, rfl, Lib.hid (fun i h => by omega), Lib.hid (Below.refl _ _)⟩
    case round =>
      obtain ⟨k, hk, rfl, hr, hb⟩ := hrel
      by_cases hlt : k < m
      · have hkl : k < L.length := by rw [HM.out]; exact hlt
        have hkl2 : k < M.length := by rw [HN.out]; exact hlt
        obtain ⟨b, o, ha, hbl, y0, y1, y2, y3, y4, y5, y6⟩ := PnsAt.cells (PnsAt.grow HI.out hb.out) hkl
        subst ha
        obtain ⟨b', o', ha', hbl', z0, z1, z2, z3, z4, z5, z6⟩ := PnsAt.cells (PnsAt.grow HJ.out hb.out) hkl2
        subst ha'
        obtain ⟨x, hx⟩ : ∃ x, L[k] = x := ⟨_, rfl⟩
        obtain ⟨y, hy⟩ : ∃ y, M[k] = y := ⟨_, rfl⟩
        rw [hx] at y0 y1 y2 y3 y4 y5 y6
        rw [hy] at z0 z1 z2 z3 z4 z5 z6
        have g0 : (0 : Int) ≤ (k : Int) := by omega
        have g1 : (k : Int) < (m : Int) := by omega
        cases hq : pnEq x y with
        | true =>
          have HD : Hid (∀ i, i < k + 1 → L[i]? = M[i]?) := Lib.hid (fun i hi => by
            by_cases e : i = k
            · subst e; rw [List.getElem?_eq_getElem hkl, List.getElem?_eq_getElem hkl2, hx, hy, pnEq_iff.1 hq]
            · exact hr.out i (by omega))
          clear hr hx hy hkl hkl2
          go_wp2
          go_quiet (fail)
          go_wp2
          go_roundw
          case rel => exact ⟨k + 1, by omega, by go_num, HD, Lib.hid (hb.out.trans ((drewN_below wr nq).mono hb.out.size))⟩
          case measure => simp [intOf]; omega
        | false =>
          have HD : Hid (false = r) := Lib.hid (by
            rw [← HR.out]
            refine (decide_eq_false (fun e => ?_)).symm
            subst e
            rw [hx] at hy
            rw [pnEq_iff.2 hy] at hq
            cases hq)
          clear hr hx hy hkl hkl2
          go_wp2
          go_quiet (fail)
          go_wp2
          go_ret
          exact ⟨ret_bool HD.out, hb.out.trans ((drewN_below wr nq).mono hb.out.size)⟩
      · have HD : Hid (true = r) := Lib.hid (by
          rw [← HR.out]
          exact (decide_eq_true (list_eq (HM.out.trans HN.out.symm) fun i h1 => hr.out i (by rw [HM.out] at h1; omega))).symm)
        clear hr
        go_wp2
        go_ret
        exact ⟨ret_bool HD.out, hb.out⟩
  · have e0 : ((m : Int) != (n : Int)) = true := inebt (by omega)
    have HD : Hid (false = r) := Lib.hid (by
      rw [← hr]
      refine (decide_eq_false (fun e => hmn ?_)).symm
      rw [← hm, ← hn, e])
    clear h h' hm hn hr hmn
    go_enter Try.func18, Try.ntmps18
    go_wp2
    go_ret
    exact ⟨ret_bool HD.out, Below.refl _ _⟩
end Go.Proofs.Ytlmnkmfpdjkijaa.Ke
