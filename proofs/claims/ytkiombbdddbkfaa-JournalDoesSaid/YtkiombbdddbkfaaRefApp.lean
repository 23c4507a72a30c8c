/-
  The document's Append, step by step. Conditions: none but those that each theorem names.
-/
import Derived.Test.YtkiombbdddbkfaaRefRow
namespace Go.Proofs.Ytkiombbdddbkfaa.Dk
open Go.RowKit Go.Proofs.Ytkiombbdddbkfaa.Pk

theorem info37 : (Try.prog.info? 72).map (fun i => (i.zero, i.size, i.bytes)) = some (some (.agg #[.string ⟨#[]⟩, .slice none 0 0, .int .i64 0]), 3, 48) := by kernel_rfl

theorem rowOf_one : ∀ {m : List (Nm × Fl)} {vs : List Value}, (∀ v ∈ vs, ∃ A n c, v = .slice A n c) → ∀ u ∈ rowOf m vs, u.oneCell' = true
  | [], _, _, u, hu => by simp [rowOf] at hu
  | _ :: _, [], _, u, hu => by simp [rowOf] at hu
  | p :: m, v :: vs, h, u, hu => by
    simp only [rowOf, List.mem_append] at hu
    rcases hu with hu | hu
    · obtain ⟨A, n, c, rfl⟩ := h v List.mem_cons_self
      simp only [row1, List.mem_cons, List.not_mem_nil, or_false] at hu
      rcases hu with rfl | rfl | rfl <;> rfl
    · exact rowOf_one (fun v hv => h v (List.mem_cons_of_mem _ hv)) u hu

theorem append_no_files (w : World) (base : Nat) (ty : TypeId) (v : Value) (n : Nat) (xs : List Value) (hown : w.ownsRow base 72 3 v n xs) (c : Nat) : (Builtin.append_ #[29, 29] ty #[v, .slice none 0 c]).run Try.prog w = .ok v w := by
  obtain ⟨i0, hi, -, -, -⟩ := info_parts info37
  rcases hown.2 with ⟨rfl, rfl⟩ | ⟨g, cap, cur, rfl, _, _, h1, _⟩
  · simp [Builtin.append_, run_underlying Try.underlying29, sizeOf, typeInfo, hi, Builtin.lenOf, Builtin.firstCells]
  · simp [Builtin.append_, run_underlying Try.underlying29, sizeOf, typeInfo, hi, Builtin.lenOf, Builtin.firstCells, h1, storeCells]

/-- append of a row of files, or of none. -/
theorem wpList_append_files {w : World} {ops : Array Oper} {rest : List Oper} {o : Oper} {a : Act} {Q : Exit → Act → World → Prop} (hgd : o.guard = none) (s x : Operand)
    (ho : o.op = .call { callee := .builtin .append, args := #[s, x], argTypes := #[29, 29] })
    (base : Nat) (v : Value) (n : Nat) (xs : List Value) (hs : a.eval s = v) (hown : w.ownsRow base 72 3 v n xs)
    (A : Option Addr) (m c : Nat) (news : List Value) (hx : a.eval x = .slice A m c) (hm : news.length = m * 3) (hr : ∀ j u, news[j]? = some u → ∃ ad, A = some ad ∧ w.cell? (ad.add j) = some u) (h1 : ∀ u ∈ news, u.oneCell' = true)
    (hbytes : n + m ≤ 1000000000) (hbase : base ≤ w.heap.size)
    (h : ∀ v' w', w'.ownsRow base 72 3 v' (n + m) (xs ++ news) → w.grownBy w' v.ownBlock → wpList Try.prog ops Q rest (a.put o.dst v') w') : wpList Try.prog ops Q (o :: rest) a w := by
  obtain ⟨i0, hi, hz0, hz1, hz2⟩ := info_parts info37
  rcases A with _ | ad
  · have hl : news = [] := by
      rcases news with _ | ⟨y, r⟩
      · rfl
      · obtain ⟨ad, e, _⟩ := hr 0 y rfl
        cases e
    subst hl
    obtain rfl : m = 0 := by simp at hm; omega
    have hrun := append_no_files w base o.type v n xs hown c
    refine wpList_plain hgd fun K hK => ?_
    unfold Oper.wp execOp
    simp only [ho, resolve, invoke, builtin, Sem.run_bind, Sem.run_pure, Result.andThen_ok, List.map_toArray, List.map_cons, List.map_nil, hs, hx, hrun]
    exact hK _ _ (h v w (by simpa using hown) ⟨rfl, rfl, rfl, Nat.le_refl _, fun _ _ _ => rfl⟩)
  · refine wpList_append_own w hgd s x 29 ho base 72 i0 (.agg #[.string ⟨#[]⟩, .slice none 0 0, .int .i64 0]) 3 48 Try.underlying29 hi hz0 hz1 hz2 rfl (by decide) v n xs hs hown ad m c news hx hm (fun j u hu => ?_) h1
      (by unfold maxLen; omega) (by omega) hbase (fun v' w' h2 h3 _ => h v' w' h2 h3)
    obtain ⟨ad', e, hc⟩ := hr j u hu
    cases e; exact hc

theorem rowOf_append : ∀ {m m' : List (Nm × Fl)} {vs vs' : List Value}, vs.length = m.length → rowOf (m ++ m') (vs ++ vs') = rowOf m vs ++ rowOf m' vs'
  | [], _, [], _, _ => rfl
  | p :: m, m', v :: vs, vs', h => by
    have := rowOf_append (m := m) (m' := m') (vs := vs) (vs' := vs') (by simpa using h)
    simp only [List.cons_append, rowOf, this, List.append_assoc]
  | [], _, _ :: _, _, h => by simp at h
  | _ :: _, _, [], _, h => by simp at h

section
variable {w : World} {r m c : Nat} {A : Option Addr} {name : ByteArray}
set_option maxHeartbeats 400000 in
theorem rapp_off (b : Value) (c1 : w.cell? ⟨r, 1, none⟩ = some (.bool true)) : Calls Try.prog 21 #[.pointer (some ⟨r, 0, none⟩), .string name, b] w fun e w' => e = .returned (.int .i64 20) ∧ w = w' := by
  go_enter Try.func21, Try.ntmps21
  go_wp2
  go_ret
  exact ⟨rfl, rfl⟩
set_option maxHeartbeats 400000 in
theorem rapp_name (b : Value) (c1 : w.cell? ⟨r, 1, none⟩ = some (.bool false)) (hs : name.size ≤ maxLen) (hn : isName name.data.toList = false) : Calls Try.prog 21 #[.pointer (some ⟨r, 0, none⟩), .string name, b] w fun e w' => e = .returned (.int .i64 51) ∧ w = w' := by
  have HN := Lib.hid hn
  clear hn
  go_enter Try.func21, Try.ntmps21
  go_wp2_with (go_at_call 32; refine (refName_any name _ hs).mono ?_; rintro e w' ⟨rfl, rfl⟩; rw [HN.out])
  go_ret
  exact ⟨rfl, rfl⟩
set_option maxRecDepth 100000 in
set_option maxHeartbeats 400000 in
theorem rapp_long_new (c1 : w.cell? ⟨r, 1, none⟩ = some (.bool false)) (hs : name.size ≤ maxLen) (hn : isName name.data.toList = true) (H : Calls Try.prog 44 #[.pointer (some ⟨r, 0, none⟩), .string name] w fun e w' => e = .returned (.int .i64 (-1)) ∧ w = w') (hm : 16777216 < m) :
    Calls Try.prog 21 #[.pointer (some ⟨r, 0, none⟩), .string name, .slice A m c] w fun e w' => e = .returned (.int .i64 2) ∧ w = w' := by
  have HN := Lib.hid hn
  have HH := Lib.hid H
  clear hn H
  have hz : (16777216 : Int) < (m : Int) := by omega
  go_enter Try.func21, Try.ntmps21
  go_wp2_with (first
    | (go_at_call 32; refine (refName_any name _ hs).mono ?_; rintro e w' ⟨rfl, rfl⟩; rw [HN.out])
    | (go_at_call 44; refine HH.out.mono ?_; rintro e w' ⟨rfl, rfl⟩))
  go_ret
  exact ⟨rfl, rfl⟩
set_option maxRecDepth 100000 in
set_option maxHeartbeats 400000 in
theorem rapp_long_old {i g n cap l cc : Nat} {AB : Option Addr} (c1 : w.cell? ⟨r, 1, none⟩ = some (.bool false)) (hs : name.size ≤ maxLen) (hn : isName name.data.toList = true) (H : Calls Try.prog 44 #[.pointer (some ⟨r, 0, none⟩), .string name] w fun e w' => e = .returned (.int .i64 i) ∧ w = w')
    (c0 : w.cell? ⟨r, 0, none⟩ = some (.slice (some ⟨g, 0, none⟩) n cap)) (hi : i < n) (cB : w.cell? ⟨g, i * 3 + 1, none⟩ = some (.slice AB l cc)) (hl : l ≤ 16777216) (hm : 16777216 < l + m) :
    Calls Try.prog 21 #[.pointer (some ⟨r, 0, none⟩), .string name, .slice A m c] w fun e w' => e = .returned (.int .i64 2) ∧ w = w' := by
  have HN := Lib.hid hn
  have HH := Lib.hid H
  clear hn H
  have hz : (16777216 : Int) - (l : Int) < (m : Int) := by omega
  have hin : (i : Int) < (n : Int) := by omega
  go_enter Try.func21, Try.ntmps21
  go_wp2_with (first
    | (go_at_call 32; refine (refName_any name _ hs).mono ?_; rintro e w' ⟨rfl, rfl⟩; rw [HN.out])
    | (go_at_call 44; refine HH.out.mono ?_; rintro e w' ⟨rfl, rfl⟩))
  go_ret
  exact ⟨rfl, rfl⟩
end
end Go.Proofs.Ytkiombbdddbkfaa.Dk
