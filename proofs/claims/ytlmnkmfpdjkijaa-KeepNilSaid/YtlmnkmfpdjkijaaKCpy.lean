/-
  Rows of panes anywhere in a block: copied, cleared, appended to in place or anew. Conditions: as each theorem names them.
-/
import Derived.Test.YtlmnkmfpdjkijaaKApp
import Derived.Lib.Overlaps
import Derived.Deep.RegionLaw
namespace Go.Proofs.Ytlmnkmfpdjkijaa.Kp
set_option linter.unusedVariables false
set_option linter.unusedSimpArgs false
open Go.Proofs.Ytlmnkmfpdjkijaa Go.Proofs.Ytlmnkmfpdjkijaa.Ke
open Go.RowKit

/-- Cells laid over others. -/
def spl (L : List Value) (p : Nat) (cs : List Value) : List Value := L.take p ++ cs ++ L.drop (p + cs.length)
theorem spl_mid {X Y Z cs : List Value} {p : Nat} (hp : X.length = p) (h : cs.length = Y.length) : spl (X ++ (Y ++ Z)) p cs = X ++ (cs ++ Z) := by
  subst hp
  unfold spl
  rw [List.take_left, h, List.append_assoc]
  congr 2
  rw [List.drop_append, List.drop_eq_nil_of_le (by omega), List.nil_append, show X.length + Y.length - X.length = Y.length by omega, List.drop_left]
theorem spl_len {L cs : List Value} {p : Nat} (h : p + cs.length ≤ L.length) : (spl L p cs).length = L.length := by
  unfold spl
  simp only [List.length_append, List.length_take, List.length_drop]
  omega
abbrev Blk (w : World) (g : Nat) (L : List Value) : Prop := w.heap[g]? = some (.cells L.toArray 51 (0, 0))
theorem blk_set {w : World} {g : Nat} {L M : List Value} (h : Blk w g L) : Blk (w.setRow g M.toArray) g M := setRow_heap w g _ _ _ _ h
theorem blk_grown {w : World} {g : Nat} (M : Array Value) : w.grownBy (w.setRow g M) (some g) :=
  ⟨rfl, rfl, rfl, by simp [World.setRow], fun k _ hk => setRow_other w g k _ (fun e => hk (by rw [e]))⟩
theorem blk_cell {w : World} {g : Nat} {L : List Value} (h : Blk w g L) (i : Nat) : w.cell? ⟨g, i, none⟩ = L[i]? := by rw [cell_of_heap h]; simp
theorem run_copy7 {w : World} {dT sT ty : TypeId} (hu : Try.prog.underlying dT = some (.slice 51)) {g p dLen dCap sLen sCap : Nat} {a : Addr} {L cs : List Value} (hg : Blk w g L) (hn : cs.length = (Nat.min sLen dLen) * 7)
    (hsrc : ∀ j u, cs[j]? = some u → w.cell? (a.add j) = some u) (hfit : p + cs.length ≤ L.length) (h1 : ∀ v ∈ cs, v.oneCell' = true) :
    (Builtin.copy_ #[dT, sT] ty #[.slice (some ⟨g, p, none⟩) dLen dCap, .slice (some a) sLen sCap]).run Try.prog w = .ok (goInt (Nat.min sLen dLen)) (w.setRow g (spl L p cs).toArray) := by
  obtain ⟨i0, hi, hz0, hz1, hz2⟩ := info_parts infoN
  have hf := run_firstCells_some (P := Try.prog) w 7 (Nat.min sLen dLen) a sLen sCap cs hn hsrc
  have hst := run_storeCells_at Try.prog g p 51 cs 0 L.toArray w hg (by simpa using hfit) h1
  simp only [Nat.add_zero] at hst
  have e : (storeCells ⟨g, p, none⟩ cs 0).run Try.prog w = .ok () (w.setRow g (spl L p cs).toArray) := by simpa [spl] using hst
  simp [Builtin.copy_, run_underlying hu, Builtin.lenOf, sizeOf, typeInfo, hi, hz1, hf, e]
theorem zeroP_len (n : Nat) : (Builtin.zeroCells (Value.agg #[.string ⟨#[]⟩, .int .i64 0, .int .i64 0, .int .i64 0, .int .i64 0, .int .i64 0, .int .i64 0]).cells n).toList.length = n * 7 := by
  simp [Builtin.zeroCells, Value.cells]
theorem zeroP_one (n : Nat) : ∀ v ∈ (Builtin.zeroCells (Value.agg #[.string ⟨#[]⟩, .int .i64 0, .int .i64 0, .int .i64 0, .int .i64 0, .int .i64 0, .int .i64 0]).cells n).toList, v.oneCell' = true := by
  intro v hv
  simp only [Builtin.zeroCells, Value.cells, Array.toList_map, List.mem_map] at hv
  obtain ⟨i, -, rfl⟩ := hv
  have : i % 7 < 7 := Nat.mod_lt _ (by decide)
  have h7 : (#[Value.string ⟨#[]⟩, .int .i64 0, .int .i64 0, .int .i64 0, .int .i64 0, .int .i64 0, .int .i64 0] : Array Value).size = 7 := rfl
  rw [h7]
  rcases (by omega : i % 7 = 0 ∨ i % 7 = 1 ∨ i % 7 = 2 ∨ i % 7 = 3 ∨ i % 7 = 4 ∨ i % 7 = 5 ∨ i % 7 = 6) with e | e | e | e | e | e | e <;> rw [e] <;> rfl
abbrev zeroP : Value := .agg #[.string ⟨#[]⟩, .int .i64 0, .int .i64 0, .int .i64 0, .int .i64 0, .int .i64 0, .int .i64 0]
theorem zeroP_is (w : World) : (zeroValue 51).run Try.prog w = .ok zeroP w := by kernel_rfl
theorem run_clear7 {w : World} {T ty : TypeId} (hu : Try.prog.underlying T = some (.slice 51)) {g p n c : Nat} {L : List Value} (hg : Blk w g L) (hfit : p + n * 7 ≤ L.length) (hn : 0 < n) :
    (Builtin.clear_ #[T] ty #[.slice (some ⟨g, p, none⟩) n c]).run Try.prog w = .ok (.tuple #[]) (w.setRow g (spl L p (Builtin.zeroCells zeroP.cells n).toList).toArray) := by
  have hst := run_storeCells_at Try.prog g p 51 (Builtin.zeroCells zeroP.cells n).toList 0 L.toArray w hg (by rw [zeroP_len]; simpa using hfit) (zeroP_one n)
  simp only [Nat.add_zero] at hst
  have e : (storeCells ⟨g, p, none⟩ (Builtin.zeroCells zeroP.cells n).toList 0).run Try.prog w = .ok () (w.setRow g (spl L p (Builtin.zeroCells zeroP.cells n).toList).toArray) := by simpa [spl] using hst
  cases n with
  | zero => omega
  | succ n => simp [Builtin.clear_, run_underlying hu, zeroP_is, e]
theorem run_clear0 {w : World} {T ty : TypeId} (hu : Try.prog.underlying T = some (.slice 51)) {a : Option Addr} {c : Nat} :
    (Builtin.clear_ #[T] ty #[.slice a 0 c]).run Try.prog w = .ok (.tuple #[]) w := by
  cases a <;> simp [Builtin.clear_, run_underlying hu]
theorem run_room7 {w : World} {T1 T2 ty : TypeId} (hu : Try.prog.underlying T1 = some (.slice 51)) (hu2 : Try.prog.underlying T2 = some (.slice 51)) {g o n c m c' : Nat} {a : Addr} {L news : List Value} (hg : Blk w g L) (hl : news.length = m * 7)
    (hnews : ∀ j u, news[j]? = some u → w.cell? (a.add j) = some u) (h1 : ∀ u ∈ news, u.oneCell' = true) (hroom : n + m ≤ c) (hfit : o + n * 7 + news.length ≤ L.length) :
    (Builtin.append_ #[T1, T2] ty #[.slice (some ⟨g, o, none⟩) n c, .slice (some a) m c']).run Try.prog w = .ok (.slice (some ⟨g, o, none⟩) (n + m) c) (w.setRow g (spl L (o + n * 7) news).toArray) := by
  rw [run_app_types hu hu2]
  obtain ⟨i0, hi, hz0, hz1, hz2⟩ := info_parts infoN
  have hf := run_firstCells_some (P := Try.prog) w 7 m a m c' news hl hnews
  have hst := run_storeCells_at Try.prog g (o + n * 7) 51 news 0 L.toArray w hg (by simpa using hfit) h1
  simp only [Nat.add_zero] at hst
  have e : (storeCells ⟨g, o + n * 7, none⟩ news 0).run Try.prog w = .ok () (w.setRow g (spl L (o + n * 7) news).toArray) := by simpa [spl] using hst
  simp [Builtin.append_, run_underlying hu, sizeOf, typeInfo, hi, hz1, Builtin.lenOf, hroom, hf, Addr.add_lit, e]
theorem run_grow7 {w : World} {T1 T2 ty : TypeId} (hu : Try.prog.underlying T1 = some (.slice 51)) (hu2 : Try.prog.underlying T2 = some (.slice 51)) {b a : Addr} {n c m c' : Nat} {olds news : List Value} (hlo : olds.length = n * 7) (holds : ∀ j u, olds[j]? = some u → w.cell? (b.add j) = some u)
    (hl : news.length = m * 7) (hnews : ∀ j u, news[j]? = some u → w.cell? (a.add j) = some u) (hg : c < n + m) (hb : n + m ≤ 8000000) :
    (Builtin.append_ #[T1, T2] ty #[.slice (some b) n c, .slice (some a) m c']).run Try.prog w = .ok (.slice (some ⟨w.heap.size, 0, none⟩) (n + m) (grownCap w (n + m) c 51)) (w.drew.alloc (.cells (olds.toArray ++ news.toArray ++ Builtin.zeroCells zeroP.cells (grownCap w (n + m) c 51 - (n + m))) 51)) := by
  rw [run_app_types hu hu2]
  obtain ⟨i0, hi, hz0, hz1, hz2⟩ := info_parts infoN
  exact run_append_grow (P := Try.prog) w T1 ty 51 i0 zeroP hu hi hz0 b n c olds (by rw [hz1]; exact hlo) holds a m c' news (by rw [hz1]; exact hl) hnews hg (by omega) (by rw [hz2]; exact growslice_fits hg (by omega))
/-- append(s[:i], make(S, k)...), where there is no room. -/
theorem run_zeros7 {w : World} {T1 ty : TypeId} (hu : Try.prog.underlying T1 = some (.slice 51)) {b : Addr} {n c k : Nat} {olds : List Value} (hlo : olds.length = n * 7) (holds : ∀ j u, olds[j]? = some u → w.cell? (b.add j) = some u) (hg : c < n + k) (hb : n + k ≤ 8000000) (hk : 0 < k) :
    (Builtin.append_ #[T1, 3] ty #[.slice (some b) n c, .int .i64 k]).run Try.prog w = .ok (.slice (some ⟨w.heap.size, 0, none⟩) (n + k) (grownCap w (n + k) c 51)) (w.drew.alloc (.cells (olds.toArray ++ Builtin.zeroCells zeroP.cells k ++ Builtin.zeroCells zeroP.cells (grownCap w (n + k) c 51 - (n + k))) 51)) := by
  obtain ⟨i0, hi, hz0, hz1, hz2⟩ := info_parts infoN
  have hw : IntKind.i64.wrap (k : Int) = k := by rw [IntKind.wrap_i64]; omega
  have hneg : ¬ ((k : Int) < 0) := by omega
  have hroom : ¬ (n + k ≤ c) := by omega
  have h63 : ¬ (9223372036854775807 < (n : Int) + (k : Int)) := by omega
  have hfit := growslice_fits (bytes := 64) hg (by omega)
  have h48 : ¬ (281474976710656 < Builtin.nextslicecap (n + k) c * 64) := by omega
  have h48i : ¬ (281474976710656 < (k : Int) * 64) := by omega
  have hk0 : ¬ k = 0 := by omega
  have hfo := run_firstCells_some (P := Try.prog) w.drew 7 n b n c olds hlo (by simpa using holds)
  simp [Builtin.append_, run_underlying hu, run_underlying Try.underlying3, sizeOf, typeInfo, zeroValue, hi, hz0, hz1, hz2, asInt, asIntOf, hw, hneg, hroom, h63, h48, h48i, hk0, Question.forced, hfo, newRow, grownCap, Builtin.lenOf]
  intro h; omega
theorem zeroRow7 {w : World} {T1 T2 ty : TypeId} (hu : Try.prog.underlying T1 = some (.slice 51)) (hu2 : Try.prog.underlying T2 = some (.slice 51)) {a : Addr} {m c' : Nat} {news : List Value} (hl : news.length = m * 7) (hnews : ∀ j u, news[j]? = some u → w.cell? (a.add j) = some u) (hm : 0 < m) (hb : m ≤ 8000000) :
    (Builtin.append_ #[T1, T2] ty #[.slice none 0 0, .slice (some a) m c']).run Try.prog w = .ok (.slice (some ⟨w.heap.size, 0, none⟩) m (grownCap w m 0 51)) (w.drew.alloc (.cells (news.toArray ++ Builtin.zeroCells zeroP.cells (grownCap w m 0 51 - m)) 51)) := by
  rw [run_app_types hu hu2]
  obtain ⟨i0, hi, hz0, hz1, hz2⟩ := info_parts infoN
  exact run_append_nil (P := Try.prog) w T1 ty 51 i0 zeroP hu hi hz0 a m c' news (by rw [hz1]; exact hl) hnews hm (by omega) (by rw [hz2]; omega)
section
variable {P : Program}
/-- A builtin whose run is known: copy, clear. -/
theorem wp_copy_run (w : World) {o : Oper} {a : Act} {K : Act → World → Prop} {Q : Exit → Act → World → Prop} (d s : Operand) (t t' : TypeId)
    (ho : o.op = .call { callee := .builtin .copy, args := #[d, s], argTypes := #[t, t'] }) (v u : Value) (hd : a.eval d = v) (hs : a.eval s = u) {v' : Value} {w' : World}
    (hr : (Builtin.copy_ #[t, t'] o.type #[v, u]).run P w = .ok v' w') (h : K (a.put o.dst v') w') : o.wp P a w K Q := by
  unfold Oper.wp execOp
  simp only [ho, resolve, invoke, builtin, Sem.run_bind, Sem.run_pure, Result.andThen_ok, List.map_toArray, List.map_cons, List.map_nil, hd, hs, hr]
  exact h
theorem wpList_copy_run (w : World) {ops : Array Oper} {rest : List Oper} {o : Oper} {a : Act} {Q : Exit → Act → World → Prop} (hgd : o.guard = none) (d s : Operand) (t t' : TypeId)
    (ho : o.op = .call { callee := .builtin .copy, args := #[d, s], argTypes := #[t, t'] }) (v u : Value) (hd : a.eval d = v) (hs : a.eval s = u) {v' : Value} {w' : World}
    (hr : (Builtin.copy_ #[t, t'] o.type #[v, u]).run P w = .ok v' w') (h : wpList P ops Q rest (a.put o.dst v') w') : wpList P ops Q (o :: rest) a w :=
  wpList_plain hgd fun _ hK => wp_copy_run w d s t t' ho v u hd hs hr (hK _ _ h)
theorem step_copy_run {ops : Array Oper} {o : Oper} {a : Act} {w : World} {K : Act → World → Prop} {Q : Exit → Act → World → Prop} {E : Prop} (hg : o.guard = none) (d x : Operand) (dT sT : TypeId) (hop : o.op = Op.call { callee := Callee.builtin Builtin.copy, args := #[d, x], argTypes := #[dT, sT] })
    (v u : Value) (hd : a.eval d = v) (hx : a.eval x = u) {v' : Value} {w' : World} (hr : (Builtin.copy_ #[dT, sT] o.type #[v, u]).run P w = .ok v' w') (hK : K (a.put o.dst v') w') :
    if Region.wanted o (yielded ops a.tmps) = true then Oper.wp P o a w K Q else E := by
  have hw : Region.wanted o (yielded ops a.tmps) = true := by simp [Region.wanted, hg]
  rw [if_pos hw]
  exact wp_copy_run w d x dT sT hop v u hd hx hr hK
theorem wpList_clear_run (w : World) {ops : Array Oper} {rest : List Oper} {o : Oper} {a : Act} {Q : Exit → Act → World → Prop} (hgd : o.guard = none) (d : Operand) (t : TypeId)
    (ho : o.op = .call { callee := .builtin .clear, args := #[d], argTypes := #[t] }) (v : Value) (hd : a.eval d = v) {v' : Value} {w' : World}
    (hr : (Builtin.clear_ #[t] o.type #[v]).run P w = .ok v' w') (h : wpList P ops Q rest (a.put o.dst v') w') : wpList P ops Q (o :: rest) a w := by
  refine wpList_plain hgd fun K' hK' => ?_
  unfold Oper.wp execOp
  simp only [ho, resolve, invoke, builtin, Sem.run_bind, Sem.run_pure, Result.andThen_ok, List.map_toArray, List.map_cons, List.map_nil, hd, hr]
  exact hK' _ _ h
end
end Go.Proofs.Ytlmnkmfpdjkijaa.Kp
