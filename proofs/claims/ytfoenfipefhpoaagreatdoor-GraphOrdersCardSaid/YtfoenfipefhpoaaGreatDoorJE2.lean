/-
  Texts joined into one file. Each part says in its own head what is proved there, and under which conditions.
-/
import Derived.Test.YtfoenfipefhpoaaGreatDoorJE1
import Derived.Deep.RegionHeld3
import Derived.Deep.DeepCutAuto
import Derived.Lib.ItoaLen
import Derived.Lib.AtoiErrMem
import Derived.Lib.AppendIntMem
set_option linter.unusedVariables false
set_option linter.unusedSimpArgs false
/-
  An expression is made of an operator and two operands. Conditions: the texts are short.
-/
namespace Go.Proofs.YtfoenfipefhpoaaGreatDoor.Ex
open Go.RowKit
theorem heap_alloc_old {w : World} {k : Nat} {o : Obj} (h : w.heap[k]? = some o) (p : Obj) : (w.alloc p).heap[k]? = some o := by
  rw [((Below.refl w.heap.size w).alloc (Nat.le_refl _) p).block k (lt_of_heap h)]; exact h
theorem heap_alloc_at (w : World) {k : Nat} (h : w.heap.size = k) (p : Obj) : (w.alloc p).heap[k]? = some p := by subst h; exact heap_alloc_new w p
def chainW (w : World) (o0 o1 o2 o3 o4 o5 : Obj) : World := ((((((w.alloc o0).alloc o1).alloc o2).alloc o3).alloc o4).alloc o5).drew
theorem chain6 (w : World) (o0 o1 o2 o3 o4 o5 : Obj) : Below w.heap.size w (chainW w o0 o1 o2 o3 o4 o5) ∧
    (chainW w o0 o1 o2 o3 o4 o5).heap[w.heap.size]? = some o0 ∧ (chainW w o0 o1 o2 o3 o4 o5).heap[w.heap.size + 1]? = some o1 ∧ (chainW w o0 o1 o2 o3 o4 o5).heap[w.heap.size + 1 + 1]? = some o2 ∧
    (chainW w o0 o1 o2 o3 o4 o5).heap[w.heap.size + 1 + 1 + 1]? = some o3 ∧ (chainW w o0 o1 o2 o3 o4 o5).heap[w.heap.size + 1 + 1 + 1 + 1]? = some o4 ∧ (chainW w o0 o1 o2 o3 o4 o5).heap[w.heap.size + 1 + 1 + 1 + 1 + 1]? = some o5 := by
  refine ⟨?_, ?_, ?_, ?_, ?_, ?_, ?_⟩
  · exact ((((((((Below.refl _ _).alloc (Nat.le_refl _) _).alloc (by simp) _).alloc (by simp; omega) _).alloc (by simp; omega) _).alloc (by simp; omega) _).alloc (by simp; omega) _).drew)
  · exact heap_alloc_old (heap_alloc_old (heap_alloc_old (heap_alloc_old (heap_alloc_old (heap_alloc_at _ rfl _) _) _) _) _) _
  · exact heap_alloc_old (heap_alloc_old (heap_alloc_old (heap_alloc_old (heap_alloc_at _ (by simp) _) _) _) _) _
  · exact heap_alloc_old (heap_alloc_old (heap_alloc_old (heap_alloc_at _ (by simp) _) _) _) _
  · exact heap_alloc_old (heap_alloc_old (heap_alloc_at _ (by simp) _) _) _
  · exact heap_alloc_old (heap_alloc_at _ (by simp) _) _
  · exact heap_alloc_at _ (by simp) _
/-- What the first statement of binary leaves. -/
structure BinMid (w W : World) (s : Bs) (A B : Tree) (va vb : Value) (b7 b8 b9 : Nat) : Prop where
  below : Below w.heap.size w W
  h7 : Blk W b7 (fv (opFn s)) 168
  h8 : Blk W b8 va 149
  h9 : Blk W b9 vb 149
  ha : W.heap[w.heap.size]? = some (.cells #[va, .string ⟨A.text.toArray⟩, .int .i64 A.size] 151 (0, 0))
  hb : W.heap[w.heap.size + 1]? = some (.cells #[vb, .string ⟨B.text.toArray⟩, .int .i64 B.size] 151 (0, 0))
  hr : W.heap[w.heap.size + 1 + 1]? = some (.cells #[.nilFunc, .string ⟨#[]⟩, .int .i64 0] 151 (0, 0))
theorem cell_of_heap {w : World} {b : Nat} {cs : Array Value} {t : TypeId} {fz : Nat × Nat} (h : w.heap[b]? = some (.cells cs t fz)) (i : Nat) : w.cell? ⟨b, i, none⟩ = cs[i]? := by
  simp [World.cell?, h]
theorem free_of_heap {w : World} {b : Nat} {cs : Array Value} {t : TypeId} (h : w.heap[b]? = some (.cells cs t (0, 0))) (i : Nat) : w.frozen? ⟨b, i, none⟩ = false := by
  simp [World.frozen?, h]
theorem heap_setCell {w : World} {k : Nat} {o : Obj} (h : w.heap[k]? = some o) {a : Addr} (ha : a.block ≠ k) (v : Value) : (w.setCell a v).heap[k]? = some o := by
  simp only [World.setCell, Array.getElem?_modify, ha, if_false]; exact h
theorem Blk.set {w : World} {b : Nat} {v : Value} {t : TypeId} (h : Blk w b v t) {a : Addr} (ha : a.block ≠ b) (x : Value) : Blk (w.setCell a x) b v t := heap_setCell h ha x
theorem Blk.ne {w : World} {b k : Nat} {v : Value} {t t' : TypeId} {cs : Array Value} {fz : Nat × Nat} (h : Blk w b v t) (hk : w.heap[k]? = some (.cells cs t' fz)) (ht : t' ≠ t) : k ≠ b := by
  rintro rfl; unfold Blk at h; rw [h] at hk; injection hk with hk; injection hk with _ hk; exact ht hk.symm
theorem bin_done {w W : World} {s : Bs} {A B : Tree} {va vb : Value} {b7 b8 b9 : Nat} (hs : s ∈ ops) (hA : Clos w A va) (hB : Clos w B vb) (h : BinMid w W s A B va vb b7 b8 b9) {k : Nat} (hk : k = w.heap.size + 1 + 1) (x y z : Value) :
    Clos (((W.setCell ⟨k, 0, none⟩ x).setCell ⟨k, 1, none⟩ y).setCell ⟨k, 2, none⟩ z) (.bin s A B) (.func (.func 126) #[] #[ptr b7, ptr b8, ptr b9]) ∧ Below w.heap.size w (((W.setCell ⟨k, 0, none⟩ x).setCell ⟨k, 1, none⟩ y).setCell ⟨k, 2, none⟩ z) := by
  subst hk
  have n7 := h.h7.ne h.hr (by decide)
  have n8 := h.h8.ne h.hr (by decide)
  have n9 := h.h9.ne h.hr (by decide)
  have hb : Below w.heap.size w (((W.setCell ⟨w.heap.size + 1 + 1, 0, none⟩ x).setCell ⟨w.heap.size + 1 + 1, 1, none⟩ y).setCell ⟨w.heap.size + 1 + 1, 2, none⟩ z) :=
    ((h.below.setCell (by simp; omega) x).setCell (by simp; omega) y).setCell (by simp; omega) z
  exact ⟨⟨b7, b8, b9, va, vb, hs, rfl, ((h.h7.set n7 x).set n7 y).set n7 z, ((h.h8.set n8 x).set n8 y).set n8 z, ((h.h9.set n9 x).set n9 y).set n9 z, hA.keep (Keep.of_below hb), hB.keep (Keep.of_below hb)⟩, hb⟩
set_option maxRecDepth 20000 in
set_option maxHeartbeats 2000000 in
theorem binary_any {s : ByteArray} {w : World} {A B : Tree} {va vb : Value} (hs : s.data.toList ∈ ops) (ha : A.text.length ≤ 100000) (hb : B.text.length ≤ 100000) (hza : A.size ≤ 100000) (hzb : B.size ≤ 100000) (hA : Clos w A va) (hB : Clos w B vb) :
    Calls Tryz.prog 114 #[.string s, exprV va A, exprV vb B] w fun e w' => ∃ v', e = .returned (exprV v' (.bin s.data.toList A B)) ∧ Clos w' (.bin s.data.toList A B) v' ∧ Below w.heap.size w w' := by
  obtain ⟨f, cf, rfl⟩ := hA.form
  obtain ⟨g, cg, rfl⟩ := hB.form
  have h2 : s.size ≤ 2 := by
    have : s.data.toList.length ≤ 2 := by
      simp only [ops, List.mem_cons, List.not_mem_nil, or_false] at hs
      rcases hs with h | h | h | h | h | h | h | h | h | h | h | h | h <;> rw [h] <;> simp
    simpa using this
  have HS := Lib.hid hs
  have HA := Lib.hid hA
  have HB := Lib.hid hB
  clear hs hA hB
  unfold exprV
  go_enter Tryz.func114, Tryz.ntmps114
  go_upto_region 1 with fail
  go_cut [7, 8, 9] (fun s7 s8 s9 wx => ∃ b7 b8 b9 : Nat, s7 = .pointer (some ⟨b7, 0, none⟩) ∧ s8 = .pointer (some ⟨b8, 0, none⟩) ∧ s9 = .pointer (some ⟨b9, 0, none⟩) ∧ BinMid w wx s.data.toList A B (.func (.func f) #[] cf) (.func (.func g) #[] cg) b7 b8 b9)
  case first =>
    go_region_held3 (fun W => W.cell? ⟨w.heap.size, 0, none⟩ = some (.func (.func f) #[] cf) ∧ W.cell? ⟨w.heap.size + 1, 0, none⟩ = some (.func (.func g) #[] cg)) (first | (refine ⟨?_, ?_⟩ <;> go_simp) | go_keep) (first | (go_at_call 125; refine (operation_any HS.out _).mono ?_; rintro e w' ⟨rfl, rfl⟩))
    all_goals
      go_wp2_with fail
      go_meet
      refine ⟨_, _, _, rfl, rfl, rfl, ?_⟩
      obtain ⟨c0, c1, c2, c3, c4, c5, c6⟩ := chain6 w _ _ _ _ _ _
      exact ⟨c0, by first | exact c4 | exact c5 | exact c6, by first | exact c4 | exact c5 | exact c6, by first | exact c4 | exact c5 | exact c6, c1, c2, c3⟩
  case rest =>
    obtain ⟨b7, b8, b9, rfl, rfl, rfl, hM⟩ := hcut
    have p0 := cell_of_heap hM.ha 1
    have p1 := cell_of_heap hM.ha 2
    have p2 := cell_of_heap hM.hb 1
    have p3 := cell_of_heap hM.hb 2
    have p4 := cell_of_heap hM.hr 0
    have p5 := cell_of_heap hM.hr 1
    have p6 := cell_of_heap hM.hr 2
    have q4 := free_of_heap hM.hr 0
    have q5 := free_of_heap hM.hr 1
    have q6 := free_of_heap hM.hr 2
    simp at p0 p1 p2 p3 p4 p5 p6
    have HM := Lib.hid hM
    clear hM
    go_wp2
    obtain ⟨hC, hBl⟩ := bin_done HS.out HA.out HB.out HM.out rfl (.func (.func 126) #[] #[ptr b7, ptr b8, ptr b9]) (.string (⟨#[40]⟩ ++ ⟨A.text.toArray⟩ ++ ⟨#[32]⟩ ++ s ++ ⟨#[32]⟩ ++ ⟨B.text.toArray⟩ ++ ⟨#[41]⟩)) (.int .i64 (A.size + 1 + B.size))
    refine bodyPost_ret (v := .agg #[.func (.func 126) #[] #[ptr b7, ptr b8, ptr b9], .string (⟨#[40]⟩ ++ ⟨A.text.toArray⟩ ++ ⟨#[32]⟩ ++ s ++ ⟨#[32]⟩ ++ ⟨B.text.toArray⟩ ++ ⟨#[41]⟩), .int .i64 (A.size + 1 + B.size)]) (by simp [results, Tryz.results114, go_sem, p4, p5, p6]) rfl ⟨_, ?_, hC, hBl⟩
    congr 4
end Go.Proofs.YtfoenfipefhpoaaGreatDoor.Ex
/-
  What the machine of two stacks keeps. Conditions: none; nothing of a program.
-/
namespace Go.Proofs.YtfoenfipefhpoaaGreatDoor.Ex
open Go.RowKit
namespace Tree
/-- Trees as texts say them. -/
def WF : Tree → Prop
  | num k => k < 1000000000000000000
  | name c => c = 110 ∨ c = 116 ∨ c = 118
  | pre s x => (s = [45] ∨ s = [33]) ∧ x.WF
  | bin s a b => s ∈ ops ∧ a.WF ∧ b.WF
theorem size_pos : ∀ T : Tree, 0 < T.size
  | num _ => by simp [size]
  | name _ => by simp [size]
  | pre _ _ => by simp only [size]; omega
  | bin _ _ _ => by simp only [size]; omega
end Tree
theorem ops_len {s : Bs} (h : s ∈ ops) : s.length ≤ 2 ∧ 0 < s.length := by
  simp only [ops, List.mem_cons, List.not_mem_nil, or_false] at h
  rcases h with h | h | h | h | h | h | h | h | h | h | h | h | h <;> rw [h] <;> simp
theorem text_le : ∀ {T : Tree}, T.WF → T.text.length ≤ 30 * T.size
  | .num k, h => by
    have hk : k < 1000000000000000000 := h
    have := Lib.itoa_length_le (k : Int) (by omega) (by omega)
    unfold Lib.itoa at this
    rw [if_neg (by omega)] at this
    simp only [Int.toNat_natCast] at this
    simp only [Tree.text, Tree.size]
    omega
  | .name _, _ => by simp [Tree.text, Tree.size]
  | .pre s x, ⟨h1, h2⟩ => by
    have := text_le h2
    have hs : s.length = 1 := by rcases h1 with rfl | rfl <;> rfl
    simp only [Tree.text, Tree.size, List.length_append]
    omega
  | .bin s a b, ⟨h1, h2, h3⟩ => by
    have h4 := text_le h2
    have h5 := text_le h3
    have h6 := ops_len h1
    simp only [Tree.text, Tree.size, List.length_append, List.length_cons, List.length_nil]
    omega
/-- A sign that waits, with its level. -/
def WOK (q : Bs × Nat) : Prop := (q.2 = 0 ∧ q.1 = [40]) ∨ (q.2 = 6 ∧ (q.1 = [45] ∨ q.1 = [33])) ∨ (1 ≤ q.2 ∧ q.2 ≤ 5 ∧ q.1 ∈ ops ∧ q.2 = levelOf q.1)
def nb : List (Bs × Nat) → Nat
  | [] => 0
  | q :: r => (if q.2 = 0 ∨ q.2 = 6 then 0 else 1) + nb r
def no : List (Bs × Nat) → Nat
  | [] => 0
  | q :: r => (if q.2 = 0 then 1 else 0) + no r
def nz : List (Bs × Nat) → Nat
  | [] => 0
  | q :: r => (if q.2 = 0 then 0 else 1) + nz r
def tot : List Tree → Nat
  | [] => 0
  | T :: r => T.size + tot r
theorem tot_mem : ∀ {l : List Tree} {T : Tree}, T ∈ l → T.size ≤ tot l
  | x :: r, T, h => by
    simp only [List.mem_cons] at h
    simp only [tot]
    rcases h with rfl | h
    · omega
    · have := tot_mem h; omega
theorem tot_len : ∀ l : List Tree, l.length ≤ tot l
  | [] => by simp
  | T :: r => by have := tot_len r; have := T.size_pos; simp only [tot, List.length_cons]; omega
structure St.Inv (s : St) : Prop where
  wf : ∀ T ∈ s.vals, T.WF
  ws : ∀ q ∈ s.waits, WOK q
  len : s.vals.length = nb s.waits + (if s.complete then 1 else 0)
  opn : s.opn = no s.waits
  few : tot s.vals + nz s.waits ≤ 64
theorem St.Inv.small {s : St} (h : s.Inv) {T : Tree} (hT : T ∈ s.vals) : T.size ≤ 64 ∧ T.text.length ≤ 1920 := by
  have h1 := tot_mem hT
  have h2 := text_le (h.wf T hT)
  have h4 := h.few
  omega
theorem St.Inv.count {s : St} (h : s.Inv) : s.vals.length ≤ 64 := by
  have h1 := tot_len s.vals
  have h4 := h.few
  omega
/-- One operator is applied. -/
theorem inv_pre {s : St} (h : s.Inv) (hc : s.complete = true) {t : Bs} {ws : List (Bs × Nat)} (hw : s.waits = (t, 6) :: ws) :
    ∃ T r, s.vals = T :: r ∧ (t = [45] ∨ t = [33]) ∧ ({ s with vals := .pre t T :: r, waits := ws } : St).Inv := by
  have hl := h.len
  rw [hc, if_pos rfl] at hl
  cases hv : s.vals with
  | nil => rw [hv] at hl; simp at hl
  | cons T r =>
    have ht : t = [45] ∨ t = [33] := by
      rcases h.ws (t, 6) (by rw [hw]; simp) with h1 | h1 | h1
      · exact absurd h1.1 (by simp)
      · exact h1.2
      · exact absurd h1.2.1 (by simp)
    refine ⟨T, r, rfl, ht, ?_, ?_, ?_, ?_, ?_⟩
    · intro U hU
      simp only [List.mem_cons] at hU
      rcases hU with rfl | hU
      · exact ⟨ht, h.wf T (by rw [hv]; simp)⟩
      · exact h.wf U (by rw [hv]; simp [hU])
    · exact fun q hq => h.ws q (by rw [hw]; simp [hq])
    · rw [hv, hw] at hl
      simp only [hc, if_pos]
      simpa [nb] using hl
    · have := h.opn
      rw [hw] at this
      simpa [no] using this
    · have := h.few
      rw [hv, hw] at this
      simp only [tot, nz, Tree.size] at this ⊢
      simp at this ⊢; omega
theorem inv_bin {s : St} (h : s.Inv) (hc : s.complete = true) {t : Bs} {l : Nat} {ws : List (Bs × Nat)} (hw : s.waits = (t, l) :: ws) (h0 : l ≠ 0) (h6 : l ≠ 6) :
    ∃ B A r, s.vals = B :: A :: r ∧ t ∈ ops ∧ ({ s with vals := .bin t A B :: r, waits := ws } : St).Inv := by
  have hl := h.len
  rw [hc, if_pos rfl, hw] at hl
  simp only [nb, h0, h6, or_self, if_false] at hl
  have ht : t ∈ ops := by
    rcases h.ws (t, l) (by rw [hw]; simp) with h1 | h1 | h1
    · exact absurd h1.1 h0
    · exact absurd h1.1 h6
    · exact h1.2.2.1
  match hv : s.vals with
  | [] => rw [hv] at hl; simp at hl
  | [_] => rw [hv] at hl; simp at hl
  | B :: A :: r =>
    refine ⟨B, A, r, rfl, ht, ?_, ?_, ?_, ?_, ?_⟩
    · intro U hU
      simp only [List.mem_cons] at hU
      rcases hU with rfl | hU
      · exact ⟨ht, h.wf A (by rw [hv]; simp), h.wf B (by rw [hv]; simp)⟩
      · exact h.wf U (by rw [hv]; simp [hU])
    · exact fun q hq => h.ws q (by rw [hw]; simp [hq])
    · rw [hv] at hl
      simp only [hc, if_pos]
      simp at hl ⊢
      omega
    · have := h.opn
      rw [hw] at this
      simpa [no, h0] using this
    · have := h.few
      rw [hv, hw] at this
      simp only [tot, nz, Tree.size, h0, if_false] at this ⊢
      omega
theorem joinL_stop {level : Nat} {vs : List Tree} {t : Bs} {l : Nat} {ws : List (Bs × Nat)} (h : ¬ level ≤ l) : joinL level vs ((t, l) :: ws) = (vs, (t, l) :: ws) := by simp [joinL, h]
theorem joinL_pre {level : Nat} {T : Tree} {r : List Tree} {t : Bs} {ws : List (Bs × Nat)} (h : level ≤ 6) : joinL level (T :: r) ((t, 6) :: ws) = joinL level (.pre t T :: r) ws := by simp [joinL, h, app]
theorem joinL_bin {level : Nat} {A B : Tree} {r : List Tree} {t : Bs} {l : Nat} {ws : List (Bs × Nat)} (h : level ≤ l) (h6 : l ≠ 6) : joinL level (B :: A :: r) ((t, l) :: ws) = joinL level (.bin t A B :: r) ws := by simp [joinL, h, app, h6]
/-- Joining counts nothing twice, and stops at what is open. -/
theorem joinL_inv {level : Nat} (h1 : 1 ≤ level) (h6 : level ≤ 6) : ∀ (ws : List (Bs × Nat)) (s : St), s.waits = ws → s.Inv → s.complete = true →
    (s.join level).Inv ∧ tot (s.join level).vals + nz (s.join level).waits = tot s.vals + nz s.waits ∧ (s.join level).waits.length ≤ s.waits.length ∧ (∀ q r, (s.join level).waits = q :: r → q.2 < level)
  | [], s, hw, hi, hc => by
    have e : s.join level = s := by unfold St.join; rw [hw]; cases s; simp only at hw; subst hw; rfl
    rw [e]
    exact ⟨hi, rfl, Nat.le_refl _, fun q r h => by rw [hw] at h; cases h⟩
  | (t, l) :: ws, s, hw, hi, hc => by
    by_cases hle : level ≤ l
    · by_cases hl : l = 6
      · subst hl
        obtain ⟨T, r, hv, ht, hi2⟩ := inv_pre hi hc hw
        have e : s.join level = ({ s with vals := .pre t T :: r, waits := ws } : St).join level := by
          unfold St.join; rw [hv, hw, joinL_pre h6]
        obtain ⟨a, b, c, d⟩ := joinL_inv h1 h6 ws _ rfl hi2 hc
        rw [e]
        refine ⟨a, b.trans ?_, Nat.le_trans c (by rw [hw]; simp), d⟩
        rw [hv, hw]
        simp [tot, nz, Tree.size]; omega
      · obtain ⟨B, A, r, hv, ht, hi2⟩ := inv_bin hi hc hw (by omega) hl
        have e : s.join level = ({ s with vals := .bin t A B :: r, waits := ws } : St).join level := by
          unfold St.join; rw [hv, hw, joinL_bin hle hl]
        obtain ⟨a, b, c, d⟩ := joinL_inv h1 h6 ws _ rfl hi2 hc
        rw [e]
        refine ⟨a, b.trans ?_, Nat.le_trans c (by rw [hw]; simp), d⟩
        rw [hv, hw]
        simp only [tot, nz, Tree.size]
        rw [if_neg (by omega)]; omega
    · have e : s.join level = s := by unfold St.join; rw [hw, joinL_stop hle]; cases s; simp only at hw; subst hw; rfl
      rw [e]
      exact ⟨hi, rfl, Nat.le_refl _, fun q r h => by rw [hw] at h; injection h with h _; subst h; simp; omega⟩
theorem St.join_complete (s : St) (level : Nat) : (s.join level).complete = s.complete ∧ (s.join level).opn = s.opn ∧ (s.join level).parts = s.parts := ⟨rfl, rfl, rfl⟩
end Go.Proofs.YtfoenfipefhpoaaGreatDoor.Ex
/-
  An expression is made of a number's digits. Conditions: 1 to 18 digits; the library's table of powers holds what it was laid with.
-/
namespace Go.Proofs.YtfoenfipefhpoaaGreatDoor.Ex
open Go.RowKit
theorem decFrom_digits : ∀ (l : Bs) (acc : Nat), (∀ c ∈ l, isDig c = true) → Lib.decFrom acc l = some (l.foldl (fun a b => 10 * a + (b.toNat - 48)) acc)
  | [], acc, _ => rfl
  | c :: r, acc, h => by
    have hc := h c (by simp)
    simp only [isDig, Bool.and_eq_true, decide_eq_true_eq] at hc
    have := decFrom_digits r (10 * acc + (c.toNat - 48)) (fun d hd => h d (by simp [hd]))
    simp only [Lib.decFrom, Lib.digitVal, if_pos hc, List.foldl_cons]
    rw [← this, Nat.mul_comm]
theorem atoi_digits {l : Bs} (h0 : l ≠ []) (h : ∀ c ∈ l, isDig c = true) : Lib.atoi l = some ((numVal l : Nat) : Int) := by
  match l, h0 with
  | c :: r, _ =>
    have hc := h c (by simp)
    simp only [isDig, Bool.and_eq_true, decide_eq_true_eq] at hc
    have h1 : ¬ c = 45 := by rintro rfl; simp at hc
    have h2 : ¬ c = 43 := by rintro rfl; simp at hc
    simp only [Lib.atoi, beq_iff_eq, h1, h2, if_false, Lib.decNat, List.isEmpty_cons]
    rw [decFrom_digits _ _ h]
    rfl
theorem numVal_lt : ∀ (l : Bs) (acc : Nat), (∀ c ∈ l, isDig c = true) → l.foldl (fun a b => 10 * a + (b.toNat - 48)) acc < (acc + 1) * 10 ^ l.length
  | [], acc, _ => by simp
  | c :: r, acc, h => by
    have hc := h c (by simp)
    simp only [isDig, Bool.and_eq_true, decide_eq_true_eq] at hc
    have := numVal_lt r (10 * acc + (c.toNat - 48)) (fun d hd => h d (by simp [hd]))
    simp only [List.foldl_cons, List.length_cons, Nat.pow_succ]
    refine Nat.lt_of_lt_of_le this ?_
    rw [Nat.mul_comm (10 ^ r.length) 10, ← Nat.mul_assoc]
    exact Nat.mul_le_mul_right _ (by omega)
theorem numVal_small {l : Bs} (hl : l.length ≤ 18) (h : ∀ c ∈ l, isDig c = true) : numVal l < 1000000000000000000 := by
  have h1 := numVal_lt l 0 h
  have h2 : 10 ^ l.length ≤ 10 ^ 18 := Nat.pow_le_pow_right (by decide) hl
  unfold numVal
  omega
theorem atoi_any {s : ByteArray} {n : Int} (hl : s.size ≤ 18) (h : Lib.atoi s.data.toList = some n) (w : World) {B : Nat} (hB : w.heap.size = B) : Calls Tryz.prog 115 #[.string s] w fun e w' => e = .returned (.tuple #[.int .i64 n, .nilIface]) ∧ Below B w w' :=
  (Any.strconv_Atoi Tryz.lays172 s n hl h w).mono fun _ _ ⟨he, _, hw⟩ => ⟨he, by subst hB; rw [hw]; exact Lib.bytesWorld_below w _ _⟩
theorem itoa_any {n : Int} (h0 : -9223372036854775808 ≤ n) (h1 : n ≤ 9223372036854775807) (w : World) (ht : Tab w) {B : Nat} (hB : w.heap.size = B) : Calls Tryz.prog 117 #[.int .i64 n] w fun e w' => e = .returned (.string ⟨(Lib.itoa n).toArray⟩) ∧ Below B w w' :=
  (Any.strconv_Itoa Tryz.laysM171 n h0 h1 w ht.1).mono fun _ _ ⟨he, k, os, hw⟩ => ⟨he, by subst hB; rw [hw]; exact Lib.below_grow _ w (Nat.le_refl _) k os⟩
set_option maxHeartbeats 1000000 in
theorem number_any {s : ByteArray} {w : World} (h0 : s.data.toList ≠ []) (hl : s.size ≤ 18) (h : ∀ c ∈ s.data.toList, isDig c = true) (hT : Tab w) :
    Calls Tryz.prog 109 #[.string s] w fun e w' => ∃ v, e = .returned (exprV v (.num (numVal s.data.toList))) ∧ Clos w' (.num (numVal s.data.toList)) v ∧ Below w.heap.size w w' := by
  obtain ⟨k, hk⟩ : ∃ k, numVal s.data.toList = k := ⟨_, rfl⟩
  have hA := atoi_digits h0 h
  rw [hk] at hA
  rw [hk]
  have HA := Lib.hid hA
  have hlt : k < 1000000000000000000 := by rw [← hk]; exact numVal_small (by simpa using hl) h
  clear hk hA h h0
  go_enter Tryz.func109, Tryz.ntmps109
  go_wp2_with (first
    | (go_at_call 115; refine (atoi_any hl HA.out _ (World.size_alloc _ _)).mono ?_; rintro e w1 ⟨rfl, hb1⟩; refine Hid.out ?_))
  refine Lib.hid ?_
  have hr : w1.heap[w.heap.size]? = some (.cells #[.nilFunc, .string ⟨#[]⟩, .int .i64 0] 151 (0, 0)) := by
    rw [hb1.block _ (by omega)]; exact heap_alloc_new w _
  have hbw : Below w.heap.size w w1 := ((Below.refl _ _).alloc (Nat.le_refl _) _).trans (hb1.mono (by omega))
  have hT1 := (hT.below hbw).below ((Below.refl _ _).alloc (Nat.le_refl _) (.cells #[.int .i64 (k : Int)] 3))
  have HT1 := Lib.hid hT1
  clear hT1 hb1
  have HR := Lib.hid hr
  have HW := Lib.hid hbw
  clear hr hbw hT
  go_wp2_with (first
    | (go_at_call 117; refine (itoa_any (n := (k : Int)) (by omega) (by omega) _ HT1.out (World.size_alloc _ _)).mono ?_; rintro e w2 ⟨rfl, hb2⟩; refine Hid.out ?_))
  refine Lib.hid ?_
  have hr2 : w2.heap[w.heap.size]? = some (.cells #[.nilFunc, .string ⟨#[]⟩, .int .i64 0] 151 (0, 0)) := by
    rw [hb2.block _ (by have := lt_of_heap HR.out; omega)]; exact heap_alloc_old HR.out _
  have hx : Blk w2 w1.heap.size (.int .i64 (k : Int)) 3 := by
    unfold Blk
    rw [hb2.block _ (by omega)]; exact heap_alloc_new w1 _
  have hbw : Below w.heap.size w w2 := HW.out.trans ((((Below.refl _ _).alloc (Nat.le_refl _) _).trans (hb2.mono (by omega))).mono HW.out.size)
  have p4 := cell_of_heap hr2 0
  have p5 := cell_of_heap hr2 1
  have p6 := cell_of_heap hr2 2
  have q4 := free_of_heap hr2 0
  have q5 := free_of_heap hr2 1
  have q6 := free_of_heap hr2 2
  have hne := hx.ne hr2 (by decide)
  simp at p4 p5 p6
  have HX := Lib.hid hx
  have HB := Lib.hid hbw
  have HN := Lib.hid hne
  clear hx hbw hr2 hb2 hne
  go_wp2
  have hi : Lib.itoa (k : Int) = Lib.decDigits k := by unfold Lib.itoa; rw [if_neg (by omega)]; simp
  refine bodyPost_ret (v := .agg #[.func (.func 116) #[] #[ptr w1.heap.size], .string ⟨(Lib.itoa (k : Int)).toArray⟩, .int .i64 1]) (by simp [results, Tryz.results109, go_sem, p4, p5, p6]) rfl ⟨_, ?_, ⟨w1.heap.size, rfl, ?_⟩, ?_⟩
  · rw [hi]; rfl
  · exact ((HX.out.set HN.out _).set HN.out _).set HN.out _
  · exact ((HB.out.setCell (by simp) _).setCell (by simp) _).setCell (by simp) _
end Go.Proofs.YtfoenfipefhpoaaGreatDoor.Ex
/-
  The parser in memory: its five fields, its two rows, the closures of its operands. Conditions: as the statements say.
-/
namespace Go.Proofs.YtfoenfipefhpoaaGreatDoor.Ex
open Go.RowKit
abbrev Ent := Value × Tree
def exC (q : Ent) : List Value := [q.1, .string ⟨q.2.text.toArray⟩, .int .i64 q.2.size]
def opC (q : Bs × Nat) : List Value := [.string ⟨q.1.toArray⟩, .int .i64 q.2]
def exCells (es : List Ent) : List Value := es.reverse.flatMap exC
def opCells (ws : List (Bs × Nat)) : List Value := ws.reverse.flatMap opC
theorem exCells_cons (q : Ent) (es : List Ent) : exCells (q :: es) = exCells es ++ exC q := by simp [exCells]
theorem opCells_cons (q : Bs × Nat) (ws : List (Bs × Nat)) : opCells (q :: ws) = opCells ws ++ opC q := by simp [opCells]
theorem exCells_length : ∀ es : List Ent, (exCells es).length = es.length * 3
  | [] => rfl
  | q :: es => by rw [exCells_cons, List.length_append, exCells_length es]; simp [exC]; omega
theorem opCells_length : ∀ ws : List (Bs × Nat), (opCells ws).length = ws.length * 2
  | [] => rfl
  | q :: ws => by rw [opCells_cons, List.length_append, opCells_length ws]; simp [opC]; omega
abbrev pCells (vo vp : Value) (s : St) : Array Value := #[vo, vp, .int .i64 s.opn, .int .i64 s.parts, .bool s.complete]
/-- The parser lies at block p, its rows are its own, its operands compute. -/
structure PX (w0 : World) (p : Nat) (s : St) (vo vp : Value) (es : List Ent) (w : World) : Prop where
  below : Below w0.heap.size w0 w
  hp : w0.heap.size ≤ p
  blk : w.heap[p]? = some (.cells (pCells vo vp s) 131 (0, 0))
  vals : es.map Prod.snd = s.vals
  row1 : w.ownsRow w0.heap.size 151 3 vo es.length (exCells es)
  row2 : w.ownsRow w0.heap.size 157 2 vp s.waits.length (opCells s.waits)
  clos : ∀ q ∈ es, Clos w q.2 q.1
def PS (w0 : World) (p : Nat) (s : St) (w : World) : Prop := ∃ vo vp es, PX w0 p s vo vp es w
theorem ownsRow_below {w w' : World} {base : Nat} {e : TypeId} {size : Nat} {v : Value} {n : Nat} {xs : List Value} (h : w.ownsRow base e size v n xs) (hb : Below w.heap.size w w') : w'.ownsRow base e size v n xs :=
  h.kept (row := none) ⟨hb.os, hb.tape, hb.output, hb.size, fun k hk _ => hb.block k hk⟩ (by cases v.ownBlock <;> simp)
theorem PX.grow {w0 : World} {p : Nat} {s : St} {vo vp : Value} {es : List Ent} {w w' : World} (h : PX w0 p s vo vp es w) (hb : Below w.heap.size w w') : PX w0 p s vo vp es w' :=
  ⟨h.below.trans (hb.mono h.below.size), h.hp, by rw [hb.block p (lt_of_heap h.blk)]; exact h.blk, h.vals, ownsRow_below h.row1 hb, ownsRow_below h.row2 hb, fun q hq => (h.clos q hq).keep (Keep.of_below hb)⟩
theorem PX.drewN {w0 : World} {p : Nat} {s : St} {vo vp : Value} {es : List Ent} {w : World} (h : PX w0 p s vo vp es w) (n : Nat) : PX w0 p s vo vp es (w.drewN n) := h.grow ⟨rfl, rfl, rfl, Nat.le_refl _, fun _ _ => rfl⟩
theorem row_ne {w : World} {base : Nat} {e : TypeId} {size : Nat} {v : Value} {n : Nat} {xs : List Value} {p : Nat} {cs : Array Value} {t : TypeId} {fz : Nat × Nat} (h : w.ownsRow base e size v n xs) (hp : w.heap[p]? = some (.cells cs t fz)) (ht : t ≠ e) : v.ownBlock ≠ some p := by
  intro hv
  rcases h.2 with ⟨rfl, _⟩ | ⟨g, cap, cur, rfl, _, hg, _⟩
  · simp [Value.ownBlock] at hv
  · simp only [Value.ownBlock, Option.some.injEq] at hv
    subst hv
    rw [hp] at hg
    injection hg with hg
    injection hg with _ hg
    exact ht hg
/-- Clos behind a store into the parser or into a row. -/
theorem keep_setCell {w : World} {b o : Nat} {cs : Array Value} {t : TypeId} {fz : Nat × Nat} (h : w.heap[b]? = some (.cells cs t fz)) (ht : t = 131 ∨ t = 151 ∨ t = 157) (v : Value) : Keep w (w.setCell ⟨b, o, none⟩ v) := by
  intro k cs' t' fz' hk h1 h2 h3
  by_cases e : b = k
  · subst e
    rw [h] at hk
    injection hk with hk
    injection hk with _ hk
    subst hk
    rcases ht with rfl | rfl | rfl
    · exact absurd rfl h1
    · exact absurd rfl h2
    · exact absurd rfl h3
  · exact heap_setCell hk e v
/-- A field of the parser is stored into: the row values and the state change as is said. -/
theorem PX.setP {w0 : World} {p : Nat} {s s' : St} {vo vp vo' vp' : Value} {es es' : List Ent} {w : World} (h : PX w0 p s vo vp es w) (i : Nat) (v : Value)
    (hc : (pCells vo vp s).setIfInBounds i v = pCells vo' vp' s') (hv : es'.map Prod.snd = s'.vals) (he : ∀ q ∈ es', q ∈ es)
    (h1 : w.ownsRow w0.heap.size 151 3 vo' es'.length (exCells es')) (h2 : w.ownsRow w0.heap.size 157 2 vp' s'.waits.length (opCells s'.waits)) :
    PX w0 p s' vo' vp' es' (w.setCell ⟨p, i, none⟩ v) where
  below := h.below.setCell h.hp v
  hp := h.hp
  blk := by rw [heap_setCell_same w p i _ _ v h.blk, hc]
  vals := hv
  row1 := ownsRow_setCell_other h1 (row_ne h1 h.blk (by decide)) v
  row2 := ownsRow_setCell_other h2 (row_ne h2 h.blk (by decide)) v
  clos := fun q hq => (h.clos q (he q hq)).keep (keep_setCell h.blk (.inl rfl) v)
theorem PX.cell {w0 : World} {p : Nat} {s : St} {vo vp : Value} {es : List Ent} {w : World} (h : PX w0 p s vo vp es w) :
    w.cell? ⟨p, 0, none⟩ = some vo ∧ w.cell? ⟨p, 1, none⟩ = some vp ∧ w.cell? ⟨p, 2, none⟩ = some (.int .i64 s.opn) ∧ w.cell? ⟨p, 3, none⟩ = some (.int .i64 s.parts) ∧ w.cell? ⟨p, 4, none⟩ = some (.bool s.complete) := by
  refine ⟨?_, ?_, ?_, ?_, ?_⟩ <;> rw [cell_of_heap h.blk] <;> rfl
theorem PX.free {w0 : World} {p : Nat} {s : St} {vo vp : Value} {es : List Ent} {w : World} (h : PX w0 p s vo vp es w) (i : Nat) : w.frozen? ⟨p, i, none⟩ = false := free_of_heap h.blk i
theorem PX.lt {w0 : World} {p : Nat} {s : St} {vo vp : Value} {es : List Ent} {w : World} (h : PX w0 p s vo vp es w) : p < w.heap.size := lt_of_heap h.blk

/-! ### pop -/
set_option maxHeartbeats 1000000 in
theorem pop_cells {w : World} {p g n cap : Nat} {sg : ByteArray} {lv : Int} (hp : p < w.heap.size) (hg : g < w.heap.size) (hn : n ≤ 1000) (hc : n + 1 ≤ cap) (c1 : w.cell? ⟨p, 1, none⟩ = some (.slice (some ⟨g, 0, none⟩) (n + 1) cap)) (f1 : w.frozen? ⟨p, 1, none⟩ = false)
    (e0 : w.cell? ⟨g, n * 2, none⟩ = some (.string sg)) (e1 : w.cell? ⟨g, n * 2 + 1, none⟩ = some (.int .i64 lv)) :
    Calls Tryz.prog 111 #[ptr p] w fun e w' => e = .returned (.agg #[.string sg, .int .i64 lv]) ∧ Below w.heap.size (w.setCell ⟨p, 1, none⟩ (.slice (some ⟨g, 0, none⟩) n cap)) w' := by
  go_enter Tryz.func111, Tryz.ntmps111
  go_wp2
  exact bodyPost_ret (v := .agg #[.string sg, .int .i64 lv]) (by simp [results, Tryz.results111, go_sem]) rfl ⟨rfl, ((Below.refl _ _).alloc (by simp) _).alloc (by simp) _⟩
theorem PX.popped {w0 : World} {p : Nat} {s : St} {vo vp : Value} {es : List Ent} {w : World} (h : PX w0 p s vo vp es w) {t : Bs} {l : Nat} {ws : List (Bs × Nat)} (hw : s.waits = (t, l) :: ws) :
    ∃ g cap, vp = .slice (some ⟨g, 0, none⟩) (ws.length + 1) cap ∧ g < w.heap.size ∧ ws.length + 1 ≤ cap ∧ w.cell? ⟨g, ws.length * 2, none⟩ = some (.string ⟨t.toArray⟩) ∧ w.cell? ⟨g, ws.length * 2 + 1, none⟩ = some (.int .i64 l) ∧
      PX w0 p { s with waits := ws } vo (.slice (some ⟨g, 0, none⟩) ws.length cap) es (w.setCell ⟨p, 1, none⟩ (.slice (some ⟨g, 0, none⟩) ws.length cap)) := by
  have h2 := h.row2
  rw [hw, List.length_cons, opCells_cons] at h2
  rcases h2.2 with ⟨_, h0⟩ | ⟨g, cap, cur, rfl, hb, hg, hnc, hcm, hsz, htk⟩
  · omega
  · have hl := opCells_length ws
    have k0 := h2.cellAt (ws.length * 2) (by omega)
    have k1 := h2.cellAt (ws.length * 2 + 1) (by omega)
    rw [List.getElem?_append_right (by omega), hl] at k0 k1
    simp [opC] at k0 k1
    have k1' : w.cell? ⟨g, ws.length * 2 + 1, none⟩ = some (.int .i64 l) := by
      rw [k1]
    refine ⟨g, cap, rfl, lt_of_heap hg, hnc, k0, k1', ?_⟩
    exact h.setP (s' := { s with waits := ws }) 1 _ (by rfl) h.vals (fun q hq => hq) h.row1 (ownsRow_pop (by rw [hl]) h2)
theorem pop_any {w0 : World} {p : Nat} {s : St} {vo vp : Value} {es : List Ent} {w : World} (h : PX w0 p s vo vp es w) {t : Bs} {l : Nat} {ws : List (Bs × Nat)} (hw : s.waits = (t, l) :: ws) (hn : ws.length ≤ 1000) :
    Calls Tryz.prog 111 #[ptr p] w fun e w' => e = .returned (.agg #[.string ⟨t.toArray⟩, .int .i64 l]) ∧ (∃ vp', PX w0 p { s with waits := ws } vo vp' es w') ∧ Keep w w' := by
  obtain ⟨g, cap, rfl, hg, hnc, e0, e1, hx⟩ := h.popped hw
  refine (pop_cells h.lt hg hn hnc h.cell.2.1 (h.free 1) e0 e1).mono ?_
  rintro e w' ⟨rfl, hb⟩
  exact ⟨rfl, ⟨_, hx.grow (by simpa using hb)⟩, (keep_setCell h.blk (.inl rfl) _).trans (Keep.of_below (by simpa using hb))⟩
end Go.Proofs.YtfoenfipefhpoaaGreatDoor.Ex
/-
  The parser's operands: one is replaced. Conditions: as the statements say.
-/
namespace Go.Proofs.YtfoenfipefhpoaaGreatDoor.Ex
open Go.RowKit
theorem set3 (xs ys : List Value) (a b c x y z : Value) : (((xs ++ a :: b :: c :: ys).set xs.length x).set (xs.length + 1) y).set (xs.length + 2) z = xs ++ x :: y :: z :: ys := by
  simp
def store3 (w : World) (g j : Nat) (x y z : Value) : World := ((w.setCell ⟨g, j, none⟩ x).setCell ⟨g, j + 1, none⟩ y).setCell ⟨g, j + 2, none⟩ z
/-- Three cells of the row of operands are stored into. -/
theorem PX.store {w0 : World} {p : Nat} {s s' : St} {vo vp : Value} {es es' : List Ent} {w : World} (h : PX w0 p s vo vp es w) {g cap j : Nat} (hv : vo = .slice (some ⟨g, 0, none⟩) es.length cap)
    {xs ys : List Value} {a b c x y z : Value} (hj : j = xs.length) (hx : exCells es = xs ++ a :: b :: c :: ys) (hx' : exCells es' = xs ++ x :: y :: z :: ys) (hl : es'.length = es.length)
    (hs : es'.map Prod.snd = s'.vals) (h1 : s'.waits = s.waits) (h2 : s'.opn = s.opn) (h3 : s'.parts = s.parts) (h4 : s'.complete = s.complete) (hc : ∀ q ∈ es', Clos w q.2 q.1) :
    PX w0 p s' vo vp es' (store3 w g j x y z) := by
  subst hv hj
  have r1 := h.row1
  rcases r1.2 with ⟨h0, _⟩ | ⟨g', cap', cur, h0, hb, hg, -⟩
  · cases h0
  cases h0
  obtain ⟨a1, b1⟩ := r1.stored xs.length x
  obtain ⟨a2, b2⟩ := a1.stored (xs.length + 1) y
  obtain ⟨a3, b3⟩ := a2.stored (xs.length + 2) z
  rw [hx, set3, ← hx', ← hl] at a3
  have gg : ∀ k, k ≠ g → (store3 w g xs.length x y z).heap[k]? = w.heap[k]? := fun k hk => by
    unfold store3
    rw [heap_setCell_other _ _ k _ (by simp; omega), heap_setCell_other _ _ k _ (by simp; omega), heap_setCell_other _ _ k _ (by simp; omega)]
  have np : p ≠ g := fun e => by subst e; have := h.blk; rw [hg] at this; injection this with this; injection this with _ this; cases this
  refine ⟨((h.below.setCell hb x).setCell hb y).setCell hb z, h.hp, ?_, hs, ?_, ?_, ?_⟩
  · rw [gg p np, h.blk]; unfold pCells; rw [h2, h3, h4]
  · exact hl ▸ a3
  · rw [h1]
    have e := row_ne h.row2 hg (by decide)
    exact ownsRow_setCell_other (ownsRow_setCell_other (ownsRow_setCell_other h.row2 e x) e y) e z
  · intro q hq
    refine (hc q hq).keep ?_
    intro k cs t fz hk t1 t2 t3
    by_cases e : k = g
    · subst e; rw [hg] at hk; injection hk with hk; injection hk with _ hk; exact absurd hk.symm t2
    · rw [gg k e]; exact hk
/-- The row of operands, looked at from above. -/
theorem PX.row {w0 : World} {p : Nat} {s : St} {vo vp : Value} {es : List Ent} {w : World} (h : PX w0 p s vo vp es w) (h0 : es ≠ []) :
    ∃ g cap, vo = .slice (some ⟨g, 0, none⟩) es.length cap ∧ g < w.heap.size ∧ es.length ≤ cap ∧ w0.heap.size ≤ g ∧ (∀ i, w.frozen? ⟨g, i, none⟩ = false) ∧ (∀ i, i < es.length * 3 → w.cell? ⟨g, i, none⟩ = (exCells es)[i]?) := by
  have r1 := h.row1
  have hl : 0 < es.length := by cases es with | nil => exact absurd rfl h0 | cons => simp
  rcases r1.2 with ⟨_, h1⟩ | ⟨g, cap, cur, rfl, hb, hg, hnc, -⟩
  · omega
  · exact ⟨g, cap, rfl, lt_of_heap hg, hnc, hb, fun i => r1.frozenAt i, fun i hi => r1.cellAt i hi⟩
theorem ex_top (q : Ent) (er : List Ent) : (exCells (q :: er))[er.length * 3]? = some q.1 ∧ (exCells (q :: er))[er.length * 3 + 1]? = some (.string ⟨q.2.text.toArray⟩) ∧ (exCells (q :: er))[er.length * 3 + 2]? = some (.int .i64 q.2.size) := by
  have hl := exCells_length er
  rw [exCells_cons]
  refine ⟨?_, ?_, ?_⟩ <;> rw [List.getElem?_append_right (by omega), hl] <;> simp [exC]
theorem ex_low (q r : Ent) (er : List Ent) {i : Nat} (hi : i < er.length * 3 + 3) : (exCells (q :: r :: er))[i]? = (exCells (r :: er))[i]? := by
  have hl := exCells_length (r :: er)
  rw [exCells_cons q, List.getElem?_append_left (by rw [hl, List.length_cons]; omega)]
/-- The last operand is dropped. -/
theorem PX.drop {w0 : World} {p : Nat} {s : St} {vp : Value} {q : Ent} {er : List Ent} {w : World} {g cap : Nat} (h : PX w0 p s (.slice (some ⟨g, 0, none⟩) (er.length + 1) cap) vp (q :: er) w) :
    PX w0 p { s with vals := s.vals.tail } (.slice (some ⟨g, 0, none⟩) er.length cap) vp er (w.setCell ⟨p, 0, none⟩ (.slice (some ⟨g, 0, none⟩) er.length cap)) := by
  have r1 := h.row1
  rw [exCells_cons] at r1
  exact h.setP (s' := { s with vals := s.vals.tail }) 0 _ (by rfl) (by have := h.vals; simp only [← this]; simp) (fun r hr => by simp [hr]) (ownsRow_pop (by rw [exCells_length]) r1) h.row2
end Go.Proofs.YtfoenfipefhpoaaGreatDoor.Ex
