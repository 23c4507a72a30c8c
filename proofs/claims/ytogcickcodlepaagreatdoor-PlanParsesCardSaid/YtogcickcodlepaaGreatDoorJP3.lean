/-
  Texts joined into one file. Each part says in its own head what is proved there, and under which conditions.
-/
import Derived.Test.YtogcickcodlepaaGreatDoorJP2
import Derived.Test.YtogcickcodlepaaGreatDoorJP1
import Derived.Deep.DeepCutAuto
import Derived.Deep.CutRange
set_option linter.unusedVariables false
set_option linter.unusedSimpArgs false
/-
  The flow that a line says. Conditions: its numbers are numbers.
-/
namespace Go.Proofs.YtogcickcodlepaaGreatDoor.Pl
open Go.RowKit Go.Proofs.YtogcickcodlepaaGreatDoor.Ex

/-- The cells of the words 1, 3, 5. -/
theorem w135 {w X : World} {b o : Nat} {x y z : Bs} (hb : b < w.heap.size) (h : w.cell? ⟨b, o + 1, none⟩ = some (sv x) ∧ w.cell? ⟨b, o + 3, none⟩ = some (sv y) ∧ w.cell? ⟨b, o + 5, none⟩ = some (sv z)) (hX : Below w.heap.size w X) :
    X.cell? ⟨b, o + 1, none⟩ = some (sv x) ∧ X.cell? ⟨b, o + 3, none⟩ = some (sv y) ∧ X.cell? ⟨b, o + 5, none⟩ = some (sv z) ∧ Hid (Below w.heap.size w X) :=
  ⟨by rw [hX.cell (p := ⟨b, _, none⟩) hb]; exact h.1, by rw [hX.cell (p := ⟨b, _, none⟩) hb]; exact h.2.1, by rw [hX.cell (p := ⟨b, _, none⟩) hb]; exact h.2.2, Lib.hid hX⟩
theorem w2s {w X : World} {b i j : Nat} {x y : Bs} (hb : b < w.heap.size) (h : w.cell? ⟨b, i, none⟩ = some (sv x) ∧ w.cell? ⟨b, j, none⟩ = some (sv y)) (hX : Below w.heap.size w X) :
    X.cell? ⟨b, i, none⟩ = some (sv x) ∧ X.cell? ⟨b, j, none⟩ = some (sv y) ∧ Hid (Below w.heap.size w X) :=
  ⟨by rw [hX.cell (p := ⟨b, _, none⟩) hb]; exact h.1, by rw [hX.cell (p := ⟨b, _, none⟩) hb]; exact h.2, Lib.hid hX⟩
/-- A new flow's block. -/
def ZeroAt (X : World) (p : Nat) : Prop := X.heap[p]? = some (.cells #[sv [], sv [], sv [], .int .i64 0, .int .i64 0, .int .i64 0, .slice none 0 0, .int .i64 0, .int .i64 0, .int .i64 0, .int .i64 0, .slice none 0 0] 43 (0, 0))
theorem ZeroAt.new (X : World) : ZeroAt (X.alloc (.cells #[sv [], sv [], sv [], .int .i64 0, .int .i64 0, .int .i64 0, .slice none 0 0, .int .i64 0, .int .i64 0, .int .i64 0, .int .i64 0, .slice none 0 0] 43)) X.heap.size := heap_alloc_new X _
theorem ZeroAt.grow {X Y : World} {p : Nat} (h : ZeroAt X p) (hb : Below X.heap.size X Y) : ZeroAt Y p := by unfold ZeroAt at *; rw [hb.block p (lt_of_heap h)]; exact h
set_option maxHeartbeats 4000000 in
theorem cells12 {w : World} {b : Nat} {a0 a1 a2 a3 a4 a5 a6 a7 a8 a9 a10 a11 : Value} (h : w.heap[b]? = some (.cells #[a0, a1, a2, a3, a4, a5, a6, a7, a8, a9, a10, a11] 43 (0, 0))) : w.cell? ⟨b, 0, none⟩ = some (a0) ∧ w.cell? ⟨b, 1, none⟩ = some (a1) ∧ w.cell? ⟨b, 2, none⟩ = some (a2) ∧ w.cell? ⟨b, 3, none⟩ = some (a3) ∧ w.cell? ⟨b, 4, none⟩ = some (a4) ∧ w.cell? ⟨b, 5, none⟩ = some (a5) ∧ w.cell? ⟨b, 6, none⟩ = some (a6) ∧ w.cell? ⟨b, 7, none⟩ = some (a7) ∧ w.cell? ⟨b, 8, none⟩ = some (a8) ∧ w.cell? ⟨b, 9, none⟩ = some (a9) ∧ w.cell? ⟨b, 10, none⟩ = some (a10) ∧ w.cell? ⟨b, 11, none⟩ = some (a11) ∧ w.frozen? ⟨b, 0, none⟩ = false ∧ w.frozen? ⟨b, 1, none⟩ = false ∧ w.frozen? ⟨b, 2, none⟩ = false ∧ w.frozen? ⟨b, 3, none⟩ = false ∧ w.frozen? ⟨b, 4, none⟩ = false ∧ w.frozen? ⟨b, 5, none⟩ = false ∧ w.frozen? ⟨b, 6, none⟩ = false ∧ w.frozen? ⟨b, 7, none⟩ = false ∧ w.frozen? ⟨b, 8, none⟩ = false ∧ w.frozen? ⟨b, 9, none⟩ = false ∧ w.frozen? ⟨b, 10, none⟩ = false ∧ w.frozen? ⟨b, 11, none⟩ = false := by
  refine ⟨?_, ?_, ?_, ?_, ?_, ?_, ?_, ?_, ?_, ?_, ?_, ?_, free_of_heap h 0, free_of_heap h 1, free_of_heap h 2, free_of_heap h 3, free_of_heap h 4, free_of_heap h 5, free_of_heap h 6, free_of_heap h 7, free_of_heap h 8, free_of_heap h 9, free_of_heap h 10, free_of_heap h 11⟩ <;> rw [cell_of_heap h] <;> rfl
def setL (X : World) (p : Nat) : Nat → List Value → World
  | _, [] => X
  | i, v :: r => setL (X.setCell ⟨p, i, none⟩ v) p (i + 1) r
theorem setL_below {w : World} {B p : Nat} (hp : B ≤ p) : ∀ (vs : List Value) (i : Nat) {X : World}, Below B w X → Below B w (setL X p i vs)
  | [], _, _, h => h
  | v :: r, i, _, h => setL_below hp r (i + 1) (h.setCell hp v)
theorem setL_heap {p : Nat} {t : TypeId} : ∀ (vs : List Value) (i : Nat) {X : World} {cs : Array Value}, X.heap[p]? = some (.cells cs t (0, 0)) → ∃ ds, (setL X p i vs).heap[p]? = some (.cells ds t (0, 0)) ∧ ds = (vs.zipIdx i).foldl (fun c q => c.setIfInBounds q.2 q.1) cs
  | [], _, _, cs, h => ⟨cs, h, rfl⟩
  | v :: r, i, X, cs, h => by
    obtain ⟨ds, h1, h2⟩ := setL_heap r (i + 1) (heap_setCell_same X p i _ _ v h)
    exact ⟨ds, h1, by rw [h2]; rfl⟩
theorem setL_other {p k : Nat} {o : Obj} (hne : p ≠ k) : ∀ (vs : List Value) (i : Nat) {X : World}, X.heap[k]? = some o → (setL X p i vs).heap[k]? = some o
  | [], _, _, h => h
  | v :: r, i, _, h => setL_other hne r (i + 1) (heap_setCell h hne v)
theorem set12_heap {X : World} {p : Nat} {a0 a1 a2 a3 a4 a5 a6 a7 a8 a9 a10 a11 : Value} (h : X.heap[p]? = some (.cells #[a0, a1, a2, a3, a4, a5, a6, a7, a8, a9, a10, a11] 43 (0, 0))) (b0 b1 b2 b3 b4 b5 b6 b7 b8 b9 b10 b11 : Value) : (setL X p 0 [b0, b1, b2, b3, b4, b5, b6, b7, b8, b9, b10, b11]).heap[p]? = some (.cells #[b0, b1, b2, b3, b4, b5, b6, b7, b8, b9, b10, b11] 43 (0, 0)) := by
  obtain ⟨ds, h1, h2⟩ := setL_heap [b0, b1, b2, b3, b4, b5, b6, b7, b8, b9, b10, b11] 0 h
  rw [h1, h2]
  simp only [List.zipIdx_cons, List.zipIdx_nil, List.foldl_cons, List.foldl_nil, List.setIfInBounds_toArray, List.set_cons_zero, List.set_cons_succ, Nat.zero_add, Nat.reduceAdd]
/-- What a line that begins a flow has. -/
structure FlowWs (ws : List Bs) (n : Nat) : Prop where
  len : ws.length = n
  n11 : 11 ≤ n
  small : ∀ x ∈ ws, x.length ≤ 4096
  bound : wd ws 6 = wBound → isNumber (wd ws 7) = true
  readers : isNumber (wd ws (n - 3)) = true
  keepers : isNumber (wd ws (n - 1)) = true
theorem FlowWs.wd_small {ws : List Bs} {n : Nat} (h : FlowWs ws n) {i : Nat} (hi : i < n) : (wd ws i).length ≤ 281474976710656 := by
  rw [wd_at (by rw [h.len]; exact hi)]
  have := h.small _ (mem_at (by rw [h.len]; exact hi))
  omega
set_option maxRecDepth 20000 in
set_option maxHeartbeats 4000000 in
theorem flowOf_at {w : World} {b o n cap : Nat} {ws : List Bs} (h : WdsAt w (.slice (some ⟨b, o, none⟩) n cap) ws) (hw : FlowWs ws n) {r : Flw} (hr : flowOf ws = r) :
    Calls Tryz.prog 78 #[.slice (some ⟨b, o, none⟩) n cap] w fun e w' => e = .returned (flwV ⟨r, .slice none 0 0, .slice none 0 0⟩) ∧ Below w.heap.size w w' := by
  obtain ⟨-, hcap, hmax, -⟩ := Lst.len h
  have hl := hw.len
  have h11 := hw.n11
  unfold maxLen at hmax
  have hi1 : (1 : Int) < (n : Int) := by omega
  have hi3 : (3 : Int) < (n : Int) := by omega
  have hi5 : (5 : Int) < (n : Int) := by omega
  have hn1 : 1 < n := by omega
  have hn3 : 3 < n := by omega
  have hn5 : 5 < n := by omega
  have hbw : b < w.heap.size := by obtain ⟨_, _, e, hl, _⟩ := h.wd (i := 1) (by omega); simp at e; rw [e.1]; exact hl
  obtain ⟨x, hx⟩ : ∃ x, wd ws 1 = x := ⟨_, rfl⟩
  obtain ⟨y, hy⟩ : ∃ x, wd ws 3 = x := ⟨_, rfl⟩
  obtain ⟨z, hz⟩ : ∃ x, wd ws 5 = x := ⟨_, rfl⟩
  have HX := Lib.hid (show x.length ≤ 281474976710656 by rw [← hx]; exact hw.wd_small hn1)
  have HY := Lib.hid (show y.length ≤ 281474976710656 by rw [← hy]; exact hw.wd_small hn3)
  have HZ := Lib.hid (show z.length ≤ 281474976710656 by rw [← hz]; exact hw.wd_small hn5)
  have HE := Lib.hid (And.intro hx (And.intro hy hz))
  have HR := Lib.hid hr
  have HW := Lib.hid hw
  have HL := Lib.hid hl
  have hB0 : Below w.heap.size w (w.alloc (.cells #[sv [], sv [], sv [], .int .i64 0, .int .i64 0, .int .i64 0, .slice none 0 0, .int .i64 0, .int .i64 0, .int .i64 0, .int .i64 0, .slice none 0 0] 43)) := (Below.refl _ _).alloc (Nat.le_refl _) _
  have hZ0 := ZeroAt.new w
  have hbW : b < (w.alloc (.cells #[sv [], sv [], sv [], .int .i64 0, .int .i64 0, .int .i64 0, .slice none 0 0, .int .i64 0, .int .i64 0, .int .i64 0, .int .i64 0, .slice none 0 0] 43)).heap.size := Nat.lt_of_lt_of_le hbw hB0.size
  have h0 := h.grow hB0
  have hc := And.intro (h0.lit (i := 1) (by omega)) (And.intro (h0.lit (i := 3) (by omega)) (h0.lit (i := 5) (by omega)))
  rw [hx, hy, hz] at hc
  have HC := Lib.hid hc
  have HT := Lib.hid h0
  have HB0 := Lib.hid hB0
  have HZ0 := Lib.hid hZ0
  clear hx hy hz hr hw hl h hB0 hZ0 h0 hc
  go_enter Tryz.func78, Tryz.ntmps78
  go_upto_region 1 with fail
  generalize hW0 : w.alloc (.cells #[sv [], sv [], sv [], .int .i64 0, .int .i64 0, .int .i64 0, .slice none 0 0, .int .i64 0, .int .i64 0, .int .i64 0, .int .i64 0, .slice none 0 0] 43) = W0 at HB0 HZ0 HC HT hbW ⊢
  clear hW0
  go_cut [3] (fun s3 wx => ∃ q, s3 = ptr q ∧ W0.heap.size ≤ q ∧ wx.heap[q]? = some (.cells #[sv x, sv y, sv z, .int .i64 (-1), .int .i64 0, .int .i64 0, .slice none 0 0, .int .i64 0, .int .i64 0, .int .i64 0, .int .i64 0, .slice none 0 0] 43 (0, 0)) ∧ Below W0.heap.size W0 wx)
  case first =>
    refine wp_region_held_drew (S := (fun X => X.cell? ⟨b, o + 1, none⟩ = some (sv x) ∧ X.cell? ⟨b, o + 3, none⟩ = some (sv y) ∧ X.cell? ⟨b, o + 5, none⟩ = some (sv z) ∧ Hid (Below W0.heap.size W0 X))) (by kernel_rfl) (w135 hbW HC.out (Below.refl _ _).drew) (fun hHeld => ?_)
    refine wpAnyH_take (i := 0) (oi := ({ dst := some 5, op := Op.move (Operand.tmp 0), type := 58, pos := "parser.go:188", after := #[], guard := none } : Oper)) (v := ?_) rfl (by kernel_rfl) (by kernel_rfl) (by kernel_rfl) (fun _ _ _ h => h) (Or.inl ⟨by rfl, ?hy1_1⟩) hHeld ?_
    case hy1_1 => (intro W hSw; (try dsimp only at hSw); go_simp; (try with_reducible rfl))
    try simp only [Act.put, List.setIfInBounds_toArray, List.set_cons_zero, List.set_cons_succ]
    refine wpAnyH_take (i := 1) (oi := ({ dst := some 6, op := Op.indexAddr 58 (Operand.tmp 5) (Operand.const (Value.int IntKind.i64 1)), type := 0, pos := "parser.go:188", after := #[{ on := 0, ground := Ground.data }], guard := none } : Oper)) (v := ?_) rfl (by kernel_rfl) (by kernel_rfl) (by kernel_rfl) (fun _ _ _ h => h) (Or.inl ⟨by rfl, ?hy1_2⟩) hHeld ?_
    case hy1_2 => (intro W hSw; (try dsimp only at hSw); go_simp; (try with_reducible rfl))
    try simp only [Act.put, List.setIfInBounds_toArray, List.set_cons_zero, List.set_cons_succ]
    refine wpAnyH_take (i := 2) (oi := ({ dst := some 7, op := Op.load 9 (Operand.tmp 6), type := 9, pos := "parser.go:188", after := #[{ on := 1, ground := Ground.data }], guard := none } : Oper)) (v := ?_) rfl (by kernel_rfl) (by kernel_rfl) (by kernel_rfl) (fun _ _ _ h => h) (Or.inl ⟨by rfl, ?hy1_3⟩) hHeld ?_
    case hy1_3 => (intro W hSw; (try dsimp only at hSw); go_simp; (try with_reducible rfl))
    try simp only [Act.put, List.setIfInBounds_toArray, List.set_cons_zero, List.set_cons_succ]
    refine wpAnyH_take (i := 4) (oi := ({ dst := some 9, op := Op.move (Operand.tmp 0), type := 58, pos := "parser.go:188", after := #[], guard := none } : Oper)) (v := ?_) rfl (by kernel_rfl) (by kernel_rfl) (by kernel_rfl) (fun _ _ _ h => h) (Or.inl ⟨by rfl, ?hy1_4⟩) hHeld ?_
    case hy1_4 => (intro W hSw; (try dsimp only at hSw); go_simp; (try with_reducible rfl))
    try simp only [Act.put, List.setIfInBounds_toArray, List.set_cons_zero, List.set_cons_succ]
    refine wpAnyH_take (i := 5) (oi := ({ dst := some 10, op := Op.indexAddr 58 (Operand.tmp 9) (Operand.const (Value.int IntKind.i64 3)), type := 0, pos := "parser.go:188", after := #[{ on := 4, ground := Ground.data }], guard := none } : Oper)) (v := ?_) rfl (by kernel_rfl) (by kernel_rfl) (by kernel_rfl) (fun _ _ _ h => h) (Or.inl ⟨by rfl, ?hy1_5⟩) hHeld ?_
    case hy1_5 => (intro W hSw; (try dsimp only at hSw); go_simp; (try with_reducible rfl))
    try simp only [Act.put, List.setIfInBounds_toArray, List.set_cons_zero, List.set_cons_succ]
    refine wpAnyH_take (i := 6) (oi := ({ dst := some 11, op := Op.load 9 (Operand.tmp 10), type := 9, pos := "parser.go:188", after := #[{ on := 5, ground := Ground.data }], guard := none } : Oper)) (v := ?_) rfl (by kernel_rfl) (by kernel_rfl) (by kernel_rfl) (fun _ _ _ h => h) (Or.inl ⟨by rfl, ?hy1_6⟩) hHeld ?_
    case hy1_6 => (intro W hSw; (try dsimp only at hSw); go_simp; (try with_reducible rfl))
    try simp only [Act.put, List.setIfInBounds_toArray, List.set_cons_zero, List.set_cons_succ]
    refine wpAnyH_take (i := 8) (oi := ({ dst := some 13, op := Op.move (Operand.tmp 0), type := 58, pos := "parser.go:188", after := #[], guard := none } : Oper)) (v := ?_) rfl (by kernel_rfl) (by kernel_rfl) (by kernel_rfl) (fun _ _ _ h => h) (Or.inl ⟨by rfl, ?hy1_7⟩) hHeld ?_
    case hy1_7 => (intro W hSw; (try dsimp only at hSw); go_simp; (try with_reducible rfl))
    try simp only [Act.put, List.setIfInBounds_toArray, List.set_cons_zero, List.set_cons_succ]
    refine wpAnyH_take (i := 9) (oi := ({ dst := some 14, op := Op.indexAddr 58 (Operand.tmp 13) (Operand.const (Value.int IntKind.i64 5)), type := 0, pos := "parser.go:188", after := #[{ on := 8, ground := Ground.data }], guard := none } : Oper)) (v := ?_) rfl (by kernel_rfl) (by kernel_rfl) (by kernel_rfl) (fun _ _ _ h => h) (Or.inl ⟨by rfl, ?hy1_8⟩) hHeld ?_
    case hy1_8 => (intro W hSw; (try dsimp only at hSw); go_simp; (try with_reducible rfl))
    try simp only [Act.put, List.setIfInBounds_toArray, List.set_cons_zero, List.set_cons_succ]
    refine wpAnyH_take (i := 10) (oi := ({ dst := some 15, op := Op.load 9 (Operand.tmp 14), type := 9, pos := "parser.go:188", after := #[{ on := 9, ground := Ground.data }], guard := none } : Oper)) (v := ?_) rfl (by kernel_rfl) (by kernel_rfl) (by kernel_rfl) (fun _ _ _ h => h) (Or.inl ⟨by rfl, ?hy1_9⟩) hHeld ?_
    case hy1_9 => (intro W hSw; (try dsimp only at hSw); go_simp; (try with_reducible rfl))
    try simp only [Act.put, List.setIfInBounds_toArray, List.set_cons_zero, List.set_cons_succ]
    refine wpAnyH_ready (rs := [3, 13]) (by kernel_rfl) (by simp) ?_
    refine (AllReadyH.cons (o := ({ dst := some 8, op := Op.call { callee := Callee.value (Operand.func 76), args := #[Operand.tmp 7], argTypes := #[9] }, type := 9, pos := "parser.go:188", after := #[{ on := 2, ground := Ground.data }], guard := none } : Oper)) rfl (fun K hK => ?_) (AllReadyH.cons (o := ({ dst := some 3, op := Op.alloc 43, type := 0, pos := "parser.go:188", after := #[], guard := none } : Oper)) rfl (fun K hK => ?_) AllReadyH.nil))
    · skip
      go_simp
      refine (clone_at x _ HX.out).mono ?_
      rintro e w3 ⟨rfl, hb⟩
      refine hK.out _ _ (w135 hbW HC.out (hHeld.2.2.2.out.trans (hb.mono hHeld.2.2.2.out.size))) (fun hHeld' => ?_)
      clear hK K hHeld
      have hHeld := hHeld'
      clear hHeld'
      try simp only [Act.put, List.setIfInBounds_toArray, List.set_cons_zero, List.set_cons_succ]
      clear hb
      refine wpAnyH_ready (rs := [7, 13]) (by kernel_rfl) (by simp) ?_
      refine (AllReadyH.cons (o := ({ dst := some 12, op := Op.call { callee := Callee.value (Operand.func 76), args := #[Operand.tmp 11], argTypes := #[9] }, type := 9, pos := "parser.go:188", after := #[{ on := 6, ground := Ground.data }, { on := 3, ground := Ground.chain }], guard := none } : Oper)) rfl (fun K hK => ?_) (AllReadyH.cons (o := ({ dst := some 3, op := Op.alloc 43, type := 0, pos := "parser.go:188", after := #[], guard := none } : Oper)) rfl (fun K hK => ?_) AllReadyH.nil))
      · skip
        go_simp
        refine (clone_at y _ HY.out).mono ?_
        rintro e w7 ⟨rfl, hb⟩
        refine hK.out _ _ (w135 hbW HC.out (hHeld.2.2.2.out.trans (hb.mono hHeld.2.2.2.out.size))) (fun hHeld' => ?_)
        clear hK K hHeld
        have hHeld := hHeld'
        clear hHeld'
        try simp only [Act.put, List.setIfInBounds_toArray, List.set_cons_zero, List.set_cons_succ]
        clear hb
        refine wpAnyH_ready (rs := [11, 13]) (by kernel_rfl) (by simp) ?_
        refine (AllReadyH.cons (o := ({ dst := some 16, op := Op.call { callee := Callee.value (Operand.func 76), args := #[Operand.tmp 15], argTypes := #[9] }, type := 9, pos := "parser.go:188", after := #[{ on := 10, ground := Ground.data }, { on := 7, ground := Ground.chain }], guard := none } : Oper)) rfl (fun K hK => ?_) (AllReadyH.cons (o := ({ dst := some 3, op := Op.alloc 43, type := 0, pos := "parser.go:188", after := #[], guard := none } : Oper)) rfl (fun K hK => ?_) AllReadyH.nil))
        · skip
          go_simp
          refine (clone_at z _ HZ.out).mono ?_
          rintro e w11 ⟨rfl, hb⟩
          refine hK.out _ _ (w135 hbW HC.out (hHeld.2.2.2.out.trans (hb.mono hHeld.2.2.2.out.size))) (fun hHeld' => ?_)
          clear hK K hHeld
          have hHeld := hHeld'
          clear hHeld'
          try simp only [Act.put, List.setIfInBounds_toArray, List.set_cons_zero, List.set_cons_succ]
          clear hb
          refine wpAnyH_take (i := 12) (oi := ({ dst := some 17, op := Op.build 43 #[(0, Operand.tmp 8), (1, Operand.tmp 12), (2, Operand.tmp 16), (3, Operand.const (Value.int IntKind.i64 (-1)))], type := 43, pos := "parser.go:188", after := #[{ on := 3, ground := Ground.data }, { on := 7, ground := Ground.data }, { on := 11, ground := Ground.data }], guard := none } : Oper)) (v := ?_) rfl (by kernel_rfl) (by kernel_rfl) (by kernel_rfl) (fun _ _ _ h => h) (Or.inl ⟨by rfl, ?hy1_10⟩) hHeld ?_
          case hy1_10 => (intro W hSw; (try dsimp only at hSw); go_simp; (try with_reducible rfl))
          try simp only [Act.put, List.setIfInBounds_toArray, List.set_cons_zero, List.set_cons_succ]
          have hBX := Lib.hid hHeld.2.2.2.out
          have hpge := hBX.out.size
          refine wpAnyH_ready (rs := [13]) (by kernel_rfl) (by simp) ?_
          refine AllReadyH.cons (o := ({ dst := some 3, op := Op.alloc 43, type := 0, pos := "parser.go:188", after := #[], guard := none } : Oper)) rfl (fun K hK => ?_) AllReadyH.nil
          go_simp
          refine hK.out _ _ (w135 hbW HC.out (hBX.out.alloc hpge _)) (fun hHeld' => ?_)
          clear hK K hHeld
          have hHeld := hHeld'
          clear hHeld'
          try simp only [Act.put, List.setIfInBounds_toArray, List.set_cons_zero, List.set_cons_succ]
          have hp := Lib.hid (show ZeroAt _ w11.heap.size from ZeroAt.new w11)
          refine wpAnyH_ready (rs := [14]) (by kernel_rfl) (by simp) ?_
          refine AllReadyH.cons (o := ({ dst := none, op := Op.store 43 (Operand.tmp 3) (Operand.tmp 17), type := 0, pos := "parser.go:188", after := #[{ on := 13, ground := Ground.data }, { on := 12, ground := Ground.data }, { on := 11, ground := Ground.chain }, { on := 0, ground := Ground.phase }, { on := 1, ground := Ground.phase }, { on := 2, ground := Ground.phase }, { on := 3, ground := Ground.phase }, { on := 4, ground := Ground.phase }, { on := 5, ground := Ground.phase }, { on := 6, ground := Ground.phase }, { on := 7, ground := Ground.phase }, { on := 8, ground := Ground.phase }, { on := 9, ground := Ground.phase }, { on := 10, ground := Ground.phase }, { on := 11, ground := Ground.phase }, { on := 12, ground := Ground.phase }, { on := 13, ground := Ground.phase }], guard := none } : Oper)) rfl (fun K hK => ?_) AllReadyH.nil
          go_simp
          refine hK.out _ _ (w135 hbW HC.out (hBX.out.alloc hpge _)) (fun hHeld' => ?_)
          clear hK K hHeld
          have hHeld := hHeld'
          clear hHeld'
          try simp only [Act.put, List.setIfInBounds_toArray, List.set_cons_zero, List.set_cons_succ]
          refine wpAnyH_done (by kernel_rfl) ?_ _
          go_wp2_with fail
          go_meet
          exact ⟨_, rfl, hpge, heap_alloc_new _ _, hHeld.2.2.2.out⟩
        · skip
          have hBX := Lib.hid hHeld.2.2.2.out
          have hpge := hBX.out.size
          go_simp
          refine hK.out _ _ (w135 hbW HC.out (hBX.out.alloc hpge _)) (fun hHeld' => ?_)
          clear hK K hHeld
          have hHeld := hHeld'
          clear hHeld'
          try simp only [Act.put, List.setIfInBounds_toArray, List.set_cons_zero, List.set_cons_succ]
          have hp := Lib.hid (show ZeroAt _ w7.heap.size from ZeroAt.new w7)
          refine wpAnyH_ready (rs := [11]) (by kernel_rfl) (by simp) ?_
          refine AllReadyH.cons (o := ({ dst := some 16, op := Op.call { callee := Callee.value (Operand.func 76), args := #[Operand.tmp 15], argTypes := #[9] }, type := 9, pos := "parser.go:188", after := #[{ on := 10, ground := Ground.data }, { on := 7, ground := Ground.chain }], guard := none } : Oper)) rfl (fun K hK => ?_) AllReadyH.nil
          go_simp
          refine (clone_at z _ HZ.out).mono ?_
          rintro e w11 ⟨rfl, hb⟩
          have hp := (hp.out).grow hb; have hp := Lib.hid hp
          refine hK.out _ _ (w135 hbW HC.out (hHeld.2.2.2.out.trans (hb.mono hHeld.2.2.2.out.size))) (fun hHeld' => ?_)
          clear hK K hHeld
          have hHeld := hHeld'
          clear hHeld'
          try simp only [Act.put, List.setIfInBounds_toArray, List.set_cons_zero, List.set_cons_succ]
          clear hb
          refine wpAnyH_take (i := 12) (oi := ({ dst := some 17, op := Op.build 43 #[(0, Operand.tmp 8), (1, Operand.tmp 12), (2, Operand.tmp 16), (3, Operand.const (Value.int IntKind.i64 (-1)))], type := 43, pos := "parser.go:188", after := #[{ on := 3, ground := Ground.data }, { on := 7, ground := Ground.data }, { on := 11, ground := Ground.data }], guard := none } : Oper)) (v := ?_) rfl (by kernel_rfl) (by kernel_rfl) (by kernel_rfl) (fun _ _ _ h => h) (Or.inl ⟨by rfl, ?hy1_11⟩) hHeld ?_
          case hy1_11 => (intro W hSw; (try dsimp only at hSw); go_simp; (try with_reducible rfl))
          try simp only [Act.put, List.setIfInBounds_toArray, List.set_cons_zero, List.set_cons_succ]
          obtain ⟨k0, k1, k2, k3, k4, k5, k6, k7, k8, k9, k10, k11, f0, f1, f2, f3, f4, f5, f6, f7, f8, f9, f10, f11⟩ := cells12 hp.out
          refine wpAnyH_ready (rs := [14]) (by kernel_rfl) (by simp) ?_
          refine AllReadyH.cons (o := ({ dst := none, op := Op.store 43 (Operand.tmp 3) (Operand.tmp 17), type := 0, pos := "parser.go:188", after := #[{ on := 13, ground := Ground.data }, { on := 12, ground := Ground.data }, { on := 11, ground := Ground.chain }, { on := 0, ground := Ground.phase }, { on := 1, ground := Ground.phase }, { on := 2, ground := Ground.phase }, { on := 3, ground := Ground.phase }, { on := 4, ground := Ground.phase }, { on := 5, ground := Ground.phase }, { on := 6, ground := Ground.phase }, { on := 7, ground := Ground.phase }, { on := 8, ground := Ground.phase }, { on := 9, ground := Ground.phase }, { on := 10, ground := Ground.phase }, { on := 11, ground := Ground.phase }, { on := 12, ground := Ground.phase }, { on := 13, ground := Ground.phase }], guard := none } : Oper)) rfl (fun K hK => ?_) AllReadyH.nil
          go_simp
          refine hK.out _ _ (w135 hbW HC.out (setL_below hpge [sv x, sv y, sv z, .int .i64 (-1), .int .i64 0, .int .i64 0, .slice none 0 0, .int .i64 0, .int .i64 0, .int .i64 0, .int .i64 0, .slice none 0 0] 0 hHeld.2.2.2.out)) (fun hHeld' => ?_)
          clear hK K hHeld
          have hHeld := hHeld'
          clear hHeld'
          try simp only [Act.put, List.setIfInBounds_toArray, List.set_cons_zero, List.set_cons_succ]
          refine wpAnyH_done (by kernel_rfl) ?_ _
          go_wp2_with fail
          go_meet
          exact ⟨_, rfl, hpge, set12_heap hp.out _ _ _ _ _ _ _ _ _ _ _ _, hHeld.2.2.2.out⟩
      · skip
        have hBX := Lib.hid hHeld.2.2.2.out
        have hpge := hBX.out.size
        go_simp
        refine hK.out _ _ (w135 hbW HC.out (hBX.out.alloc hpge _)) (fun hHeld' => ?_)
        clear hK K hHeld
        have hHeld := hHeld'
        clear hHeld'
        try simp only [Act.put, List.setIfInBounds_toArray, List.set_cons_zero, List.set_cons_succ]
        have hp := Lib.hid (show ZeroAt _ w3.heap.size from ZeroAt.new w3)
        refine wpAnyH_ready (rs := [7]) (by kernel_rfl) (by simp) ?_
        refine AllReadyH.cons (o := ({ dst := some 12, op := Op.call { callee := Callee.value (Operand.func 76), args := #[Operand.tmp 11], argTypes := #[9] }, type := 9, pos := "parser.go:188", after := #[{ on := 6, ground := Ground.data }, { on := 3, ground := Ground.chain }], guard := none } : Oper)) rfl (fun K hK => ?_) AllReadyH.nil
        go_simp
        refine (clone_at y _ HY.out).mono ?_
        rintro e w7 ⟨rfl, hb⟩
        have hp := (hp.out).grow hb; have hp := Lib.hid hp
        refine hK.out _ _ (w135 hbW HC.out (hHeld.2.2.2.out.trans (hb.mono hHeld.2.2.2.out.size))) (fun hHeld' => ?_)
        clear hK K hHeld
        have hHeld := hHeld'
        clear hHeld'
        try simp only [Act.put, List.setIfInBounds_toArray, List.set_cons_zero, List.set_cons_succ]
        clear hb
        refine wpAnyH_ready (rs := [11]) (by kernel_rfl) (by simp) ?_
        refine AllReadyH.cons (o := ({ dst := some 16, op := Op.call { callee := Callee.value (Operand.func 76), args := #[Operand.tmp 15], argTypes := #[9] }, type := 9, pos := "parser.go:188", after := #[{ on := 10, ground := Ground.data }, { on := 7, ground := Ground.chain }], guard := none } : Oper)) rfl (fun K hK => ?_) AllReadyH.nil
        go_simp
        refine (clone_at z _ HZ.out).mono ?_
        rintro e w11 ⟨rfl, hb⟩
        have hp := (hp.out).grow hb; have hp := Lib.hid hp
        refine hK.out _ _ (w135 hbW HC.out (hHeld.2.2.2.out.trans (hb.mono hHeld.2.2.2.out.size))) (fun hHeld' => ?_)
        clear hK K hHeld
        have hHeld := hHeld'
        clear hHeld'
        try simp only [Act.put, List.setIfInBounds_toArray, List.set_cons_zero, List.set_cons_succ]
        clear hb
        refine wpAnyH_take (i := 12) (oi := ({ dst := some 17, op := Op.build 43 #[(0, Operand.tmp 8), (1, Operand.tmp 12), (2, Operand.tmp 16), (3, Operand.const (Value.int IntKind.i64 (-1)))], type := 43, pos := "parser.go:188", after := #[{ on := 3, ground := Ground.data }, { on := 7, ground := Ground.data }, { on := 11, ground := Ground.data }], guard := none } : Oper)) (v := ?_) rfl (by kernel_rfl) (by kernel_rfl) (by kernel_rfl) (fun _ _ _ h => h) (Or.inl ⟨by rfl, ?hy1_12⟩) hHeld ?_
        case hy1_12 => (intro W hSw; (try dsimp only at hSw); go_simp; (try with_reducible rfl))
        try simp only [Act.put, List.setIfInBounds_toArray, List.set_cons_zero, List.set_cons_succ]
        obtain ⟨k0, k1, k2, k3, k4, k5, k6, k7, k8, k9, k10, k11, f0, f1, f2, f3, f4, f5, f6, f7, f8, f9, f10, f11⟩ := cells12 hp.out
        refine wpAnyH_ready (rs := [14]) (by kernel_rfl) (by simp) ?_
        refine AllReadyH.cons (o := ({ dst := none, op := Op.store 43 (Operand.tmp 3) (Operand.tmp 17), type := 0, pos := "parser.go:188", after := #[{ on := 13, ground := Ground.data }, { on := 12, ground := Ground.data }, { on := 11, ground := Ground.chain }, { on := 0, ground := Ground.phase }, { on := 1, ground := Ground.phase }, { on := 2, ground := Ground.phase }, { on := 3, ground := Ground.phase }, { on := 4, ground := Ground.phase }, { on := 5, ground := Ground.phase }, { on := 6, ground := Ground.phase }, { on := 7, ground := Ground.phase }, { on := 8, ground := Ground.phase }, { on := 9, ground := Ground.phase }, { on := 10, ground := Ground.phase }, { on := 11, ground := Ground.phase }, { on := 12, ground := Ground.phase }, { on := 13, ground := Ground.phase }], guard := none } : Oper)) rfl (fun K hK => ?_) AllReadyH.nil
        go_simp
        refine hK.out _ _ (w135 hbW HC.out (setL_below hpge [sv x, sv y, sv z, .int .i64 (-1), .int .i64 0, .int .i64 0, .slice none 0 0, .int .i64 0, .int .i64 0, .int .i64 0, .int .i64 0, .slice none 0 0] 0 hHeld.2.2.2.out)) (fun hHeld' => ?_)
        clear hK K hHeld
        have hHeld := hHeld'
        clear hHeld'
        try simp only [Act.put, List.setIfInBounds_toArray, List.set_cons_zero, List.set_cons_succ]
        refine wpAnyH_done (by kernel_rfl) ?_ _
        go_wp2_with fail
        go_meet
        exact ⟨_, rfl, hpge, set12_heap hp.out _ _ _ _ _ _ _ _ _ _ _ _, hHeld.2.2.2.out⟩
    · skip
      have hBX := Lib.hid hHeld.2.2.2.out
      have hpge := hBX.out.size
      go_simp
      refine hK.out _ _ (w135 hbW HC.out (hBX.out.alloc hpge _)) (fun hHeld' => ?_)
      clear hK K hHeld
      have hHeld := hHeld'
      clear hHeld'
      try simp only [Act.put, List.setIfInBounds_toArray, List.set_cons_zero, List.set_cons_succ]
      have hp := Lib.hid (show ZeroAt _ W0.heap.size from ZeroAt.new W0.drew)
      refine wpAnyH_ready (rs := [3]) (by kernel_rfl) (by simp) ?_
      refine AllReadyH.cons (o := ({ dst := some 8, op := Op.call { callee := Callee.value (Operand.func 76), args := #[Operand.tmp 7], argTypes := #[9] }, type := 9, pos := "parser.go:188", after := #[{ on := 2, ground := Ground.data }], guard := none } : Oper)) rfl (fun K hK => ?_) AllReadyH.nil
      go_simp
      refine (clone_at x _ HX.out).mono ?_
      rintro e w3 ⟨rfl, hb⟩
      have hp := (hp.out).grow hb; have hp := Lib.hid hp
      refine hK.out _ _ (w135 hbW HC.out (hHeld.2.2.2.out.trans (hb.mono hHeld.2.2.2.out.size))) (fun hHeld' => ?_)
      clear hK K hHeld
      have hHeld := hHeld'
      clear hHeld'
      try simp only [Act.put, List.setIfInBounds_toArray, List.set_cons_zero, List.set_cons_succ]
      clear hb
      refine wpAnyH_ready (rs := [7]) (by kernel_rfl) (by simp) ?_
      refine AllReadyH.cons (o := ({ dst := some 12, op := Op.call { callee := Callee.value (Operand.func 76), args := #[Operand.tmp 11], argTypes := #[9] }, type := 9, pos := "parser.go:188", after := #[{ on := 6, ground := Ground.data }, { on := 3, ground := Ground.chain }], guard := none } : Oper)) rfl (fun K hK => ?_) AllReadyH.nil
      go_simp
      refine (clone_at y _ HY.out).mono ?_
      rintro e w7 ⟨rfl, hb⟩
      have hp := (hp.out).grow hb; have hp := Lib.hid hp
      refine hK.out _ _ (w135 hbW HC.out (hHeld.2.2.2.out.trans (hb.mono hHeld.2.2.2.out.size))) (fun hHeld' => ?_)
      clear hK K hHeld
      have hHeld := hHeld'
      clear hHeld'
      try simp only [Act.put, List.setIfInBounds_toArray, List.set_cons_zero, List.set_cons_succ]
      clear hb
      refine wpAnyH_ready (rs := [11]) (by kernel_rfl) (by simp) ?_
      refine AllReadyH.cons (o := ({ dst := some 16, op := Op.call { callee := Callee.value (Operand.func 76), args := #[Operand.tmp 15], argTypes := #[9] }, type := 9, pos := "parser.go:188", after := #[{ on := 10, ground := Ground.data }, { on := 7, ground := Ground.chain }], guard := none } : Oper)) rfl (fun K hK => ?_) AllReadyH.nil
      go_simp
      refine (clone_at z _ HZ.out).mono ?_
      rintro e w11 ⟨rfl, hb⟩
      have hp := (hp.out).grow hb; have hp := Lib.hid hp
      refine hK.out _ _ (w135 hbW HC.out (hHeld.2.2.2.out.trans (hb.mono hHeld.2.2.2.out.size))) (fun hHeld' => ?_)
      clear hK K hHeld
      have hHeld := hHeld'
      clear hHeld'
      try simp only [Act.put, List.setIfInBounds_toArray, List.set_cons_zero, List.set_cons_succ]
      clear hb
      refine wpAnyH_take (i := 12) (oi := ({ dst := some 17, op := Op.build 43 #[(0, Operand.tmp 8), (1, Operand.tmp 12), (2, Operand.tmp 16), (3, Operand.const (Value.int IntKind.i64 (-1)))], type := 43, pos := "parser.go:188", after := #[{ on := 3, ground := Ground.data }, { on := 7, ground := Ground.data }, { on := 11, ground := Ground.data }], guard := none } : Oper)) (v := ?_) rfl (by kernel_rfl) (by kernel_rfl) (by kernel_rfl) (fun _ _ _ h => h) (Or.inl ⟨by rfl, ?hy1_13⟩) hHeld ?_
      case hy1_13 => (intro W hSw; (try dsimp only at hSw); go_simp; (try with_reducible rfl))
      try simp only [Act.put, List.setIfInBounds_toArray, List.set_cons_zero, List.set_cons_succ]
      obtain ⟨k0, k1, k2, k3, k4, k5, k6, k7, k8, k9, k10, k11, f0, f1, f2, f3, f4, f5, f6, f7, f8, f9, f10, f11⟩ := cells12 hp.out
      refine wpAnyH_ready (rs := [14]) (by kernel_rfl) (by simp) ?_
      refine AllReadyH.cons (o := ({ dst := none, op := Op.store 43 (Operand.tmp 3) (Operand.tmp 17), type := 0, pos := "parser.go:188", after := #[{ on := 13, ground := Ground.data }, { on := 12, ground := Ground.data }, { on := 11, ground := Ground.chain }, { on := 0, ground := Ground.phase }, { on := 1, ground := Ground.phase }, { on := 2, ground := Ground.phase }, { on := 3, ground := Ground.phase }, { on := 4, ground := Ground.phase }, { on := 5, ground := Ground.phase }, { on := 6, ground := Ground.phase }, { on := 7, ground := Ground.phase }, { on := 8, ground := Ground.phase }, { on := 9, ground := Ground.phase }, { on := 10, ground := Ground.phase }, { on := 11, ground := Ground.phase }, { on := 12, ground := Ground.phase }, { on := 13, ground := Ground.phase }], guard := none } : Oper)) rfl (fun K hK => ?_) AllReadyH.nil
      go_simp
      refine hK.out _ _ (w135 hbW HC.out (setL_below hpge [sv x, sv y, sv z, .int .i64 (-1), .int .i64 0, .int .i64 0, .slice none 0 0, .int .i64 0, .int .i64 0, .int .i64 0, .int .i64 0, .slice none 0 0] 0 hHeld.2.2.2.out)) (fun hHeld' => ?_)
      clear hK K hHeld
      have hHeld := hHeld'
      clear hHeld'
      try simp only [Act.put, List.setIfInBounds_toArray, List.set_cons_zero, List.set_cons_succ]
      refine wpAnyH_done (by kernel_rfl) ?_ _
      go_wp2_with fail
      go_meet
      exact ⟨_, rfl, hpge, set12_heap hp.out _ _ _ _ _ _ _ _ _ _ _ _, hHeld.2.2.2.out⟩
  case rest =>
    obtain ⟨q, rfl, hqge, hq, hbx⟩ := hcut
    rename World => W1
    obtain ⟨BD, hBD⟩ : ∃ BD, (if wd ws 6 = wBound then numOf (wd ws 7) else -1) = BD := ⟨_, rfl⟩
    have h6 := (HT.out.grow hbx).lit (i := 6) (by rw [HL.out]; omega)
    have hi6 : (6 : Int) < (n : Int) := by omega
    have hn6 : 6 < n := by omega
    have hi7 : (7 : Int) < (n : Int) := by omega
    have hn7 : 7 < n := by omega
    have HQ := Lib.hid (And.intro hq hbx)
    have HBD := Lib.hid hBD
    have hqne : b ≠ q := by omega
    obtain ⟨k0, k1, k2, k3, k4, k5, k6, k7, k8, k9, k10, k11, f0, f1, f2, f3, f4, f5, f6, f7, f8, f9, f10, f11⟩ := cells12 hq
    clear hq hbx hBD
    obtain ⟨B6, hB6⟩ : ∃ x, (wd ws 6 == [98, 111, 117, 110, 100]) = x := ⟨_, rfl⟩
    go_upto_if 21 with fail
    have HB6 := Lib.hid hB6
    clear hB6
    go_cut [] (fun wx => W0.heap.size ≤ q ∧ wx.heap[q]? = some (.cells #[sv x, sv y, sv z, .int .i64 BD, .int .i64 0, .int .i64 0, .slice none 0 0, .int .i64 0, .int .i64 0, .int .i64 0, .int .i64 0, .slice none 0 0] 43 (0, 0)) ∧ Below W0.heap.size W0 wx)
    case first =>
      cases B6 with
      | true =>
        have h6b : wd ws 6 = wBound := by have := HB6.out; simp at this; exact this
        have hnum := HW.out.bound h6b
        have h7 := (HT.out.grow HQ.out.2).lit (i := 7) (by rw [HL.out]; omega)
        have hbd : numOf (wd ws 7) = BD := by rw [← HBD.out, if_pos h6b]
        have HN := Lib.hid hnum
        have HD := Lib.hid hbd
        clear hnum hbd h6b
        go_wp2_with (go_at_call 77; refine (numberOf_at HN.out _ HD.out).mono ?_; rintro e w1 ⟨rfl, hb1⟩; have hq1 : w1.heap[q]? = _ := (hb1.block q (lt_of_heap HQ.out.1)).trans HQ.out.1; have k3 := cell_of_heap hq1 3; have f3 := free_of_heap hq1 3; simp at k3; have HQ1 := Lib.hid (And.intro hq1 (HQ.out.2.trans (hb1.mono HQ.out.2.size))); clear hb1 hq1)
        go_meet
        refine ⟨hqge, ?_, HQ1.out.2.setCell hqge _⟩
        rw [heap_setCell_same _ q 3 _ _ _ HQ1.out.1]; rfl
      | false =>
        have h6b : ¬ wd ws 6 = wBound := by have := HB6.out; intro e; rw [e] at this; simp [wBound] at this
        have hbd : (-1 : Int) = BD := by rw [← HBD.out, if_neg h6b]
        have HD := Lib.hid hbd
        clear hbd h6b
        go_wp2_with fail
        go_meet
        exact ⟨hqge, by rw [← HD.out]; exact HQ.out.1, HQ.out.2⟩
    case rest =>
      obtain ⟨-, hq, hbx⟩ := hcut
      clear k0 k1 k2 k3 k4 k5 k6 k7 k8 k9 k10 k11 f0 f1 f2 f3 f4 f5 f6 f7 f8 f9 f10 f11 h6 HQ
      rename World => W2
      clear W1
      have hn1' : n - 1 < n := by omega
      have hn3' : n - 3 < n := by omega
      have hz1 : (n : Int) - 1 = ((n - 1 : Nat) : Int) := by omega
      have hz3 : IntKind.i64.wrap (((n - 1 : Nat) : Int) - 2) = ((n - 3 : Nat) : Int) := by rw [IntWalk.i64_in _ (by omega)]; omega
      have hj1 : ((n - 1 : Nat) : Int) < (n : Int) := by omega
      have hj3 : ((n - 3 : Nat) : Int) < (n : Int) := by omega
      have hj1' : (0 : Int) ≤ ((n - 1 : Nat) : Int) := by omega
      have hj3' : (0 : Int) ≤ ((n - 3 : Nat) : Int) := by omega
      have hcc := And.intro (HT.out.lit (i := n - 3) (by rw [HL.out]; omega)) (HT.out.lit (i := n - 1) (by rw [HL.out]; omega))
      obtain ⟨rd, hrd⟩ : ∃ x, numOf (wd ws (n - 3)) = x := ⟨_, rfl⟩
      obtain ⟨kp, hkp⟩ : ∃ x, numOf (wd ws (n - 1)) = x := ⟨_, rfl⟩
      have hnr := HW.out.readers
      have hnk := HW.out.keepers
      obtain ⟨m1, hm1⟩ : ∃ m, n - 1 = m := ⟨_, rfl⟩
      obtain ⟨m3, hm3⟩ : ∃ m, n - 3 = m := ⟨_, rfl⟩
      rw [hm1, hm3] at hcc
      rw [hm1] at hz1 hj1 hj1' hz3 hn1' hkp hnk
      rw [hm3] at hj3 hj3' hz3 hn3' hrd hnr
      have HCC := Lib.hid hcc
      have HRD := Lib.hid hrd
      have HKP := Lib.hid hkp
      have HNR := Lib.hid hnr
      have HNK := Lib.hid hnk
      have HBX := Lib.hid hbx
      have HQ := Lib.hid hq
      have HM := Lib.hid (And.intro hm1 hm3)
      clear hcc hrd hkp hnr hnk hbx hq hm1 hm3
      go_upto_region 5 with fail
      try rw [hz1]
      clear hz1
      refine wp_region_held_drew (S := (fun X => X.cell? ⟨b, o + m3, none⟩ = some (sv (wd ws m3)) ∧ X.cell? ⟨b, o + m1, none⟩ = some (sv (wd ws m1)) ∧ Hid (Below W0.heap.size W0 X))) (by kernel_rfl) (w2s hbW HCC.out HBX.out.drew) (fun hHeld => ?_)
      refine wpAnyH_take (i := 0) (oi := ({ dst := some 30, op := Op.move (Operand.tmp 0), type := 58, pos := "parser.go:193", after := #[], guard := none } : Oper)) (v := ?_) rfl (by kernel_rfl) (by kernel_rfl) (by kernel_rfl) (fun _ _ _ h => h) (Or.inl ⟨by rfl, ?hy5_1⟩) hHeld ?_
      case hy5_1 => (intro W hSw; (try dsimp only at hSw); go_simp; (try with_reducible rfl))
      try simp only [Act.put, List.setIfInBounds_toArray, List.set_cons_zero, List.set_cons_succ]
      refine wpAnyH_take (i := 1) (oi := ({ dst := some 31, op := Op.move (Operand.tmp 4), type := 3, pos := "parser.go:193", after := #[], guard := none } : Oper)) (v := ?_) rfl (by kernel_rfl) (by kernel_rfl) (by kernel_rfl) (fun _ _ _ h => h) (Or.inl ⟨by rfl, ?hy5_2⟩) hHeld ?_
      case hy5_2 => (intro W hSw; (try dsimp only at hSw); go_simp; (try with_reducible rfl))
      try simp only [Act.put, List.setIfInBounds_toArray, List.set_cons_zero, List.set_cons_succ]
      refine wpAnyH_take (i := 2) (oi := ({ dst := some 32, op := Op.binOp BinOp.sub 3 (Operand.tmp 31) (Operand.const (Value.int IntKind.i64 2)) 3, type := 3, pos := "parser.go:193", after := #[{ on := 1, ground := Ground.data }], guard := none } : Oper)) (v := ?_) rfl (by kernel_rfl) (by kernel_rfl) (by kernel_rfl) (fun _ _ _ h => h) (Or.inl ⟨by rfl, ?hy5_3⟩) hHeld ?_
      case hy5_3 => (intro W hSw; (try dsimp only at hSw); go_simp; (try with_reducible rfl))
      try simp only [Act.put, List.setIfInBounds_toArray, List.set_cons_zero, List.set_cons_succ]
      refine wpAnyH_take (i := 3) (oi := ({ dst := some 33, op := Op.indexAddr 58 (Operand.tmp 30) (Operand.tmp 32), type := 0, pos := "parser.go:193", after := #[{ on := 0, ground := Ground.data }, { on := 2, ground := Ground.data }], guard := none } : Oper)) (v := ?_) rfl (by kernel_rfl) (by kernel_rfl) (by kernel_rfl) (fun _ _ _ h => h) (Or.inl ⟨by rfl, ?hy5_4⟩) hHeld ?_
      case hy5_4 => (intro W hSw; (try dsimp only at hSw); go_simp; (try with_reducible rfl))
      try simp only [Act.put, List.setIfInBounds_toArray, List.set_cons_zero, List.set_cons_succ]
      refine wpAnyH_take (i := 4) (oi := ({ dst := some 34, op := Op.load 9 (Operand.tmp 33), type := 9, pos := "parser.go:193", after := #[{ on := 3, ground := Ground.data }], guard := none } : Oper)) (v := ?_) rfl (by kernel_rfl) (by kernel_rfl) (by kernel_rfl) (fun _ _ _ h => h) (Or.inl ⟨by rfl, ?hy5_5⟩) hHeld ?_
      case hy5_5 => (intro W hSw; (try dsimp only at hSw); go_simp; (try with_reducible rfl))
      try simp only [Act.put, List.setIfInBounds_toArray, List.set_cons_zero, List.set_cons_succ]
      refine wpAnyH_take (i := 6) (oi := ({ dst := some 36, op := Op.move (Operand.tmp 0), type := 58, pos := "parser.go:193", after := #[], guard := none } : Oper)) (v := ?_) rfl (by kernel_rfl) (by kernel_rfl) (by kernel_rfl) (fun _ _ _ h => h) (Or.inl ⟨by rfl, ?hy5_6⟩) hHeld ?_
      case hy5_6 => (intro W hSw; (try dsimp only at hSw); go_simp; (try with_reducible rfl))
      try simp only [Act.put, List.setIfInBounds_toArray, List.set_cons_zero, List.set_cons_succ]
      refine wpAnyH_take (i := 7) (oi := ({ dst := some 37, op := Op.move (Operand.tmp 4), type := 3, pos := "parser.go:193", after := #[], guard := none } : Oper)) (v := ?_) rfl (by kernel_rfl) (by kernel_rfl) (by kernel_rfl) (fun _ _ _ h => h) (Or.inl ⟨by rfl, ?hy5_7⟩) hHeld ?_
      case hy5_7 => (intro W hSw; (try dsimp only at hSw); go_simp; (try with_reducible rfl))
      try simp only [Act.put, List.setIfInBounds_toArray, List.set_cons_zero, List.set_cons_succ]
      refine wpAnyH_take (i := 8) (oi := ({ dst := some 38, op := Op.indexAddr 58 (Operand.tmp 36) (Operand.tmp 37), type := 0, pos := "parser.go:193", after := #[{ on := 6, ground := Ground.data }, { on := 7, ground := Ground.data }], guard := none } : Oper)) (v := ?_) rfl (by kernel_rfl) (by kernel_rfl) (by kernel_rfl) (fun _ _ _ h => h) (Or.inl ⟨by rfl, ?hy5_8⟩) hHeld ?_
      case hy5_8 => (intro W hSw; (try dsimp only at hSw); go_simp; (try with_reducible rfl))
      try simp only [Act.put, List.setIfInBounds_toArray, List.set_cons_zero, List.set_cons_succ]
      refine wpAnyH_take (i := 9) (oi := ({ dst := some 39, op := Op.load 9 (Operand.tmp 38), type := 9, pos := "parser.go:193", after := #[{ on := 8, ground := Ground.data }], guard := none } : Oper)) (v := ?_) rfl (by kernel_rfl) (by kernel_rfl) (by kernel_rfl) (fun _ _ _ h => h) (Or.inl ⟨by rfl, ?hy5_9⟩) hHeld ?_
      case hy5_9 => (intro W hSw; (try dsimp only at hSw); go_simp; (try with_reducible rfl))
      try simp only [Act.put, List.setIfInBounds_toArray, List.set_cons_zero, List.set_cons_succ]
      refine wpAnyH_ready (rs := [5]) (by kernel_rfl) (by simp) ?_
      refine AllReadyH.cons (o := ({ dst := some 35, op := Op.call { callee := Callee.value (Operand.func 77), args := #[Operand.tmp 34], argTypes := #[9] }, type := 3, pos := "parser.go:193", after := #[{ on := 4, ground := Ground.data }], guard := none } : Oper)) rfl (fun K hK => ?_) AllReadyH.nil
      go_simp
      refine (numberOf_at HNR.out _ HRD.out).mono ?_
      rintro e w5 ⟨rfl, hb⟩
      have HQ2 : Hid (w5.heap[q]? = _) := Lib.hid ((hb.block q (lt_of_heap HQ.out)).trans HQ.out)
      refine hK.out _ _ (w2s hbW HCC.out (hHeld.2.2.out.trans (hb.mono hHeld.2.2.out.size))) (fun hHeld' => ?_)
      clear hK K hHeld
      have hHeld := hHeld'
      clear hHeld'
      try simp only [Act.put, List.setIfInBounds_toArray, List.set_cons_zero, List.set_cons_succ]
      clear hb
      refine wpAnyH_take (i := 11) (oi := ({ dst := some 41, op := Op.fieldAddr 43 (Operand.tmp 3) 4, type := 0, pos := "parser.go:193", after := #[{ on := 0, ground := Ground.phase }, { on := 1, ground := Ground.phase }, { on := 2, ground := Ground.phase }, { on := 3, ground := Ground.phase }, { on := 4, ground := Ground.phase }, { on := 5, ground := Ground.phase }, { on := 6, ground := Ground.textOnly Departure.lateStores }, { on := 7, ground := Ground.textOnly Departure.lateStores }, { on := 8, ground := Ground.textOnly Departure.lateStores }, { on := 9, ground := Ground.textOnly Departure.lateStores }, { on := 10, ground := Ground.textOnly Departure.lateStoresUnsure }], guard := none } : Oper)) (v := ?_) rfl (by kernel_rfl) (by kernel_rfl) (by kernel_rfl) (fun _ _ _ h => h) (Or.inl ⟨by rfl, ?hy5_10⟩) hHeld ?_
      case hy5_10 => (intro W hSw; (try dsimp only at hSw); go_simp; (try with_reducible rfl))
      try simp only [Act.put, List.setIfInBounds_toArray, List.set_cons_zero, List.set_cons_succ]
      refine wpAnyH_ready (rs := [10]) (by kernel_rfl) (by simp) ?_
      refine AllReadyH.cons (o := ({ dst := some 40, op := Op.call { callee := Callee.value (Operand.func 77), args := #[Operand.tmp 39], argTypes := #[9] }, type := 3, pos := "parser.go:193", after := #[{ on := 9, ground := Ground.data }, { on := 5, ground := Ground.chain }], guard := none } : Oper)) rfl (fun K hK => ?_) AllReadyH.nil
      go_simp
      refine (numberOf_at HNK.out _ HKP.out).mono ?_
      rintro e w10 ⟨rfl, hb⟩
      have HQ3 : Hid (w10.heap[q]? = _) := Lib.hid ((hb.block q (lt_of_heap HQ2.out)).trans HQ2.out)
      refine hK.out _ _ (w2s hbW HCC.out (hHeld.2.2.out.trans (hb.mono hHeld.2.2.out.size))) (fun hHeld' => ?_)
      clear hK K hHeld
      have hHeld := hHeld'
      clear hHeld'
      try simp only [Act.put, List.setIfInBounds_toArray, List.set_cons_zero, List.set_cons_succ]
      clear hb
      have k4 := cell_of_heap HQ3.out 4
      have f4 := free_of_heap HQ3.out 4
      simp at k4
      refine wpAnyH_ready (rs := [12]) (by kernel_rfl) (by simp) ?_
      refine AllReadyH.cons (o := ({ dst := none, op := Op.store 3 (Operand.tmp 41) (Operand.tmp 35), type := 0, pos := "parser.go:193", after := #[{ on := 11, ground := Ground.data }, { on := 5, ground := Ground.data }, { on := 10, ground := Ground.chain }, { on := 0, ground := Ground.phase }, { on := 1, ground := Ground.phase }, { on := 2, ground := Ground.phase }, { on := 3, ground := Ground.phase }, { on := 4, ground := Ground.phase }, { on := 5, ground := Ground.phase }, { on := 6, ground := Ground.textOnly Departure.lateStores }, { on := 7, ground := Ground.textOnly Departure.lateStores }, { on := 8, ground := Ground.textOnly Departure.lateStores }, { on := 9, ground := Ground.textOnly Departure.lateStores }, { on := 10, ground := Ground.textOnly Departure.lateStoresUnsure }], guard := none } : Oper)) rfl (fun K hK => ?_) AllReadyH.nil
      go_simp
      refine hK.out _ _ (w2s hbW HCC.out (hHeld.2.2.out.setCell hqge _)) (fun hHeld' => ?_)
      clear hK K hHeld
      have hHeld := hHeld'
      clear hHeld'
      try simp only [Act.put, List.setIfInBounds_toArray, List.set_cons_zero, List.set_cons_succ]
      clear k4 f4
      have HQ4 : Hid ((w10.setCell ⟨q, 4, none⟩ (.int .i64 rd)).heap[q]? = some (.cells #[sv x, sv y, sv z, .int .i64 BD, .int .i64 rd, .int .i64 0, .slice none 0 0, .int .i64 0, .int .i64 0, .int .i64 0, .int .i64 0, .slice none 0 0] 43 (0, 0))) := Lib.hid (by rw [heap_setCell_same _ q 4 _ _ _ HQ3.out]; rfl)
      have k5 := cell_of_heap HQ4.out 5
      have f5 := free_of_heap HQ4.out 5
      simp at k5
      refine wpAnyH_take (i := 13) (oi := ({ dst := some 42, op := Op.fieldAddr 43 (Operand.tmp 3) 5, type := 0, pos := "parser.go:193", after := #[{ on := 0, ground := Ground.phase }, { on := 1, ground := Ground.phase }, { on := 2, ground := Ground.phase }, { on := 3, ground := Ground.phase }, { on := 4, ground := Ground.phase }, { on := 5, ground := Ground.phase }, { on := 6, ground := Ground.phase }, { on := 7, ground := Ground.phase }, { on := 8, ground := Ground.phase }, { on := 9, ground := Ground.phase }, { on := 10, ground := Ground.phase }, { on := 11, ground := Ground.phase }, { on := 12, ground := Ground.phase }], guard := none } : Oper)) (v := ?_) rfl (by kernel_rfl) (by kernel_rfl) (by kernel_rfl) (fun _ _ _ h => h) (Or.inl ⟨by rfl, ?hy5_11⟩) hHeld ?_
      case hy5_11 => (intro W hSw; (try dsimp only at hSw); go_simp; (try with_reducible rfl))
      try simp only [Act.put, List.setIfInBounds_toArray, List.set_cons_zero, List.set_cons_succ]
      refine wpAnyH_ready (rs := [14]) (by kernel_rfl) (by simp) ?_
      refine AllReadyH.cons (o := ({ dst := none, op := Op.store 3 (Operand.tmp 42) (Operand.tmp 40), type := 0, pos := "parser.go:193", after := #[{ on := 13, ground := Ground.data }, { on := 10, ground := Ground.data }, { on := 12, ground := Ground.chain }, { on := 0, ground := Ground.phase }, { on := 1, ground := Ground.phase }, { on := 2, ground := Ground.phase }, { on := 3, ground := Ground.phase }, { on := 4, ground := Ground.phase }, { on := 5, ground := Ground.phase }, { on := 6, ground := Ground.phase }, { on := 7, ground := Ground.phase }, { on := 8, ground := Ground.phase }, { on := 9, ground := Ground.phase }, { on := 10, ground := Ground.phase }, { on := 11, ground := Ground.phase }, { on := 12, ground := Ground.phase }], guard := none } : Oper)) rfl (fun K hK => ?_) AllReadyH.nil
      go_simp
      refine hK.out _ _ (w2s hbW HCC.out (hHeld.2.2.out.setCell hqge _)) (fun hHeld' => ?_)
      clear hK K hHeld
      have hHeld := hHeld'
      clear hHeld'
      try simp only [Act.put, List.setIfInBounds_toArray, List.set_cons_zero, List.set_cons_succ]
      clear k5 f5
      replace HQ4 : Hid (((w10.setCell ⟨q, 4, none⟩ (.int .i64 rd)).setCell ⟨q, 5, none⟩ (.int .i64 kp)).heap[q]? = some (.cells #[sv x, sv y, sv z, .int .i64 BD, .int .i64 rd, .int .i64 kp, .slice none 0 0, .int .i64 0, .int .i64 0, .int .i64 0, .int .i64 0, .slice none 0 0] 43 (0, 0))) := Lib.hid (by rw [heap_setCell_same _ q 5 _ _ _ HQ4.out]; rfl)
      refine wpAnyH_done (by kernel_rfl) ?_ _
      clear hz3
      generalize hW3 : (w10.setCell ⟨q, 4, none⟩ (.int .i64 rd)).setCell ⟨q, 5, none⟩ (.int .i64 kp) = W3 at HQ4 hHeld ⊢
      clear hW3
      obtain ⟨k0, k1, k2, k3, k4, k5, k6, k7, k8, k9, k10, k11, f0, f1, f2, f3, f4, f5, f6, f7, f8, f9, f10, f11⟩ := cells12 HQ4.out
      have hzb := (HZ0.out.grow hHeld.2.2.out)
      obtain ⟨l0, l1, l2, l3, l4, l5, l6, l7, l8, l9, l10, l11, g0, g1, g2, g3, g4, g5, g6, g7, g8, g9, g10, g11⟩ := cells12 hzb
      have hBw := Lib.hid (HB0.out.trans (hHeld.2.2.out.mono HB0.out.size))
      have hres : (⟨x, y, z, BD, rd, kp, [], ⟨0, 0, 0⟩, 0, []⟩ : Flw) = r := by
        have h1 := HM.out.1
        have h3 := HM.out.2
        rw [← HR.out, ← HBD.out, ← HRD.out, ← HKP.out, ← HE.out.1, ← HE.out.2.1, ← HE.out.2.2, ← h1, ← h3]
        unfold flowOf
        rw [HL.out]
      have HRES := Lib.hid hres
      have hwne : w.heap.size ≠ q := by have := lt_of_heap HZ0.out; omega
      clear hzb hres hHeld
      go_wp2
      refine bodyPost_ret (v := flwV ⟨⟨x, y, z, BD, rd, kp, [], ⟨0, 0, 0⟩, 0, []⟩, .slice none 0 0, .slice none 0 0⟩) (by simp [results, Tryz.results78, go_sem, l0, l1, l2, l3, l4, l5, l6, l7, l8, l9, l10, l11]) rfl ⟨by rw [← HRES.out], ?_⟩
      exact setL_below (Nat.le_refl _) [sv x, sv y, sv z, .int .i64 BD, .int .i64 rd, .int .i64 kp, .slice none 0 0, .int .i64 0, .int .i64 0, .int .i64 0, .int .i64 0, .slice none 0 0] 0 hBw.out
end Go.Proofs.YtogcickcodlepaaGreatDoor.Pl
/-
  The program's forms of lines. Conditions: as the statements say.
-/
namespace Go.Proofs.YtogcickcodlepaaGreatDoor.Pl
open Go.RowKit Go.Proofs.YtogcickcodlepaaGreatDoor.Ex

theorem fitsL_drop (ws xs : List Bs) (k : Nat) (h1 : k < ws.length) (h2 : k < xs.length) : fitsL (ws.drop k) (xs.drop k) = (okWord xs[k] ws[k] && fitsL (ws.drop (k + 1)) (xs.drop (k + 1))) := by
  rw [List.drop_eq_getElem_cons h1, List.drop_eq_getElem_cons h2]; rfl
theorem fitsL_len : ∀ (ws xs : List Bs), fitsL ws xs = true → ws.length = xs.length
  | [], [], _ => rfl
  | [], _ :: _, h => by simp [fitsL] at h
  | _ :: _, [], h => by simp [fitsL] at h
  | w :: ws, x :: xs, h => by
    simp only [fitsL, Bool.and_eq_true] at h
    simp [fitsL_len ws xs h.2]
set_option maxRecDepth 20000 in
set_option maxHeartbeats 2000000 in
theorem fits_at {w : World} {a : Option Addr} {n cap : Nat} {ws : List Bs} (h : WdsAt w (.slice a n cap) ws) (s : ByteArray) (hs : s.size ≤ 1000) {xs : List Bs} (hx : wordsOf s.data.toList = xs) {R : Bool} (hR : fitsL ws xs = R) :
    Calls Tryz.prog 73 #[.slice a n cap, .string s] w fun e w' => e = .returned (.bool R) ∧ Below w.heap.size w w' := by
  obtain ⟨hn, hcap, hmax, -⟩ := Lst.len h
  have hxl : xs.length ≤ 1000 := by rw [← hx]; have := wordsOf_len s.data.toList; simp at this; omega
  obtain ⟨m, hm⟩ : ∃ m, xs.length = m := ⟨_, rfl⟩
  rw [hm] at hxl
  unfold maxLen at hmax
  have HWD := Lib.hid (wordsOf_at s w (by omega) hx hm)
  have HT := Lib.hid h
  have HN := Lib.hid hn
  have HM := Lib.hid hm
  have HR := Lib.hid hR
  clear h hn hx hR hs hm
  by_cases hnm : n = m
  · subst hnm
    go_enter Tryz.func73, Tryz.ntmps73
    go_wp2_with (go_at_call 50; refine HWD.out.mono ?_; rintro e w1 ⟨a1, c1, rfl, hv, hb1⟩; have HV := Lib.hid hv; have HB1 := Lib.hid hb1; clear hv hb1)
    go_loopw [17] (fun i wr => ∃ k : Nat, k ≤ n ∧ i = .int .i64 k ∧ Hid (fitsL (ws.drop k) (xs.drop k) = R) ∧ wr = w1) (fun i _ => n - (intOf i).toNat)
    case atStart => exact ⟨0, Nat.zero_le _, rfl, by simpa using HR, rfl⟩
    case round =>
      obtain ⟨k, hk, rfl, hr, rfl⟩ := hrel
      by_cases hlt : k < n
      · have hkw : k < ws.length := by rw [← HN.out]; exact hlt
        have hkx : k < xs.length := by rw [HM.out]; exact hlt
        obtain ⟨b, o, rfl, hbl, c0⟩ := (HT.out.grow HB1.out).cell hkw
        obtain ⟨b', o', rfl, hbl', d0⟩ := HV.out.cell hkx
        have hd := fitsL_drop ws xs k hkw hkx
        obtain ⟨x, hx⟩ : ∃ x, xs[k] = x := ⟨_, rfl⟩
        obtain ⟨y, hy⟩ : ∃ y, ws[k] = y := ⟨_, rfl⟩
        rw [hy] at c0 hd
        rw [hx] at d0 hd
        rw [hr.out] at hd
        clear hx hy hr
        by_cases h1 : x = wNUMBER
        · subst h1
          obtain ⟨z, hz⟩ : ∃ z, isNumber y = z := ⟨_, rfl⟩
          have hok : okWord wNUMBER y = z := by rw [← hz]; rfl
          rw [hok] at hd
          have HZ := Lib.hid hz
          have HD := Lib.hid hd
          clear hz hd hok
          cases z with
          | true =>
            go_wp2_with (go_at_call 96; refine (isNumber_at _ _ HZ.out).mono ?_; rintro e w' ⟨rfl, rfl⟩)
            go_roundw
            case rel => exact ⟨k + 1, by omega, by go_num, Lib.hid (by rw [HD.out]; rfl), by first | rfl | trivial⟩
            case measure => simp [intOf]; omega
          | false =>
            go_wp2_with (go_at_call 96; refine (isNumber_at _ _ HZ.out).mono ?_; rintro e w' ⟨rfl, rfl⟩)
            go_ret
            exact ⟨ret_bool (by rw [HD.out]; rfl), HB1.out⟩
        have e1 : (x == [78, 85, 77, 66, 69, 82]) = false := beq_of_ne h1
        have e1' : (x != [78, 85, 77, 66, 69, 82]) = true := by simp [bne, e1]
        by_cases h2 : x = wNAME
        · subst h2
          have hok : okWord wNAME y = true := rfl
          rw [hok] at hd
          have HD := Lib.hid hd
          clear hd hok h1 e1 e1'
          go_wp2
          go_roundw
          case rel => exact ⟨k + 1, by omega, by go_num, Lib.hid (by rw [HD.out]; rfl), by first | rfl | trivial⟩
          case measure => simp [intOf]; omega
        have e2 : (x == [78, 65, 77, 69]) = false := beq_of_ne h2
        have e2' : (x != [78, 65, 77, 69]) = true := by simp [bne, e2]
        have hok : okWord x y = decide (x = y) := by unfold okWord; rw [if_neg h1, if_neg h2]
        rw [hok] at hd
        by_cases h3 : x = y
        · have e3 : (x == y) = true := beq_of_eq h3
          have e3' : (x != y) = false := by simp [bne, e3]
          have HD := Lib.hid hd
          have H3 := Lib.hid h3
          clear hd hok h1 h2 h3
          go_wp2
          go_roundw
          case rel => exact ⟨k + 1, by omega, by go_num, Lib.hid (by rw [HD.out, decide_eq_true H3.out]; rfl), by first | rfl | trivial⟩
          case measure => simp [intOf]; omega
        · have e3 : (x == y) = false := beq_of_ne h3
          have e3' : (x != y) = true := by simp [bne, e3]
          have HD := Lib.hid hd
          have H3 := Lib.hid h3
          clear hd hok h1 h2 h3
          go_wp2
          go_ret
          exact ⟨ret_bool (by rw [HD.out, decide_eq_false H3.out]; rfl), HB1.out⟩
      · have hkn : k = n := by omega
        have HD : Hid (R = true) := Lib.hid (by rw [← hr.out, hkn]; rw [List.drop_eq_nil_of_le (by have := HN.out; omega), List.drop_eq_nil_of_le (by have := HM.out; omega)]; rfl)
        clear hr hkn
        go_wp2
        go_ret
        exact ⟨ret_bool HD.out.symm, HB1.out⟩
  · have HD : Hid (R = false) := Lib.hid (by
      rw [← HR.out]
      cases hf : fitsL ws xs with
      | false => rfl
      | true => exact absurd (by rw [HN.out, fitsL_len _ _ hf, HM.out]) hnm)
    have e1 : ((n : Int) == (m : Int)) = false := by simp; omega
    have e1' : ((n : Int) != (m : Int)) = true := by simp [bne, e1]
    have e2 : (n == m) = false := by simp; omega
    have e2' : (n != m) = true := by simp [bne, e2]
    clear hnm
    go_enter Tryz.func73, Tryz.ntmps73
    go_wp2_with (go_at_call 50; refine HWD.out.mono ?_; rintro e w1 ⟨a1, c1, rfl, hv, hb1⟩; have HB1 := Lib.hid hb1; clear hv hb1)
    go_ret
    exact ⟨ret_bool HD.out.symm, HB1.out⟩
end Go.Proofs.YtogcickcodlepaaGreatDoor.Pl
