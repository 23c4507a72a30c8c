/-
  The law's plans of flows from one topic to another. Conditions: at most ten flows, each named by two bytes, the texts lie in memory.
-/
import Derived.Test.YtfoenfipefhpoaaGreatDoorJG1
import Derived.Laws.IdiomStrings
import Derived.Deep.RegionLaw
set_option linter.unusedVariables false
set_option linter.unusedSimpArgs false
namespace Go.Proofs.YtfoenfipefhpoaaGreatDoor.Gr
open Go.RowKit Go.Proofs.YtfoenfipefhpoaaGreatDoor.Ex Go.Proofs.YtfoenfipefhpoaaGreatDoor.Pl

def lineTops : List Top := [⟨[97], 16⟩, ⟨[99], 16⟩, ⟨[100], 16⟩, ⟨[101], 16⟩]
def lineFlw (i : Nat) (q : UInt8 × UInt8) : Flw := ⟨[102, 48 + UInt8.ofNat i], [q.1], [q.2], -1, 1, 1, [], ⟨0, 0, 0⟩, 0, []⟩
def lineFlws (L : List (UInt8 × UInt8)) : List Flw := L.mapIdx lineFlw
def linePln (L : List (UInt8 × UInt8)) : Pln := ⟨lineTops, lineFlws L⟩
theorem lineFlws_take {L : List (UInt8 × UInt8)} {k : Nat} (hk : k < L.length) : lineFlws (L.take (k + 1)) = lineFlws (L.take k) ++ [lineFlw k L[k]] := by
  unfold lineFlws
  rw [List.take_succ_eq_append_getElem hk, List.mapIdx_append]
  simp [List.length_take]
  congr 1
  omega
abbrev bare (f : Flw) : FE := ⟨f, .slice none 0 0, .slice none 0 0⟩
def fcs (fs : List Flw) : List Value := fs.flatMap fun f => flwC (bare f)
theorem fcs_snoc (fs : List Flw) (f : Flw) : fcs (fs ++ [f]) = fcs fs ++ flwC (bare f) := by simp [fcs]
theorem one_bare (f : Flw) : ∀ u ∈ flwC (bare f), u.oneCell' = true := by
  intro u hu; simp only [flwC, List.mem_cons, List.not_mem_nil, or_false] at hu; rcases hu with rfl | rfl | rfl | rfl | rfl | rfl | rfl | rfl | rfl | rfl | rfl | rfl <;> rfl
theorem infoF : (Tryz.prog.info? 51).map (fun i => (i.zero, i.size, i.bytes)) = some (some (.agg #[.string ⟨#[]⟩, .string ⟨#[]⟩, .string ⟨#[]⟩, .int .i64 0, .int .i64 0, .int .i64 0, .slice none 0 0, .int .i64 0, .int .i64 0, .int .i64 0, .int .i64 0, .slice none 0 0]), 12, 152) := by kernel_rfl
/-- The plan as far as it is made: its box, its row of flows. -/
structure LP (W1 : World) (fs : List Flw) (vt vf : Value) (w : World) : Prop where
  below : Below W1.heap.size W1 w
  blk : w.heap[W1.heap.size]? = some (.cells #[vt, vf] 25 (0, 0))
  flws : w.ownsRow W1.heap.size 51 12 vf fs.length (fcs fs)
  free : ∀ f ∈ fs, f.pre = [] ∧ f.post = []
variable {W1 w w1 : World} {fs : List Flw} {vt vf : Value}
theorem LP.grow (h : LP W1 fs vt vf w) (hb : Below w.heap.size w w1) : LP W1 fs vt vf w1 :=
  ⟨h.below.trans (hb.mono h.below.size), by rw [hb.block _ (lt_of_heap h.blk)]; exact h.blk, ownsRow_below h.flws hb, h.free⟩
theorem LP.cells (h : LP W1 fs vt vf w) : w.cell? ⟨W1.heap.size, 0, none⟩ = some vt ∧ w.cell? ⟨W1.heap.size, 1, none⟩ = some vf ∧ w.frozen? ⟨W1.heap.size, 0, none⟩ = false ∧ w.frozen? ⟨W1.heap.size, 1, none⟩ = false ∧ W1.heap.size < w.heap.size := by
  refine ⟨?_, ?_, free_of_heap h.blk 0, free_of_heap h.blk 1, lt_of_heap h.blk⟩ <;> rw [cell_of_heap h.blk] <;> rfl
/-- A flow is put behind. -/
theorem LP.push {v2 : Value} {f : Flw} (h : LP W1 fs vt vf w) (hf : f.pre = [] ∧ f.post = []) (hg : w.grownBy w1 vf.ownBlock) (ho : w1.ownsRow W1.heap.size 51 12 v2 (fs.length + 1) (fcs fs ++ flwC (bare f))) :
    w1.heap[W1.heap.size]? = some (.cells #[vt, vf] 25 (0, 0)) ∧ LP W1 (fs ++ [f]) vt v2 (w1.setCell ⟨W1.heap.size, 1, none⟩ v2) := by
  have hb : w1.heap[W1.heap.size]? = some (.cells #[vt, vf] 25 (0, 0)) := by rw [hg.block _ (lt_of_heap h.blk) (fun e => row_ne h.flws h.blk (by decide) e.symm)]; exact h.blk
  have hbel : Below W1.heap.size W1 w1 := h.below.grown hg h.below.size (fun k e => (h.flws.lt k e).1)
  rw [← fcs_snoc] at ho
  have ho2 : w1.ownsRow W1.heap.size 51 12 v2 (fs ++ [f]).length (fcs (fs ++ [f])) := by simpa using ho
  refine ⟨hb, hbel.setCell (Nat.le_refl _) v2, ?_, ownsRow_setCell_other ho2 (row_ne ho2 hb (by decide)) v2, fun q hq => ?_⟩
  · rw [heap_setCell_same w1 _ 1 _ _ v2 hb]; rfl
  · rcases List.mem_append.1 hq with hm | hm
    · exact h.free q hm
    · rw [List.mem_singleton.1 hm]; exact hf
theorem fcs_map (fs : List Flw) : fcs fs = (fs.map bare).flatMap flwC := by simp [fcs, List.flatMap_map]
theorem LP.pln {ts : List Top} (h : LP W1 fs vt vf w) (ht : TopsAt W1 vt ts) : PlnAt w (.agg #[vt, vf]) ⟨ts, fs⟩ := by
  have hr : Lst 12 flwC w vf (fs.map bare) := lst_row (by rw [List.length_map, ← fcs_map]; exact h.flws) (fun _ _ => rfl)
  have hn : ∀ l : List Stp, l = [] → StpsAt w (.slice none 0 0) l := fun l e => by
    subst e
    exact ⟨⟨none, 0, rfl, Nat.le_refl _, Nat.zero_le _, Nat.zero_le _, fun h => absurd rfl h⟩, fun s hs => by cases hs⟩
  refine ⟨vt, vf, fs.map bare, rfl, ht.grow h.below, ⟨hr, fun q hq => ?_⟩, by rw [List.map_map]; exact List.map_id fs⟩
  obtain ⟨f, hf, rfl⟩ := List.mem_map.1 hq
  exact ⟨hn _ (h.free f hf).1, hn _ (h.free f hf).2⟩
/-- Stores into the call's own result turn nothing of the plan. -/
theorem LP.pln_set {B r : Nat} {ts : List Top} {cs : Array Value} (h : LP W1 fs vt vf w) (hT : w.ownsRow B 53 2 vt ts.length (ts.flatMap topC)) (hr : w.heap[r]? = some (.cells cs 25 (0, 0))) (u v : Value) :
    PlnAt ((w.setCell ⟨r, 0, none⟩ u).setCell ⟨r, 1, none⟩ v) (.agg #[vt, vf]) ⟨ts, fs⟩ := by
  have e1 := heap_setCell_same w r 0 _ _ u hr
  have t1 := ownsRow_setCell_other (a := ⟨r, 0, none⟩) hT (row_ne hT hr (by decide)) u
  have t2 := ownsRow_setCell_other (a := ⟨r, 1, none⟩) t1 (row_ne t1 e1 (by decide)) v
  have f1 := ownsRow_setCell_other (a := ⟨r, 0, none⟩) h.flws (row_ne h.flws hr (by decide)) u
  have f2 := ownsRow_setCell_other (a := ⟨r, 1, none⟩) f1 (row_ne f1 e1 (by decide)) v
  have hr2 : Lst 12 flwC ((w.setCell ⟨r, 0, none⟩ u).setCell ⟨r, 1, none⟩ v) vf (fs.map bare) := lst_row (by rw [List.length_map, ← fcs_map]; exact f2) (fun _ _ => rfl)
  have hn : ∀ l : List Stp, l = [] → StpsAt ((w.setCell ⟨r, 0, none⟩ u).setCell ⟨r, 1, none⟩ v) (.slice none 0 0) l := fun l e => by
    subst e
    exact ⟨⟨none, 0, rfl, Nat.le_refl _, Nat.zero_le _, Nat.zero_le _, fun h => absurd rfl h⟩, fun s hs => by cases hs⟩
  refine ⟨vt, vf, fs.map bare, rfl, lst_row t2 (fun _ _ => rfl), ⟨hr2, fun q hq => ?_⟩, by rw [List.map_map]; exact List.map_id fs⟩
  obtain ⟨f, hf, rfl⟩ := List.mem_map.1 hq
  exact ⟨hn _ (h.free f hf).1, hn _ (h.free f hf).2⟩
theorem tops_row : topC ⟨[97], 16⟩ ++ topC ⟨[99], 16⟩ ++ topC ⟨[100], 16⟩ ++ topC ⟨[101], 16⟩ = lineTops.flatMap topC := by rfl
/-- One byte as a text. -/
theorem conv_byte {W : World} {b d : Nat} (hd : d < 10) (hc : W.cell? ⟨b, 0, none⟩ = some (.int .u8 (48 + (d : Int)))) : (convert 74 9 (.slice (some ⟨b, 0, none⟩) 1 1)).run Tryz.prog W = .ok (.string ⟨#[48 + UInt8.ofNat d]⟩) W := by
  rw [← show UInt8.ofNat (48 + d) = 48 + UInt8.ofNat d by rw [UInt8.ofNat_add]; rfl]
  exact run_convert_bytes_back (P := Tryz.prog) W 74 9 5 ⟨b, 0, none⟩ 1 [UInt8.ofNat (48 + d)] Tryz.underlying74 Tryz.underlying5 Tryz.underlying9 (fun j hj => by
    obtain rfl : j = 0 := by simp at hj; exact hj
    have e : ((UInt8.ofNat (48 + d)).toNat : Int) = 48 + (d : Int) := by
      rw [UInt8.toNat_ofNat']; omega
    simp [Addr.add, hc]
    omega)
theorem news_bare {w W : World} {f : Flw} (hW : W = (w.alloc (.cells (flwC (bare f)).toArray 51)).drew) {n : Nat} (hn : n = w.heap.size) : ∀ j u, (flwC (bare f))[j]? = some u → W.cell? ((⟨n, 0, none⟩ : Addr).add j) = some u := by
  subst hW hn
  exact World.news_of_block (heap_alloc_new w _)
theorem wrap_u8_id {a : Int} (h0 : 0 ≤ a) (h1 : a < 256) : IntKind.u8.wrap a = a := by
  simp [IntKind.wrap, IntKind.bits, IntKind.signed]
  omega
theorem ext01 (x y : UInt8) : ByteArray.extract ⟨#[x, y]⟩ 0 1 = ⟨#[x]⟩ := rfl
theorem ext12 (x y : UInt8) : ByteArray.extract ⟨#[x, y]⟩ 1 2 = ⟨#[y]⟩ := rfl
theorem app102 (d : UInt8) : (⟨#[102]⟩ : ByteArray) ++ ⟨#[d]⟩ = ⟨#[102, d]⟩ := rfl
set_option maxRecDepth 20000 in
set_option maxHeartbeats 4000000 in
theorem line_at {w : World} {v : Value} {L : List (UInt8 × UInt8)} (h : NamesAt w v (L.map fun q => [q.1, q.2])) (hs : L.length ≤ 8) :
    Calls Tryz.prog 26 #[v] w fun e w' => ∃ v', e = .returned v' ∧ PlnAt w' v' (linePln L) ∧ Below w.heap.size w w' := by
  obtain ⟨a, c, rfl⟩ := h.val
  obtain ⟨i0, hi0, hz0, hz1, hz2⟩ := info_parts infoF
  obtain ⟨-, k1, k2, k3⟩ := h.len
  unfold maxLen at k2 k3
  obtain ⟨n, hn⟩ : ∃ n, L.length = n := ⟨_, rfl⟩
  rw [List.length_map] at h k1 k2 ⊢
  rw [hn] at h k1 k2 hs ⊢
  obtain ⟨W0, hW0⟩ : ∃ W0, w.alloc (.cells #[.slice none 0 0, .slice none 0 0] 25) = W0 := ⟨_, rfl⟩
  obtain ⟨W1, hW1⟩ : ∃ W1, W0.alloc (.cells #[.string ⟨#[97]⟩, .int .i64 16, .string ⟨#[99]⟩, .int .i64 16, .string ⟨#[100]⟩, .int .i64 16, .string ⟨#[101]⟩, .int .i64 16] 53) = W1 := ⟨_, rfl⟩
  have b0 : Below w.heap.size w W0 := by rw [← hW0]; exact (Below.refl _ _).alloc (Nat.le_refl _) _
  have b1 : Below W0.heap.size W0 W1 := by rw [← hW1]; exact (Below.refl _ _).alloc (Nat.le_refl _) _
  have hr0 : W0.heap[w.heap.size]? = some (.cells #[.slice none 0 0, .slice none 0 0] 25 (0, 0)) := by rw [← hW0]; exact heap_alloc_new w _
  have hl0 : w.heap.size < W0.heap.size := lt_of_heap hr0
  have ht : W1.ownsRow W0.heap.size 53 2 (.slice (some ⟨W0.heap.size, 0, none⟩) 4 4) lineTops.length (lineTops.flatMap topC) := by
    rw [← hW1]
    exact World.ownsRow_lit (base := W0.heap.size) W0 _ 4 (Nat.le_refl _) (by decide) (by rfl)
  have hlp : LP W1 [] (.slice (some ⟨W0.heap.size, 0, none⟩) 4 4) (.slice none 0 0) (W1.alloc (.cells #[.slice (some ⟨W0.heap.size, 0, none⟩) 4 4, .slice none 0 0] 25)) :=
    ⟨(Below.refl _ _).alloc (Nat.le_refl _) _, heap_alloc_new W1 _, World.ownsRow_nil _ _ _ _, fun f hf => by cases hf⟩
  have HN := Lib.hid hn
  have HP := Lib.hid hlp
  have HT := Lib.hid ht
  have HB01 := Lib.hid (b0.trans (b1.mono b0.size))
  have HR0 : Hid (W1.heap[w.heap.size]? = some (.cells #[.slice none 0 0, .slice none 0 0] 25 (0, 0))) := Lib.hid (by rw [b1.block _ hl0]; exact hr0)
  have HS := Lib.hid (Lst.grow h (b0.trans (b1.mono b0.size)))
  have hl1 : w.heap.size < W1.heap.size := lt_of_heap HR0.out
  clear h hn hlp ht b0 b1 hr0
  go_enter Tryz.func26, Tryz.ntmps26
  go_wp2
  go_loopw [4] (fun z wr => ∃ (k : Nat) (vf : Value), k ≤ n ∧ z = .int .i64 k ∧ Hid (LP W1 (lineFlws (L.take k)) (.slice (some ⟨W0.heap.size, 0, none⟩) 4 4) vf wr)) (fun z _ => n - (intOf z).toNat)
  case atStart => exact ⟨0, _, Nat.zero_le _, rfl, HP⟩
  case round =>
    clear HP
    obtain ⟨k, vf, hk, rfl, hp⟩ := hrel
    obtain ⟨va, vc, rfl⟩ : ∃ a c, vf = .slice a (lineFlws (L.take k)).length c := (lst_row (C := fun f => flwC (bare f)) hp.out.flws (fun _ _ => rfl)).val
    obtain ⟨p0, p1, g0, g1, hpl⟩ := hp.out.cells
    by_cases hlt : k < n
    · have hkl : k < L.length := by rw [HN.out]; exact hlt
      have hkm : k < (L.map fun q => [q.1, q.2]).length := by rw [List.length_map]; exact hkl
      obtain ⟨b, o, rfl, hbl, hcell⟩ := (Lst.grow HS.out hp.out.below).at_ hkm
      have y0 := hcell 0 _ rfl
      obtain ⟨q, hq⟩ : ∃ q, L[k] = q := ⟨_, rfl⟩
      have hnx := lineFlws_take hkl
      rw [hq] at hnx
      rw [List.getElem_map, hq, Nat.mul_one, Nat.add_zero] at y0
      obtain ⟨x, y⟩ := q
      simp only at y0
      have HSC : Hid (∀ X, Below W1.heap.size W1 X → X.cell? ⟨b, o + k, none⟩ = some (.string ⟨#[x, y]⟩)) := Lib.hid (fun X hX => by
        obtain ⟨b', o', e', -, hc'⟩ := (Lst.grow HS.out hX).at_ hkm
        injection e' with e'
        injection e' with e1 e2
        subst e1 e2
        have := hc' 0 _ rfl
        rw [List.getElem_map, hq, Nat.mul_one, Nat.add_zero] at this
        exact this)
      have HNX := Lib.hid hnx
      obtain ⟨fs, hfs⟩ : ∃ fs, lineFlws (L.take k) = fs := ⟨_, rfl⟩
      rw [hfs] at HNX hp p1
      have hfl : fs.length ≤ 8 := by rw [← hfs]; simp [lineFlws]; omega
      have g2 : (0 : Int) ≤ (k : Int) := by omega
      have g3 : (k : Int) < (n : Int) := by omega
      have k8 : k < 10 := by omega
      have bA : Below wr.heap.size wr ((wr.alloc (.cells #[.int .u8 (48 + (k : Int))] 5)).drew) := ((Below.refl _ _).alloc (Nat.le_refl _) _).drew
      have bB : Below wr.heap.size wr (((wr.alloc (.cells #[.int .u8 (48 + (k : Int))] 5)).alloc (.cells (flwC (bare (lineFlw k (x, y)))).toArray 51)).drew) := (((Below.refl _ _).alloc (Nat.le_refl _) _).alloc (by simp) _).drew
      have HSA := Lib.hid (HSC.out _ (hp.out.below.trans (bA.mono hp.out.below.size)))
      have HSB := Lib.hid (HSC.out _ (hp.out.below.trans (bB.mono hp.out.below.size)))
      have HPB := Lib.hid (hp.out.grow bB)
      have HO := Lib.hid HPB.out.flws
      have hcv := conv_byte (W := (wr.alloc (.cells #[.int .u8 (48 + (k : Int))] 5)).drew) (b := wr.heap.size) k8 (by simp)
      have x1 := ext01 x y
      have x2 := ext12 x y
      have hBs : W1.heap.size ≤ wr.heap.size := hp.out.below.size
      clear hcell hnx hq hkm hkl bA bB hfs
      have w1 : IntKind.i64.wrap (48 + (k : Int)) = 48 + (k : Int) := by rw [IntKind.wrap_i64]; omega
      have w2 : IntKind.u8.wrap (48 + (k : Int)) = 48 + (k : Int) := wrap_u8_id (by omega) (by omega)
      go_upto_region 5 with fail
      refine wp_region_held_drew (S := (fun X => X.cell? ⟨b, o + k, none⟩ = some (.string ⟨#[x, y]⟩))) (by kernel_rfl) (by simpa using y0) (fun hHeld => ?_)
      refine wpAnyH_take (i := 0) (oi := ({ dst := some 17, op := Op.fieldAddr 25 (Operand.tmp 3) 1, type := 0, pos := "law.go:15", after := #[], guard := none } : Oper)) (v := ?_) rfl (by kernel_rfl) (by kernel_rfl) (by kernel_rfl) (fun _ _ _ h => h) (Or.inl ⟨by rfl, ?hy5_1⟩) hHeld ?_
      case hy5_1 => (intro W hSw; (try dsimp only at hSw); go_simp; (try with_reducible rfl))
      try simp only [Act.put, List.setIfInBounds_toArray, List.set_cons_zero, List.set_cons_succ]
      refine wpAnyH_take (i := 2) (oi := ({ dst := some 19, op := Op.move (Operand.tmp 4), type := 3, pos := "law.go:15", after := #[], guard := none } : Oper)) (v := ?_) rfl (by kernel_rfl) (by kernel_rfl) (by kernel_rfl) (fun _ _ _ h => h) (Or.inl ⟨by rfl, ?hy5_2⟩) hHeld ?_
      case hy5_2 => (intro W hSw; (try dsimp only at hSw); go_simp; (try with_reducible rfl))
      try simp only [Act.put, List.setIfInBounds_toArray, List.set_cons_zero, List.set_cons_succ]
      refine wpAnyH_take (i := 3) (oi := ({ dst := some 20, op := Op.binOp BinOp.add 3 (Operand.const (Value.int IntKind.i64 48)) (Operand.tmp 19) 3, type := 3, pos := "law.go:15", after := #[{ on := 2, ground := Ground.data }], guard := none } : Oper)) (v := ?_) rfl (by kernel_rfl) (by kernel_rfl) (by kernel_rfl) (fun _ _ _ h => h) (Or.inl ⟨by rfl, ?hy5_3⟩) hHeld ?_
      case hy5_3 => (intro W hSw; (try dsimp only at hSw); go_simp; (try with_reducible rfl))
      try simp only [Act.put, List.setIfInBounds_toArray, List.set_cons_zero, List.set_cons_succ]
      refine wpAnyH_take (i := 8) (oi := ({ dst := some 25, op := Op.move (Operand.tmp 0), type := 39, pos := "law.go:15", after := #[], guard := none } : Oper)) (v := ?_) rfl (by kernel_rfl) (by kernel_rfl) (by kernel_rfl) (fun _ _ _ h => h) (Or.inl ⟨by rfl, ?hy5_4⟩) hHeld ?_
      case hy5_4 => (intro W hSw; (try dsimp only at hSw); go_simp; (try with_reducible rfl))
      try simp only [Act.put, List.setIfInBounds_toArray, List.set_cons_zero, List.set_cons_succ]
      refine wpAnyH_take (i := 9) (oi := ({ dst := some 26, op := Op.move (Operand.tmp 4), type := 3, pos := "law.go:15", after := #[], guard := none } : Oper)) (v := ?_) rfl (by kernel_rfl) (by kernel_rfl) (by kernel_rfl) (fun _ _ _ h => h) (Or.inl ⟨by rfl, ?hy5_5⟩) hHeld ?_
      case hy5_5 => (intro W hSw; (try dsimp only at hSw); go_simp; (try with_reducible rfl))
      try simp only [Act.put, List.setIfInBounds_toArray, List.set_cons_zero, List.set_cons_succ]
      refine wpAnyH_take (i := 10) (oi := ({ dst := some 27, op := Op.indexAddr 39 (Operand.tmp 25) (Operand.tmp 26), type := 0, pos := "law.go:15", after := #[{ on := 8, ground := Ground.data }, { on := 9, ground := Ground.data }], guard := none } : Oper)) (v := ?_) rfl (by kernel_rfl) (by kernel_rfl) (by kernel_rfl) (fun _ _ _ h => h) (Or.inl ⟨by rfl, ?hy5_6⟩) hHeld ?_
      case hy5_6 => (intro W hSw; (try dsimp only at hSw); go_simp; (try with_reducible rfl))
      try simp only [Act.put, List.setIfInBounds_toArray, List.set_cons_zero, List.set_cons_succ]
      refine wpAnyH_take (i := 11) (oi := ({ dst := some 28, op := Op.load 9 (Operand.tmp 27), type := 9, pos := "law.go:15", after := #[{ on := 10, ground := Ground.data }], guard := none } : Oper)) (v := ?_) rfl (by kernel_rfl) (by kernel_rfl) (by kernel_rfl) (fun _ _ _ h => h) (Or.inl ⟨by rfl, ?hy5_7⟩) hHeld ?_
      case hy5_7 => (intro W hSw; (try dsimp only at hSw); go_simp; (try with_reducible rfl))
      try simp only [Act.put, List.setIfInBounds_toArray, List.set_cons_zero, List.set_cons_succ]
      refine wpAnyH_take (i := 12) (oi := ({ dst := some 29, op := Op.slice 9 (Operand.tmp 28) none (some (Operand.const (Value.int IntKind.i64 1))) none, type := 9, pos := "law.go:15", after := #[{ on := 11, ground := Ground.data }], guard := none } : Oper)) (v := ?_) rfl (by kernel_rfl) (by kernel_rfl) (by kernel_rfl) (fun _ _ _ h => h) (Or.inl ⟨by rfl, ?hy5_8⟩) hHeld ?_
      case hy5_8 => (intro W hSw; (try dsimp only at hSw); go_simp; (try with_reducible rfl))
      try simp only [Act.put, List.setIfInBounds_toArray, List.set_cons_zero, List.set_cons_succ]
      refine wpAnyH_take (i := 13) (oi := ({ dst := some 30, op := Op.move (Operand.tmp 0), type := 39, pos := "law.go:15", after := #[], guard := none } : Oper)) (v := ?_) rfl (by kernel_rfl) (by kernel_rfl) (by kernel_rfl) (fun _ _ _ h => h) (Or.inl ⟨by rfl, ?hy5_9⟩) hHeld ?_
      case hy5_9 => (intro W hSw; (try dsimp only at hSw); go_simp; (try with_reducible rfl))
      try simp only [Act.put, List.setIfInBounds_toArray, List.set_cons_zero, List.set_cons_succ]
      refine wpAnyH_take (i := 14) (oi := ({ dst := some 31, op := Op.move (Operand.tmp 4), type := 3, pos := "law.go:15", after := #[], guard := none } : Oper)) (v := ?_) rfl (by kernel_rfl) (by kernel_rfl) (by kernel_rfl) (fun _ _ _ h => h) (Or.inl ⟨by rfl, ?hy5_10⟩) hHeld ?_
      case hy5_10 => (intro W hSw; (try dsimp only at hSw); go_simp; (try with_reducible rfl))
      try simp only [Act.put, List.setIfInBounds_toArray, List.set_cons_zero, List.set_cons_succ]
      refine wpAnyH_take (i := 15) (oi := ({ dst := some 32, op := Op.indexAddr 39 (Operand.tmp 30) (Operand.tmp 31), type := 0, pos := "law.go:15", after := #[{ on := 13, ground := Ground.data }, { on := 14, ground := Ground.data }], guard := none } : Oper)) (v := ?_) rfl (by kernel_rfl) (by kernel_rfl) (by kernel_rfl) (fun _ _ _ h => h) (Or.inl ⟨by rfl, ?hy5_11⟩) hHeld ?_
      case hy5_11 => (intro W hSw; (try dsimp only at hSw); go_simp; (try with_reducible rfl))
      try simp only [Act.put, List.setIfInBounds_toArray, List.set_cons_zero, List.set_cons_succ]
      refine wpAnyH_take (i := 16) (oi := ({ dst := some 33, op := Op.load 9 (Operand.tmp 32), type := 9, pos := "law.go:15", after := #[{ on := 15, ground := Ground.data }], guard := none } : Oper)) (v := ?_) rfl (by kernel_rfl) (by kernel_rfl) (by kernel_rfl) (fun _ _ _ h => h) (Or.inl ⟨by rfl, ?hy5_12⟩) hHeld ?_
      case hy5_12 => (intro W hSw; (try dsimp only at hSw); go_simp; (try with_reducible rfl))
      try simp only [Act.put, List.setIfInBounds_toArray, List.set_cons_zero, List.set_cons_succ]
      refine wpAnyH_take (i := 17) (oi := ({ dst := some 34, op := Op.slice 9 (Operand.tmp 33) (some (Operand.const (Value.int IntKind.i64 1))) none none, type := 9, pos := "law.go:15", after := #[{ on := 16, ground := Ground.data }], guard := none } : Oper)) (v := ?_) rfl (by kernel_rfl) (by kernel_rfl) (by kernel_rfl) (fun _ _ _ h => h) (Or.inl ⟨by rfl, ?hy5_13⟩) hHeld ?_
      case hy5_13 => (intro W hSw; (try dsimp only at hSw); go_simp; (try with_reducible rfl))
      try simp only [Act.put, List.setIfInBounds_toArray, List.set_cons_zero, List.set_cons_succ]
      refine wpAnyH_ready (rs := [1, 4]) (by kernel_rfl) (by simp) ?_
      refine (AllReadyH.cons (o := ({ dst := some 18, op := Op.load 23 (Operand.tmp 17), type := 23, pos := "law.go:15", after := #[{ on := 0, ground := Ground.data }], guard := none } : Oper)) rfl (fun K hK => ?_) (AllReadyH.cons (o := ({ dst := some 21, op := Op.convert 3 5 (Operand.tmp 20), type := 5, pos := "law.go:15", after := #[{ on := 3, ground := Ground.data }], guard := none } : Oper)) rfl (fun K hK => ?_) AllReadyH.nil))
      · skip
        go_simp
        refine hK.out _ _ hHeld (fun hHeld' => ?_)
        clear hK K hHeld
        have hHeld := hHeld'
        clear hHeld'
        try simp only [Act.put, List.setIfInBounds_toArray, List.set_cons_zero, List.set_cons_succ]
        refine wpAnyH_ready (rs := [4]) (by kernel_rfl) (by simp) ?_
        refine AllReadyH.cons (o := ({ dst := some 21, op := Op.convert 3 5 (Operand.tmp 20), type := 5, pos := "law.go:15", after := #[{ on := 3, ground := Ground.data }], guard := none } : Oper)) rfl (fun K hK => ?_) AllReadyH.nil
        go_simp
        refine hK.out _ _ hHeld (fun hHeld' => ?_)
        clear hK K hHeld
        have hHeld := hHeld'
        clear hHeld'
        try simp only [Act.put, List.setIfInBounds_toArray, List.set_cons_zero, List.set_cons_succ]
        clear w1 w2
        refine wpAnyH_ready (rs := [5]) (by kernel_rfl) (by simp) ?_
        refine AllReadyH.cons (o := ({ dst := some 22, op := Op.buildSlice 74 1 #[(0, Operand.tmp 21)], type := 74, pos := "law.go:15", after := #[{ on := 4, ground := Ground.data }], guard := none } : Oper)) rfl (fun K hK => ?_) AllReadyH.nil
        go_simp
        refine hK.out _ _ HSA.out (fun hHeld' => ?_)
        clear hK K hHeld
        have hHeld := hHeld'
        clear hHeld'
        try simp only [Act.put, List.setIfInBounds_toArray, List.set_cons_zero, List.set_cons_succ]
        refine wpAnyH_ready (rs := [6]) (by kernel_rfl) (by simp) ?_
        refine AllReadyH.cons (o := ({ dst := some 23, op := Op.convert 74 9 (Operand.tmp 22), type := 9, pos := "law.go:15", after := #[{ on := 5, ground := Ground.data }], guard := none } : Oper)) rfl (fun K hK => ?_) AllReadyH.nil
        go_simp
        refine hK.out _ _ HSA.out (fun hHeld' => ?_)
        clear hK K hHeld
        have hHeld := hHeld'
        clear hHeld'
        try simp only [Act.put, List.setIfInBounds_toArray, List.set_cons_zero, List.set_cons_succ]
        refine wpAnyH_take (i := 7) (oi := ({ dst := some 24, op := Op.binOp BinOp.add 9 (Operand.const (Value.string { data := #[102] })) (Operand.tmp 23) 9, type := 9, pos := "law.go:15", after := #[{ on := 6, ground := Ground.data }], guard := none } : Oper)) (v := ?_) rfl (by kernel_rfl) (by kernel_rfl) (by kernel_rfl) (fun _ _ _ h => h) (Or.inl ⟨by rfl, ?hy5_14⟩) hHeld ?_
        case hy5_14 => (intro W hSw; (try dsimp only at hSw); go_simp; (try with_reducible rfl))
        try simp only [Act.put, List.setIfInBounds_toArray, List.set_cons_zero, List.set_cons_succ]
        refine wpAnyH_take (i := 18) (oi := ({ dst := some 35, op := Op.build 51 #[(0, Operand.tmp 24), (1, Operand.tmp 29), (2, Operand.tmp 34), (3, Operand.const (Value.int IntKind.i64 (-1))), (4, Operand.const (Value.int IntKind.i64 1)), (5, Operand.const (Value.int IntKind.i64 1))], type := 51, pos := "law.go:15", after := #[{ on := 7, ground := Ground.data }, { on := 12, ground := Ground.data }, { on := 17, ground := Ground.data }], guard := none } : Oper)) (v := ?_) rfl (by kernel_rfl) (by kernel_rfl) (by kernel_rfl) (fun _ _ _ h => h) (Or.inl ⟨by rfl, ?hy5_15⟩) hHeld ?_
        case hy5_15 => (intro W hSw; (try dsimp only at hSw); go_simp; (try with_reducible rfl))
        try simp only [Act.put, List.setIfInBounds_toArray, List.set_cons_zero, List.set_cons_succ]
        refine wpAnyH_ready (rs := [19]) (by kernel_rfl) (by simp) ?_
        refine AllReadyH.cons (o := ({ dst := some 36, op := Op.buildSlice 23 1 #[(0, Operand.tmp 35)], type := 23, pos := "law.go:15", after := #[{ on := 18, ground := Ground.data }], guard := none } : Oper)) rfl (fun K hK => ?_) AllReadyH.nil
        go_simp
        refine hK.out _ _ HSB.out (fun hHeld' => ?_)
        clear hK K hHeld
        have hHeld := hHeld'
        clear hHeld'
        try simp only [Act.put, List.setIfInBounds_toArray, List.set_cons_zero, List.set_cons_succ]
        refine wpAnyH_ready (rs := [20]) (by kernel_rfl) (by simp) ?_
        refine AllReadyH.cons (o := ({ dst := some 37, op := Op.call { callee := Callee.builtin Builtin.append, args := #[Operand.tmp 18, Operand.tmp 36], argTypes := #[23, 23] }, type := 23, pos := "law.go:15", after := #[{ on := 1, ground := Ground.data }, { on := 19, ground := Ground.data }], guard := none } : Oper)) rfl (fun K hK => ?_) AllReadyH.nil
        refine step_append_lies _ (by rfl) (.tmp 18) (.tmp 36) 23 (by rfl) W1.heap.size 51 i0 (.agg #[.string ⟨#[]⟩, .string ⟨#[]⟩, .string ⟨#[]⟩, .int .i64 0, .int .i64 0, .int .i64 0, .slice none 0 0, .int .i64 0, .int .i64 0, .int .i64 0, .int .i64 0, .slice none 0 0]) 12 152 Tryz.underlying23 hi0 hz0 hz1 hz2 rfl (by decide) (.slice va fs.length vc) fs.length (fcs fs) (by rfl) HO.out ⟨wr.heap.size + 1, 0, none⟩ 1 1 (flwC (bare (lineFlw k (x, y)))) (by rfl) rfl (news_bare (w := wr.alloc (.cells #[.int .u8 (48 + (k : Int))] 5)) rfl (by simp)) (one_bare _) (by decide) (by unfold maxLen; omega) (by omega) (by simp; omega) _ rfl ?_
        intro g2 cap2 w4 hown2 hgrow2 hat2 hlt2
        obtain ⟨hb4, hx4⟩ := HPB.out.push (f := lineFlw k (x, y)) ⟨rfl, rfl⟩ hgrow2 hown2
        have HB4 := Lib.hid (HPB.out.below.grown hgrow2 HPB.out.below.size (fun k e => (HPB.out.flws.lt k e).1))
        have HX4 := Lib.hid hx4
        have c4 : w4.cell? ⟨W1.heap.size, 1, none⟩ = some (.slice va fs.length vc) := by rw [cell_of_heap hb4]; rfl
        have f4 : w4.frozen? ⟨W1.heap.size, 1, none⟩ = false := free_of_heap hb4 1
        clear hown2 hgrow2 hat2 hlt2 hb4 hx4
        refine hK.out _ _ (HSC.out _ HB4.out) (fun hHeld' => ?_)
        clear hK K hHeld
        have hHeld := hHeld'
        clear hHeld'
        try simp only [Act.put, List.setIfInBounds_toArray, List.set_cons_zero, List.set_cons_succ]
        refine wpAnyH_take (i := 21) (oi := ({ dst := some 38, op := Op.fieldAddr 25 (Operand.tmp 3) 1, type := 0, pos := "law.go:15", after := #[{ on := 0, ground := Ground.phase }, { on := 1, ground := Ground.phase }, { on := 2, ground := Ground.phase }, { on := 3, ground := Ground.phase }, { on := 4, ground := Ground.phase }, { on := 5, ground := Ground.phase }, { on := 6, ground := Ground.phase }, { on := 7, ground := Ground.phase }, { on := 8, ground := Ground.phase }, { on := 9, ground := Ground.phase }, { on := 10, ground := Ground.phase }, { on := 11, ground := Ground.phase }, { on := 12, ground := Ground.phase }, { on := 13, ground := Ground.phase }, { on := 14, ground := Ground.phase }, { on := 15, ground := Ground.phase }, { on := 16, ground := Ground.phase }, { on := 17, ground := Ground.phase }, { on := 18, ground := Ground.phase }, { on := 19, ground := Ground.phase }, { on := 20, ground := Ground.phase }], guard := none } : Oper)) (v := ?_) rfl (by kernel_rfl) (by kernel_rfl) (by kernel_rfl) (fun _ _ _ h => h) (Or.inl ⟨by rfl, ?hy5_16⟩) hHeld ?_
        case hy5_16 => (intro W hSw; (try dsimp only at hSw); go_simp; (try with_reducible rfl))
        try simp only [Act.put, List.setIfInBounds_toArray, List.set_cons_zero, List.set_cons_succ]
        refine wpAnyH_ready (rs := [22]) (by kernel_rfl) (by simp) ?_
        refine AllReadyH.cons (o := ({ dst := none, op := Op.store 23 (Operand.tmp 38) (Operand.tmp 37), type := 0, pos := "law.go:15", after := #[{ on := 21, ground := Ground.data }, { on := 20, ground := Ground.data }, { on := 20, ground := Ground.chain }, { on := 0, ground := Ground.phase }, { on := 1, ground := Ground.phase }, { on := 2, ground := Ground.phase }, { on := 3, ground := Ground.phase }, { on := 4, ground := Ground.phase }, { on := 5, ground := Ground.phase }, { on := 6, ground := Ground.phase }, { on := 7, ground := Ground.phase }, { on := 8, ground := Ground.phase }, { on := 9, ground := Ground.phase }, { on := 10, ground := Ground.phase }, { on := 11, ground := Ground.phase }, { on := 12, ground := Ground.phase }, { on := 13, ground := Ground.phase }, { on := 14, ground := Ground.phase }, { on := 15, ground := Ground.phase }, { on := 16, ground := Ground.phase }, { on := 17, ground := Ground.phase }, { on := 18, ground := Ground.phase }, { on := 19, ground := Ground.phase }, { on := 20, ground := Ground.phase }], guard := none } : Oper)) rfl (fun K hK => ?_) AllReadyH.nil
        go_simp
        refine hK.out _ _ (HSC.out _ HX4.out.below) (fun hHeld' => ?_)
        clear hK K hHeld
        have hHeld := hHeld'
        clear hHeld'
        try simp only [Act.put, List.setIfInBounds_toArray, List.set_cons_zero, List.set_cons_succ]
        refine wpAnyH_done (by kernel_rfl) ?_ _
        clear hHeld
        go_wp2
        go_roundw
        case rel => exact ⟨k + 1, _, by omega, by go_num, Lib.hid (by rw [HNX.out]; exact HX4.out)⟩
        case measure => simp [intOf]; omega
      · skip
        go_simp
        refine hK.out _ _ hHeld (fun hHeld' => ?_)
        clear hK K hHeld
        have hHeld := hHeld'
        clear hHeld'
        try simp only [Act.put, List.setIfInBounds_toArray, List.set_cons_zero, List.set_cons_succ]
        clear w1 w2
        refine wpAnyH_ready (rs := [1, 5]) (by kernel_rfl) (by simp) ?_
        refine (AllReadyH.cons (o := ({ dst := some 18, op := Op.load 23 (Operand.tmp 17), type := 23, pos := "law.go:15", after := #[{ on := 0, ground := Ground.data }], guard := none } : Oper)) rfl (fun K hK => ?_) (AllReadyH.cons (o := ({ dst := some 22, op := Op.buildSlice 74 1 #[(0, Operand.tmp 21)], type := 74, pos := "law.go:15", after := #[{ on := 4, ground := Ground.data }], guard := none } : Oper)) rfl (fun K hK => ?_) AllReadyH.nil))
        · skip
          go_simp
          refine hK.out _ _ hHeld (fun hHeld' => ?_)
          clear hK K hHeld
          have hHeld := hHeld'
          clear hHeld'
          try simp only [Act.put, List.setIfInBounds_toArray, List.set_cons_zero, List.set_cons_succ]
          refine wpAnyH_ready (rs := [5]) (by kernel_rfl) (by simp) ?_
          refine AllReadyH.cons (o := ({ dst := some 22, op := Op.buildSlice 74 1 #[(0, Operand.tmp 21)], type := 74, pos := "law.go:15", after := #[{ on := 4, ground := Ground.data }], guard := none } : Oper)) rfl (fun K hK => ?_) AllReadyH.nil
          go_simp
          refine hK.out _ _ HSA.out (fun hHeld' => ?_)
          clear hK K hHeld
          have hHeld := hHeld'
          clear hHeld'
          try simp only [Act.put, List.setIfInBounds_toArray, List.set_cons_zero, List.set_cons_succ]
          refine wpAnyH_ready (rs := [6]) (by kernel_rfl) (by simp) ?_
          refine AllReadyH.cons (o := ({ dst := some 23, op := Op.convert 74 9 (Operand.tmp 22), type := 9, pos := "law.go:15", after := #[{ on := 5, ground := Ground.data }], guard := none } : Oper)) rfl (fun K hK => ?_) AllReadyH.nil
          go_simp
          refine hK.out _ _ HSA.out (fun hHeld' => ?_)
          clear hK K hHeld
          have hHeld := hHeld'
          clear hHeld'
          try simp only [Act.put, List.setIfInBounds_toArray, List.set_cons_zero, List.set_cons_succ]
          refine wpAnyH_take (i := 7) (oi := ({ dst := some 24, op := Op.binOp BinOp.add 9 (Operand.const (Value.string { data := #[102] })) (Operand.tmp 23) 9, type := 9, pos := "law.go:15", after := #[{ on := 6, ground := Ground.data }], guard := none } : Oper)) (v := ?_) rfl (by kernel_rfl) (by kernel_rfl) (by kernel_rfl) (fun _ _ _ h => h) (Or.inl ⟨by rfl, ?hy5_17⟩) hHeld ?_
          case hy5_17 => (intro W hSw; (try dsimp only at hSw); go_simp; (try with_reducible rfl))
          try simp only [Act.put, List.setIfInBounds_toArray, List.set_cons_zero, List.set_cons_succ]
          refine wpAnyH_take (i := 18) (oi := ({ dst := some 35, op := Op.build 51 #[(0, Operand.tmp 24), (1, Operand.tmp 29), (2, Operand.tmp 34), (3, Operand.const (Value.int IntKind.i64 (-1))), (4, Operand.const (Value.int IntKind.i64 1)), (5, Operand.const (Value.int IntKind.i64 1))], type := 51, pos := "law.go:15", after := #[{ on := 7, ground := Ground.data }, { on := 12, ground := Ground.data }, { on := 17, ground := Ground.data }], guard := none } : Oper)) (v := ?_) rfl (by kernel_rfl) (by kernel_rfl) (by kernel_rfl) (fun _ _ _ h => h) (Or.inl ⟨by rfl, ?hy5_18⟩) hHeld ?_
          case hy5_18 => (intro W hSw; (try dsimp only at hSw); go_simp; (try with_reducible rfl))
          try simp only [Act.put, List.setIfInBounds_toArray, List.set_cons_zero, List.set_cons_succ]
          refine wpAnyH_ready (rs := [19]) (by kernel_rfl) (by simp) ?_
          refine AllReadyH.cons (o := ({ dst := some 36, op := Op.buildSlice 23 1 #[(0, Operand.tmp 35)], type := 23, pos := "law.go:15", after := #[{ on := 18, ground := Ground.data }], guard := none } : Oper)) rfl (fun K hK => ?_) AllReadyH.nil
          go_simp
          refine hK.out _ _ HSB.out (fun hHeld' => ?_)
          clear hK K hHeld
          have hHeld := hHeld'
          clear hHeld'
          try simp only [Act.put, List.setIfInBounds_toArray, List.set_cons_zero, List.set_cons_succ]
          refine wpAnyH_ready (rs := [20]) (by kernel_rfl) (by simp) ?_
          refine AllReadyH.cons (o := ({ dst := some 37, op := Op.call { callee := Callee.builtin Builtin.append, args := #[Operand.tmp 18, Operand.tmp 36], argTypes := #[23, 23] }, type := 23, pos := "law.go:15", after := #[{ on := 1, ground := Ground.data }, { on := 19, ground := Ground.data }], guard := none } : Oper)) rfl (fun K hK => ?_) AllReadyH.nil
          refine step_append_lies _ (by rfl) (.tmp 18) (.tmp 36) 23 (by rfl) W1.heap.size 51 i0 (.agg #[.string ⟨#[]⟩, .string ⟨#[]⟩, .string ⟨#[]⟩, .int .i64 0, .int .i64 0, .int .i64 0, .slice none 0 0, .int .i64 0, .int .i64 0, .int .i64 0, .int .i64 0, .slice none 0 0]) 12 152 Tryz.underlying23 hi0 hz0 hz1 hz2 rfl (by decide) (.slice va fs.length vc) fs.length (fcs fs) (by rfl) HO.out ⟨wr.heap.size + 1, 0, none⟩ 1 1 (flwC (bare (lineFlw k (x, y)))) (by rfl) rfl (news_bare (w := wr.alloc (.cells #[.int .u8 (48 + (k : Int))] 5)) rfl (by simp)) (one_bare _) (by decide) (by unfold maxLen; omega) (by omega) (by simp; omega) _ rfl ?_
          intro g2 cap2 w4 hown2 hgrow2 hat2 hlt2
          obtain ⟨hb4, hx4⟩ := HPB.out.push (f := lineFlw k (x, y)) ⟨rfl, rfl⟩ hgrow2 hown2
          have HB4 := Lib.hid (HPB.out.below.grown hgrow2 HPB.out.below.size (fun k e => (HPB.out.flws.lt k e).1))
          have HX4 := Lib.hid hx4
          have c4 : w4.cell? ⟨W1.heap.size, 1, none⟩ = some (.slice va fs.length vc) := by rw [cell_of_heap hb4]; rfl
          have f4 : w4.frozen? ⟨W1.heap.size, 1, none⟩ = false := free_of_heap hb4 1
          clear hown2 hgrow2 hat2 hlt2 hb4 hx4
          refine hK.out _ _ (HSC.out _ HB4.out) (fun hHeld' => ?_)
          clear hK K hHeld
          have hHeld := hHeld'
          clear hHeld'
          try simp only [Act.put, List.setIfInBounds_toArray, List.set_cons_zero, List.set_cons_succ]
          refine wpAnyH_take (i := 21) (oi := ({ dst := some 38, op := Op.fieldAddr 25 (Operand.tmp 3) 1, type := 0, pos := "law.go:15", after := #[{ on := 0, ground := Ground.phase }, { on := 1, ground := Ground.phase }, { on := 2, ground := Ground.phase }, { on := 3, ground := Ground.phase }, { on := 4, ground := Ground.phase }, { on := 5, ground := Ground.phase }, { on := 6, ground := Ground.phase }, { on := 7, ground := Ground.phase }, { on := 8, ground := Ground.phase }, { on := 9, ground := Ground.phase }, { on := 10, ground := Ground.phase }, { on := 11, ground := Ground.phase }, { on := 12, ground := Ground.phase }, { on := 13, ground := Ground.phase }, { on := 14, ground := Ground.phase }, { on := 15, ground := Ground.phase }, { on := 16, ground := Ground.phase }, { on := 17, ground := Ground.phase }, { on := 18, ground := Ground.phase }, { on := 19, ground := Ground.phase }, { on := 20, ground := Ground.phase }], guard := none } : Oper)) (v := ?_) rfl (by kernel_rfl) (by kernel_rfl) (by kernel_rfl) (fun _ _ _ h => h) (Or.inl ⟨by rfl, ?hy5_19⟩) hHeld ?_
          case hy5_19 => (intro W hSw; (try dsimp only at hSw); go_simp; (try with_reducible rfl))
          try simp only [Act.put, List.setIfInBounds_toArray, List.set_cons_zero, List.set_cons_succ]
          refine wpAnyH_ready (rs := [22]) (by kernel_rfl) (by simp) ?_
          refine AllReadyH.cons (o := ({ dst := none, op := Op.store 23 (Operand.tmp 38) (Operand.tmp 37), type := 0, pos := "law.go:15", after := #[{ on := 21, ground := Ground.data }, { on := 20, ground := Ground.data }, { on := 20, ground := Ground.chain }, { on := 0, ground := Ground.phase }, { on := 1, ground := Ground.phase }, { on := 2, ground := Ground.phase }, { on := 3, ground := Ground.phase }, { on := 4, ground := Ground.phase }, { on := 5, ground := Ground.phase }, { on := 6, ground := Ground.phase }, { on := 7, ground := Ground.phase }, { on := 8, ground := Ground.phase }, { on := 9, ground := Ground.phase }, { on := 10, ground := Ground.phase }, { on := 11, ground := Ground.phase }, { on := 12, ground := Ground.phase }, { on := 13, ground := Ground.phase }, { on := 14, ground := Ground.phase }, { on := 15, ground := Ground.phase }, { on := 16, ground := Ground.phase }, { on := 17, ground := Ground.phase }, { on := 18, ground := Ground.phase }, { on := 19, ground := Ground.phase }, { on := 20, ground := Ground.phase }], guard := none } : Oper)) rfl (fun K hK => ?_) AllReadyH.nil
          go_simp
          refine hK.out _ _ (HSC.out _ HX4.out.below) (fun hHeld' => ?_)
          clear hK K hHeld
          have hHeld := hHeld'
          clear hHeld'
          try simp only [Act.put, List.setIfInBounds_toArray, List.set_cons_zero, List.set_cons_succ]
          refine wpAnyH_done (by kernel_rfl) ?_ _
          clear hHeld
          go_wp2
          go_roundw
          case rel => exact ⟨k + 1, _, by omega, by go_num, Lib.hid (by rw [HNX.out]; exact HX4.out)⟩
          case measure => simp [intOf]; omega
        · skip
          go_simp
          refine hK.out _ _ HSA.out (fun hHeld' => ?_)
          clear hK K hHeld
          have hHeld := hHeld'
          clear hHeld'
          try simp only [Act.put, List.setIfInBounds_toArray, List.set_cons_zero, List.set_cons_succ]
          refine wpAnyH_ready (rs := [1, 6]) (by kernel_rfl) (by simp) ?_
          refine (AllReadyH.cons (o := ({ dst := some 18, op := Op.load 23 (Operand.tmp 17), type := 23, pos := "law.go:15", after := #[{ on := 0, ground := Ground.data }], guard := none } : Oper)) rfl (fun K hK => ?_) (AllReadyH.cons (o := ({ dst := some 23, op := Op.convert 74 9 (Operand.tmp 22), type := 9, pos := "law.go:15", after := #[{ on := 5, ground := Ground.data }], guard := none } : Oper)) rfl (fun K hK => ?_) AllReadyH.nil))
          · skip
            go_simp
            refine hK.out _ _ hHeld (fun hHeld' => ?_)
            clear hK K hHeld
            have hHeld := hHeld'
            clear hHeld'
            try simp only [Act.put, List.setIfInBounds_toArray, List.set_cons_zero, List.set_cons_succ]
            refine wpAnyH_ready (rs := [6]) (by kernel_rfl) (by simp) ?_
            refine AllReadyH.cons (o := ({ dst := some 23, op := Op.convert 74 9 (Operand.tmp 22), type := 9, pos := "law.go:15", after := #[{ on := 5, ground := Ground.data }], guard := none } : Oper)) rfl (fun K hK => ?_) AllReadyH.nil
            go_simp
            refine hK.out _ _ HSA.out (fun hHeld' => ?_)
            clear hK K hHeld
            have hHeld := hHeld'
            clear hHeld'
            try simp only [Act.put, List.setIfInBounds_toArray, List.set_cons_zero, List.set_cons_succ]
            refine wpAnyH_take (i := 7) (oi := ({ dst := some 24, op := Op.binOp BinOp.add 9 (Operand.const (Value.string { data := #[102] })) (Operand.tmp 23) 9, type := 9, pos := "law.go:15", after := #[{ on := 6, ground := Ground.data }], guard := none } : Oper)) (v := ?_) rfl (by kernel_rfl) (by kernel_rfl) (by kernel_rfl) (fun _ _ _ h => h) (Or.inl ⟨by rfl, ?hy5_20⟩) hHeld ?_
            case hy5_20 => (intro W hSw; (try dsimp only at hSw); go_simp; (try with_reducible rfl))
            try simp only [Act.put, List.setIfInBounds_toArray, List.set_cons_zero, List.set_cons_succ]
            refine wpAnyH_take (i := 18) (oi := ({ dst := some 35, op := Op.build 51 #[(0, Operand.tmp 24), (1, Operand.tmp 29), (2, Operand.tmp 34), (3, Operand.const (Value.int IntKind.i64 (-1))), (4, Operand.const (Value.int IntKind.i64 1)), (5, Operand.const (Value.int IntKind.i64 1))], type := 51, pos := "law.go:15", after := #[{ on := 7, ground := Ground.data }, { on := 12, ground := Ground.data }, { on := 17, ground := Ground.data }], guard := none } : Oper)) (v := ?_) rfl (by kernel_rfl) (by kernel_rfl) (by kernel_rfl) (fun _ _ _ h => h) (Or.inl ⟨by rfl, ?hy5_21⟩) hHeld ?_
            case hy5_21 => (intro W hSw; (try dsimp only at hSw); go_simp; (try with_reducible rfl))
            try simp only [Act.put, List.setIfInBounds_toArray, List.set_cons_zero, List.set_cons_succ]
            refine wpAnyH_ready (rs := [19]) (by kernel_rfl) (by simp) ?_
            refine AllReadyH.cons (o := ({ dst := some 36, op := Op.buildSlice 23 1 #[(0, Operand.tmp 35)], type := 23, pos := "law.go:15", after := #[{ on := 18, ground := Ground.data }], guard := none } : Oper)) rfl (fun K hK => ?_) AllReadyH.nil
            go_simp
            refine hK.out _ _ HSB.out (fun hHeld' => ?_)
            clear hK K hHeld
            have hHeld := hHeld'
            clear hHeld'
            try simp only [Act.put, List.setIfInBounds_toArray, List.set_cons_zero, List.set_cons_succ]
            refine wpAnyH_ready (rs := [20]) (by kernel_rfl) (by simp) ?_
            refine AllReadyH.cons (o := ({ dst := some 37, op := Op.call { callee := Callee.builtin Builtin.append, args := #[Operand.tmp 18, Operand.tmp 36], argTypes := #[23, 23] }, type := 23, pos := "law.go:15", after := #[{ on := 1, ground := Ground.data }, { on := 19, ground := Ground.data }], guard := none } : Oper)) rfl (fun K hK => ?_) AllReadyH.nil
            refine step_append_lies _ (by rfl) (.tmp 18) (.tmp 36) 23 (by rfl) W1.heap.size 51 i0 (.agg #[.string ⟨#[]⟩, .string ⟨#[]⟩, .string ⟨#[]⟩, .int .i64 0, .int .i64 0, .int .i64 0, .slice none 0 0, .int .i64 0, .int .i64 0, .int .i64 0, .int .i64 0, .slice none 0 0]) 12 152 Tryz.underlying23 hi0 hz0 hz1 hz2 rfl (by decide) (.slice va fs.length vc) fs.length (fcs fs) (by rfl) HO.out ⟨wr.heap.size + 1, 0, none⟩ 1 1 (flwC (bare (lineFlw k (x, y)))) (by rfl) rfl (news_bare (w := wr.alloc (.cells #[.int .u8 (48 + (k : Int))] 5)) rfl (by simp)) (one_bare _) (by decide) (by unfold maxLen; omega) (by omega) (by simp; omega) _ rfl ?_
            intro g2 cap2 w4 hown2 hgrow2 hat2 hlt2
            obtain ⟨hb4, hx4⟩ := HPB.out.push (f := lineFlw k (x, y)) ⟨rfl, rfl⟩ hgrow2 hown2
            have HB4 := Lib.hid (HPB.out.below.grown hgrow2 HPB.out.below.size (fun k e => (HPB.out.flws.lt k e).1))
            have HX4 := Lib.hid hx4
            have c4 : w4.cell? ⟨W1.heap.size, 1, none⟩ = some (.slice va fs.length vc) := by rw [cell_of_heap hb4]; rfl
            have f4 : w4.frozen? ⟨W1.heap.size, 1, none⟩ = false := free_of_heap hb4 1
            clear hown2 hgrow2 hat2 hlt2 hb4 hx4
            refine hK.out _ _ (HSC.out _ HB4.out) (fun hHeld' => ?_)
            clear hK K hHeld
            have hHeld := hHeld'
            clear hHeld'
            try simp only [Act.put, List.setIfInBounds_toArray, List.set_cons_zero, List.set_cons_succ]
            refine wpAnyH_take (i := 21) (oi := ({ dst := some 38, op := Op.fieldAddr 25 (Operand.tmp 3) 1, type := 0, pos := "law.go:15", after := #[{ on := 0, ground := Ground.phase }, { on := 1, ground := Ground.phase }, { on := 2, ground := Ground.phase }, { on := 3, ground := Ground.phase }, { on := 4, ground := Ground.phase }, { on := 5, ground := Ground.phase }, { on := 6, ground := Ground.phase }, { on := 7, ground := Ground.phase }, { on := 8, ground := Ground.phase }, { on := 9, ground := Ground.phase }, { on := 10, ground := Ground.phase }, { on := 11, ground := Ground.phase }, { on := 12, ground := Ground.phase }, { on := 13, ground := Ground.phase }, { on := 14, ground := Ground.phase }, { on := 15, ground := Ground.phase }, { on := 16, ground := Ground.phase }, { on := 17, ground := Ground.phase }, { on := 18, ground := Ground.phase }, { on := 19, ground := Ground.phase }, { on := 20, ground := Ground.phase }], guard := none } : Oper)) (v := ?_) rfl (by kernel_rfl) (by kernel_rfl) (by kernel_rfl) (fun _ _ _ h => h) (Or.inl ⟨by rfl, ?hy5_22⟩) hHeld ?_
            case hy5_22 => (intro W hSw; (try dsimp only at hSw); go_simp; (try with_reducible rfl))
            try simp only [Act.put, List.setIfInBounds_toArray, List.set_cons_zero, List.set_cons_succ]
            refine wpAnyH_ready (rs := [22]) (by kernel_rfl) (by simp) ?_
            refine AllReadyH.cons (o := ({ dst := none, op := Op.store 23 (Operand.tmp 38) (Operand.tmp 37), type := 0, pos := "law.go:15", after := #[{ on := 21, ground := Ground.data }, { on := 20, ground := Ground.data }, { on := 20, ground := Ground.chain }, { on := 0, ground := Ground.phase }, { on := 1, ground := Ground.phase }, { on := 2, ground := Ground.phase }, { on := 3, ground := Ground.phase }, { on := 4, ground := Ground.phase }, { on := 5, ground := Ground.phase }, { on := 6, ground := Ground.phase }, { on := 7, ground := Ground.phase }, { on := 8, ground := Ground.phase }, { on := 9, ground := Ground.phase }, { on := 10, ground := Ground.phase }, { on := 11, ground := Ground.phase }, { on := 12, ground := Ground.phase }, { on := 13, ground := Ground.phase }, { on := 14, ground := Ground.phase }, { on := 15, ground := Ground.phase }, { on := 16, ground := Ground.phase }, { on := 17, ground := Ground.phase }, { on := 18, ground := Ground.phase }, { on := 19, ground := Ground.phase }, { on := 20, ground := Ground.phase }], guard := none } : Oper)) rfl (fun K hK => ?_) AllReadyH.nil
            go_simp
            refine hK.out _ _ (HSC.out _ HX4.out.below) (fun hHeld' => ?_)
            clear hK K hHeld
            have hHeld := hHeld'
            clear hHeld'
            try simp only [Act.put, List.setIfInBounds_toArray, List.set_cons_zero, List.set_cons_succ]
            refine wpAnyH_done (by kernel_rfl) ?_ _
            clear hHeld
            go_wp2
            go_roundw
            case rel => exact ⟨k + 1, _, by omega, by go_num, Lib.hid (by rw [HNX.out]; exact HX4.out)⟩
            case measure => simp [intOf]; omega
          · skip
            go_simp
            refine hK.out _ _ HSA.out (fun hHeld' => ?_)
            clear hK K hHeld
            have hHeld := hHeld'
            clear hHeld'
            try simp only [Act.put, List.setIfInBounds_toArray, List.set_cons_zero, List.set_cons_succ]
            refine wpAnyH_take (i := 7) (oi := ({ dst := some 24, op := Op.binOp BinOp.add 9 (Operand.const (Value.string { data := #[102] })) (Operand.tmp 23) 9, type := 9, pos := "law.go:15", after := #[{ on := 6, ground := Ground.data }], guard := none } : Oper)) (v := ?_) rfl (by kernel_rfl) (by kernel_rfl) (by kernel_rfl) (fun _ _ _ h => h) (Or.inl ⟨by rfl, ?hy5_23⟩) hHeld ?_
            case hy5_23 => (intro W hSw; (try dsimp only at hSw); go_simp; (try with_reducible rfl))
            try simp only [Act.put, List.setIfInBounds_toArray, List.set_cons_zero, List.set_cons_succ]
            refine wpAnyH_take (i := 18) (oi := ({ dst := some 35, op := Op.build 51 #[(0, Operand.tmp 24), (1, Operand.tmp 29), (2, Operand.tmp 34), (3, Operand.const (Value.int IntKind.i64 (-1))), (4, Operand.const (Value.int IntKind.i64 1)), (5, Operand.const (Value.int IntKind.i64 1))], type := 51, pos := "law.go:15", after := #[{ on := 7, ground := Ground.data }, { on := 12, ground := Ground.data }, { on := 17, ground := Ground.data }], guard := none } : Oper)) (v := ?_) rfl (by kernel_rfl) (by kernel_rfl) (by kernel_rfl) (fun _ _ _ h => h) (Or.inl ⟨by rfl, ?hy5_24⟩) hHeld ?_
            case hy5_24 => (intro W hSw; (try dsimp only at hSw); go_simp; (try with_reducible rfl))
            try simp only [Act.put, List.setIfInBounds_toArray, List.set_cons_zero, List.set_cons_succ]
            refine wpAnyH_ready (rs := [1, 19]) (by kernel_rfl) (by simp) ?_
            refine (AllReadyH.cons (o := ({ dst := some 18, op := Op.load 23 (Operand.tmp 17), type := 23, pos := "law.go:15", after := #[{ on := 0, ground := Ground.data }], guard := none } : Oper)) rfl (fun K hK => ?_) (AllReadyH.cons (o := ({ dst := some 36, op := Op.buildSlice 23 1 #[(0, Operand.tmp 35)], type := 23, pos := "law.go:15", after := #[{ on := 18, ground := Ground.data }], guard := none } : Oper)) rfl (fun K hK => ?_) AllReadyH.nil))
            · skip
              go_simp
              refine hK.out _ _ hHeld (fun hHeld' => ?_)
              clear hK K hHeld
              have hHeld := hHeld'
              clear hHeld'
              try simp only [Act.put, List.setIfInBounds_toArray, List.set_cons_zero, List.set_cons_succ]
              refine wpAnyH_ready (rs := [19]) (by kernel_rfl) (by simp) ?_
              refine AllReadyH.cons (o := ({ dst := some 36, op := Op.buildSlice 23 1 #[(0, Operand.tmp 35)], type := 23, pos := "law.go:15", after := #[{ on := 18, ground := Ground.data }], guard := none } : Oper)) rfl (fun K hK => ?_) AllReadyH.nil
              go_simp
              refine hK.out _ _ HSB.out (fun hHeld' => ?_)
              clear hK K hHeld
              have hHeld := hHeld'
              clear hHeld'
              try simp only [Act.put, List.setIfInBounds_toArray, List.set_cons_zero, List.set_cons_succ]
              refine wpAnyH_ready (rs := [20]) (by kernel_rfl) (by simp) ?_
              refine AllReadyH.cons (o := ({ dst := some 37, op := Op.call { callee := Callee.builtin Builtin.append, args := #[Operand.tmp 18, Operand.tmp 36], argTypes := #[23, 23] }, type := 23, pos := "law.go:15", after := #[{ on := 1, ground := Ground.data }, { on := 19, ground := Ground.data }], guard := none } : Oper)) rfl (fun K hK => ?_) AllReadyH.nil
              refine step_append_lies _ (by rfl) (.tmp 18) (.tmp 36) 23 (by rfl) W1.heap.size 51 i0 (.agg #[.string ⟨#[]⟩, .string ⟨#[]⟩, .string ⟨#[]⟩, .int .i64 0, .int .i64 0, .int .i64 0, .slice none 0 0, .int .i64 0, .int .i64 0, .int .i64 0, .int .i64 0, .slice none 0 0]) 12 152 Tryz.underlying23 hi0 hz0 hz1 hz2 rfl (by decide) (.slice va fs.length vc) fs.length (fcs fs) (by rfl) HO.out ⟨wr.heap.size + 1, 0, none⟩ 1 1 (flwC (bare (lineFlw k (x, y)))) (by rfl) rfl (news_bare (w := wr.alloc (.cells #[.int .u8 (48 + (k : Int))] 5)) rfl (by simp)) (one_bare _) (by decide) (by unfold maxLen; omega) (by omega) (by simp; omega) _ rfl ?_
              intro g2 cap2 w4 hown2 hgrow2 hat2 hlt2
              obtain ⟨hb4, hx4⟩ := HPB.out.push (f := lineFlw k (x, y)) ⟨rfl, rfl⟩ hgrow2 hown2
              have HB4 := Lib.hid (HPB.out.below.grown hgrow2 HPB.out.below.size (fun k e => (HPB.out.flws.lt k e).1))
              have HX4 := Lib.hid hx4
              have c4 : w4.cell? ⟨W1.heap.size, 1, none⟩ = some (.slice va fs.length vc) := by rw [cell_of_heap hb4]; rfl
              have f4 : w4.frozen? ⟨W1.heap.size, 1, none⟩ = false := free_of_heap hb4 1
              clear hown2 hgrow2 hat2 hlt2 hb4 hx4
              refine hK.out _ _ (HSC.out _ HB4.out) (fun hHeld' => ?_)
              clear hK K hHeld
              have hHeld := hHeld'
              clear hHeld'
              try simp only [Act.put, List.setIfInBounds_toArray, List.set_cons_zero, List.set_cons_succ]
              refine wpAnyH_take (i := 21) (oi := ({ dst := some 38, op := Op.fieldAddr 25 (Operand.tmp 3) 1, type := 0, pos := "law.go:15", after := #[{ on := 0, ground := Ground.phase }, { on := 1, ground := Ground.phase }, { on := 2, ground := Ground.phase }, { on := 3, ground := Ground.phase }, { on := 4, ground := Ground.phase }, { on := 5, ground := Ground.phase }, { on := 6, ground := Ground.phase }, { on := 7, ground := Ground.phase }, { on := 8, ground := Ground.phase }, { on := 9, ground := Ground.phase }, { on := 10, ground := Ground.phase }, { on := 11, ground := Ground.phase }, { on := 12, ground := Ground.phase }, { on := 13, ground := Ground.phase }, { on := 14, ground := Ground.phase }, { on := 15, ground := Ground.phase }, { on := 16, ground := Ground.phase }, { on := 17, ground := Ground.phase }, { on := 18, ground := Ground.phase }, { on := 19, ground := Ground.phase }, { on := 20, ground := Ground.phase }], guard := none } : Oper)) (v := ?_) rfl (by kernel_rfl) (by kernel_rfl) (by kernel_rfl) (fun _ _ _ h => h) (Or.inl ⟨by rfl, ?hy5_25⟩) hHeld ?_
              case hy5_25 => (intro W hSw; (try dsimp only at hSw); go_simp; (try with_reducible rfl))
              try simp only [Act.put, List.setIfInBounds_toArray, List.set_cons_zero, List.set_cons_succ]
              refine wpAnyH_ready (rs := [22]) (by kernel_rfl) (by simp) ?_
              refine AllReadyH.cons (o := ({ dst := none, op := Op.store 23 (Operand.tmp 38) (Operand.tmp 37), type := 0, pos := "law.go:15", after := #[{ on := 21, ground := Ground.data }, { on := 20, ground := Ground.data }, { on := 20, ground := Ground.chain }, { on := 0, ground := Ground.phase }, { on := 1, ground := Ground.phase }, { on := 2, ground := Ground.phase }, { on := 3, ground := Ground.phase }, { on := 4, ground := Ground.phase }, { on := 5, ground := Ground.phase }, { on := 6, ground := Ground.phase }, { on := 7, ground := Ground.phase }, { on := 8, ground := Ground.phase }, { on := 9, ground := Ground.phase }, { on := 10, ground := Ground.phase }, { on := 11, ground := Ground.phase }, { on := 12, ground := Ground.phase }, { on := 13, ground := Ground.phase }, { on := 14, ground := Ground.phase }, { on := 15, ground := Ground.phase }, { on := 16, ground := Ground.phase }, { on := 17, ground := Ground.phase }, { on := 18, ground := Ground.phase }, { on := 19, ground := Ground.phase }, { on := 20, ground := Ground.phase }], guard := none } : Oper)) rfl (fun K hK => ?_) AllReadyH.nil
              go_simp
              refine hK.out _ _ (HSC.out _ HX4.out.below) (fun hHeld' => ?_)
              clear hK K hHeld
              have hHeld := hHeld'
              clear hHeld'
              try simp only [Act.put, List.setIfInBounds_toArray, List.set_cons_zero, List.set_cons_succ]
              refine wpAnyH_done (by kernel_rfl) ?_ _
              clear hHeld
              go_wp2
              go_roundw
              case rel => exact ⟨k + 1, _, by omega, by go_num, Lib.hid (by rw [HNX.out]; exact HX4.out)⟩
              case measure => simp [intOf]; omega
            · skip
              go_simp
              refine hK.out _ _ HSB.out (fun hHeld' => ?_)
              clear hK K hHeld
              have hHeld := hHeld'
              clear hHeld'
              try simp only [Act.put, List.setIfInBounds_toArray, List.set_cons_zero, List.set_cons_succ]
              refine wpAnyH_ready (rs := [1]) (by kernel_rfl) (by simp) ?_
              refine AllReadyH.cons (o := ({ dst := some 18, op := Op.load 23 (Operand.tmp 17), type := 23, pos := "law.go:15", after := #[{ on := 0, ground := Ground.data }], guard := none } : Oper)) rfl (fun K hK => ?_) AllReadyH.nil
              go_simp
              refine hK.out _ _ hHeld (fun hHeld' => ?_)
              clear hK K hHeld
              have hHeld := hHeld'
              clear hHeld'
              try simp only [Act.put, List.setIfInBounds_toArray, List.set_cons_zero, List.set_cons_succ]
              refine wpAnyH_ready (rs := [20]) (by kernel_rfl) (by simp) ?_
              refine AllReadyH.cons (o := ({ dst := some 37, op := Op.call { callee := Callee.builtin Builtin.append, args := #[Operand.tmp 18, Operand.tmp 36], argTypes := #[23, 23] }, type := 23, pos := "law.go:15", after := #[{ on := 1, ground := Ground.data }, { on := 19, ground := Ground.data }], guard := none } : Oper)) rfl (fun K hK => ?_) AllReadyH.nil
              refine step_append_lies _ (by rfl) (.tmp 18) (.tmp 36) 23 (by rfl) W1.heap.size 51 i0 (.agg #[.string ⟨#[]⟩, .string ⟨#[]⟩, .string ⟨#[]⟩, .int .i64 0, .int .i64 0, .int .i64 0, .slice none 0 0, .int .i64 0, .int .i64 0, .int .i64 0, .int .i64 0, .slice none 0 0]) 12 152 Tryz.underlying23 hi0 hz0 hz1 hz2 rfl (by decide) (.slice va fs.length vc) fs.length (fcs fs) (by rfl) HO.out ⟨wr.heap.size + 1, 0, none⟩ 1 1 (flwC (bare (lineFlw k (x, y)))) (by rfl) rfl (news_bare (w := wr.alloc (.cells #[.int .u8 (48 + (k : Int))] 5)) rfl (by simp)) (one_bare _) (by decide) (by unfold maxLen; omega) (by omega) (by simp; omega) _ rfl ?_
              intro g2 cap2 w4 hown2 hgrow2 hat2 hlt2
              obtain ⟨hb4, hx4⟩ := HPB.out.push (f := lineFlw k (x, y)) ⟨rfl, rfl⟩ hgrow2 hown2
              have HB4 := Lib.hid (HPB.out.below.grown hgrow2 HPB.out.below.size (fun k e => (HPB.out.flws.lt k e).1))
              have HX4 := Lib.hid hx4
              have c4 : w4.cell? ⟨W1.heap.size, 1, none⟩ = some (.slice va fs.length vc) := by rw [cell_of_heap hb4]; rfl
              have f4 : w4.frozen? ⟨W1.heap.size, 1, none⟩ = false := free_of_heap hb4 1
              clear hown2 hgrow2 hat2 hlt2 hb4 hx4
              refine hK.out _ _ (HSC.out _ HB4.out) (fun hHeld' => ?_)
              clear hK K hHeld
              have hHeld := hHeld'
              clear hHeld'
              try simp only [Act.put, List.setIfInBounds_toArray, List.set_cons_zero, List.set_cons_succ]
              refine wpAnyH_take (i := 21) (oi := ({ dst := some 38, op := Op.fieldAddr 25 (Operand.tmp 3) 1, type := 0, pos := "law.go:15", after := #[{ on := 0, ground := Ground.phase }, { on := 1, ground := Ground.phase }, { on := 2, ground := Ground.phase }, { on := 3, ground := Ground.phase }, { on := 4, ground := Ground.phase }, { on := 5, ground := Ground.phase }, { on := 6, ground := Ground.phase }, { on := 7, ground := Ground.phase }, { on := 8, ground := Ground.phase }, { on := 9, ground := Ground.phase }, { on := 10, ground := Ground.phase }, { on := 11, ground := Ground.phase }, { on := 12, ground := Ground.phase }, { on := 13, ground := Ground.phase }, { on := 14, ground := Ground.phase }, { on := 15, ground := Ground.phase }, { on := 16, ground := Ground.phase }, { on := 17, ground := Ground.phase }, { on := 18, ground := Ground.phase }, { on := 19, ground := Ground.phase }, { on := 20, ground := Ground.phase }], guard := none } : Oper)) (v := ?_) rfl (by kernel_rfl) (by kernel_rfl) (by kernel_rfl) (fun _ _ _ h => h) (Or.inl ⟨by rfl, ?hy5_26⟩) hHeld ?_
              case hy5_26 => (intro W hSw; (try dsimp only at hSw); go_simp; (try with_reducible rfl))
              try simp only [Act.put, List.setIfInBounds_toArray, List.set_cons_zero, List.set_cons_succ]
              refine wpAnyH_ready (rs := [22]) (by kernel_rfl) (by simp) ?_
              refine AllReadyH.cons (o := ({ dst := none, op := Op.store 23 (Operand.tmp 38) (Operand.tmp 37), type := 0, pos := "law.go:15", after := #[{ on := 21, ground := Ground.data }, { on := 20, ground := Ground.data }, { on := 20, ground := Ground.chain }, { on := 0, ground := Ground.phase }, { on := 1, ground := Ground.phase }, { on := 2, ground := Ground.phase }, { on := 3, ground := Ground.phase }, { on := 4, ground := Ground.phase }, { on := 5, ground := Ground.phase }, { on := 6, ground := Ground.phase }, { on := 7, ground := Ground.phase }, { on := 8, ground := Ground.phase }, { on := 9, ground := Ground.phase }, { on := 10, ground := Ground.phase }, { on := 11, ground := Ground.phase }, { on := 12, ground := Ground.phase }, { on := 13, ground := Ground.phase }, { on := 14, ground := Ground.phase }, { on := 15, ground := Ground.phase }, { on := 16, ground := Ground.phase }, { on := 17, ground := Ground.phase }, { on := 18, ground := Ground.phase }, { on := 19, ground := Ground.phase }, { on := 20, ground := Ground.phase }], guard := none } : Oper)) rfl (fun K hK => ?_) AllReadyH.nil
              go_simp
              refine hK.out _ _ (HSC.out _ HX4.out.below) (fun hHeld' => ?_)
              clear hK K hHeld
              have hHeld := hHeld'
              clear hHeld'
              try simp only [Act.put, List.setIfInBounds_toArray, List.set_cons_zero, List.set_cons_succ]
              refine wpAnyH_done (by kernel_rfl) ?_ _
              clear hHeld
              go_wp2
              go_roundw
              case rel => exact ⟨k + 1, _, by omega, by go_num, Lib.hid (by rw [HNX.out]; exact HX4.out)⟩
              case measure => simp [intOf]; omega
    · obtain rfl : k = n := by omega
      have hfin : L.take k = L := List.take_of_length_le (by rw [HN.out]; exact Nat.le_refl _)
      rw [hfin] at hp p1
      obtain ⟨fs, hfs⟩ : ∃ fs, lineFlws L = fs := ⟨_, rfl⟩
      rw [hfs] at hp p1
      have hr0 : wr.heap[w.heap.size]? = some (.cells #[.slice none 0 0, .slice none 0 0] 25 (0, 0)) := (hp.out.below.block _ hl1).trans HR0.out
      have r0 : wr.cell? ⟨w.heap.size, 0, none⟩ = some (.slice none 0 0) := by rw [cell_of_heap hr0]; rfl
      have r1 : wr.cell? ⟨w.heap.size, 1, none⟩ = some (.slice none 0 0) := by rw [cell_of_heap hr0]; rfl
      have rf0 := free_of_heap hr0 0
      have rf1 := free_of_heap hr0 1
      have HR1 := Lib.hid hr0
      have HFS := Lib.hid hfs
      clear hr0 hfin hfs
      go_wp2
      have e1 := heap_setCell_same wr w.heap.size 0 _ _ (.slice (some ⟨W0.heap.size, 0, none⟩) 4 4) HR1.out
      have e2 := heap_setCell_same _ w.heap.size 1 _ _ (.slice va fs.length vc) e1
      have s0 : ((wr.setCell ⟨w.heap.size, 0, none⟩ (.slice (some ⟨W0.heap.size, 0, none⟩) 4 4)).setCell ⟨w.heap.size, 1, none⟩ (.slice va fs.length vc)).cell? ⟨w.heap.size, 0, none⟩ = some (.slice (some ⟨W0.heap.size, 0, none⟩) 4 4) := by rw [cell_of_heap e2]; rfl
      have s1 : ((wr.setCell ⟨w.heap.size, 0, none⟩ (.slice (some ⟨W0.heap.size, 0, none⟩) 4 4)).setCell ⟨w.heap.size, 1, none⟩ (.slice va fs.length vc)).cell? ⟨w.heap.size, 1, none⟩ = some (.slice va fs.length vc) := by rw [cell_of_heap e2]; rfl
      have hpn := hp.out.pln_set (ownsRow_below HT.out hp.out.below) HR1.out (.slice (some ⟨W0.heap.size, 0, none⟩) 4 4) (.slice va fs.length vc)
      refine bodyPost_ret (v := .agg #[.slice (some ⟨W0.heap.size, 0, none⟩) 4 4, .slice va fs.length vc]) (by simp [results, Tryz.results26, go_sem, s0, s1]) rfl ⟨_, rfl, ?_, ?_⟩
      · unfold linePln; rw [HFS.out]; exact hpn
      · exact ((HB01.out.trans (hp.out.below.mono HB01.out.size)).setCell (Nat.le_refl _) _).setCell (Nat.le_refl _) _
end Go.Proofs.YtfoenfipefhpoaaGreatDoor.Gr
