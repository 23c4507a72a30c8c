/-
  The document's Eval: an expression's value is its tree's. Conditions: the expression lies as the document's reader laid it.
-/
import Derived.Test.YtlkaaembeakicaaDoorREv
import Derived.Deep.RegionHeld3
namespace Go.Proofs.YtlkaaembeakicaaDoor.Ex
open Go.RowKit
theorem nd_op {s o : Bs} (h : o = s) {w : World} {a : Addr} (hc : w.cell? a = some (.string ⟨o.toArray⟩)) : w.cell? a = some (.string ⟨s.toArray⟩) := by subst h; exact hc
theorem op_not {o : ByteArray} {l : Bs} (h : o.data.toList ∈ ops) (hl : l ∉ ops) : (o.toList == l) = false := by
  rw [Lib.toList_data, beq_eq_false_iff_ne]; intro e; rw [e] at h; exact hl h
theorem rtwo_z {s : ByteArray} (hs : s.data.toList ∈ ops) {a b z : Int} (hz : two s.data.toList a b = z) (w : World) : Calls Tryd.prog 19 #[.string s, .int .i64 a, .int .i64 b] w fun e w' => e = .returned (.int .i64 z) ∧ w = w' := by
  subst hz; exact rtwo_any hs a b w
set_option maxRecDepth 20000 in
set_option maxHeartbeats 4000000 in
theorem reval_any {w0 w : World} {x : Nat} {T : Tree} (h : RAt w0 x T w) (hT : T.size ≤ 64) (n t v : Int) :
    Calls Tryd.prog 18 #[ptr x, .int .i64 n, .int .i64 t, .int .i64 v] w fun e w' => e = .returned (.int .i64 (T.eval n t v)) ∧ Below w.heap.size w w' := by
  obtain ⟨L, Ts, r, vL, hb, hr, hg, ht, hl⟩ := h
  obtain ⟨d0, d1, g0, g1⟩ := xx_cells hb
  have hx := lt_of_heap hb
  have hpos : 0 < L.length := by rw [hl]; exact T.size_pos
  have hrl : r < L.length := by rw [hg.len]; exact (List.getElem?_eq_some_iff.1 ht).1
  rcases hr.2 with ⟨_, h0⟩ | ⟨g, cap, cur, rfl, -, hgg, hcap, -⟩
  · omega
  · have hgl := lt_of_heap hgg
    obtain ⟨m, hm⟩ : ∃ m, L.length = m := ⟨_, rfl⟩
    have hm64 : m ≤ 64 := by omega
    obtain ⟨i0, hi, hz0, hz1, hz2⟩ := info_parts info3
    have hmk : (Instr.makeSlice 39 (.int .i64 (m : Int)) (.int .i64 (m : Int))).run Tryd.prog w = .ok (.slice (some ⟨w.heap.size, 0, none⟩) m m) (w.alloc (.cells (madeCells #[.int .i64 0] m) 3)) := by
      have hr := run_make (P := Tryd.prog) w 39 3 i0 (.int .i64 0) Tryd.underlying39 hi hz0 .i64 .i64 (m : Int) (m : Int) (by omega) (by omega) (by rw [hz2]; omega) (by omega)
      rw [hz1, Nat.mul_one, Int.toNat_natCast] at hr
      exact hr
    have HR := Lib.hid (And.intro hr (And.intro hg (And.intro ht hm)))
    rw [hm] at d0 hcap hrl hpos
    clear hb hr hg ht hgg hl hz0 hz1 hz2 hi
    have HEV : Hid (EV w m Ts (fun T => .int .i64 (T.eval n t v)) 3 0 (w.alloc (.cells (madeCells #[.int .i64 0] m) 3))) := Lib.hid (EV.start _ _ _ _ _ _)
    go_enter Tryd.func18, Tryd.ntmps18
    go_wp2
    go_loopg [10] m (fun k v10 wr => ∃ i : Nat, i ≤ m ∧ i + k = m ∧ v10 = .int .i64 i ∧ EV w m Ts (fun T => .int .i64 (T.eval n t v)) 3 i wr)
    case atStart => exact ⟨0, Nat.zero_le _, by omega, rfl, HEV.out⟩
    case round =>
      obtain ⟨i, him, hik, rfl, hev⟩ := hrel
      have hlt := hev.lt
      have hxl : x < wr.heap.size := by omega
      have hgl2 : g < wr.heap.size := by omega
      have e0 : wr.cell? ⟨x, 0, none⟩ = some (.slice (some ⟨g, 0, none⟩) m cap) := by rw [hev.below.cell (p := ⟨x, 0, none⟩) hx]; exact d0
      have e1 : wr.cell? ⟨x, 1, none⟩ = some (.int .i64 (r : Int)) := by rw [hev.below.cell (p := ⟨x, 1, none⟩) hx]; exact d1
      by_cases hi : i < m
      · obtain ⟨nd, hnd⟩ : ∃ nd, L[i]? = some nd := ⟨_, List.getElem?_eq_getElem (by rw [HR.out.2.2.2]; exact hi)⟩
        obtain ⟨U, hU⟩ : ∃ U, Ts[i]? = some U := ⟨_, List.getElem?_eq_getElem (by rw [← HR.out.2.1.len, HR.out.2.2.2]; exact hi)⟩
        obtain ⟨n0, n1, n2, n3⟩ := node_cells HR.out.1 hgl hev.below hnd
        have hfit := HR.out.2.1.fit i nd U hnd hU
        have hwf := HR.out.2.1.wf U (List.mem_of_getElem? hU)
        obtain ⟨old, e9⟩ := hev.has hi
        have f9 := hev.free i
        have HTI := Lib.hid hU
        have HEV1 := Lib.hid hev
        cases U with
        | num k =>
          obtain ⟨f1, f2⟩ := hfit
          replace n0 := nd_op f1 n0
          rw [f2] at n1
          clear hev hU hnd f1 f2 hwf
          go_wp2
          go_roundg (m - (i + 1))
          case measure => omega
          case rel => exact ⟨i + 1, by omega, by omega, by go_num, (HEV1.out.step HTI.out hi rfl).grow ((Below.refl _ _).alloc (Nat.le_refl _) _)⟩
        | name c =>
          have f1 : nd.op = [c] := hfit
          replace n0 := nd_op f1 n0
          clear hev hU hnd f1 hfit
          rcases hwf with rfl | rfl | rfl
          all_goals
            go_wp2
            go_roundg (m - (i + 1))
            case measure => omega
            case rel => exact ⟨i + 1, by omega, by omega, by go_num, (HEV1.out.step HTI.out hi (by simp [Tree.eval])).grow ((Below.refl _ _).alloc (Nat.le_refl _) _)⟩
        | pre sg a =>
          obtain ⟨f1, f2, f3⟩ := hfit
          obtain ⟨l, hl⟩ : ∃ l, nd.l = l := ⟨_, rfl⟩
          rw [hl] at n2 f2 f3
          obtain ⟨z, hz⟩ : ∃ z, a.eval n t v = z := ⟨_, rfl⟩
          have e5 : wr.cell? ⟨w.heap.size, l, none⟩ = some (.int .i64 (a.eval n t v)) := hev.cell f2 f3
          rw [hz] at e5
          have HZ := Lib.hid hz
          replace n0 := nd_op f1 n0
          clear hev hU hnd f1 hl f3 hz
          rcases hwf.1 with rfl | rfl
          · clear hwf
            go_wp2
            go_roundg (m - (i + 1))
            case measure => omega
            case rel => exact ⟨i + 1, by omega, by omega, by go_num, (HEV1.out.step HTI.out hi (by simp [Tree.eval, HZ.out, wrap64])).grow ((Below.refl _ _).alloc (Nat.le_refl _) _)⟩
          · clear hwf
            go_wp2_with (go_at_call 29; (with_reducible refine (rbit_any _ _).mono ?_); rintro e w' ⟨rfl, rfl⟩)
            go_roundg (m - (i + 1))
            case measure => omega
            case rel => exact ⟨i + 1, by omega, by omega, by go_num, (HEV1.out.step HTI.out hi (by simp [Tree.eval, HZ.out])).grow ((Below.refl _ _).alloc (Nat.le_refl _) _)⟩
        | bin sg a b =>
          obtain ⟨f1, f2, f3, f4, f5⟩ := hfit
          obtain ⟨l, hl⟩ : ∃ l, nd.l = l := ⟨_, rfl⟩
          obtain ⟨rr, hrr⟩ : ∃ l, nd.r = l := ⟨_, rfl⟩
          rw [hl] at n2 f2 f4
          rw [hrr] at n3 f3 f5
          obtain ⟨za, hza⟩ : ∃ z, a.eval n t v = z := ⟨_, rfl⟩
          obtain ⟨zb, hzb⟩ : ∃ z, b.eval n t v = z := ⟨_, rfl⟩
          have e5 : wr.cell? ⟨w.heap.size, l, none⟩ = some (.int .i64 (a.eval n t v)) := hev.cell f2 f4
          have e6 : wr.cell? ⟨w.heap.size, rr, none⟩ = some (.int .i64 (b.eval n t v)) := hev.cell f3 f5
          rw [hza] at e5
          rw [hzb] at e6
          replace n0 := nd_op f1 n0
          obtain ⟨o, ho⟩ : ∃ o : ByteArray, o = ⟨sg.toArray⟩ := ⟨_, rfl⟩
          have hol : o.data.toList = sg := by rw [ho]
          rw [← ho] at n0
          have hop : o.data.toList ∈ ops := by rw [hol]; exact hwf.1
          have q1 := op_not hop (l := [48]) (by decide)
          have q2 := op_not hop (l := [110]) (by decide)
          have q3 := op_not hop (l := [116]) (by decide)
          have q4 := op_not hop (l := [118]) (by decide)
          have q5 := op_not hop (l := [126]) (by decide)
          have q6 := op_not hop (l := [33]) (by decide)
          obtain ⟨z, hz⟩ : ∃ z, two o.data.toList za zb = z := ⟨_, rfl⟩
          have HZ := Lib.hid (And.intro hop hz)
          have HV : Hid ((Value.int .i64 z) = Value.int .i64 ((Tree.bin sg a b).eval n t v)) := Lib.hid (by rw [← hz, Tree.eval, hza, hzb, hol])
          clear hev hU hnd f1 hl hrr f4 f5 hza hzb ho hol hop hz hwf
          go_upto_region 7 with fail
          have hli : i ≠ l := by omega
          have hri : i ≠ rr := by omega
          have b1 : (l : Int) < (m : Int) := by omega
          have b2 : (rr : Int) < (m : Int) := by omega
          have b3 : (i : Int) < (m : Int) := by omega
          have b4 : (0 : Int) ≤ (l : Int) := by omega
          have b5 : (0 : Int) ≤ (rr : Int) := by omega
          have S0 : ((wr.alloc (.cells #[.string o, .int .i64 nd.n, .int .i64 (l : Int), .int .i64 (rr : Int)] 65)).drew).cell? ⟨wr.heap.size, 0, none⟩ = some (.string o) ∧ ((wr.alloc (.cells #[.string o, .int .i64 nd.n, .int .i64 (l : Int), .int .i64 (rr : Int)] 65)).drew).cell? ⟨wr.heap.size, 2, none⟩ = some (.int .i64 (l : Int)) ∧ ((wr.alloc (.cells #[.string o, .int .i64 nd.n, .int .i64 (l : Int), .int .i64 (rr : Int)] 65)).drew).cell? ⟨wr.heap.size, 3, none⟩ = some (.int .i64 (rr : Int)) ∧ ((wr.alloc (.cells #[.string o, .int .i64 nd.n, .int .i64 (l : Int), .int .i64 (rr : Int)] 65)).drew).cell? ⟨w.heap.size, l, none⟩ = some (.int .i64 za) ∧ ((wr.alloc (.cells #[.string o, .int .i64 nd.n, .int .i64 (l : Int), .int .i64 (rr : Int)] 65)).drew).cell? ⟨w.heap.size, rr, none⟩ = some (.int .i64 zb) := by
            refine ⟨?_, ?_, ?_, ?_, ?_⟩ <;> go_simp
          have S1 : (((wr.setCell ⟨w.heap.size, i, none⟩ (.int .i64 z)).alloc (.cells #[.string o, .int .i64 nd.n, .int .i64 (l : Int), .int .i64 (rr : Int)] 65)).drew).cell? ⟨wr.heap.size, 0, none⟩ = some (.string o) ∧ (((wr.setCell ⟨w.heap.size, i, none⟩ (.int .i64 z)).alloc (.cells #[.string o, .int .i64 nd.n, .int .i64 (l : Int), .int .i64 (rr : Int)] 65)).drew).cell? ⟨wr.heap.size, 2, none⟩ = some (.int .i64 (l : Int)) ∧ (((wr.setCell ⟨w.heap.size, i, none⟩ (.int .i64 z)).alloc (.cells #[.string o, .int .i64 nd.n, .int .i64 (l : Int), .int .i64 (rr : Int)] 65)).drew).cell? ⟨wr.heap.size, 3, none⟩ = some (.int .i64 (rr : Int)) ∧ (((wr.setCell ⟨w.heap.size, i, none⟩ (.int .i64 z)).alloc (.cells #[.string o, .int .i64 nd.n, .int .i64 (l : Int), .int .i64 (rr : Int)] 65)).drew).cell? ⟨w.heap.size, l, none⟩ = some (.int .i64 za) ∧ (((wr.setCell ⟨w.heap.size, i, none⟩ (.int .i64 z)).alloc (.cells #[.string o, .int .i64 nd.n, .int .i64 (l : Int), .int .i64 (rr : Int)] 65)).drew).cell? ⟨w.heap.size, rr, none⟩ = some (.int .i64 zb) := by
            refine ⟨?_, ?_, ?_, ?_, ?_⟩ <;> go_simp
          go_region_held3 (fun W => W.cell? ⟨wr.heap.size, 0, none⟩ = some (.string o) ∧ W.cell? ⟨wr.heap.size, 2, none⟩ = some (.int .i64 (l : Int)) ∧ W.cell? ⟨wr.heap.size, 3, none⟩ = some (.int .i64 (rr : Int)) ∧ W.cell? ⟨w.heap.size, l, none⟩ = some (.int .i64 za) ∧ W.cell? ⟨w.heap.size, rr, none⟩ = some (.int .i64 zb)) (first | exact S0 | exact S1) (first | (go_at_call 19; refine (rtwo_z HZ.out.1 HZ.out.2 _).mono ?_; rintro e w' ⟨rfl, rfl⟩))
          all_goals go_wp2
          all_goals go_roundg (m - (i + 1))
          case measure => omega
          case rel => exact ⟨i + 1, by omega, by omega, by go_num, ((HEV1.out.step HTI.out hi HV.out).grow ((Below.refl _ _).alloc (Nat.le_refl _) _)).grow ((Below.refl _ _).drew)⟩
      · obtain rfl : i = m := by omega
        have e2 : wr.cell? ⟨w.heap.size, r, none⟩ = some (.int .i64 (T.eval n t v)) := hev.cell hrl HR.out.2.2.1
        have HB := Lib.hid hev.below
        clear hev
        go_wp2
        go_ret
        exact ⟨rfl, HB.out⟩
end Go.Proofs.YtlkaaembeakicaaDoor.Ex
