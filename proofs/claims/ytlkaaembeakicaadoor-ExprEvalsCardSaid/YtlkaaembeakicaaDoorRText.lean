/-
  The document's Text: an expression's text is its tree's. Conditions: the expression lies as the document's reader laid it.
-/
import Derived.Test.YtlkaaembeakicaaDoorREval
namespace Go.Proofs.YtlkaaembeakicaaDoor.Ex
open Go.RowKit
theorem text_small {U : Tree} (h : U.WF) (hz : U.size ≤ 64) : U.text.length ≤ 1920 := by have := text_le h; omega
theorem sub_small {w : World} {L : List Nd} {Ts : List Tree} (hg : Good L Ts) {i : Nat} {a : Tree} (h : Ts[i]? = some a) {a0 : Addr} (hc : w.cell? a0 = some (.string ⟨a.text.toArray⟩)) :
    ∃ z : ByteArray, z.data.toList = a.text ∧ z.size ≤ 1920 ∧ w.cell? a0 = some (.string z) := by
  refine ⟨⟨a.text.toArray⟩, rfl, ?_, hc⟩
  have hm := List.mem_of_getElem? h
  have := text_small (hg.wf a hm) (hg.small a hm)
  show a.text.toArray.size ≤ 1920
  simpa using this
theorem tx {z : ByteArray} {l : Bs} (h : z.data.toList = l) : Value.string z = Value.string ⟨l.toArray⟩ := by rw [bytes_of h]
set_option maxRecDepth 20000 in
set_option maxHeartbeats 4000000 in
theorem rtext_any {w0 w : World} {x : Nat} {T : Tree} (h : RAt w0 x T w) (hT : T.size ≤ 64) :
    Calls Tryd.prog 14 #[ptr x] w fun e w' => e = .returned (.string ⟨T.text.toArray⟩) ∧ Below w.heap.size w w' := by
  obtain ⟨L, Ts, r, vL, hb, hr, hg, ht, hl⟩ := h
  obtain ⟨d0, d1, g0, g1⟩ := xx_cells hb
  have hx := lt_of_heap hb
  have hpos : 0 < L.length := by rw [hl]; exact T.size_pos
  have hrl : r < L.length := by rw [hg.len]; exact (List.getElem?_eq_some_iff.1 ht).1
  rcases hr.2 with ⟨_, h0⟩ | ⟨g, cap, cur, rfl, -, hgg, hcap, -⟩
  · omega
  · have hgl := lt_of_heap hgg
    obtain ⟨m, hm⟩ : ∃ m, L.length = m := ⟨_, rfl⟩
    have hm64 : m ≤ 64 := by omega
    obtain ⟨i0, hi, hz0, hz1, hz2⟩ := info_parts info9
    have hmk : (Instr.makeSlice 35 (.int .i64 (m : Int)) (.int .i64 (m : Int))).run Tryd.prog w = .ok (.slice (some ⟨w.heap.size, 0, none⟩) m m) (w.alloc (.cells (madeCells #[.string ⟨#[]⟩] m) 9)) := by
      have hr := run_make (P := Tryd.prog) w 35 9 i0 (.string ⟨#[]⟩) Tryd.underlying35 hi hz0 .i64 .i64 (m : Int) (m : Int) (by omega) (by omega) (by rw [hz2]; omega) (by omega)
      rw [hz1, Nat.mul_one, Int.toNat_natCast] at hr
      exact hr
    have HR := Lib.hid (And.intro hr (And.intro hg (And.intro ht hm)))
    rw [hm] at d0 hcap hrl hpos
    clear hb hr hg ht hgg hl hz0 hz1 hz2 hi
    have HEV : Hid (EV w m Ts (fun T => .string ⟨T.text.toArray⟩) 9 0 (w.alloc (.cells (madeCells #[.string ⟨#[]⟩] m) 9))) := Lib.hid (EV.start _ _ _ _ _ _)
    go_enter Tryd.func14, Tryd.ntmps14
    go_wp2
    go_loopg [4] m (fun k v4 wr => ∃ i : Nat, i ≤ m ∧ i + k = m ∧ v4 = .int .i64 i ∧ EV w m Ts (fun T => .string ⟨T.text.toArray⟩) 9 i wr)
    case atStart => exact ⟨0, Nat.zero_le _, by omega, rfl, HEV.out⟩
    case round =>
      obtain ⟨i, him, hik, rfl, hev⟩ := hrel
      have hlt := hev.lt
      have hxl : x < wr.heap.size := by omega
      have hgl2 : g < wr.heap.size := by omega
      have e0 : wr.cell? ⟨x, 0, none⟩ = some (.slice (some ⟨g, 0, none⟩) m cap) := by rw [hev.below.cell (p := ⟨x, 0, none⟩) hx]; exact d0
      have e1 : wr.cell? ⟨x, 1, none⟩ = some (.int .i64 (r : Int)) := by rw [hev.below.cell (p := ⟨x, 1, none⟩) hx]; exact d1
      by_cases hi : i < m
      · obtain ⟨nd, hnd⟩ : ∃ nd, L[i]? = some nd := ⟨_, List.getElem?_eq_getElem (by rw [HR.out.2.2.2]; exact hi)⟩
        obtain ⟨U, hU⟩ : ∃ U, Ts[i]? = some U := ⟨_, List.getElem?_eq_getElem (by rw [← HR.out.2.1.len, HR.out.2.2.2]; exact hi)⟩
        obtain ⟨n0, n1, n2, n3⟩ := node_cells HR.out.1 hgl hev.below hnd
        have hfit := HR.out.2.1.fit i nd U hnd hU
        have hwf := HR.out.2.1.wf U (List.mem_of_getElem? hU)
        obtain ⟨old, e9⟩ := hev.has hi
        have f9 := hev.free i
        have HTI := Lib.hid hU
        have HEV1 := Lib.hid hev
        cases U with
        | num k =>
          obtain ⟨f1, f2⟩ := hfit
          replace n0 := nd_op f1 n0
          rw [f2] at n1
          have hk : k < 1000000000000000000 := hwf
          clear hev hU hnd f1 f2 hwf
          go_wp2_with (go_at_call 28; refine (rdec_any k hk _).mono ?_; rintro e w1 ⟨rfl, hb1⟩; have hev1 := (HEV1.out.grow ((Below.refl _ _).alloc (Nat.le_refl _) _)).grow hb1; obtain ⟨old1, e91⟩ := hev1.has hi; have f91 := hev1.free i; have hlt1 := hev1.lt; have HEV2 := Lib.hid hev1; clear hev1 hb1)
          go_roundg (m - (i + 1))
          case measure => omega
          case rel => exact ⟨i + 1, by omega, by omega, by go_num, HEV2.out.step HTI.out hi rfl⟩
        | name c =>
          have f1 : nd.op = [c] := hfit
          replace n0 := nd_op f1 n0
          clear hev hU hnd f1 hfit
          rcases hwf with rfl | rfl | rfl
          all_goals
            go_wp2
            go_roundg (m - (i + 1))
            case measure => omega
            case rel => exact ⟨i + 1, by omega, by omega, by go_num, (HEV1.out.step HTI.out hi rfl).grow ((Below.refl _ _).alloc (Nat.le_refl _) _)⟩
        | pre sg a =>
          obtain ⟨f1, f2, f3⟩ := hfit
          obtain ⟨l, hl⟩ : ∃ l, nd.l = l := ⟨_, rfl⟩
          rw [hl] at n2 f2 f3
          obtain ⟨z, hz, hzs, e5⟩ := sub_small HR.out.2.1 f3 (show wr.cell? ⟨w.heap.size, l, none⟩ = some (.string ⟨a.text.toArray⟩) from hev.cell f2 f3)
          have HZ := Lib.hid hz
          replace n0 := nd_op f1 n0
          clear hev hU hnd f1 hl f3 hz
          rcases hwf.1 with rfl | rfl
          · clear hwf
            go_wp2
            go_roundg (m - (i + 1))
            case measure => omega
            case rel => exact ⟨i + 1, by omega, by omega, by go_num, (HEV1.out.step HTI.out hi (tx (by simp [Tree.text, HZ.out]))).grow ((Below.refl _ _).alloc (Nat.le_refl _) _)⟩
          · clear hwf
            go_wp2
            go_roundg (m - (i + 1))
            case measure => omega
            case rel => exact ⟨i + 1, by omega, by omega, by go_num, (HEV1.out.step HTI.out hi (tx (by simp [Tree.text, HZ.out]))).grow ((Below.refl _ _).alloc (Nat.le_refl _) _)⟩
        | bin sg a b =>
          obtain ⟨f1, f2, f3, f4, f5⟩ := hfit
          obtain ⟨l, hl⟩ : ∃ l, nd.l = l := ⟨_, rfl⟩
          obtain ⟨rr, hrr⟩ : ∃ l, nd.r = l := ⟨_, rfl⟩
          rw [hl] at n2 f2 f4
          rw [hrr] at n3 f3 f5
          obtain ⟨za, hza, hzas, e5⟩ := sub_small HR.out.2.1 f4 (show wr.cell? ⟨w.heap.size, l, none⟩ = some (.string ⟨a.text.toArray⟩) from hev.cell f2 f4)
          obtain ⟨zb, hzb, hzbs, e6⟩ := sub_small HR.out.2.1 f5 (show wr.cell? ⟨w.heap.size, rr, none⟩ = some (.string ⟨b.text.toArray⟩) from hev.cell f3 f5)
          replace n0 := nd_op f1 n0
          obtain ⟨o, ho⟩ : ∃ o : ByteArray, o = ⟨sg.toArray⟩ := ⟨_, rfl⟩
          have hol : o.data.toList = sg := by rw [ho]
          rw [← ho] at n0
          have hop : o.data.toList ∈ ops := by rw [hol]; exact hwf.1
          have hos : o.size ≤ 2 := by
            have h1 := (ops_len hop).1
            simpa using h1
          have q1 := op_not hop (l := [48]) (by decide)
          have q2 := op_not hop (l := [110]) (by decide)
          have q3 := op_not hop (l := [116]) (by decide)
          have q4 := op_not hop (l := [118]) (by decide)
          have q5 := op_not hop (l := [126]) (by decide)
          have q6 := op_not hop (l := [33]) (by decide)
          have HZ := Lib.hid (And.intro hza (And.intro hzb hol))
          clear hev hU hnd f1 hl hrr f4 f5 hza hzb ho hol hop hwf
          go_upto_region 7 with fail
          have hli : i ≠ l := by omega
          have hri : i ≠ rr := by omega
          have b1 : (l : Int) < (m : Int) := by omega
          have b2 : (rr : Int) < (m : Int) := by omega
          have b3 : (i : Int) < (m : Int) := by omega
          have b4 : (0 : Int) ≤ (l : Int) := by omega
          have b5 : (0 : Int) ≤ (rr : Int) := by omega
          go_region
          all_goals go_wp2
          all_goals go_roundg (m - (i + 1))
          case measure => omega
          case rel => exact ⟨i + 1, by omega, by omega, by go_num, ((HEV1.out.step HTI.out hi (tx (by simp [Tree.text, HZ.out.1, HZ.out.2.1, HZ.out.2.2]))).grow ((Below.refl _ _).alloc (Nat.le_refl _) _)).grow ((Below.refl _ _).drew)⟩
      · obtain rfl : i = m := by omega
        have e2 : wr.cell? ⟨w.heap.size, r, none⟩ = some (.string ⟨T.text.toArray⟩) := hev.cell hrl HR.out.2.2.1
        have HB := Lib.hid hev.below
        clear hev
        go_wp2
        go_ret
        exact ⟨rfl, HB.out⟩
end Go.Proofs.YtlkaaembeakicaaDoor.Ex
