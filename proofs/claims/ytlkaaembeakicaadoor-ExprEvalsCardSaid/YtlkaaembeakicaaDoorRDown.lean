/-
  The document's reader: all that binds as much is applied. Conditions: the reader keeps what it keeps, a value is complete.
-/
import Derived.Test.YtlkaaembeakicaaDoorRMach
import Derived.Deep.LoopGhost
namespace Go.Proofs.YtlkaaembeakicaaDoor.Ex
open Go.RowKit
/-- The state of the loop: what is left to be joined gives what was to be. -/
def DR (w0 : World) (p x level : Nat) (s : St) (k : Nat) (w : World) : Prop :=
  k ≤ 1000 ∧ ∃ st, RM w0 p x st w ∧ st.Inv ∧ st.complete = true ∧ st.opn = s.opn ∧ st.parts = s.parts ∧ joinL level st.vals st.waits = joinL level s.vals s.waits ∧ st.waits.length = k
theorem DR.done {w0 : World} {p x level : Nat} {s : St} {w : World} {st : St} (h : RM w0 p x st w) (hc : st.complete = true) (h1 : st.opn = s.opn) (h2 : st.parts = s.parts)
    (hj : joinL level st.vals st.waits = joinL level s.vals s.waits) (hs : joinL level st.vals st.waits = (st.vals, st.waits)) (hsc : s.complete = true) : RM w0 p x (s.join level) w := by
  have e : s.join level = st := by
    unfold St.join
    rw [← hj, hs, ← h1, ← h2, hsc, ← hc]
  rw [e]; exact h
theorem rank_q {s : ByteArray} {r : Nat} (h : rankOf s.data.toList = r) (W : World) (k : Nat) : Calls Tryd.prog 25 #[.string s] (W.drewN k) fun e w' => e = .returned (.int .i64 (r : Nat)) ∧ ∃ m, w' = W.drewN m :=
  (rank_at s (W.drewN k) h).mono fun _ _ ⟨a, b⟩ => ⟨a, k, b.symm⟩
set_option maxRecDepth 20000 in
set_option maxHeartbeats 4000000 in
theorem down_any {w0 w : World} {p x level : Nat} {s : St} (h : RM w0 p x s w) (hi : s.Inv) (hc : s.complete = true) (hl1 : 1 ≤ level) (hl6 : level ≤ 6) (hn : s.waits.length ≤ 1000) :
    Calls Tryd.prog 27 #[ptr p, .int .i64 level] w fun e w' => e = .returned (.tuple #[]) ∧ RM w0 p x (s.join level) w' := by
  have HS : Hid (DR w0 p x level s s.waits.length w) := Lib.hid ⟨hn, s, h, hi, hc, rfl, rfl, rfl, rfl⟩
  have HC := Lib.hid hc
  clear h hi hc
  go_enter Tryd.func27, Tryd.ntmps27
  go_wp2
  go_loopg [] s.waits.length (fun k wr => DR w0 p x level s k wr)
  case atStart => exact HS.out
  case round =>
    obtain ⟨hk1, st, hm, hi, hc, h1, h2, hj, hk⟩ := hrel
    match hw : st.waits, hk with
    | [], hk =>
      have H : Hid (∀ n, RM w0 p x (s.join level) (wr.drewN n)) := Lib.hid fun n => DR.done (hm.drewN n) hc h1 h2 hj (by rw [hw]; rfl) HC.out
      obtain ⟨L, Ts, is, vL, vV, vW, hx, hg, ha, hl⟩ := hm
      have hv : vW = .slice none 0 0 ∨ ∃ g cap, vW = .slice (some ⟨g, 0, none⟩) 0 cap := by
        have r := hx.rowW
        rw [hw] at r
        rcases r.2 with ⟨e, _⟩ | ⟨g, cap, _, e, _⟩
        · exact .inl e
        · exact .inr ⟨g, cap, e⟩
      obtain ⟨c0, c1, c2, f0, f1, f2⟩ := rx_cells hx.blk
      have hp := lt_of_heap hx.blk
      clear hx hi hc h1 h2 hj hw hk hg ha hl
      rcases hv with rfl | ⟨g, cap, rfl⟩
      all_goals
        go_wp2_with fail
        go_quiet (fail)
        go_wp2
        go_end0
        exact ⟨rfl, H.out _⟩
    | (t, l) :: ws, hk =>
      have hws : ws.length ≤ 1000 := by simp at hk; omega
      have hwok := hi.ws (t, l) (by rw [hw]; simp)
      have hrk := wtx_rank hwok
      have hop := wtx_open hwok
      simp only at hrk hop
      obtain ⟨L, Ts, is, vL, vV, vW, hx, hg, ha, hl⟩ := hm
      have HM : Hid (RM w0 p x st wr) := Lib.hid ⟨L, Ts, is, vL, vV, vW, hx, hg, ha, hl⟩
      have hx' := hx
      rw [hw, List.map_cons] at hx'
      obtain ⟨g, cap, rfl, hgw, hnc, hcell⟩ := hx'.topW
      rw [List.length_map] at hnc hcell
      obtain ⟨o, ho⟩ : ∃ o : ByteArray, o = ⟨(wtx (t, l)).toArray⟩ := ⟨_, rfl⟩
      have hol : o.data.toList = wtx (t, l) := by rw [ho]
      rw [← ho] at hcell
      rw [← hol] at hrk hop
      clear ho
      obtain ⟨c0, c1, c2, f0, f1, f2⟩ := rx_cells hx.blk
      simp only [List.length_map] at c2
      have hp := lt_of_heap hx.blk
      have k2 : IntKind.i64.wrap (ws.length : Int) = (ws.length : Int) := IntWalk.i64_in _ (by omega)
      have HRK := Lib.hid hrk
      clear hx hx' hg ha hl hrk hol
      by_cases hle : level ≤ l
      · have hl0 : l ≠ 0 := by omega
        have q1 : (o.toList == [40]) = false := by
          rw [Lib.toList_data]; rw [beq_eq_false_iff_ne]; intro e; exact hl0 (hop.1 e)
        have q2 : (o.toList != [40]) = true := by rw [bne, q1]; rfl
        have q3 : (level : Int) ≤ (l : Int) := by omega
        have HF := Lib.hid (And.intro hi (And.intro hc (And.intro h1 (And.intro h2 (And.intro hj (And.intro hw hl0))))))
        have HK := Lib.hid hk
        clear hop hi hc h1 h2 hj hw hk hwok
        go_wp2_with fail
        go_quiet (first | (with_reducible exact rank_q HRK.out _ _))
        go_wp2_with (go_at_call 36; refine (apply_any (HM.out.drewN nq) HF.out.1 HF.out.2.1 HF.out.2.2.2.2.2.1 HF.out.2.2.2.2.2.2 hws).mono ?_; rintro e w1 ⟨rfl, hm1, hi1⟩; have HM1 := Lib.hid (And.intro hm1 hi1); clear hm1 hi1)
        go_roundg ws.length
        case measure => have := HK.out; simp at this; omega
        case rel =>
          obtain ⟨hi, hc, h1, h2, hj, hw, hl0⟩ := HF.out
          refine ⟨hws, _, HM1.out.1, HM1.out.2, hc, h1, h2, ?_, rfl⟩
          rw [← hj, hw]
          conv => rhs; unfold joinL
          rw [if_pos hle]
      · have H : Hid (∀ n, RM w0 p x (s.join level) (wr.drewN n)) := Lib.hid fun n => DR.done (HM.out.drewN n) hc h1 h2 hj (by rw [hw, joinL_stop hle]) HC.out
        clear hi hc h1 h2 hj hk hw hwok
        by_cases hl0 : l = 0
        · have q1 : (o.toList == [40]) = true := by
            rw [Lib.toList_data]; simpa using hop.2 hl0
          have q2 : (o.toList != [40]) = false := by rw [bne, q1]; rfl
          clear hop
          go_wp2_with fail
          go_quiet (fail)
          go_wp2
          go_end0
          exact ⟨rfl, H.out _⟩
        · have q1 : (o.toList == [40]) = false := by
            rw [Lib.toList_data]; rw [beq_eq_false_iff_ne]; intro e; exact hl0 (hop.1 e)
          have q2 : (o.toList != [40]) = true := by rw [bne, q1]; rfl
          have q3 : ¬ (level : Int) ≤ (l : Int) := by omega
          have q4 : (l : Int) < (level : Int) := by omega
          clear hop
          go_wp2_with fail
          go_quiet (first | (with_reducible exact rank_q HRK.out _ _))
          go_wp2
          go_end0
          exact ⟨rfl, H.out _⟩
end Go.Proofs.YtlkaaembeakicaaDoor.Ex
