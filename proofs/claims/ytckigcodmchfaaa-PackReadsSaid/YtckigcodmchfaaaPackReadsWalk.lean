/-
  The walk of a law: For every byte slice and every list of calls, a reader of pack answers each call just as the document's own reader does, fault by fault, and the document's examples hold. Conditions: none (the law looks at nothing longer than 4096).
-/
import Derived.Test.YtckigcodmchfaaaAwake
import Derived.Test.YtckigcodmchfaaaRef
import Derived.Test.YtckigcodmchfaaaRefRd
import Derived.Deep.QuietTactic
import Derived.BigQuiet
namespace Go.Proofs.Ytckigcodmchfaaa.packReads
open Go.RowKit
open Go.Proofs.Ytckigcodmchfaaa.Pk
set_option linter.unusedVariables false

theorem own_empty (w : World) : (w.alloc (.cells #[] 5)).ownsRow w.heap.size 5 1 (.slice (some ⟨w.heap.size, 0, none⟩) 0 0) 0 (cells []) :=
  ⟨rfl, .inr ⟨w.heap.size, 0, #[], rfl, Nat.le_refl _, heap_alloc_new w _, Nat.le_refl _, Nat.zero_le _, rfl, rfl⟩⟩
theorem own_below {w w' : World} {base n : Nat} {v : Value} {xs : List Value} (h : w.ownsRow base 5 1 v n xs) (hb : Below w.heap.size w w') : w'.ownsRow base 5 1 v n xs := by
  refine ⟨h.1, ?_⟩
  rcases h.2 with h2 | ⟨g, cap, cur, hv, hg, hh, r⟩
  · exact .inl h2
  · have hlt : g < w.heap.size := by
      rcases Nat.lt_or_ge g w.heap.size with q | q
      · exact q
      · rw [Array.getElem?_eq_none q] at hh; cases hh
    exact .inr ⟨g, cap, cur, hv, hg, (hb.block g hlt).trans hh, r⟩
theorem below_empty {w w1 : World} (hg : (w.alloc (.cells #[] 5)).grownBy w1 (Value.ownBlock (.slice (some ⟨w.heap.size, 0, none⟩) 0 0))) : Below w.heap.size w w1 :=
  ((Below.refl _ _).alloc (Nat.le_refl _) _).grown hg (by simp) (fun k e => by simp [Value.ownBlock] at e; omega)
theorem below_one {B g : Nat} {a w w' : World} (h : Below B a w) (hg : w.grownBy w' (some g)) (hB : B ≤ g) (hs : B ≤ a.heap.size) : Below B a w' :=
  h.grown hg (Nat.le_trans hs h.size) (fun k e => by injection e with e; omega)
theorem rnum_dead {w : World} {g : Nat} (h : Rd w g true []) : Calls Try.prog 18 #[.pointer (some ⟨g, 0, none⟩)] w fun e w' => e = .returned (.int .i64 0) ∧ Rd w' g true [] ∧ w.grownBy w' (some g) := by
  refine (rnum_any h).mono ?_
  rintro e w' ⟨rfl, hr, hg⟩
  exact ⟨rfl, hr, hg⟩
theorem rtext_dead {w : World} {g : Nat} (h : Rd w g true []) : Calls Try.prog 20 #[.pointer (some ⟨g, 0, none⟩)] w fun e w' => e = .returned (.string ⟨#[]⟩) ∧ Rd w' g true [] ∧ w.grownBy w' (some g) := by
  refine (rtext_any h).mono ?_
  rintro e w' ⟨s, rfl, hs, hr, hg⟩
  refine ⟨?_, hr, hg⟩
  rw [bytes_of hs]
  rfl

/-- A new reader, told by the blocks that it hangs on: those that the call made. -/
def FarRd (w : World) (l : List UInt8) (e : Ending) (w' : World) : Prop :=
  ∃ g, e = .returned (.pointer (some ⟨g, 0, none⟩)) ∧ w.heap.size ≤ g ∧ g < w'.heap.size ∧ Below w.heap.size w w' ∧ ∀ W : World, (∀ k, w.heap.size ≤ k → k ≤ g → W.heap[k]? = w'.heap[k]?) → Rd W g false l
theorem far_of {w w1 W : World} {l : List UInt8} {A : Option Addr} {c : Nat} (hown : w1.ownsRow w.heap.size 5 1 (.slice A l.length c) l.length (cells l)) (hc1 : l.length ≤ c) (hc2 : c ≤ maxLen)
    (hW : ∀ k, w.heap.size ≤ k → k ≤ w1.heap.size → W.heap[k]? = (w1.alloc (.cells #[.slice A l.length c, .bool false] 49)).heap[k]?) (hs : w.heap.size ≤ w1.heap.size) : Rd W w1.heap.size false l := by
  refine ⟨A, c, (hW _ hs (Nat.le_refl _)).trans (heap_alloc_new w1 _), hc1, hc2, fun k x hx => ?_⟩
  obtain ⟨b, o, rfl, hb, hc⟩ := Lies.of_own hown k x hx
  have hbase := (hown.lt b rfl).1
  refine ⟨b, o, rfl, hb, ?_⟩
  have e1 : W.cell? ⟨b, o + k, none⟩ = (w1.alloc (.cells #[.slice (some ⟨b, o, none⟩) l.length c, .bool false] 49)).cell? ⟨b, o + k, none⟩ := World.cell?_of_block (hW b hbase (by omega))
  rw [e1, World.cell?_alloc_lt _ _ _ hb]
  exact hc
set_option maxHeartbeats 400000 in
theorem new_far {A : Option Addr} {m c : Nat} {l : List UInt8} {w : World} (hl : l.length = m) (hb : m ≤ 140737488355000) (h : Lies w w.heap.size A l) :
    Calls Try.prog 17 #[.slice A m c] w (FarRd w l) := by
  subst hl
  go_enter Try.func17, Try.ntmps17
  go_wp2_with (go_at_call 29; refine (grown_any 0 rfl rfl (by omega) h).mono ?_; rintro e w1 ⟨v, rfl, hown, hbel⟩; obtain ⟨A', c', rfl, -, hc1, hc2, hlies, -⟩ := own_form hown)
  go_ret
  refine ⟨w1.heap.size, rfl, hbel.size, by simp, hbel.alloc hbel.size _, fun W hW => far_of hown hc1 hc2 hW hbel.size⟩

/-- A place of a row of one's own: it may be written. -/
theorem own_at {w : World} {base n c k : Nat} {A : Option Addr} {xs : List Value} (h : w.ownsRow base 5 1 (.slice A n c) n xs) (hk : k < n) :
    ∃ g, A = some ⟨g, 0, none⟩ ∧ base ≤ g ∧ g < w.heap.size ∧ (∃ u, w.cell? ⟨g, k, none⟩ = some u) ∧ w.frozen? ⟨g, k, none⟩ = false ∧
      ∀ u, (w.setCell ⟨g, k, none⟩ u).ownsRow base 5 1 (.slice A n c) n (xs.set k u) ∧ w.grownBy (w.setCell ⟨g, k, none⟩ u) (some g) := by
  have hl := h.lt
  rcases h.2 with ⟨_, h0⟩ | ⟨g, cap, cur, hv, _, _⟩
  · omega
  · injection hv with hA _ hc
    subst hA hc
    have hlt := hl g rfl
    have hx : k < xs.length := by have := h.1; omega
    exact ⟨g, rfl, hlt.1, hlt.2, ⟨_, (h.cellAt k (by omega)).trans (List.getElem?_eq_getElem hx)⟩, h.frozenAt k, fun u => h.stored k u⟩

/-- The integers of a slice that came in. -/
theorem ints_at {w : World} {a : Option Addr} {len cap : Nat} {zs : List Int} (h : IsRow .i64 w a len cap zs) {k : Nat} (hk : k < len) : ∃ b o v, a = some ⟨b, o, none⟩ ∧ b < w.heap.size ∧ w.cell? ⟨b, o + k, none⟩ = some (.int .i64 v) := by
  rcases h with ⟨_, rfl, _⟩ | ⟨x, rfl, h1, h2, h3, h4, h5⟩
  · omega
  · obtain ⟨b, o, sp⟩ := x
    have h0 := h4 0 (by omega)
    have hsp : sp = none := by simpa [Addr.add] using World.cell?_spot h0
    subst hsp
    have hc := h4 k (by omega)
    rw [Addr.add_lit] at hc
    exact ⟨b, o, _, rfl, cell_block_lt hc, hc⟩

theorem rr_keep {w w' : World} {g g2 B : Nat} {bad : Bool} {l : List UInt8} (h : Rr B w g2 bad l) (hg : w.grownBy w' (some g)) (hne : g ≠ g2) (hB : B ≤ g) (hB2 : B ≤ w.heap.size) : Rr B w' g2 bad l := by
  have hlt := h.lt
  obtain ⟨A, c, hh, h1, h2, h3⟩ := h
  exact ⟨A, c, (hg.block g2 hlt (fun e => hne (by injection e with e; exact e.symm))).trans hh, h1, h2, h3.grown hg hB2 (fun k e => by injection e with e; omega)⟩
theorem rd_keep {w w' : World} {g g2 : Nat} {bad : Bool} {l : List UInt8} (h : Rd w g bad l) (hg : w.grownBy w' (some g2)) (hlt : g < g2) : Rd w' g bad l := by
  have hl := h.lt
  obtain ⟨A, c, hh, h1, h2, h3⟩ := h
  refine ⟨A, c, (hg.block g hl (fun e => by injection e with e; omega)).trans hh, h1, h2, h3.grown hg (by omega) (fun k e => by injection e with e; omega)⟩

/-- The two readers side by side: both good with the same bytes left, or both bad. -/
def Pair (w : World) (g g2 : Nat) (bad : Bool) (l : List UInt8) (W : World) : Prop :=
  Rd W g bad l ∧ (∃ lr, Rr w.heap.size W g2 bad lr ∧ (bad = false → lr = l)) ∧ (bad = true → l = []) ∧ Below w.heap.size w W
theorem rrnum_dead {w : World} {g B : Nat} {l : List UInt8} (hB : B ≤ g) (h : Rr B w g true l) : Calls Try.prog 19 #[.pointer (some ⟨g, 0, none⟩)] w fun e w' => e = .returned (.int .i64 0) ∧ (∃ l', Rr B w' g true l') ∧ w.grownBy w' (some g) := by
  refine (rrnum_any hB h).mono ?_
  rintro e w' ⟨rfl, ⟨l', hr, _⟩, hg⟩
  exact ⟨rfl, ⟨l', hr⟩, hg⟩
theorem rrtext_dead {w : World} {g B : Nat} {l : List UInt8} (hB : B ≤ g) (h : Rr B w g true l) : Calls Try.prog 21 #[.pointer (some ⟨g, 0, none⟩)] w fun e w' => e = .returned (.string ⟨#[]⟩) ∧ (∃ l', Rr B w' g true l') ∧ w.grownBy w' (some g) := by
  refine (rrtext_any hB h).mono ?_
  rintro e w' ⟨rfl, ⟨l', hr, _⟩, hg⟩
  exact ⟨rfl, ⟨l', hr⟩, hg⟩
theorem rtext_val {w : World} {g : Nat} {bad : Bool} {l : List UInt8} (h : Rd w g bad l) : Calls Try.prog 20 #[.pointer (some ⟨g, 0, none⟩)] w fun e w' => e = .returned (.string ⟨(txtVal bad l).toArray⟩) ∧ Rd w' g (txtBad bad l) (txtLeft bad l) ∧ w.grownBy w' (some g) := by
  refine (rtext_any h).mono ?_
  rintro e w' ⟨s, rfl, hs, hr, hg⟩
  exact ⟨by rw [bytes_of hs], hr, hg⟩
theorem num_empty {l : List UInt8} (h : numBad false l = true) : numLeft false l = [] := by
  unfold numBad at h
  cases hd : dec l with
  | none => simp [numLeft, hd]
  | some p => rw [hd] at h; simp at h
theorem txt_empty {l : List UInt8} (h : txtBad false l = true) : txtLeft false l = [] := by
  have : txtOk false l = false := by simpa [txtBad] using h
  unfold txtLeft
  rw [this]
  rfl
theorem quiet_same {P : Program} {f : FuncId} {args : Array Value} {w : World} {n : Nat} {v : Value}
    (h : Calls P f args (w.drewN n) fun e w' => e = .returned v ∧ w.drewN n = w') : Calls P f args (w.drewN n) fun e w'' => e = .returned v ∧ ∃ m, w'' = w.drewN m :=
  h.mono fun _ _ ⟨he, hm⟩ => ⟨he, n, hm.symm⟩
theorem done_good {w : World} {g : Nat} {l : List UInt8} (h : Rd w g false l) : Calls Try.prog 25 #[.pointer (some ⟨g, 0, none⟩)] w fun e w' => e = .returned (.bool ((l.length : Int) == 0)) ∧ w = w' := by
  refine (done_any h).mono ?_
  rintro e w' ⟨rfl, rfl⟩
  refine ⟨?_, rfl⟩
  have e : ((l.length : Int) == 0) = decide (l.length = 0) := by
    by_cases q : l.length = 0
    · simp [q]
    · rw [decide_eq_false q]; simpa using q
  rw [e]
  rfl
theorem done_bad {w : World} {g : Nat} {l : List UInt8} (h : Rd w g true l) : Calls Try.prog 25 #[.pointer (some ⟨g, 0, none⟩)] w fun e w' => e = .returned (.bool false) ∧ w = w' := (done_any h).mono fun _ _ ⟨he, hw⟩ => ⟨he, hw⟩
theorem left_dead {w : World} {g : Nat} (h : Rd w g true []) : Calls Try.prog 22 #[.pointer (some ⟨g, 0, none⟩)] w fun e w' => e = .returned (.int .i64 0) ∧ w = w' := left_any h
theorem rrleft_good {w : World} {g B : Nat} {l : List UInt8} (h : Rr B w g false l) : Calls Try.prog 23 #[.pointer (some ⟨g, 0, none⟩)] w fun e w' => e = .returned (.int .i64 l.length) ∧ w = w' := rrleft_any h
theorem rrleft_dead {w : World} {g B : Nat} {l : List UInt8} (h : Rr B w g true l) : Calls Try.prog 23 #[.pointer (some ⟨g, 0, none⟩)] w fun e w' => e = .returned (.int .i64 0) ∧ w = w' := rrleft_any h
theorem Pair.after {w W W1 : World} {g g2 : Nat} {bad : Bool} {l : List UInt8} (h : Pair w g g2 bad l W) (n : Nat) (hW : W1 = W.drewN n) : Pair w g g2 bad l W1 := by
  subst hW
  exact ⟨h.1, h.2.1, h.2.2.1, below_drewN h.2.2.2 n⟩
theorem rr_drewN {w : World} {g B : Nat} {bad : Bool} {l : List UInt8} (h : Rr B w g bad l) (n : Nat) : Rr B (w.drewN n) g bad l := h
theorem Pair.new {w W : World} {g g2 : Nat} {bad : Bool} {l lr : List UInt8} (h1 : Rd W g bad l) (h2 : Rr w.heap.size W g2 bad lr) (h3 : bad = false → lr = l) (h4 : bad = true → l = []) (h5 : Below w.heap.size w W) : Pair w g g2 bad l W := ⟨h1, ⟨lr, h2, h3⟩, h4, h5⟩

set_option maxRecDepth 100000 in
set_option maxHeartbeats 4000000 in
theorem walk (a0 : Option Addr) (len0 cap0 : Nat) (z0 : List Int) (a1 : Option Addr) (len1 cap1 : Nat) (z1 : List Int) (w : World) (w0 : IsRow .u8 w a0 len0 cap0 z0) (w1 : IsRow .i64 w a1 len1 cap1 z1) :
    Calls Try.prog 4 #[.slice a0 len0 cap0, .slice a1 len1 cap1] w fun e w' => e = .returned (.bool true) ∧ Below w.heap.size w w' := by
  obtain ⟨l, hl, h1, h2, hlies⟩ := lies_of_row w0
  subst hl
  clear w0
  by_cases hbig : 4096 < l.length
  · have hb : (4096 : Int) < (l.length : Int) := by omega
    clear hlies
    go_enter Try.func4, Try.ntmps4
    go_wp2
    go_ret
    exact ⟨rfl, Below.refl _ _⟩
  · have hb : ¬ (4096 : Int) < (l.length : Int) := by omega
    by_cases hbig2 : 4096 < len1
    · have hb2 : (4096 : Int) < (len1 : Int) := by omega
      clear hlies w1
      go_enter Try.func4, Try.ntmps4
      go_wp2
      go_ret
      exact ⟨rfl, Below.refl _ _⟩
    · have hb2 : ¬ (4096 : Int) < (len1 : Int) := by omega
      go_enter Try.func4, Try.ntmps4
      go_wp2_with (first
        | (at_builtin; refine wpList_append_bytes rfl (.tmp 18) (.tmp 19) rfl w.heap.size _ 0 [] rfl (own_empty w) a0 l.length cap0 l rfl rfl w.heap.size (hlies.alloc (Nat.le_refl _) _) (by omega) (by simp) ?_; intro v1 wA ho1 hg1; have hb1 := below_empty hg1; clear hg1; simp only [Nat.zero_add, List.nil_append] at ho1; obtain ⟨A1, c1, rfl, -, -, -, hlies1, -⟩ := own_form ho1)
        | (go_at_call 17; refine (new_far rfl (by omega) hlies1).mono ?_; rintro e wB ⟨g, rfl, hg, hgl, hb2', hfar⟩; have hoB := own_below ho1 hb2'; have hbB := hb1.trans (hb2'.mono hb1.size); have hlt1 := ho1.lt; clear hlies1 ho1))
      have hgw : w.heap.size ≤ g := Nat.le_trans hb1.size hg
      go_loopw [7] (fun i wr => ∃ (k : Nat) (xs : List Value), k ≤ l.length ∧ i = .int .i64 k ∧ wr.ownsRow w.heap.size 5 1 (.slice A1 l.length c1) l.length xs ∧ wB.grownBy wr (Value.ownBlock (.slice A1 l.length c1))) (fun i _ => l.length - (intOf i).toNat)
      case atStart => exact ⟨0, _, Nat.zero_le _, rfl, hoB, World.grownBy.refl _ _⟩
      case round =>
        obtain ⟨k, xs, hk, rfl, hown, hgr⟩ := hrel
        by_cases hlt : k < l.length
        · obtain ⟨g1, rfl, -, -, ⟨u, hcu⟩, hfu, hset⟩ := own_at hown hlt
          have R := Lib.hid (hset (.int .u8 99))
          have hlt' : (k : Int) < (l.length : Int) := by omega
          clear hset hfar hlies
          go_wp2_with fail
          go_roundw
          case rel => exact ⟨k + 1, _, by omega, by go_num, R.out.1, grownBy_trans hgr R.out.2⟩
          case measure => simp [intOf]; omega
        · rename World => wq
          have hRd : Rd wq g false l := hfar wq (fun j hj hjg => hgr.block j (by omega) (fun e => by have := (hlt1 j e.symm).2; omega))
          have hBr : Below w.heap.size w wq := hbB.grown hgr hbB.size (fun j e => (hlt1 j e).1)
          have hsz : g < wq.heap.size := Nat.lt_of_lt_of_le hgl hgr.size
          have hge' : (l.length : Int) ≤ (k : Int) := by omega
          have hl0 : Lies (wq.alloc (.cells #[.slice a0 l.length cap0, .bool false] 35)) w.heap.size a0 l := (hlies.below hBr).alloc hBr.size _
          have hP0 : Pair w g wq.heap.size false l (wq.alloc (.cells #[.slice a0 l.length cap0, .bool false] 35)) :=
            ⟨hRd.below ((Below.refl _ _).alloc (Nat.le_refl _) _) hsz, ⟨l, ⟨a0, cap0, heap_alloc_new _ _, h1, h2, hl0⟩, fun _ => rfl⟩, (fun e => absurd e (by decide)), hBr.alloc hBr.size _⟩
          have hwg2 : w.heap.size ≤ wq.heap.size := hBr.size
          clear hfar hown hgr hRd hl0 hlies hoB hlt1 hBr
          go_wp2_with fail
          go_loopw [9] (fun i wx => ∃ (k2 : Nat) (bad : Bool) (lp : List UInt8), k2 ≤ len1 ∧ i = .int .i64 k2 ∧ Pair w g wq.heap.size bad lp wx) (fun i _ => len1 - (intOf i).toNat)
          case atStart => exact ⟨0, false, l, Nat.zero_le _, rfl, hP0⟩
          case round =>
            clear hP0
            obtain ⟨k2, bad, lp, hk2, rfl, hP⟩ := hrel
            by_cases hlt2 : k2 < len1
            · obtain ⟨b, o, v, rfl, hbv, hcv⟩ := ints_at w1 hlt2
              have hcx : wr.cell? ⟨b, o + k2, none⟩ = some (.int .i64 v) := (hP.2.2.2.cell hbv).trans hcv
              have hlt2' : (k2 : Int) < (len1 : Int) := by omega
              clear hcv
              obtain ⟨hrd, ⟨lr, hrr, hlr⟩, hdead, hbx⟩ := hP
              by_cases v0 : v = 0
              · subst v0
                cases bad
                · obtain rfl := hlr rfl
                  clear hdead hlr
                  go_wp2_with (first
                    | (go_at_call 18; refine (rnum_any hrd).mono ?_; rintro e wy ⟨rfl, hrdy, hgy⟩; have hrry := rr_keep hrr hgy (Nat.ne_of_lt hsz) hgw hbx.size; have hby := below_one hbx hgy hgw (Nat.le_refl _))
                    | (go_at_call 19; refine (rrnum_any hwg2 hrry).mono ?_; rintro e WW ⟨rfl, ⟨lz, hrrz, hlz⟩, hgz⟩; have hrdz := rd_keep hrdy hgz hsz; have hbz := below_one hby hgz hwg2 (Nat.le_refl _); have hP : Pair w g wq.heap.size _ _ WW := Pair.new hrdz hrrz hlz num_empty hbz; clear hrdy hrry hby hgy hgz hrdz hrrz hlz hbz))
                  obtain ⟨nb, nl, hPn⟩ : ∃ nb nl, Pair w g wq.heap.size nb nl WW := ⟨_, _, hP⟩
                  clear hP
                  cases nb
                  · obtain ⟨hrdx, ⟨lrx, hrrx, hlrx⟩, -, -⟩ := id hPn
                    obtain rfl := hlrx rfl
                    clear hlrx
                    obtain ⟨Ax, cx, hhx, hx1, hx2, hx3⟩ := id hrrx
                    have hcx0 : WW.cell? ⟨wq.heap.size, 0, none⟩ = some (.slice Ax lrx.length cx) := cell_blk (i := 0) hhx rfl
                    have hcx1 : WW.cell? ⟨wq.heap.size, 1, none⟩ = some (.bool false) := cell_blk (i := 1) hhx rfl
                    have hxm : lrx.length ≤ maxLen := Nat.le_trans hx1 hx2
                    unfold maxLen at hxm
                    clear hhx hx1 hx2 hx3
                    go_quiet ((first | (go_at_call 22; exact quiet_same (left_any (hrdx.drewN _))) | (go_at_call 23; exact quiet_same (rrleft_good (rr_drewN hrrx _))) | (go_at_call 24; exact quiet_same (bad_any (hrdx.drewN _))) | (go_at_call 25; exact quiet_same (done_good (hrdx.drewN _)))))
                    go_wp2_with fail
                    go_roundw
                    case rel => exact ⟨k2 + 1, false, lrx, by omega, by go_num, hPn.after _ rfl⟩
                    case measure => simp [intOf]; omega
                  · obtain ⟨hrdx, ⟨lrx, hrrx, -⟩, hnx, -⟩ := id hPn
                    obtain rfl := hnx rfl
                    clear hnx
                    obtain ⟨Ax, cx, hhx, hx1, hx2, hx3⟩ := id hrrx
                    have hcx1 : WW.cell? ⟨wq.heap.size, 1, none⟩ = some (.bool true) := cell_blk (i := 1) hhx rfl
                    clear hhx hx1 hx2 hx3
                    go_quiet ((first | (go_at_call 22; exact quiet_same (left_dead (hrdx.drewN _))) | (go_at_call 23; exact quiet_same (rrleft_dead (rr_drewN hrrx _))) | (go_at_call 24; exact quiet_same (bad_any (hrdx.drewN _))) | (go_at_call 25; exact quiet_same (done_bad (hrdx.drewN _)))))
                    go_wp2_with fail
                    go_roundw
                    case rel => exact ⟨k2 + 1, true, [], by omega, by go_num, hPn.after _ rfl⟩
                    case measure => simp [intOf]; omega
                · obtain rfl := hdead rfl
                  clear hdead hlr
                  go_wp2_with (first
                    | (go_at_call 18; refine (rnum_dead hrd).mono ?_; rintro e wy ⟨rfl, hrdy, hgy⟩; have hrry := rr_keep hrr hgy (Nat.ne_of_lt hsz) hgw hbx.size; have hby := below_one hbx hgy hgw (Nat.le_refl _))
                    | (go_at_call 19; refine (rrnum_dead hwg2 hrry).mono ?_; rintro e WW ⟨rfl, ⟨lz, hrrz⟩, hgz⟩; have hrdz := rd_keep hrdy hgz hsz; have hbz := below_one hby hgz hwg2 (Nat.le_refl _); have hPn : Pair w g wq.heap.size true [] WW := Pair.new hrdz hrrz (fun e => absurd e (by decide)) (fun _ => rfl) hbz; clear hrdy hrry hby hgy hgz hrdz hrrz hbz))
                  obtain ⟨hrdx, ⟨lrx, hrrx, -⟩, hnx, -⟩ := id hPn
                  clear hnx
                  obtain ⟨Ax, cx, hhx, hx1, hx2, hx3⟩ := id hrrx
                  have hcx1 : WW.cell? ⟨wq.heap.size, 1, none⟩ = some (.bool true) := cell_blk (i := 1) hhx rfl
                  clear hhx hx1 hx2 hx3
                  go_quiet ((first | (go_at_call 22; exact quiet_same (left_dead (hrdx.drewN _))) | (go_at_call 23; exact quiet_same (rrleft_dead (rr_drewN hrrx _))) | (go_at_call 24; exact quiet_same (bad_any (hrdx.drewN _))) | (go_at_call 25; exact quiet_same (done_bad (hrdx.drewN _)))))
                  go_wp2_with fail
                  go_roundw
                  case rel => exact ⟨k2 + 1, true, [], by omega, by go_num, hPn.after _ rfl⟩
                  case measure => simp [intOf]; omega
              · by_cases v1 : v = 1
                · subst v1
                  cases bad
                  · obtain rfl := hlr rfl
                    clear hdead hlr
                    go_wp2_with (first
                      | (go_at_call 20; refine (rtext_val hrd).mono ?_; rintro e wy ⟨rfl, hrdy, hgy⟩; have hrry := rr_keep hrr hgy (Nat.ne_of_lt hsz) hgw hbx.size; have hby := below_one hbx hgy hgw (Nat.le_refl _))
                      | (go_at_call 21; refine (rrtext_any hwg2 hrry).mono ?_; rintro e WW ⟨rfl, ⟨lz, hrrz, hlz⟩, hgz⟩; have hrdz := rd_keep hrdy hgz hsz; have hbz := below_one hby hgz hwg2 (Nat.le_refl _); have hP : Pair w g wq.heap.size _ _ WW := Pair.new hrdz hrrz hlz txt_empty hbz; clear hrdy hrry hby hgy hgz hrdz hrrz hlz hbz))
                    obtain ⟨nb, nl, hPn⟩ : ∃ nb nl, Pair w g wq.heap.size nb nl WW := ⟨_, _, hP⟩
                    clear hP
                    cases nb
                    · obtain ⟨hrdx, ⟨lrx, hrrx, hlrx⟩, -, -⟩ := id hPn
                      obtain rfl := hlrx rfl
                      clear hlrx
                      obtain ⟨Ax, cx, hhx, hx1, hx2, hx3⟩ := id hrrx
                      have hcx0 : WW.cell? ⟨wq.heap.size, 0, none⟩ = some (.slice Ax lrx.length cx) := cell_blk (i := 0) hhx rfl
                      have hcx1 : WW.cell? ⟨wq.heap.size, 1, none⟩ = some (.bool false) := cell_blk (i := 1) hhx rfl
                      have hxm : lrx.length ≤ maxLen := Nat.le_trans hx1 hx2
                      unfold maxLen at hxm
                      clear hhx hx1 hx2 hx3
                      go_quiet ((first | (go_at_call 22; exact quiet_same (left_any (hrdx.drewN _))) | (go_at_call 23; exact quiet_same (rrleft_good (rr_drewN hrrx _))) | (go_at_call 24; exact quiet_same (bad_any (hrdx.drewN _))) | (go_at_call 25; exact quiet_same (done_good (hrdx.drewN _)))))
                      go_wp2_with fail
                      go_roundw
                      case rel => exact ⟨k2 + 1, false, lrx, by omega, by go_num, hPn.after _ rfl⟩
                      case measure => simp [intOf]; omega
                    · obtain ⟨hrdx, ⟨lrx, hrrx, -⟩, hnx, -⟩ := id hPn
                      obtain rfl := hnx rfl
                      clear hnx
                      obtain ⟨Ax, cx, hhx, hx1, hx2, hx3⟩ := id hrrx
                      have hcx1 : WW.cell? ⟨wq.heap.size, 1, none⟩ = some (.bool true) := cell_blk (i := 1) hhx rfl
                      clear hhx hx1 hx2 hx3
                      go_quiet ((first | (go_at_call 22; exact quiet_same (left_dead (hrdx.drewN _))) | (go_at_call 23; exact quiet_same (rrleft_dead (rr_drewN hrrx _))) | (go_at_call 24; exact quiet_same (bad_any (hrdx.drewN _))) | (go_at_call 25; exact quiet_same (done_bad (hrdx.drewN _)))))
                      go_wp2_with fail
                      go_roundw
                      case rel => exact ⟨k2 + 1, true, [], by omega, by go_num, hPn.after _ rfl⟩
                      case measure => simp [intOf]; omega
                  · obtain rfl := hdead rfl
                    clear hdead hlr
                    go_wp2_with (first
                      | (go_at_call 20; refine (rtext_dead hrd).mono ?_; rintro e wy ⟨rfl, hrdy, hgy⟩; have hrry := rr_keep hrr hgy (Nat.ne_of_lt hsz) hgw hbx.size; have hby := below_one hbx hgy hgw (Nat.le_refl _))
                      | (go_at_call 21; refine (rrtext_dead hwg2 hrry).mono ?_; rintro e WW ⟨rfl, ⟨lz, hrrz⟩, hgz⟩; have hrdz := rd_keep hrdy hgz hsz; have hbz := below_one hby hgz hwg2 (Nat.le_refl _); have hPn : Pair w g wq.heap.size true [] WW := Pair.new hrdz hrrz (fun e => absurd e (by decide)) (fun _ => rfl) hbz; clear hrdy hrry hby hgy hgz hrdz hrrz hbz))
                    obtain ⟨hrdx, ⟨lrx, hrrx, -⟩, hnx, -⟩ := id hPn
                    clear hnx
                    obtain ⟨Ax, cx, hhx, hx1, hx2, hx3⟩ := id hrrx
                    have hcx1 : WW.cell? ⟨wq.heap.size, 1, none⟩ = some (.bool true) := cell_blk (i := 1) hhx rfl
                    clear hhx hx1 hx2 hx3
                    go_quiet ((first | (go_at_call 22; exact quiet_same (left_dead (hrdx.drewN _))) | (go_at_call 23; exact quiet_same (rrleft_dead (rr_drewN hrrx _))) | (go_at_call 24; exact quiet_same (bad_any (hrdx.drewN _))) | (go_at_call 25; exact quiet_same (done_bad (hrdx.drewN _)))))
                    go_wp2_with fail
                    go_roundw
                    case rel => exact ⟨k2 + 1, true, [], by omega, by go_num, hPn.after _ rfl⟩
                    case measure => simp [intOf]; omega
                · have t0 : (v == 0) = false := beq_eq_false_iff_ne.mpr v0
                  have t1 : (v == 1) = false := beq_eq_false_iff_ne.mpr v1
                  obtain ⟨WW, hWW⟩ : ∃ WW, WW = wr := ⟨_, rfl⟩
                  subst hWW
                  have hP : Pair w g wq.heap.size bad lp WW := ⟨hrd, ⟨lr, hrr, hlr⟩, hdead, hbx⟩
                  clear hrd hrr hlr hdead hbx v0 v1
                  go_wp2_with fail
                  obtain ⟨nb, nl, hPn⟩ : ∃ nb nl, Pair w g wq.heap.size nb nl WW := ⟨_, _, hP⟩
                  clear hP
                  cases nb
                  · obtain ⟨hrdx, ⟨lrx, hrrx, hlrx⟩, -, -⟩ := id hPn
                    obtain rfl := hlrx rfl
                    clear hlrx
                    obtain ⟨Ax, cx, hhx, hx1, hx2, hx3⟩ := id hrrx
                    have hcx0 : WW.cell? ⟨wq.heap.size, 0, none⟩ = some (.slice Ax lrx.length cx) := cell_blk (i := 0) hhx rfl
                    have hcx1 : WW.cell? ⟨wq.heap.size, 1, none⟩ = some (.bool false) := cell_blk (i := 1) hhx rfl
                    have hxm : lrx.length ≤ maxLen := Nat.le_trans hx1 hx2
                    unfold maxLen at hxm
                    clear hhx hx1 hx2 hx3
                    go_quiet ((first | (go_at_call 22; exact quiet_same (left_any (hrdx.drewN _))) | (go_at_call 23; exact quiet_same (rrleft_good (rr_drewN hrrx _))) | (go_at_call 24; exact quiet_same (bad_any (hrdx.drewN _))) | (go_at_call 25; exact quiet_same (done_good (hrdx.drewN _)))))
                    go_wp2_with fail
                    go_roundw
                    case rel => exact ⟨k2 + 1, false, lrx, by omega, by go_num, hPn.after _ rfl⟩
                    case measure => simp [intOf]; omega
                  · obtain ⟨hrdx, ⟨lrx, hrrx, -⟩, hnx, -⟩ := id hPn
                    obtain rfl := hnx rfl
                    clear hnx
                    obtain ⟨Ax, cx, hhx, hx1, hx2, hx3⟩ := id hrrx
                    have hcx1 : WW.cell? ⟨wq.heap.size, 1, none⟩ = some (.bool true) := cell_blk (i := 1) hhx rfl
                    clear hhx hx1 hx2 hx3
                    go_quiet ((first | (go_at_call 22; exact quiet_same (left_dead (hrdx.drewN _))) | (go_at_call 23; exact quiet_same (rrleft_dead (rr_drewN hrrx _))) | (go_at_call 24; exact quiet_same (bad_any (hrdx.drewN _))) | (go_at_call 25; exact quiet_same (done_bad (hrdx.drewN _)))))
                    go_wp2_with fail
                    go_roundw
                    case rel => exact ⟨k2 + 1, true, [], by omega, by go_num, hPn.after _ rfl⟩
                    case measure => simp [intOf]; omega
            · go_wp2_with (go_at_call 13; refine (awake_any _).mono ?_; rintro e wz ⟨rfl, hbz⟩)
              go_ret
              exact ⟨rfl, hP.2.2.2.trans (hbz.mono hP.2.2.2.size)⟩

end Go.Proofs.Ytckigcodmchfaaa.packReads
