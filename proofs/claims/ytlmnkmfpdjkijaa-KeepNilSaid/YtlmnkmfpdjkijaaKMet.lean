/-
  Where in a row a pane falls: the library's Search, the program's own met; some panes of a row replaced, wherever they lie. Conditions: at most 4000000 panes, as they may be.
-/
import Derived.Test.YtlmnkmfpdjkijaaKRep
import Derived.Test.YtlmnkmfpdjkijaaKDue
import Derived.Deep.LoopGhost
import Derived.BigQuiet
import Derived.Test.YtlmnkmfpdjkijaaWSame
namespace Go.Proofs.Ytlmnkmfpdjkijaa.Kp
set_option linter.unusedVariables false
set_option linter.unusedSimpArgs false
open Go.Proofs.Ytlmnkmfpdjkijaa Go.Proofs.Ytlmnkmfpdjkijaa.Ke
open Go.RowKit

theorem replace_any {w : World} {sv : Value} {A M B : List Pn} {p : Pn} {bp i j : Nat} (hs : RowOr w sv (A ++ (M ++ B))) (hi : A.length = i) (hj : i + M.length = j) (hn : (A ++ (M ++ B)).length ≤ 4000000) (hp : w.heap[bp]? = some (pnO p)) (hne : sv.ownBlock ≠ some bp) :
    Calls Try.prog 50 #[sv, .int .i64 i, .int .i64 j, .slice (some ⟨bp, 0, none⟩) 1 1] w (PutIn w sv (A ++ p :: B)) := by
  cases M with
  | nil =>
    rw [List.nil_append] at hs hn
    rw [List.length_nil, Nat.add_zero] at hj
    subst hj
    exact replace_none hs hi hn hp hne
  | cons m0 M =>
    rcases hs with ⟨rfl, h0⟩ | ⟨hs, h0⟩
    · simp at h0
    · obtain ⟨g, o, cap, rfl, hc1, hc2⟩ := hs.form
      obtain ⟨n, hnn⟩ : ∃ n, (A ++ (m0 :: M ++ B)).length = n := ⟨_, rfl⟩
      rw [hnn] at hs hn hc1 ⊢
      simp only [List.length_append, List.length_cons] at hnn hj
      by_cases hB : B = []
      · subst hB
        rw [List.append_nil] at hs
        rw [List.length_nil] at hnn
        rw [show j = n by omega]
        exact replace_end hs hi (by omega) hn hp
      · have hb : 0 < B.length := List.length_pos_iff.2 hB
        exact replace_mid hs hi (by omega) (by omega) (by omega) hn hp (fun e => hne (by rw [e]; rfl))
set_option maxHeartbeats 4000000 in
set_option maxRecDepth 20000 in
/-- The library's Search by a test that stays yes: the first place at which it says yes. -/
theorem sea_at (g : Nat) (cb : Array Value) {R : List Pn} {n : Nat} {Q : Pn → Bool} (w : World) (eg : ∀ args w, (callFunc g args).run Try.prog w = .ok (.enter g args) w) (hn : R.length = n) (hsz : n ≤ 4000000)
    (hf : ∀ (W : World) (i : Nat) (x : Pn), Below w.heap.size w W → R[i]? = some x → Calls Try.prog g (#[.int .i64 i] ++ cb) W fun e w' => e = .returned (.bool (Q x)) ∧ Below W.heap.size W w') (hm : Mono Q R) :
    Calls Try.prog 70 #[.int .i64 n, .func (.func g) #[] cb] w fun e w' => e = .returned (.int .i64 (fstAt Q R : Nat)) ∧ Below w.heap.size w w' := by
  have HF := Lib.hid hf
  have HM := Lib.hid hm
  have HN := Lib.hid hn
  clear hf hm hn
  go_enter Try.func70, Try.ntmps70
  go_wp2
  go_loopg [5, 6] n (fun kx s5 s6 wr => ∃ (lo hi : Nat), s5 = .int .i64 lo ∧ s6 = .int .i64 hi ∧ lo ≤ hi ∧ hi ≤ n ∧ hi - lo ≤ kx ∧ Hid (Below w.heap.size w wr) ∧
    Hid ((∀ t x, t < lo → R[t]? = some x → Q x = false) ∧ (∀ t x, hi ≤ t → R[t]? = some x → Q x = true)))
  case atStart => exact ⟨0, n, rfl, rfl, Nat.zero_le _, Nat.le_refl _, by omega, Lib.hid (Below.refl _ _), Lib.hid ⟨fun t x ht => absurd ht (Nat.not_lt_zero _), fun t x h1 h2 => absurd (List.getElem?_eq_some_iff.1 h2).1 (by have := HN.out; omega)⟩⟩
  case round =>
    obtain ⟨lo, hi, rfl, rfl, hlh, hin, hg, HB, I⟩ := hrel
    by_cases hlt : lo < hi
    · obtain ⟨y, hy⟩ : ∃ y, R[(lo + hi) / 2]? = some y := ⟨_, List.getElem?_eq_getElem (by have := HN.out; omega)⟩
      have hc := HF.out wr ((lo + hi) / 2) y HB.out hy
      rw [show (((lo + hi) / 2 : Nat) : Int) = ((lo : Int) + (hi : Int)) / 2 by omega] at hc
      have HY := Lib.hid hy
      clear hy
      cases hp : Q y <;> rw [hp] at hc
      · have HP := Lib.hid hp
        clear hp
        go_wp2_with (go_at_fn g; refine hc.mono ?_; rintro e w' ⟨rfl, hb⟩; have HB2 := Lib.hid hb; clear hb)
        go_roundg (hi - ((lo + hi) / 2 + 1))
        case measure => omega
        case rel =>
          exact ⟨(lo + hi) / 2 + 1, hi, by rw [show ((lo : Int) + (hi : Int)) / 2 + 1 = (((lo + hi) / 2 + 1 : Nat) : Int) by omega], rfl, by omega, hin, Nat.le_refl _, Lib.hid (grow_below HB.out HB2.out), Lib.hid ⟨fun t x ht hx => (by
            cases h : Q x with
            | false => rfl
            | true =>
              by_cases e : t = (lo + hi) / 2
              · subst e; rw [HY.out] at hx; injection hx with hx; rw [← hx, HP.out] at h; cases h
              · have := pw_at HM.out (show t < (lo + hi) / 2 by omega) hx HY.out h; rw [HP.out] at this; cases this), I.out.2⟩⟩
      · have HP := Lib.hid hp
        clear hp
        go_wp2_with (go_at_fn g; refine hc.mono ?_; rintro e w' ⟨rfl, hb⟩; have HB2 := Lib.hid hb; clear hb)
        go_roundg ((lo + hi) / 2 - lo)
        case measure => omega
        case rel =>
          exact ⟨lo, (lo + hi) / 2, rfl, by rw [show ((lo : Int) + (hi : Int)) / 2 = (((lo + hi) / 2 : Nat) : Int) by omega], by omega, by omega, Nat.le_refl _, Lib.hid (grow_below HB.out HB2.out), Lib.hid ⟨I.out.1, fun t x ht hx => (by
            by_cases e : t = (lo + hi) / 2
            · subst e; rw [HY.out] at hx; injection hx with hx; rw [← hx, HP.out]
            · exact pw_at HM.out (show (lo + hi) / 2 < t by omega) HY.out hx HP.out)⟩⟩
    · obtain rfl : hi = lo := by omega
      have ecnt : fstAt Q R = hi := fstAt_is (by have := HN.out; omega) I.out.1 I.out.2
      have HE := Lib.hid ecnt
      clear ecnt
      go_wp2
      go_ret
      exact ⟨by rw [HE.out]; rfl, HB.out⟩
set_option maxHeartbeats 4000000 in
set_option maxRecDepth 20000 in
theorem clo1 {w : World} {ba bx g o n cap i : Nat} {f t : Int} (ha : w.cell? ⟨ba, 0, none⟩ = some (.slice (some ⟨g, o, none⟩) n cap)) (hx : w.cell? ⟨bx, 0, none⟩ = some (.int .i64 f)) (hc : w.cell? ⟨g, o + i * 7 + 2, none⟩ = some (.int .i64 t)) (hi : i < n) :
    Calls Try.prog 71 (#[.int .i64 i] ++ #[.pointer (some ⟨ba, 0, none⟩), .pointer (some ⟨bx, 0, none⟩)]) w fun e w' => e = .returned (.bool (decide (f < t))) ∧ Below w.heap.size w w' := by
  have hiz : (i : Int) < (n : Int) := by omega
  go_enter Try.func71, Try.ntmps71
  go_wp2
  go_region
  go_wp2
  go_ret
  exact ⟨rfl, (Below.refl _ _).drew⟩
set_option maxHeartbeats 4000000 in
set_option maxRecDepth 20000 in
theorem clo2 {w : World} {ba bx g o n cap i : Nat} {f t : Int} (ha : w.cell? ⟨ba, 0, none⟩ = some (.slice (some ⟨g, o, none⟩) n cap)) (hx : w.cell? ⟨bx, 1, none⟩ = some (.int .i64 f)) (hc : w.cell? ⟨g, o + i * 7 + 1, none⟩ = some (.int .i64 t)) (hi : i < n) :
    Calls Try.prog 72 (#[.int .i64 i] ++ #[.pointer (some ⟨ba, 0, none⟩), .pointer (some ⟨bx, 0, none⟩)]) w fun e w' => e = .returned (.bool (decide (f ≤ t))) ∧ Below w.heap.size w w' := by
  have hiz : (i : Int) < (n : Int) := by omega
  go_enter Try.func72, Try.ntmps72
  go_wp2
  go_region
  go_wp2
  go_ret
  exact ⟨rfl, (Below.refl _ _).drew⟩
set_option maxHeartbeats 4000000 in
set_option maxRecDepth 20000 in
theorem clo3 {w : World} {ba bx g o n cap i : Nat} {f t : Int} (ha : w.cell? ⟨ba, 0, none⟩ = some (.slice (some ⟨g, o, none⟩) n cap)) (hx : w.cell? ⟨bx, 0, none⟩ = some (.int .i64 f)) (hc : w.cell? ⟨g, o + i * 7 + 1, none⟩ = some (.int .i64 t)) (hi : i < n) :
    Calls Try.prog 73 (#[.int .i64 i] ++ #[.pointer (some ⟨ba, 0, none⟩), .pointer (some ⟨bx, 0, none⟩)]) w fun e w' => e = .returned (.bool (decide (f ≤ t))) ∧ Below w.heap.size w w' := by
  have hiz : (i : Int) < (n : Int) := by omega
  go_enter Try.func73, Try.ntmps73
  go_wp2
  go_region
  go_wp2
  go_ret
  exact ⟨rfl, (Below.refl _ _).drew⟩
/-- What met has in its boxes. -/
structure Bxs (w0 : World) (sv : Value) (f t : Int) (ba : Nat) (w : World) : Prop where
  ca : w.cell? ⟨ba, 0, none⟩ = some sv
  cx : w.cell? ⟨ba + 1, 0, none⟩ = some (.int .i64 f)
  cy : w.cell? ⟨ba + 1, 1, none⟩ = some (.int .i64 t)
  low : Below w0.heap.size w0 w
  sz : ba + 1 < w.heap.size
theorem Bxs.grow {w0 w w' : World} {sv : Value} {f t : Int} {ba : Nat} (h : Bxs w0 sv f t ba w) (hb : Below w.heap.size w w') : Bxs w0 sv f t ba w' :=
  ⟨(hb.cell (p := ⟨ba, 0, none⟩) (Nat.lt_of_succ_lt h.sz)).trans h.ca, (hb.cell (p := ⟨ba + 1, 0, none⟩) h.sz).trans h.cx, (hb.cell (p := ⟨ba + 1, 1, none⟩) h.sz).trans h.cy, grow_below h.low hb, Nat.lt_of_lt_of_le h.sz hb.size⟩
theorem Bxs.new (w : World) (sv : Value) (f t : Int) : Bxs w sv f t w.heap.size ((w.alloc (.cells #[sv] 82)).alloc (.cells #[.int .i64 f, .int .i64 t] 49)) := by
  have h1 := heap_alloc_new w (.cells #[sv] 82 (0, 0))
  have h2 := heap_alloc_new (w.alloc (.cells #[sv] 82)) (.cells #[.int .i64 f, .int .i64 t] 49 (0, 0))
  have hb : Below (w.alloc (.cells #[sv] 82)).heap.size (w.alloc (.cells #[sv] 82)) _ := (Below.refl _ _).alloc (Nat.le_refl _) (.cells #[.int .i64 f, .int .i64 t] 49)
  rw [World.size_alloc] at h2
  exact ⟨(hb.cell (p := ⟨w.heap.size, 0, none⟩) (by rw [World.size_alloc]; exact Nat.lt_succ_self _)).trans (cell_of_heap h1 0), cell_of_heap h2 0, cell_of_heap h2 1, ((Below.refl _ w).alloc (Nat.le_refl _) _).alloc (by rw [World.size_alloc]; exact Nat.le_succ _) _, by rw [World.size_alloc, World.size_alloc]; exact Nat.lt_succ_self _⟩
theorem RowOr.lst {w : World} {v : Value} {L : List Pn} (h : RowOr w v L) : PnsAt w v L := by
  rcases h with ⟨rfl, rfl⟩ | ⟨h, -⟩
  · exact ⟨none, 0, rfl, Nat.le_refl _, Nat.zero_le _, Nat.zero_le _, fun h => absurd rfl h⟩
  · exact h.lst
section
variable {w0 : World} {R : List Pn} {a : Option Addr} {n cap ba : Nat} {f t : Int}
theorem eg1 : ∀ args w, (callFunc 71 args).run Try.prog w = .ok (.enter 71 args) w := enters_of Try.func71 (by kernel_rfl) rfl
theorem eg2 : ∀ args w, (callFunc 72 args).run Try.prog w = .ok (.enter 72 args) w := enters_of Try.func72 (by kernel_rfl) rfl
theorem eg3 : ∀ args w, (callFunc 73 args).run Try.prog w = .ok (.enter 73 args) w := enters_of Try.func73 (by kernel_rfl) rfl
theorem sea1 {w : World} (hl : PnsAt w0 (.slice a n cap) R) (hb : Bxs w0 (.slice a n cap) f t ba w) (hn : n ≤ 4000000) (hm : R.Pairwise fun x y => x.t < y.t) : Calls Try.prog 70 #[.int .i64 n, .func (.func 71) #[] #[.pointer (some ⟨ba, 0, none⟩), .pointer (some ⟨ba + 1, 0, none⟩)]] w fun e w' => e = .returned (.int .i64 (fstAt (fun x => decide (f < x.t)) R : Nat)) ∧ Below w.heap.size w w' := by
  have hlen := (Lst.len hl).1
  refine sea_at _ _ w eg1 hlen.symm hn (fun W i x hW hx => ?_) (mono_t hm f)
  obtain ⟨hi, e⟩ := List.getElem?_eq_some_iff.1 hx
  obtain ⟨g, o, rfl, hg, hc⟩ := Lst.at_ (hl.grow (grow_below hb.low hW)) hi
  rw [e] at hc
  exact clo1 (hb.grow hW).ca (hb.grow hW).cx (hc 2 _ rfl) (by omega)
theorem sea2 {w : World} (hl : PnsAt w0 (.slice a n cap) R) (hb : Bxs w0 (.slice a n cap) f t ba w) (hn : n ≤ 4000000) (hm : R.Pairwise fun x y => x.f < y.f) : Calls Try.prog 70 #[.int .i64 n, .func (.func 72) #[] #[.pointer (some ⟨ba, 0, none⟩), .pointer (some ⟨ba + 1, 0, none⟩)]] w fun e w' => e = .returned (.int .i64 (fstAt (fun x => decide (t ≤ x.f)) R : Nat)) ∧ Below w.heap.size w w' := by
  have hlen := (Lst.len hl).1
  refine sea_at _ _ w eg2 hlen.symm hn (fun W i x hW hx => ?_) (mono_f hm t)
  obtain ⟨hi, e⟩ := List.getElem?_eq_some_iff.1 hx
  obtain ⟨g, o, rfl, hg, hc⟩ := Lst.at_ (hl.grow (grow_below hb.low hW)) hi
  rw [e] at hc
  exact clo2 (hb.grow hW).ca (hb.grow hW).cy (hc 1 _ rfl) (by omega)
theorem sea3 {w : World} (hl : PnsAt w0 (.slice a n cap) R) (hb : Bxs w0 (.slice a n cap) f t ba w) (hn : n ≤ 4000000) (hm : R.Pairwise fun x y => x.f < y.f) : Calls Try.prog 70 #[.int .i64 n, .func (.func 73) #[] #[.pointer (some ⟨ba, 0, none⟩), .pointer (some ⟨ba + 1, 0, none⟩)]] w fun e w' => e = .returned (.int .i64 (fstAt (fun x => decide (f ≤ x.f)) R : Nat)) ∧ Below w.heap.size w w' := by
  have hlen := (Lst.len hl).1
  refine sea_at _ _ w eg3 hlen.symm hn (fun W i x hW hx => ?_) (mono_f hm f)
  obtain ⟨hi, e⟩ := List.getElem?_eq_some_iff.1 hx
  obtain ⟨g, o, rfl, hg, hc⟩ := Lst.at_ (hl.grow (grow_below hb.low hW)) hi
  rw [e] at hc
  exact clo3 (hb.grow hW).ca (hb.grow hW).cx (hc 1 _ rfl) (by omega)
end
theorem below_dN {B n : Nat} {a w : World} (h : Below B a w) : Below B a (w.drewN n) := ⟨h.os, h.tape, h.output, h.size, h.block⟩
attribute [local go_sem] Wi.run_sp
set_option maxHeartbeats 4000000 in
set_option maxRecDepth 20000 in
theorem met_at {w : World} {b bm : Nat} {k s lw agg m : Int} {fr : Bool} {ld : Nat → Bool} {sv : Value} {R : List Pn} {key : Ky} {f t : Int} (ht : KTop w b k s lw agg m fr ld bm) (hs : PnsAt w sv R) (hn : R.length ≤ 4000000) (hg : Ke.Good (decide (k = 3)) s R) (hk : OneKey R key) :
    Calls Try.prog 48 #[.pointer (some ⟨b, 0, none⟩), sv, spO f t] w fun e w' => e = .returned (.tuple #[.int .i64 (metA (decide (k = 3)) f t R : Nat), .int .i64 (metB (decide (k = 3)) f t R : Nat)]) ∧ Below w.heap.size w w' := by
  obtain ⟨a, cap, rfl⟩ := hs.val
  obtain ⟨n, hnn⟩ : ∃ n, R.length = n := ⟨_, rfl⟩
  rw [hnn] at hs hn ⊢
  have hpf := row_f hg.sd hk
  have hpt := row_t hg hk
  have B0 := Lib.hid (Bxs.new w (.slice a n cap) f t)
  have hbt := ht.lt
  have c0 := (B0.out.low.cell (p := ⟨b, 0, none⟩) hbt).trans ht.c0
  have HL := Lib.hid hs
  have HF := Lib.hid hpf
  have HT := Lib.hid hpt
  have HN := Lib.hid hnn
  obtain ⟨ba, hba⟩ : ∃ ba, w.heap.size = ba := ⟨_, rfl⟩
  rw [hba] at B0
  clear hs hg hk hpf hpt ht hnn
  by_cases h3 : k = 3
  · have hq : decide (k = 3) = true := decide_eq_true h3
    rw [hq]
    unfold metA metB
    rw [if_pos rfl, if_pos rfl]
    subst h3
    clear hq
    go_enter Try.func48, Try.ntmps48
    go_upto_region 1 with (fail)
    generalize (w.alloc (.cells #[.slice a n cap] 82)).alloc (.cells #[.int .i64 f, .int .i64 t] 49) = W0 at B0 c0 ⊢
    have ca := B0.out.ca
    go_upto_region 3 with (go_at_call 70; refine (sea1 HL.out B0.out hn HT.out).mono ?_; rintro e w1 ⟨rfl, hb1⟩; have HB1 := Lib.hid hb1; clear hb1)
    have B1 := Lib.hid (B0.out.grow HB1.out)
    have ca1 := B1.out.ca
    go_upto_region 4 with (go_at_call 70; refine (sea2 HL.out B1.out hn HF.out).mono ?_; rintro e w2 ⟨rfl, hb2⟩; have HB2 := Lib.hid hb2; clear hb2)
    go_wp2
    go_ret2
    exact ⟨rfl, grow_below B1.out.low HB2.out⟩
  · have hq : decide (k = 3) = false := decide_eq_false h3
    rw [hq]
    obtain ⟨i, hi⟩ : ∃ i, metA false f t R = i := ⟨_, rfl⟩
    obtain ⟨j, hj⟩ : ∃ j, metB false f t R = j := ⟨_, rfl⟩
    rw [hi, hj]
    unfold metA at hi
    unfold metB at hj
    rw [if_neg (by decide)] at hi hj
    rw [hi] at hj
    have hin : i ≤ n := by have := fstAt_le (fun x => decide (f ≤ x.f)) R; have := HN.out; omega
    have HI := Lib.hid hi
    have HJ := Lib.hid hj
    clear hi hj hq
    have hk0 : ¬ (3 : Int) = k := fun e => h3 e.symm
    go_enter Try.func48, Try.ntmps48
    go_upto_region 1 with (fail)
    generalize (w.alloc (.cells #[.slice a n cap] 82)).alloc (.cells #[.int .i64 f, .int .i64 t] 49) = W0 at B0 c0 ⊢
    have ca := B0.out.ca
    go_upto_region 5 with (fail)
    go_upto_region 6 with (go_at_call 70; refine (sea3 HL.out B0.out hn HF.out).mono ?_; rw [HI.out]; rintro e w1 ⟨rfl, hb1⟩; have HB1 := Lib.hid hb1; clear hb1)
    have B1 := Lib.hid (B0.out.grow HB1.out)
    have ca1 := B1.out.ca
    have cx1 := B1.out.cx
    have cy1 := B1.out.cy
    by_cases hlt : i < n
    · obtain ⟨x, hx⟩ : ∃ x, R[i]? = some x := ⟨_, List.getElem?_eq_getElem (by have := HN.out; omega)⟩
      obtain ⟨hil, e⟩ := List.getElem?_eq_some_iff.1 hx
      obtain ⟨g, o, rfl, hg, hc⟩ := Lst.at_ (HL.out.grow B1.out.low) hil
      rw [e] at hc
      have r1 := hc 1 _ rfl
      have r2 := hc 2 _ rfl
      have HJ2 := HJ.out
      rw [hx] at HJ2
      dsimp only at HJ2
      clear hc hx e hil
      have hd : decide ((i : Int) < (n : Int)) = true := decide_eq_true (by omega)
      have hiz : (i : Int) < (n : Int) := by omega
      by_cases hxx : x.f = f ∧ x.t = t
      · rw [if_pos hxx] at HJ2
        have hq : (x.f == f && x.t == t) = true := by rw [hxx.1, hxx.2]; simp
        have HJ3 := Lib.hid HJ2
        have hx1 : (x.f == f) = true := by rw [hxx.1]; simp
        have hx2 : (x.t == t) = true := by rw [hxx.2]; simp
        clear HJ2 hxx
        go_quiet (fail)
        go_wp2
        go_ret2
        exact ⟨by rw [← HJ3.out] <;> rfl, below_dN B1.out.low⟩
      · rw [if_neg hxx] at HJ2
        have HJ3 := Lib.hid HJ2
        have HXX := Lib.hid hxx
        clear HJ2 hxx
        cases h1 : (x.f == f) <;> cases h2 : (x.t == t)
        case true.true => exact absurd ⟨eq_of_beq h1, eq_of_beq h2⟩ HXX.out
        all_goals go_quiet (fail)
        all_goals go_wp2
        all_goals go_ret2
        all_goals exact ⟨by rw [← HJ3.out] <;> rfl, below_dN B1.out.low⟩
    · have hd : decide ((i : Int) < (n : Int)) = false := decide_eq_false (by omega)
      have HJ2 := HJ.out
      rw [List.getElem?_eq_none (by have := HN.out; omega)] at HJ2
      dsimp only at HJ2
      have HJ3 := Lib.hid HJ2
      clear HJ2
      go_quiet (fail)
      go_wp2
      go_ret2
      exact ⟨by rw [← HJ3.out] <;> rfl, below_dN B1.out.low⟩
end Go.Proofs.Ytlmnkmfpdjkijaa.Kp
