/-
  The walk of JournalDoes: a journal does, call by call, just what the document says, through all failures of the power. Conditions: none (the law looks at nothing longer).
-/
import Derived.Test.YtkiombbdddbkfaaJDoes
import Derived.Deep.RegionHeld3
namespace Go.Proofs.Ytkiombbdddbkfaa.Jn
open Go.RowKit Go.Proofs.Ytkiombbdddbkfaa.Pk Go.Proofs.Ytkiombbdddbkfaa.Dk
set_option linter.unusedVariables false

theorem up_ne (b : Bool) : ((!b) == b) = false := by cases b <;> rfl
theorem open_new : openD newD J = (0, newD) := by
  unfold openD
  rw [if_neg (by decide), if_neg (by decide)]
  unfold openCut
  rw [if_neg (by rw [dataOf_new]; simp)]
theorem conv_now {A : Option Addr} {n c : Nat} {l : Bs} {w : World} (hl : l.length = n) (h : Lies w w.heap.size A l) : (convert 23 9 (.slice A n c)).run Try.prog w = .ok (.string ⟨l.toArray⟩) w := conv_str hl h
/-- What the statement behind Add reads. -/
structure AddS (x : Nat) (A : Option Addr) (m c : Nat) (A1 : Option Addr) (l : Bs) (W : World) : Prop where
  cell : W.cell? ⟨x, 1, none⟩ = some (.slice A m c)
  len : l.length = m
  arg : Lies W W.heap.size A l
  own : Lies W W.heap.size A1 l

theorem wpAnyH_mono {P : Program} {ops : Array Oper} {Q : Exit → Act → World → Prop} {md : Region.Mode} {S1 S2 : World → Prop} (h : ∀ w, S2 w → S1 w) : ∀ (fuel : Nat) (listed : Array Bool) (a : Act) (w : World), wpAnyH P md ops Q S2 fuel listed a w → wpAnyH P md ops Q S1 fuel listed a w
  | 0, _, _, _, k => k
  | fuel + 1, _, _, _, k => ⟨k.1, fun i hi => wpOp_mono (fun a' w' k' => ⟨h _ k'.1, wpAnyH_mono h fuel _ a' w' k'.2⟩) (k.2 i hi)⟩
theorem both_good {X : Nat → Prop} {w0 w : World} {d r : Nat} {s t : Ds} (h : Both X w0 w d r s t) : Dk.Good s := by
  obtain ⟨_, S, T, hD, _⟩ := h
  exact hD.1.1
theorem own_e2 (w : World) (o : Obj) : ((w.alloc o).alloc (.cells #[] 5)).ownsRow (w.heap.size + 1) 5 1 (.slice (some ⟨w.heap.size + 1, 0, none⟩) 0 0) 0 (cells []) := by
  have := own_empty (w.alloc o) (w.heap.size + 1) (by simp)
  simpa using this
theorem below_e2 {w w4 : World} {o : Obj} (hg : ((w.alloc o).alloc (.cells #[] 5)).grownBy w4 (Value.ownBlock (.slice (some ⟨w.heap.size + 1, 0, none⟩) 0 0))) : Below (w.alloc o).heap.size (w.alloc o) w4 :=
  ((Below.refl _ _).alloc (Nat.le_refl _) _).grown hg (by simp) (fun k e => by simp [Value.ownBlock] at e; simp; omega)
theorem kb_ne {X : Nat → Prop} {w0 w4 w5 : World} {d r jb rb cnt x : Nat} {down : Bool} {s t : Ds} {n keep : Int} {A A1 : Option Addr} {m c c1 base : Nat} {kind : Int} {l : Bs} {W : World} {o : Obj} (h : DS w0 d r (More (fun b => X b ∨ b = x) (W.alloc o) w4) jb rb cnt down s t w4) (hp : OpAt w4 x kind n keep A m c) (ho : w4.ownsRow base 5 1 (.slice A1 m c1) m (cells l)) (hk : KeptBut (More (fun b => X b ∨ b = x) (W.alloc o) w4) jb w4 w5) (hbase : (W.alloc o).heap.size ≤ base := by simp) : OpAt w5 x kind n keep A m c ∧ w5.ownsRow base 5 1 (.slice A1 m c1) m (cells l) := by
  have hj := h.j
  unfold JAt at hj
  refine ⟨(hk x (.inl (.inr rfl)) (fun e => ?_)).trans hp, own_keep ho fun g hg => hk g (.inr ⟨Nat.le_trans hbase (ho.lt g hg).1, (ho.lt g hg).2⟩) (fun e => ?_)⟩
  · unfold OpAt at hp
    rw [e, hj] at hp; simp at hp
  · rcases ho.2 with ⟨hn, _⟩ | ⟨g', _, _, hn, _, h1, _⟩
    · rw [hn] at hg; cases hg
    · rw [hn] at hg
      simp only [Value.ownBlock, Option.some.injEq] at hg
      rw [hg, e, hj] at h1; simp at h1
theorem adds_next {X : Nat → Prop} {w0 w4 w5 w6 : World} {d r jb rb cnt x : Nat} {down : Bool} {s t s2 t2 : Ds} {n keep : Int} {A A1 : Option Addr} {m c c1 base : Nat} {kind : Int} {l : Bs} {W : World} {o : Obj} (S5 : AddS x A m c A1 l w5) (h : DS w0 d r (More (fun b => X b ∨ b = x) (W.alloc o) w4) jb rb cnt down s t w4) (hp : OpAt w4 x kind n keep A m c) (ho : w4.ownsRow base 5 1 (.slice A1 m c1) m (cells l)) (h5 : OpAt w5 x kind n keep A m c ∧ w5.ownsRow base 5 1 (.slice A1 m c1) m (cells l)) (hk : KeptBut (More (fun b => X b ∨ b = x) (W.alloc o) w4) rb (w5.drewN 1) w6) (hB : Both (More (fun b => X b ∨ b = x) (W.alloc o) w4) w0 w6 d r s2 t2) (hL : Lies w0 w0.heap.size A l) (hbase : (W.alloc o).heap.size ≤ base := by simp) : AddS x A m c A1 l w6 := by
  have hj := h.rj
  unfold RJAt at hj
  have e1 : x ≠ rb := fun e => by
    unfold OpAt at hp
    rw [e, hj] at hp; simp at hp
  have e2 : ∀ g, (Value.slice A1 m c1).ownBlock = some g → g ≠ rb := fun g hg e => by
    rcases ho.2 with ⟨hn, _⟩ | ⟨g', _, _, hn, _, h1, _⟩
    · rw [hn] at hg; cases hg
    · rw [hn] at hg
      simp only [Value.ownBlock, Option.some.injEq] at hg
      rw [hg, e, hj] at h1; simp at h1
  have hp6 : OpAt w6 x kind n keep A m c := (hk x (.inl (.inr rfl)) e1).trans h5.1
  have ho6 : w6.ownsRow base 5 1 (.slice A1 m c1) m (cells l) := own_keep h5.2 fun g hg => hk g (.inr ⟨Nat.le_trans hbase (ho.lt g hg).1, (ho.lt g hg).2⟩) (e2 g hg)
  exact ⟨hp6.c1, S5.len, (hL.below hB.bel).mono hB.size, Lies.of_own ho6⟩
set_option maxRecDepth 100000 in
set_option maxHeartbeats 16000000 in
theorem journalDoes_walk (a0 : Option Addr) (len0 cap0 : Nat) (w : World) (h0 : Ops w a0 len0) :
    Calls Try.prog 3 #[.slice a0 len0 cap0] w fun e w' => e = .returned (.bool true) ∧ Below w.heap.size w w' := by
  obtain ⟨hm0, hops⟩ := h0
  unfold maxLen at hm0
  by_cases hbig : 150 < len0
  · have hbi : (150 : Int) < (len0 : Int) := by omega
    go_enter Try.func3, Try.ntmps3
    go_wp2
    go_ret
    exact ⟨rfl, Below.refl _ _⟩
  have hbi : ¬ (150 : Int) < (len0 : Int) := by omega
  have HP := Lib.hid hops
  have E0 := Lib.hid open_new
  have R0 : Hid (recs (dataOf newD J) = []) := recs_none (first_short (by decide))
  clear hops
  go_enter Try.func3, Try.ntmps3
  go_wp2
  go_loop [3] (fun i => ∃ k : Nat, k ≤ len0 ∧ i = .int .i64 k ∧ Hid (∀ j, j < k → ∃ b o kind n keep A m c l, a0 = some ⟨b, o, none⟩ ∧ OpIn w b (o + j * 4) kind n keep A m c l ∧ m ≤ 1024)) (fun i => len0 - (intOf i).toNat)
  case atStart => exact ⟨0, Nat.zero_le _, rfl, fun j hj => absurd hj (Nat.not_lt_zero _)⟩
  case round =>
    obtain ⟨k, hk, rfl, hs⟩ := hrel
    by_cases hlt : k < len0
    · have hki : (k : Int) < (len0 : Int) := by omega
      obtain ⟨b, o, kind, n, keep, A, m, c, l, rfl, hO⟩ := HP.out k hlt
      have hc1 := hO.c1
      have hmm := hO.max
      unfold maxLen at hmm
      have HO := Lib.hid hO
      clear hO
      by_cases hl : 1024 < m
      · have hli : (1024 : Int) < (m : Int) := by omega
        go_wp2
        go_ret
        exact ⟨rfl, Below.refl _ _⟩
      · have hli : ¬ (1024 : Int) < (m : Int) := by omega
        go_wp2
        go_round
        case rel =>
          refine ⟨k + 1, by omega, by go_num, fun j hj => ?_⟩
          rcases Nat.lt_or_ge j k with h | h
          · exact hs.out j h
          · obtain rfl : j = k := by omega
            exact ⟨b, o, kind, n, keep, A, m, c, l, rfl, HO.out, by omega⟩
        case measure => simp [intOf]; omega
    · have hki : ¬ (k : Int) < (len0 : Int) := by omega
      have HQ : Hid (∀ j, j < len0 → ∃ b o kind n keep A m c l, a0 = some ⟨b, o, none⟩ ∧ OpIn w b (o + j * 4) kind n keep A m c l ∧ m ≤ 1024) := fun j hj => hs.out j (by omega)
      clear HP hs
      go_wp2_with (first
        | (go_at_call 8; refine (Fresh.new (X := fun _ => False) (fun _ h => h.elim) (Below.refl w.heap.size w)).mono ?_; rintro e w1 ⟨d, rfl, hF, -⟩; have hz1 := hF.size; have HB1 := Lib.hid (Both.start hF); clear hF)
        | (go_at_call 9; refine (openP HB1.out (by decide) E0.out R0.out).mono ?_; rintro e w2 ⟨jb, A2, c2, X2, rfl, -, hX2, hjb, hj2, hr2, hB2, -⟩; have HB2 := Lib.hid hB2; have HX2 := Lib.hid hX2; have HJ2 := Lib.hid hj2; have HR2 := Lib.hid hr2; have hjb0 : w.heap.size ≤ jb := (by have : w1.heap.size ≤ jb := (by simp at hjb; omega); omega); clear hB2 hX2 hj2 hr2 HB1)
        | (go_at_call 10; refine (openR HB2.out (by decide) E0.out R0.out).mono ?_; rintro e w3 ⟨rb, A3, c3, X3, rfl, hX23, hX3, hrb, hj3, hr3, hB3, hK3⟩; have hrb0 : w.heap.size ≤ rb := (by have := HB2.out.size; omega); have HD3 := Lib.hid (DS.mk hB3 (hX23 _ HX2.out) hX3 hjb0 hrb0 (HJ2.out.kept hK3 HX2.out) hj3); have HR3 := Lib.hid hr3; have HR23 := Lib.hid (HR2.out.kept fun b hb => hK3 b hb.1); clear hB3 hX23 hX3 hj3 hr3 hK3 HB2 HX2 HJ2 HR2)
        | (go_at_call 11; refine (same_yes HR23.out HR3.out (by decide)).mono ?_; rintro e wX ⟨rfl, k3, rfl⟩))
      go_loopw [6, 9, 12] (fun jv rv i wr => ∃ (k : Nat) (s : Ds) (cnt : Nat) (down : Bool) (jb rb : Nat) (X : Nat → Prop), k ≤ len0 ∧ i = .int .i64 k ∧ jv = .pointer (some ⟨jb, 0, none⟩) ∧ rv = .pointer (some ⟨rb, 0, none⟩) ∧ s.deeds ≤ 2 * k ∧ cnt ≤ 3000000 + k ∧ Hid (DS w d w1.heap.size X jb rb cnt down s s wr)) (fun _ _ i _ => len0 - (intOf i).toNat)
      case atStart => exact ⟨0, newD, 0, false, jb, rb, X3, Nat.zero_le _, rfl, rfl, rfl, Nat.zero_le _, by omega, HD3.out.drewN k3⟩
      case round =>
        obtain ⟨k, s, cnt, down, jb, rb, X, hk, rfl, rfl, rfl, hsd, hcn, HD⟩ := hrel
        clear HD3 HR3 HR23
        by_cases hlt : k < len0
        · have hkl : (k : Int) < (len0 : Int) := by omega
          obtain ⟨b, o, kind, n, keep, A, m, c, l, rfl, hO, hml⟩ := HQ.out k hlt
          have hc : ∀ (j : Nat) v, w.cell? ⟨b, o + k * 4 + j, none⟩ = some v → wr.cell? ⟨b, o + k * 4 + j, none⟩ = some v := fun j v h => (HD.out.both.bel.cell (p := ⟨b, o + k * 4 + j, none⟩) (cell_block_lt h)).trans h
          have c0 := hc 0 _ hO.c0
          have c1 := hc 1 _ hO.c1
          have c2 := hc 2 _ hO.c2
          have c3 := hc 3 _ hO.c3
          rw [Nat.add_zero] at c0
          have HO := Lib.hid hO
          have n1 := hO.n1
          have n2 := hO.n2
          have k1 := hO.k1
          have k2 := hO.k2
          clear hc hO
          have HA := Lib.hid (HD.out.alloc (.cells #[.int .i64 kind, .slice A m c, .int .i64 n, .int .i64 keep] 25))
          have HP0 : Hid (OpAt (wr.alloc (.cells #[.int .i64 kind, .slice A m c, .int .i64 n, .int .i64 keep] 25)) wr.heap.size kind n keep A m c) := heap_alloc_new wr _
          by_cases hk0 : kind = 0
          · subst hk0
            obtain ⟨q, s', he⟩ : ∃ q s', addD s J down l = (q, s') := ⟨_, _, rfl⟩
            have hdd := add_deeds he
            have HE := Lib.hid he
            have Hlen := Lib.hid HO.out.len
            have HLw := Lib.hid HO.out.lies
            have p0 := HP0.out.c1
            have hZ0 : w.heap.size ≤ wr.heap.size := HD.out.both.size
            obtain ⟨cq, hcq⟩ : ∃ cq, cq = (if q = 0 then cnt + 1 else cnt) := ⟨_, rfl⟩
            have hcq2 : cq ≤ cnt + 1 := by rw [hcq]; split <;> omega
            obtain ⟨dq, hdq⟩ : ∃ dq, dq = (down || q == 20) := ⟨_, rfl⟩
            have HCQ := Lib.hid hcq
            have HDQ := Lib.hid hdq
            clear he hcq hdq
            go_wp2_with (first
              | (at_builtin; refine wpList_append_bytes_at rfl (.tmp 80) (.tmp 82) rfl (wr.heap.size + 1) _ 0 [] rfl (own_e2 wr _) A m c l rfl Hlen.out w.heap.size (((HLw.out.below HA.out.both.bel)).alloc (by simp; omega) _) (by omega) (by simp) ?_; intro v4 w4 ho4 hg4 _; have hb4 := below_e2 hg4; simp only [Nat.zero_add, List.nil_append] at ho4; obtain ⟨A1, c1', rfl, -⟩ := own_form ho4; have H4 := Lib.hid (HA.out.keep hb4); have HO4 := Lib.hid ho4; have HP4 := Lib.hid (HP0.out.kept (Kept.below HA.out.both.1 hb4) (.inr rfl)); have p4 := HP4.out.c1; clear ho4 hg4 hb4)
              | (go_at_call 12; refine (H4.out.addP Hlen.out (by unfold maxLen; omega) (Lies.of_own HO4.out) (by omega) (by omega) HE.out).mono ?_; rw [← HCQ.out, ← HDQ.out]; rintro e w5 ⟨rfl, hB5, hJ5, hR5, hK5⟩; have HB5 := Lib.hid hB5; have HJ5 := Lib.hid hJ5; have HR5 := Lib.hid hR5; have hbl5 := Lib.hid (kb_ne H4.out HP4.out HO4.out hK5); clear hB5 hJ5 hR5 hK5))
            have S5 : AddS wr.heap.size A m c A1 l w5 := ⟨hbl5.out.1.c1, Hlen.out, (HLw.out.below HB5.out.bel).mono HB5.out.size, Lies.of_own hbl5.out.2⟩
            have HX5 := Lib.hid (And.intro H4.out.xj (And.intro H4.out.xr (And.intro H4.out.lj H4.out.lr)))
            go_wp2_with fail
            have s5c := S5.cell
            refine wp_region_held_drew (S := fun W => W.cell? ⟨wr.heap.size, 1, none⟩ = some (.slice A m c) ∧ (convert 23 9 (.slice A1 m c1')).run Try.prog W = .ok (.string ⟨l.toArray⟩) W ∧ (convert 23 9 (.slice A m c)).run Try.prog W = .ok (.string ⟨l.toArray⟩) W) (by kernel_rfl) ⟨S5.cell, conv_now S5.len (show Lies w5.drew _ _ _ from S5.own), conv_now S5.len (show Lies w5.drew _ _ _ from S5.arg)⟩ (fun hHeld => ?_)
            refine wpAnyH_take (i := 0) (oi := ({ dst := some 87, op := Op.move (Operand.tmp 15), type := 34, pos := "law.go:85", after := #[], guard := none } : Oper)) (v := ?_) rfl (by kernel_rfl) (by kernel_rfl) (by kernel_rfl) (fun _ _ _ h => h) (Or.inl ⟨by rfl, ?hy0⟩) hHeld ?_
            case hy0 => (intro W hSw; (try dsimp only at hSw); go_simp; (try with_reducible rfl))
            try simp only [Act.put, List.setIfInBounds_toArray, List.set_cons_zero, List.set_cons_succ]
            refine wpAnyH_take (i := 1) (oi := ({ dst := some 88, op := Op.move (Operand.tmp 9), type := 37, pos := "law.go:85", after := #[], guard := none } : Oper)) (v := ?_) rfl (by kernel_rfl) (by kernel_rfl) (by kernel_rfl) (fun _ _ _ h => h) (Or.inl ⟨by rfl, ?hy1⟩) hHeld ?_
            case hy1 => (intro W hSw; (try dsimp only at hSw); go_simp; (try with_reducible rfl))
            try simp only [Act.put, List.setIfInBounds_toArray, List.set_cons_zero, List.set_cons_succ]
            refine wpAnyH_take (i := 2) (oi := ({ dst := some 89, op := Op.fieldAddr 25 (Operand.tmp 13) 1, type := 0, pos := "law.go:85", after := #[], guard := none } : Oper)) (v := ?_) rfl (by kernel_rfl) (by kernel_rfl) (by kernel_rfl) (fun _ _ _ h => h) (Or.inl ⟨by rfl, ?hy2⟩) hHeld ?_
            case hy2 => (intro W hSw; (try dsimp only at hSw); go_simp; (try with_reducible rfl))
            try simp only [Act.put, List.setIfInBounds_toArray, List.set_cons_zero, List.set_cons_succ]
            refine wpAnyH_take (i := 3) (oi := ({ dst := some 90, op := Op.load 23 (Operand.tmp 89), type := 23, pos := "law.go:85", after := #[{ on := 2, ground := Ground.data }], guard := none } : Oper)) (v := ?_) rfl (by kernel_rfl) (by kernel_rfl) (by kernel_rfl) (fun _ _ _ h => h) (Or.inl ⟨by rfl, ?hy3⟩) hHeld ?_
            case hy3 => (intro W hSw; (try dsimp only at hSw); go_simp; (try with_reducible rfl))
            try simp only [Act.put, List.setIfInBounds_toArray, List.set_cons_zero, List.set_cons_succ]
            refine wpAnyH_ready (rs := [4]) (by kernel_rfl) (by simp) ?_
            refine AllReadyH.cons (o := ({ dst := some 91, op := Op.call { callee := Callee.value (Operand.func 13), args := #[Operand.tmp 88, Operand.tmp 90], argTypes := #[37, 23] }, type := 34, pos := "law.go:85", after := #[{ on := 1, ground := Ground.data }, { on := 3, ground := Ground.data }], guard := none } : Oper)) rfl (fun K hK => ?_) AllReadyH.nil
            go_simp
            go_at_call 13
            refine (addR (HB5.out.drewN 1) HX5.out.2.1 HX5.out.2.2.2 (show RJAt (w5.drewN 1) rb _ _ cnt down from HR5.out) Hlen.out (by unfold maxLen; omega) (show Lies (w5.drewN 1) (w5.drewN 1).heap.size A l from S5.arg) (by omega) (by omega) HE.out).mono ?_
            rw [← HCQ.out, ← HDQ.out]
            rintro e w6 ⟨rfl, hB6, hR6, hK6⟩
            have hJ6 : JAt w6 jb d ⟨#[106]⟩ cq dq := (hK6 jb HX5.out.1 H4.out.ne).trans HJ5.out
            have HZ := Lib.hid (DS.mk hB6 HX5.out.1 HX5.out.2.1 HX5.out.2.2.1 HX5.out.2.2.2 hJ6 hR6)
            have S6 := adds_next S5 H4.out HP4.out HO4.out hbl5.out hK6 hB6 HLw.out
            have r6 := hR6.c2
            have s6c := S6.cell
            clear hB6 hR6 hK6 hJ6
            refine hK.out _ _ ⟨S6.cell, conv_now S6.len S6.own, conv_now S6.len S6.arg⟩ (fun hH6 => ?_)
            clear hK K hHeld hH6
            refine wpAnyH_mono (S2 := fun W => W.cell? ⟨wr.heap.size, 1, none⟩ = some (.slice A m c) ∧ (convert 23 9 (.slice A1 m c1')).run Try.prog W = .ok (.string ⟨l.toArray⟩) W ∧ (convert 23 9 (.slice A m c)).run Try.prog W = .ok (.string ⟨l.toArray⟩) W ∧ W.cell? ⟨rb, 2, none⟩ = some (.int .i64 (cq : Int))) (fun W h => ⟨h.1, h.2.1, h.2.2.1⟩) _ _ _ _ ?_
            have hHeld : (fun W => W.cell? ⟨wr.heap.size, 1, none⟩ = some (.slice A m c) ∧ (convert 23 9 (.slice A1 m c1')).run Try.prog W = .ok (.string ⟨l.toArray⟩) W ∧ (convert 23 9 (.slice A m c)).run Try.prog W = .ok (.string ⟨l.toArray⟩) W ∧ W.cell? ⟨rb, 2, none⟩ = some (.int .i64 (cq : Int))) w6 := ⟨S6.cell, conv_now S6.len S6.own, conv_now S6.len S6.arg, r6⟩
            try simp only [Act.put, List.setIfInBounds_toArray, List.set_cons_zero, List.set_cons_succ]
            refine wpAnyH_take (i := 5) (oi := ({ dst := some 92, op := Op.binOp BinOp.neq 34 (Operand.tmp 87) (Operand.tmp 91) 34, type := 4, pos := "law.go:85", after := #[{ on := 0, ground := Ground.data }, { on := 4, ground := Ground.data }], guard := none } : Oper)) (v := ?_) rfl (by kernel_rfl) (by kernel_rfl) (by kernel_rfl) (fun _ _ _ h => h) (Or.inl ⟨by rfl, ?hy5⟩) hHeld ?_
            case hy5 => (intro W hSw; (try dsimp only at hSw); go_simp; (try with_reducible rfl))
            try simp only [Act.put, List.setIfInBounds_toArray, List.set_cons_zero, List.set_cons_succ]
            refine wpAnyH_take (i := 6) (oi := ({ dst := some 93, op := Op.move (Operand.tmp 92), type := 4, pos := "law.go:85", after := #[{ on := 5, ground := Ground.data }, { on := 4, ground := Ground.chain }], guard := none } : Oper)) (v := ?_) rfl (by kernel_rfl) (by kernel_rfl) (by kernel_rfl) (fun _ _ _ h => h) (Or.inl ⟨by rfl, ?hy6⟩) hHeld ?_
            case hy6 => (intro W hSw; (try dsimp only at hSw); go_simp; (try with_reducible rfl))
            try simp only [Act.put, List.setIfInBounds_toArray, List.set_cons_zero, List.set_cons_succ]
            refine wpAnyH_take (i := 7) (oi := ({ dst := some 94, op := Op.move (Operand.tmp 14), type := 23, pos := "law.go:85", after := #[{ on := 6, ground := Ground.guard }], guard := some (6, false) } : Oper)) (v := ?_) rfl (by kernel_rfl) (by kernel_rfl) (by kernel_rfl) (fun _ _ _ h => h) (Or.inl ⟨by rfl, ?hy7⟩) hHeld ?_
            case hy7 => (intro W hSw; (try dsimp only at hSw); go_simp; (try with_reducible rfl))
            try simp only [Act.put, List.setIfInBounds_toArray, List.set_cons_zero, List.set_cons_succ]
            refine wpAnyH_take (i := 8) (oi := ({ dst := some 95, op := Op.convert 23 9 (Operand.tmp 94), type := 9, pos := "law.go:85", after := #[{ on := 7, ground := Ground.data }, { on := 6, ground := Ground.guard }], guard := some (6, false) } : Oper)) (v := ?_) rfl (by kernel_rfl) (by kernel_rfl) (by kernel_rfl) (fun _ _ _ h => h) (Or.inl ⟨by rfl, ?hy8⟩) hHeld ?_
            case hy8 => (intro W hSw; (try dsimp only at hSw); go_simp; (try with_reducible rfl))
            try simp only [Act.put, List.setIfInBounds_toArray, List.set_cons_zero, List.set_cons_succ]
            refine wpAnyH_take (i := 9) (oi := ({ dst := some 96, op := Op.fieldAddr 25 (Operand.tmp 13) 1, type := 0, pos := "law.go:85", after := #[{ on := 6, ground := Ground.guard }], guard := some (6, false) } : Oper)) (v := ?_) rfl (by kernel_rfl) (by kernel_rfl) (by kernel_rfl) (fun _ _ _ h => h) (Or.inl ⟨by rfl, ?hy9⟩) hHeld ?_
            case hy9 => (intro W hSw; (try dsimp only at hSw); go_simp; (try with_reducible rfl))
            try simp only [Act.put, List.setIfInBounds_toArray, List.set_cons_zero, List.set_cons_succ]
            refine wpAnyH_take (i := 10) (oi := ({ dst := some 97, op := Op.load 23 (Operand.tmp 96), type := 23, pos := "law.go:85", after := #[{ on := 9, ground := Ground.data }, { on := 6, ground := Ground.guard }], guard := some (6, false) } : Oper)) (v := ?_) rfl (by kernel_rfl) (by kernel_rfl) (by kernel_rfl) (fun _ _ _ h => h) (Or.inl ⟨by rfl, ?hy10⟩) hHeld ?_
            case hy10 => (intro W hSw; (try dsimp only at hSw); go_simp; (try with_reducible rfl))
            try simp only [Act.put, List.setIfInBounds_toArray, List.set_cons_zero, List.set_cons_succ]
            refine wpAnyH_take (i := 11) (oi := ({ dst := some 98, op := Op.convert 23 9 (Operand.tmp 97), type := 9, pos := "law.go:85", after := #[{ on := 10, ground := Ground.data }, { on := 6, ground := Ground.guard }], guard := some (6, false) } : Oper)) (v := ?_) rfl (by kernel_rfl) (by kernel_rfl) (by kernel_rfl) (fun _ _ _ h => h) (Or.inl ⟨by rfl, ?hy11⟩) hHeld ?_
            case hy11 => (intro W hSw; (try dsimp only at hSw); go_simp; (try with_reducible rfl))
            try simp only [Act.put, List.setIfInBounds_toArray, List.set_cons_zero, List.set_cons_succ]
            refine wpAnyH_take (i := 12) (oi := ({ dst := some 99, op := Op.binOp BinOp.neq 9 (Operand.tmp 95) (Operand.tmp 98) 9, type := 4, pos := "law.go:85", after := #[{ on := 8, ground := Ground.data }, { on := 11, ground := Ground.data }, { on := 6, ground := Ground.guard }], guard := some (6, false) } : Oper)) (v := ?_) rfl (by kernel_rfl) (by kernel_rfl) (by kernel_rfl) (fun _ _ _ h => h) (Or.inl ⟨by rfl, ?hy12⟩) hHeld ?_
            case hy12 => (intro W hSw; (try dsimp only at hSw); go_simp; (try with_reducible rfl))
            try simp only [Act.put, List.setIfInBounds_toArray, List.set_cons_zero, List.set_cons_succ]
            refine wpAnyH_take (i := 13) (oi := ({ dst := some 100, op := Op.pick (Operand.tmp 93) (Operand.const (Value.bool true)) (Operand.tmp 99), type := 4, pos := "law.go:85", after := #[{ on := 6, ground := Ground.data }, { on := 12, ground := Ground.data }], guard := none } : Oper)) (v := ?_) rfl (by kernel_rfl) (by kernel_rfl) (by kernel_rfl) (fun _ _ _ h => h) (Or.inl ⟨by rfl, ?hy13⟩) hHeld ?_
            case hy13 => (intro W hSw; (try dsimp only at hSw); go_simp; (try with_reducible rfl))
            try simp only [Act.put, List.setIfInBounds_toArray, List.set_cons_zero, List.set_cons_succ]
            refine wpAnyH_take (i := 14) (oi := ({ dst := some 101, op := Op.move (Operand.tmp 100), type := 4, pos := "law.go:85", after := #[{ on := 13, ground := Ground.data }, { on := 6, ground := Ground.chain }], guard := none } : Oper)) (v := ?_) rfl (by kernel_rfl) (by kernel_rfl) (by kernel_rfl) (fun _ _ _ h => h) (Or.inl ⟨by rfl, ?hy14⟩) hHeld ?_
            case hy14 => (intro W hSw; (try dsimp only at hSw); go_simp; (try with_reducible rfl))
            try simp only [Act.put, List.setIfInBounds_toArray, List.set_cons_zero, List.set_cons_succ]
            refine wpAnyH_take (i := 15) (oi := ({ dst := some 102, op := Op.move (Operand.tmp 6), type := 32, pos := "law.go:85", after := #[{ on := 14, ground := Ground.guard }], guard := some (14, false) } : Oper)) (v := ?_) rfl (by kernel_rfl) (by kernel_rfl) (by kernel_rfl) (fun _ _ _ h => h) (Or.inl ⟨by rfl, ?hy15⟩) hHeld ?_
            case hy15 => (intro W hSw; (try dsimp only at hSw); go_simp; (try with_reducible rfl))
            try simp only [Act.put, List.setIfInBounds_toArray, List.set_cons_zero, List.set_cons_succ]
            refine wpAnyH_take (i := 17) (oi := ({ dst := some 104, op := Op.move (Operand.tmp 9), type := 37, pos := "law.go:85", after := #[{ on := 14, ground := Ground.guard }], guard := some (14, false) } : Oper)) (v := ?_) rfl (by kernel_rfl) (by kernel_rfl) (by kernel_rfl) (fun _ _ _ h => h) (Or.inl ⟨by rfl, ?hy17⟩) hHeld ?_
            case hy17 => (intro W hSw; (try dsimp only at hSw); go_simp; (try with_reducible rfl))
            try simp only [Act.put, List.setIfInBounds_toArray, List.set_cons_zero, List.set_cons_succ]
            refine wpAnyH_take (i := 18) (oi := ({ dst := some 105, op := Op.nilCheck (Operand.tmp 104), type := 0, pos := "law.go:85", after := #[{ on := 17, ground := Ground.data }, { on := 14, ground := Ground.guard }], guard := some (14, false) } : Oper)) (v := ?_) rfl (by kernel_rfl) (by kernel_rfl) (by kernel_rfl) (fun _ _ _ h => h) (Or.inl ⟨by rfl, ?hy18⟩) hHeld ?_
            case hy18 => (intro W hSw; (try dsimp only at hSw); go_simp; (try with_reducible rfl))
            try simp only [Act.put, List.setIfInBounds_toArray, List.set_cons_zero, List.set_cons_succ]
            refine wpAnyH_take (i := 19) (oi := ({ dst := some 106, op := Op.fieldAddr 44 (Operand.tmp 105) 2, type := 0, pos := "law.go:85", after := #[{ on := 18, ground := Ground.data }, { on := 14, ground := Ground.guard }], guard := some (14, false) } : Oper)) (v := ?_) rfl (by kernel_rfl) (by kernel_rfl) (by kernel_rfl) (fun _ _ _ h => h) (Or.inl ⟨by rfl, ?hy19⟩) hHeld ?_
            case hy19 => (intro W hSw; (try dsimp only at hSw); go_simp; (try with_reducible rfl))
            try simp only [Act.put, List.setIfInBounds_toArray, List.set_cons_zero, List.set_cons_succ]
            refine wpAnyH_take (i := 20) (oi := ({ dst := some 107, op := Op.load 3 (Operand.tmp 106), type := 3, pos := "law.go:85", after := #[{ on := 19, ground := Ground.data }, { on := 14, ground := Ground.guard }], guard := some (14, false) } : Oper)) (v := ?_) rfl (by kernel_rfl) (by kernel_rfl) (by kernel_rfl) (fun _ _ _ h => h) (Or.inl ⟨by rfl, ?hy20⟩) hHeld ?_
            case hy20 => (intro W hSw; (try dsimp only at hSw); go_simp; (try with_reducible rfl))
            try simp only [Act.put, List.setIfInBounds_toArray, List.set_cons_zero, List.set_cons_succ]
            refine wpAnyH_ready (rs := [16]) (by kernel_rfl) (by simp) ?_
            refine AllReadyH.cons (o := ({ dst := some 103, op := Op.call { callee := Callee.value (Operand.func 14), args := #[Operand.tmp 102], argTypes := #[32] }, type := 3, pos := "law.go:85", after := #[{ on := 15, ground := Ground.data }, { on := 14, ground := Ground.chain }, { on := 14, ground := Ground.guard }], guard := some (14, false) } : Oper)) rfl (fun K hK => ?_) AllReadyH.nil
            go_simp
            go_at_call 14
            refine (len_any HZ.out.j).mono ?_
            rintro e wX ⟨rfl, rfl⟩
            refine hK.out _ _ hHeld (fun hH7 => ?_)
            clear hK K hH7
            try simp only [Act.put, List.setIfInBounds_toArray, List.set_cons_zero, List.set_cons_succ]
            refine wpAnyH_take (i := 21) (oi := ({ dst := some 108, op := Op.binOp BinOp.neq 3 (Operand.tmp 103) (Operand.tmp 107) 3, type := 4, pos := "law.go:85", after := #[{ on := 16, ground := Ground.data }, { on := 20, ground := Ground.data }, { on := 14, ground := Ground.guard }], guard := some (14, false) } : Oper)) (v := ?_) rfl (by kernel_rfl) (by kernel_rfl) (by kernel_rfl) (fun _ _ _ h => h) (Or.inl ⟨by rfl, ?hy21⟩) hHeld ?_
            case hy21 => (intro W hSw; (try dsimp only at hSw); go_simp; (try with_reducible rfl))
            try simp only [Act.put, List.setIfInBounds_toArray, List.set_cons_zero, List.set_cons_succ]
            refine wpAnyH_take (i := 22) (oi := ({ dst := some 109, op := Op.pick (Operand.tmp 101) (Operand.const (Value.bool true)) (Operand.tmp 108), type := 4, pos := "law.go:85", after := #[{ on := 14, ground := Ground.data }, { on := 21, ground := Ground.data }], guard := none } : Oper)) (v := ?_) rfl (by kernel_rfl) (by kernel_rfl) (by kernel_rfl) (fun _ _ _ h => h) (Or.inl ⟨by rfl, ?hy22⟩) hHeld ?_
            case hy22 => (intro W hSw; (try dsimp only at hSw); go_simp; (try with_reducible rfl))
            try simp only [Act.put, List.setIfInBounds_toArray, List.set_cons_zero, List.set_cons_succ]
            refine wpAnyH_done (by kernel_rfl) ?_ _
            clear hHeld
            all_goals
              have z1 := HZ.out.both.rcell1.1
              have z4 := HZ.out.both.rcell4
              have hue := up_ne (s').off
              go_wp2_with fail
              go_region_held3 (fun W => W.cell? ⟨w1.heap.size, 1, none⟩ = some (.bool (s').off) ∧ W.cell? ⟨w1.heap.size, 4, none⟩ = some (.int .i64 ((s').deeds : Int))) (first | exact ⟨z1, z4⟩)
                (first
                  | (go_at_call 22; refine ((HZ.out.both.drewN 1).up).mono ?_; rintro e wX ⟨rfl, rfl⟩)
                  | (go_at_call 23; refine ((HZ.out.both.drewN 1).deeds).mono ?_; rintro e wX ⟨rfl, rfl⟩))
              all_goals
                go_wp2
                go_roundw
                case rel => exact ⟨k + 1, s', cq, dq, jb, rb, _, by omega, by go_num, rfl, rfl, by omega, by omega, HZ.out.drewN 1⟩
                case measure => simp [intOf]; omega
          by_cases hk1 : kind = 1
          · subst hk1
            obtain ⟨q, s', he⟩ : ∃ q s', openD s J = (q, s') := ⟨_, _, rfl⟩
            have hdd := open_deeds he
            by_cases hq : q = 0
            · subst hq
              obtain ⟨L, hL⟩ : ∃ L, recs (dataOf s J) = L := ⟨_, rfl⟩
              obtain ⟨nL, hnL⟩ : ∃ nL, L.length = nL := ⟨_, rfl⟩
              have hnl : nL ≤ 2097152 := by
                have e1 := recs_length (dataOf s J)
                have e2 := dataOf_long (both_good HD.out.both) J
                rw [hL] at e1; omega
              have HE := Lib.hid he
              have HL := Lib.hid hL
              have HN := Lib.hid hnL
              clear he hL hnL
              go_wp2_with (go_at_call 9; refine (openP HA.out.both (by omega) HE.out HL.out).mono ?_; unfold OpenP; rw [HN.out]; rintro e w4 ⟨jb4, A4, c4, X4, rfl, hX4, hXj, hjb4, hj4, hr4, hB4, hK4⟩; have hj0 : w.heap.size ≤ jb4 := (by have := HA.out.both.size; omega); have HB4 := Lib.hid hB4; have HX4 := Lib.hid hXj; have HJ4 := Lib.hid hj4; have HR4 := Lib.hid hr4; clear hX4 hXj hj4 hr4 hB4 hK4)
              go_wp2_with (go_at_call 10; refine (openR HB4.out (by omega) HE.out HL.out).mono ?_; unfold OpenR; rw [HN.out]; rintro e w5 ⟨rb5, A5, c5, X5, rfl, hX5, hXr, hrb5, hj5, hr5, hB5, hK5⟩; have hr0 : w.heap.size ≤ rb5 := (by have := HB4.out.size; omega); have HZ0 := Lib.hid (DS.mk hB5 (hX5 _ HX4.out) hXr hj0 hr0 (HJ4.out.kept hK5 HX4.out) hj5); have HR5 := Lib.hid hr5; have HR45 := Lib.hid (HR4.out.kept fun b hb => hK5 b hb.1); clear hX5 hXr hj5 hr5 hB5 hK5)
              go_wp2_with (go_at_call 11; refine (same_yes HR45.out HR5.out (by unfold maxLen; omega)).mono ?_; rintro e wX ⟨rfl, k5, rfl⟩)
              have HZ := Lib.hid (HZ0.out.drewN k5)
              have z1 := HZ.out.both.rcell1.1
              have z4 := HZ.out.both.rcell4
              have hue := up_ne (s').off
              go_wp2_with fail
              go_region_held3 (fun W => W.cell? ⟨w1.heap.size, 1, none⟩ = some (.bool (s').off) ∧ W.cell? ⟨w1.heap.size, 4, none⟩ = some (.int .i64 ((s').deeds : Int))) (first | exact ⟨z1, z4⟩)
                (first
                  | (go_at_call 22; refine ((HZ.out.both.drewN 1).up).mono ?_; rintro e wX ⟨rfl, rfl⟩)
                  | (go_at_call 23; refine ((HZ.out.both.drewN 1).deeds).mono ?_; rintro e wX ⟨rfl, rfl⟩))
              all_goals
                go_wp2
                go_roundw
                case rel => exact ⟨k + 1, s', nL, false, jb4, rb5, _, by omega, by go_num, rfl, rfl, by omega, by omega, HZ.out.drewN 1⟩
                case measure => simp [intOf]; omega
            · have HE := Lib.hid he
              have hqq : (q != 0) = true := by simpa using hq
              clear he
              go_wp2_with (go_at_call 9; refine (openP_no HA.out.both (by omega) HE.out hq).mono ?_; rintro e w4 ⟨rfl, hB4, hK4⟩; have H4 := Lib.hid (HA.out.move hB4 (fun _ h => h) hK4); clear hB4 hK4)
              go_wp2_with (go_at_call 10; refine (openR_no H4.out.both (by omega) HE.out hq).mono ?_; rintro e w5 ⟨rfl, hB5, hK5⟩; have H5 := Lib.hid (H4.out.move hB5 (fun _ h => h) hK5); clear hB5 hK5)
              go_wp2_with (go_at_call 11; refine (same_yes (Recs.nil (X := fun _ => True)) (Recs.nil (X := fun _ => True)) (by decide)).mono ?_; rintro e wX ⟨rfl, k5, rfl⟩)
              have HZ := Lib.hid (H5.out.drewN k5)
              have z1 := HZ.out.both.rcell1.1
              have z4 := HZ.out.both.rcell4
              have hue := up_ne (s').off
              go_wp2_with fail
              go_region_held3 (fun W => W.cell? ⟨w1.heap.size, 1, none⟩ = some (.bool (s').off) ∧ W.cell? ⟨w1.heap.size, 4, none⟩ = some (.int .i64 ((s').deeds : Int))) (first | exact ⟨z1, z4⟩)
                (first
                  | (go_at_call 22; refine ((HZ.out.both.drewN 1).up).mono ?_; rintro e wX ⟨rfl, rfl⟩)
                  | (go_at_call 23; refine ((HZ.out.both.drewN 1).deeds).mono ?_; rintro e wX ⟨rfl, rfl⟩))
              all_goals
                go_wp2
                go_roundw
                case rel => exact ⟨k + 1, s', cnt, down, jb, rb, _, by omega, by go_num, rfl, rfl, by omega, by omega, HZ.out.drewN 1⟩
                case measure => simp [intOf]; omega
          by_cases hk2 : kind = 2
          · subst hk2
            go_wp2_with (first
              | (go_at_call 15; refine (HA.out.callD fun S hD => arm_any hD n1 n2 k1 k2).mono ?_; rintro e w4 ⟨rfl, h4, hK4⟩; have H4 := Lib.hid h4; have p4 := HP0.out.kept hK4 (.inr rfl); have p42 := p4.c2; have p43 := p4.c3; clear h4 hK4)
              | (go_at_call 16; refine (H4.out.callR fun T hR => rarm_any hR n2 k1 k2).mono ?_; rintro e w5 ⟨rfl, h5, -⟩; have HZ := Lib.hid h5; clear h5))
            have z1 := HZ.out.both.rcell1.1
            have z4 := HZ.out.both.rcell4
            have hue := up_ne (armD s n keep).off
            go_wp2_with fail
            go_region_held3 (fun W => W.cell? ⟨w1.heap.size, 1, none⟩ = some (.bool (armD s n keep).off) ∧ W.cell? ⟨w1.heap.size, 4, none⟩ = some (.int .i64 ((armD s n keep).deeds : Int))) (first | exact ⟨z1, z4⟩)
              (first
                | (go_at_call 22; refine ((HZ.out.both.drewN 1).up).mono ?_; rintro e wX ⟨rfl, rfl⟩)
                | (go_at_call 23; refine ((HZ.out.both.drewN 1).deeds).mono ?_; rintro e wX ⟨rfl, rfl⟩))
            all_goals
              go_wp2
              go_roundw
              case rel => exact ⟨k + 1, armD s n keep, cnt, down, jb, rb, _, by omega, by go_num, rfl, rfl, (by show s.deeds ≤ _; omega), by omega, HZ.out.drewN 1⟩
              case measure => simp [intOf]; omega
          by_cases hk3 : kind = 3
          · subst hk3
            go_wp2_with (first
              | (go_at_call 17; refine (HA.out.callD fun S hD => off_disk hD k1 k2).mono ?_; rintro e w4 ⟨rfl, h4, hK4⟩; have H4 := Lib.hid h4; have p4 := HP0.out.kept hK4 (.inr rfl); have p43 := p4.c3; clear h4 hK4)
              | (go_at_call 18; refine (H4.out.callR fun T hR => roff_any hR (by omega) k1 k2).mono ?_; rintro e w5 ⟨rfl, h5, -⟩; have HZ := Lib.hid h5; clear h5))
            have z1 := HZ.out.both.rcell1.1
            have z4 := HZ.out.both.rcell4
            have hue := up_ne (offD s keep).off
            go_wp2_with fail
            go_region_held3 (fun W => W.cell? ⟨w1.heap.size, 1, none⟩ = some (.bool (offD s keep).off) ∧ W.cell? ⟨w1.heap.size, 4, none⟩ = some (.int .i64 ((offD s keep).deeds : Int))) (first | exact ⟨z1, z4⟩)
              (first
                | (go_at_call 22; refine ((HZ.out.both.drewN 1).up).mono ?_; rintro e wX ⟨rfl, rfl⟩)
                | (go_at_call 23; refine ((HZ.out.both.drewN 1).deeds).mono ?_; rintro e wX ⟨rfl, rfl⟩))
            all_goals
              go_wp2
              go_roundw
              case rel => exact ⟨k + 1, offD s keep, cnt, down, jb, rb, _, by omega, by go_num, rfl, rfl, (by rw [off_deeds]; omega), by omega, HZ.out.drewN 1⟩
              case measure => simp [intOf]; omega
          by_cases hk4 : kind = 4
          · subst hk4
            go_wp2_with (go_at_call 19; refine (HA.out.callD fun S hD => on_any hD).mono ?_; rintro e w4 ⟨rfl, h4, hK4⟩; have H4 := Lib.hid h4; have p41 := h4.both.rcell1.1; have f41 := h4.both.rcell1.2; clear h4 hK4)
            have HZ := Lib.hid H4.out.ron
            have z1 := HZ.out.both.rcell1.1
            have z4 := HZ.out.both.rcell4
            have hue := up_ne (onD s).off
            go_wp2_with fail
            go_region_held3 (fun W => W.cell? ⟨w1.heap.size, 1, none⟩ = some (.bool (onD s).off) ∧ W.cell? ⟨w1.heap.size, 4, none⟩ = some (.int .i64 ((onD s).deeds : Int))) (first | exact ⟨z1, z4⟩)
              (first
                | (go_at_call 22; refine ((HZ.out.both.drewN 1).up).mono ?_; rintro e wX ⟨rfl, rfl⟩)
                | (go_at_call 23; refine ((HZ.out.both.drewN 1).deeds).mono ?_; rintro e wX ⟨rfl, rfl⟩))
            all_goals
              go_wp2
              go_roundw
              case rel => exact ⟨k + 1, onD s, cnt, down, jb, rb, _, by omega, by go_num, rfl, rfl, (by show s.deeds ≤ _; omega), by omega, HZ.out.drewN 1⟩
              case measure => simp [intOf]; omega
          by_cases hk5 : kind = 5
          · subst hk5
            obtain ⟨q, s', he⟩ : ∃ q s', appendD s J l = (q, s') := ⟨_, _, rfl⟩
            have hdd := append_deeds he
            have HE := Lib.hid he
            have Hlen := Lib.hid HO.out.len
            have HLw := Lib.hid HO.out.lies
            clear he
            go_wp2_with fail
            have p0 := HP0.out.c1
            have HA1 := Lib.hid (HA.out.drewN 1)
            have HP1 : Hid (OpAt ((wr.alloc (.cells #[.int .i64 5, .slice A m c, .int .i64 n, .int .i64 keep] 25)).drewN 1) wr.heap.size 5 n keep A m c) := HP0
            go_region_held3 (fun W => W.cell? ⟨wr.heap.size, 1, none⟩ = some (.slice A m c)) (first | exact p0 | exact pD | exact pR | exact pZ)
              (first
                | (go_at_call 20; refine (HR1.out.callD fun S hD => append_any hD j_small Hlen.out ((HLw.out.below HR1.out.both.bel).mono HR1.out.both.size) (by omega)).mono ?_; rw [show (⟨#[106]⟩ : ByteArray).data.toList = J from rfl, HE.out]; rintro e w5 ⟨rfl, h5, hK5⟩; have HZ := Lib.hid h5; have pZ := (HPR.out.kept hK5 (.inr rfl)).c1; clear h5 hK5)
                | (go_at_call 21; refine (HD1.out.callR fun T hR => rappend_any hR j_small Hlen.out ((HLw.out.below HD1.out.both.bel).mono HD1.out.both.size) (by omega)).mono ?_; rw [show (⟨#[106]⟩ : ByteArray).data.toList = J from rfl, HE.out]; rintro e w5 ⟨rfl, h5, hK5⟩; have HZ := Lib.hid h5; have pZ := (HPD.out.kept hK5 (.inr rfl)).c1; clear h5 hK5)
                | (go_at_call 20; refine (HA1.out.callD fun S hD => append_any hD j_small Hlen.out ((HLw.out.below HA1.out.both.bel).mono HA1.out.both.size) (by omega)).mono ?_; rw [show (⟨#[106]⟩ : ByteArray).data.toList = J from rfl, HE.out]; rintro e w4 ⟨rfl, h4, hK4⟩; have HD1 := Lib.hid h4; have HPD := Lib.hid (HP1.out.kept hK4 (.inr rfl)); have pD := HPD.out.c1; clear h4 hK4)
                | (go_at_call 21; refine (HA1.out.callR fun T hR => rappend_any hR j_small Hlen.out ((HLw.out.below HA1.out.both.bel).mono HA1.out.both.size) (by omega)).mono ?_; rw [show (⟨#[106]⟩ : ByteArray).data.toList = J from rfl, HE.out]; rintro e w4 ⟨rfl, h4, hK4⟩; have HR1 := Lib.hid h4; have HPR := Lib.hid (HP1.out.kept hK4 (.inr rfl)); have pR := HPR.out.c1; clear h4 hK4))
            all_goals
              go_wp2_with fail
              have z1 := HZ.out.both.rcell1.1
              have z4 := HZ.out.both.rcell4
              have hue := up_ne (s').off
              go_wp2_with fail
              go_region_held3 (fun W => W.cell? ⟨w1.heap.size, 1, none⟩ = some (.bool (s').off) ∧ W.cell? ⟨w1.heap.size, 4, none⟩ = some (.int .i64 ((s').deeds : Int))) (first | exact ⟨z1, z4⟩)
                (first
                  | (go_at_call 22; refine ((HZ.out.both.drewN 1).up).mono ?_; rintro e wX ⟨rfl, rfl⟩)
                  | (go_at_call 23; refine ((HZ.out.both.drewN 1).deeds).mono ?_; rintro e wX ⟨rfl, rfl⟩))
              all_goals
                go_wp2
                go_roundw
                case rel => exact ⟨k + 1, s', cnt, down, jb, rb, _, by omega, by go_num, rfl, rfl, by omega, by omega, HZ.out.drewN 1⟩
                case measure => simp [intOf]; omega
          have hn0 : (kind == 0) = false := by simpa using hk0
          have hn1 : (kind == 1) = false := by simpa using hk1
          have hn2 : (kind == 2) = false := by simpa using hk2
          have hn3 : (kind == 3) = false := by simpa using hk3
          have hn4 : (kind == 4) = false := by simpa using hk4
          have hn5 : (kind == 5) = false := by simpa using hk5
          have HZ := HA
          have z1 := HZ.out.both.rcell1.1
          have z4 := HZ.out.both.rcell4
          have hue := up_ne (s).off
          go_wp2_with fail
          go_region_held3 (fun W => W.cell? ⟨w1.heap.size, 1, none⟩ = some (.bool (s).off) ∧ W.cell? ⟨w1.heap.size, 4, none⟩ = some (.int .i64 ((s).deeds : Int))) (first | exact ⟨z1, z4⟩)
            (first
              | (go_at_call 22; refine ((HZ.out.both.drewN 1).up).mono ?_; rintro e wX ⟨rfl, rfl⟩)
              | (go_at_call 23; refine ((HZ.out.both.drewN 1).deeds).mono ?_; rintro e wX ⟨rfl, rfl⟩))
          all_goals
            go_wp2
            go_roundw
            case rel => exact ⟨k + 1, s, cnt, down, jb, rb, _, by omega, by go_num, rfl, rfl, by omega, by omega, HZ.out.drewN 1⟩
            case measure => simp [intOf]; omega
        · have hkl : ¬ (k : Int) < (len0 : Int) := by omega
          go_wp2_with (go_at_call 24; refine (awake_any _).mono ?_; rintro e w9 ⟨rfl, hb9⟩)
          go_ret
          exact ⟨rfl, HD.out.both.bel.trans (hb9.mono HD.out.both.size)⟩
end Go.Proofs.Ytkiombbdddbkfaa.Jn
