/-
  Panes gathered from all rows of the map, in whatever order the rows come: all of them, those of a group; sorted, the one row of them. Conditions: the keep lies in memory; at most 4000000 panes.
-/
import Derived.Test.YtlmnkmfpdjkijaaKApp
import Derived.Test.YtlmnkmfpdjkijaaKNew
import Derived.Test.YtlmnkmfpdjkijaaHHash
import Derived.Test.YtlmnkmfpdjkijaaKGrp
namespace Go.Proofs.Ytlmnkmfpdjkijaa.Kp
set_option linter.unusedVariables false
set_option linter.unusedSimpArgs false
open Go.Proofs.Ytlmnkmfpdjkijaa Go.Proofs.Ytlmnkmfpdjkijaa.Ke
open Go.RowKit

theorem same_str (a b : Ky) : Lit.sameKey (.string a) (.string b) = decide (a = b) := by
  by_cases h : a = b
  · subst h
    rw [decide_eq_true rfl]
    exact WideAt.sameKey_self (show WideAt.IsKeyLit (.string a) from trivial)
  · rw [decide_eq_false h]
    exact Maps.sameKey_ne (fun e => h (by injection e))
/-- What is gathered when one key more has come. -/
theorem gat_perm {l : List Pn} {P : Pn → Bool} {left : Lit → Bool} {x : Ky} (hx : left (.string x) = true) : (l.filter (fun y => P y && !left (.string y.k)) ++ (krow l x).filter P).Perm (l.filter fun y => P y && !(left (.string y.k) && !Lit.sameKey (.string y.k) (.string x))) := by
  have h := perm_or (fun y => P y && !left (.string y.k)) (fun y => P y && decide (y.k = x)) l
  have e1 : l.filter (fun y => (P y && decide (y.k = x)) && !(P y && !left (.string y.k))) = (krow l x).filter P := by
    unfold krow
    rw [List.filter_filter]
    apply List.filter_congr
    intro y _
    by_cases hy : y.k = x
    · rw [hy, hx]; cases P y <;> simp
    · rw [decide_eq_false hy]; simp
  have e2 : l.filter (fun y => (P y && !left (.string y.k)) || (P y && decide (y.k = x))) = l.filter fun y => P y && !(left (.string y.k) && !Lit.sameKey (.string y.k) (.string x)) := by
    apply List.filter_congr
    intro y _
    rw [same_str]
    cases P y <;> cases left (.string y.k) <;> cases decide (y.k = x) <;> rfl
  rw [e1, e2] at h
  exact h
/-- Some keys are done: their panes that a test lets by are gathered. -/
structure Gat (w : World) (bm : Nat) (D : DataW Value) (l : List Pn) (P : Pn → Bool) (left : Lit → Bool) (cnt : Nat) (A : List Pn) (v : Value) (wr : World) : Prop where
  rg : wr.ranges Try.prog 9 asIs bm w.heap.size (Maps.size D) D left cnt
  own : wr.ownsRow (w.heap.size + 1) 51 7 v A.length (pns A)
  perm : A.Perm (l.filter fun y => P y && !left (.string y.k))
  low : Below w.heap.size w wr
  room : w.heap.size + 1 ≤ wr.heap.size
section
variable {w wr w1 w2 : World} {S : Nat → Prop} {bm : Nat} {D : DataW Value} {V : Ky → Value} {l A : List Pn} {P : Pn → Bool} {left : Lit → Bool} {cnt cnt1 : Nat} {v v' : Value}
theorem Gat.start {w0 : World} (h : RowsV w S bm D V (krow l)) (hrg : w0.ranges Try.prog 9 asIs bm w.heap.size (Maps.size D) D (Maps.has D) (Maps.size D)) (hg : w.grownBy w0 none) (hs : w0.heap.size = w.heap.size + 1) : Gat w bm D l P (Maps.has D) (Maps.size D) [] (.slice none 0 0) w0 := by
  refine ⟨hrg, World.ownsRow_nil _ _ _ _, ?_, (Below.refl _ _).grown hg (Nat.le_refl _) (fun k e => by cases e), by rw [hs]; exact Nat.le_refl _⟩
  have : l.filter (fun y => P y && !Maps.has D (.string y.k)) = [] := List.filter_eq_nil_iff.2 (fun y hy => by
    rw [h.has]
    have : (!(krow l y.k).isEmpty) = true := isE.2 (fun e => (krow_empty.1 e) y hy rfl)
    rw [this]; simp)
  rw [this]
theorem Gat.long (g : Gat w bm D l P left cnt A v wr) : A.length ≤ l.length := by
  rw [g.perm.length_eq]; exact List.length_filter_le _ _
/-- What the range yields. -/
theorem yielded {x : Ky} {c : Value} {y : DataW Value × List MemPlace} {kl : Lit} (h : RowsV w S bm D V (krow l)) (hk : keyOf Try.prog 9 (kyV x) = some kl) (hc : asIs c = some y) (hat : ∀ zd, D.atKey kl zd = y.1) : kl = .string x ∧ krow l x ≠ [] ∧ c = V x ∧ x.length ≤ maxLen := by
  have hkl : kl = .string x ∧ x.length ≤ maxLen := by
    simp [keyOf, Try.underlying9, mapKey] at hk
    exact ⟨hk.2.symm, by have q : x.toArray.size ≤ maxLen := hk.1; simpa using q⟩
  obtain ⟨rfl, hl⟩ := hkl
  have hy := asIs_inv hc
  have hh : Maps.has D (.string x) = true := Maps.has_true_of_atKey hat
  rw [h.has] at hh
  have hr := isE.1 hh
  have h1 := hat .nil
  rw [h.el x hr, hy] at h1
  injection h1 with h1
  exact ⟨rfl, hr, h1.symm, hl⟩
/-- One key more, all of whose panes that the test lets by come behind. -/
theorem Gat.step {x : Ky} {R : List Pn} (g : Gat w bm D l P left cnt A v wr) (hx : left (.string x) = true) (hR : R = (krow l x).filter P) (hg1 : wr.grownBy w1 (some w.heap.size)) (hrg1 : w1.ranges Try.prog 9 asIs bm w.heap.size (Maps.size D) D (fun z => left z && !z.sameKey (.string x)) cnt1)
    (hown : w2.ownsRow (w.heap.size + 1) 51 7 v' (A ++ R).length (pns (A ++ R))) (hg2 : w1.grownBy w2 v.ownBlock) (hb : bm < w.heap.size) : Gat w bm D l P (fun z => left z && !z.sameKey (.string x)) cnt1 (A ++ R) v' w2 := by
  have hv : ∀ k, v.ownBlock = some k → w.heap.size + 1 ≤ k := fun k e => (g.own.lt k e).1
  refine ⟨hrg1.kept hg2 (fun e => by have := hv _ e.symm; omega) (fun e => by have := hv _ e.symm; omega), hown, ?_, ?_, Nat.le_trans g.room (Nat.le_trans hg1.size hg2.size)⟩
  · subst hR
    exact (List.Perm.append_right _ g.perm).trans (gat_perm hx)
  · exact (g.low.grown hg1 g.low.size (fun k e => by injection e with e; omega)).grown hg2 (Nat.le_trans g.low.size hg1.size) (fun k e => by have := hv k e; omega)
/-- One key more, of which the test lets no pane by. -/
theorem Gat.skip {x : Ky} (g : Gat w bm D l P left cnt A v wr) (hx : left (.string x) = true) (hR : (krow l x).filter P = []) (hg1 : wr.grownBy w1 (some w.heap.size)) (hrg1 : w1.ranges Try.prog 9 asIs bm w.heap.size (Maps.size D) D (fun z => left z && !z.sameKey (.string x)) cnt1) (hb : bm < w.heap.size) :
    Gat w bm D l P (fun z => left z && !z.sameKey (.string x)) cnt1 A v w1 := by
  have hv : ∀ k, v.ownBlock = some k → w.heap.size + 1 ≤ k := fun k e => (g.own.lt k e).1
  have hown : w1.ownsRow (w.heap.size + 1) 51 7 v A.length (pns A) := g.own.kept hg1 (.inr (fun e => by have := hv _ e; omega))
  have := g.step (w2 := w1) (v' := v) hx hR.symm hg1 hrg1 (by simpa using hown) ⟨rfl, rfl, rfl, Nat.le_refl _, fun _ _ _ => rfl⟩ hb
  rw [List.append_nil] at this
  exact this
/-- All keys are done. -/
theorem Gat.all (g : Gat w bm D l P left cnt A v wr) (h0 : ∀ kl, left kl = false) : A.Perm (l.filter P) := by
  have := g.perm
  rw [show (fun y : Pn => P y && !left (.string y.k)) = P from funext fun y => by rw [h0]; simp] at this
  exact this
theorem Gat.rows (g : Gat w bm D l P left cnt A v wr) (h : RowsV w S bm D V (krow l)) (hS : ∀ x, S x → x < w.heap.size) : RowsV wr S bm D V (krow l) := h.keep (fun x hx => g.low.block x (hS x hx))
end
theorem key_inv (key : Value) (kl : Lit) (h : keyOf Try.prog 9 key = some kl) : ∃ x : Ky, key = kyV x := by
  cases key <;> simp [keyOf, Try.underlying9, mapKey] at h
  exact ⟨_, rfl⟩
theorem val_inv (v : Value) (y : DataW Value × List MemPlace) (h : asIs v = some y) : ∃ c, v = id c := ⟨v, rfl⟩
set_option maxRecDepth 20000 in
set_option maxHeartbeats 2000000 in
theorem open_mem {w : World} {S : Nat → Prop} {b bm : Nat} {k s lw agg m : Int} {fr : Bool} {ld : Nat → Bool} {l : List Pn} (ht : KTop w b k s lw agg m fr ld bm) (hr : Rws w S bm (krow l)) (hS : ∀ x, S x → x < w.heap.size) (hl : l.length ≤ 4000000) (hs : Sd l) :
    Calls Try.prog 17 #[.pointer (some ⟨b, 0, none⟩)] w fun e w' => ∃ v, e = .returned v ∧ w'.ownsRow (w.heap.size + 1) 51 7 v l.length (pns l) ∧ Below w.heap.size w w' := by
  obtain ⟨D, V, hr⟩ := hr
  have c22 := ht.c22
  have HR := Lib.hid hr
  have HS := Lib.hid hS
  have HT := Lib.hid hs
  have hown := hr.own
  have hbm := hS _ hr.foot
  clear ht hr hS hs
  go_enter Try.func17, Try.ntmps17
  go_wp2_with (first
    | (at_range; refine wpList_range_own _ rfl _ 71 rfl 9 82 law Try.underlying71 asIs bm _ D rfl hown ?_; intro w0 hrg0 hg0 hs0)
    | go_in)
  go_frame
  have G0 := Lib.hid (Gat.start (P := fun _ => true) HR.out hrg0 hg0 hs0)
  clear hrg0 hg0 hs0 c22 hown
  go_loopw [3] (fun z wr => ∃ left cnt A, Hid (Gat w bm D l (fun _ => true) left cnt A z wr)) (fun _ wr => wr.rangeLeft bm w.heap.size)
  case atStart => exact ⟨_, _, _, G0⟩
  case round =>
    obtain ⟨left, cnt, A, G⟩ := hrel
    have hrg := G.out.rg
    go_wp2_with (first
      | (at_next; refine wpList_next_ranges _ rfl _ rfl 9 law asIs kyV id key_inv val_inv bm w.heap.size _ D left cnt rfl hrg ?_ ?_)
      | go_in)
    · intro hc0 hl0
      have HA := Lib.hid (G.out.all hl0)
      have hlen := G.out.long
      clear hrg hc0 hl0
      go_wp2_with (go_at_call 39; refine (sortP_at G.out.own (by omega) HT.out (by have := HA.out; rwa [List.filter_eq_self.2 (fun _ _ => rfl)] at this)).mono ?_; rintro e w' ⟨rfl, ho, hg⟩)
      go_ret
      exact ⟨_, rfl, ho, G.out.low.grown hg G.out.low.size (fun k e => by have := (G.out.own.lt k e).1; omega)⟩
    · intro x c kl y1 y2 w1 cnt1 hkey hlk hy hat hrg1 hlt hg1 hs1 hen
      obtain ⟨rfl, hne, rfl, hxl⟩ := yielded (y := (y1, y2)) HR.out hkey hy hat
      have hlen := G.out.long
      have HX := Lib.hid (show PnsAt w1 (V x) ((krow l x).filter fun _ => true) by
        rw [List.filter_eq_self.2 (fun _ _ => rfl)]
        exact (((G.out.rows HR.out HS.out).row x hne).keep (fun g hg => hg1.block g (by have := HR.out.lt hne hg; have := G.out.low.size; omega) (fun e => by injection e with e; have := HR.out.lt hne hg; omega))).lst)
      have HO := Lib.hid (show w1.ownsRow (w.heap.size + 1) 51 7 u3 A.length (pns A) from G.out.own.kept hg1 (.inr (fun e => by have := (G.out.own.lt _ e).1; omega)))
      have hkl := krow_len l x
      have HL := Lib.hid hlk
      have HG1 := Lib.hid hg1
      have HG := Lib.hid hrg1
      have hroom := G.out.room
      have hroom1 : w.heap.size + 1 ≤ w1.heap.size := Nat.le_trans hroom hg1.size
      have hflen : ((krow l x).filter fun _ => true).length ≤ 4000000 := Nat.le_trans (List.length_filter_le _ _) (by omega)
      have hcnt := hrg.left_eq
      clear hrg hkey hy hat hlk hg1 hrg1 hkl
      go_wp2_with (first
        | (at_builtin; refine wpList_app rfl _ _ 44 82 rfl Try.underlying44 Try.underlying82 (w.heap.size + 1) _ A rfl HO.out _ ((krow l x).filter fun _ => true) rfl HX.out (by omega) hroom1 ?_; intro v' w2 ho hg2 hloc)
        | go_in)
      have G2 := G.out.step HL.out rfl HG1.out HG.out ho hg2 hbm
      go_roundw
      case rel => exact ⟨_, _, _, Lib.hid G2⟩
      case measure => rw [G2.rg.left_eq, hcnt]; exact hlt
/-- The group of a key, by the program. -/
theorem pgrp_at {k : Ky} {g : Nat} (hg : grp k = g) (hk : k.length ≤ 16) (w : World) : Calls Try.prog 62 #[kyV k] w fun e w' => e = .returned (.int .i64 (g : Nat)) ∧ w = w' := by
  subst hg
  have h := Gp.group_any ⟨k.toArray⟩ w (by show k.toArray.size ≤ 4096; simp; omega)
  simpa [grp] using h
theorem grp_row {l : List Pn} {x : Ky} {g : Nat} : (krow l x).filter (fun y => decide (grp y.k = g)) = if grp x = g then krow l x else [] := by
  split
  · rename_i h
    exact List.filter_eq_self.2 (fun y hy => by rw [krow_key l x y hy]; simpa using h)
  · rename_i h
    exact List.filter_eq_nil_iff.2 (fun y hy => by rw [krow_key l x y hy]; simpa using h)
set_option maxRecDepth 20000 in
set_option maxHeartbeats 2000000 in
theorem inGroup_mem {w : World} {S : Nat → Prop} {b bm : Nat} {k s lw agg m : Int} {fr : Bool} {ld : Nat → Bool} {l : List Pn} {gr : Nat} (ht : KTop w b k s lw agg m fr ld bm) (hr : Rws w S bm (krow l)) (hS : ∀ x, S x → x < w.heap.size) (hl : l.length ≤ 4000000) (hs : Sd l) {L : List Pn} (hL : (l.filter fun y => decide (grp y.k = gr)) = L) :
    Calls Try.prog 43 #[.pointer (some ⟨b, 0, none⟩), .int .i64 gr] w fun e w' => ∃ v, e = .returned v ∧ w'.ownsRow (w.heap.size + 1) 51 7 v L.length (pns L) ∧ Below w.heap.size w w' := by
  obtain ⟨D, V, hr⟩ := hr
  have c22 := ht.c22
  have HR := Lib.hid hr
  have HS := Lib.hid hS
  have HT : Hid (Sd L) := Lib.hid (by rw [← hL]; exact hs.filter _)
  have HL0 := Lib.hid hL
  have hown := hr.own
  have hbm := hS _ hr.foot
  clear ht hr hS hs hL
  go_enter Try.func43, Try.ntmps43
  go_wp2_with (first
    | (at_range; refine wpList_range_own _ rfl _ 71 rfl 9 82 law Try.underlying71 asIs bm _ D rfl hown ?_; intro w0 hrg0 hg0 hs0)
    | go_in)
  go_frame
  have G0 := Lib.hid (Gat.start (P := fun y => decide (grp y.k = gr)) HR.out hrg0 hg0 hs0)
  clear hrg0 hg0 hs0 c22 hown
  go_loopw [5] (fun z wr => ∃ left cnt A, Hid (Gat w bm D l (fun y => decide (grp y.k = gr)) left cnt A z wr)) (fun _ wr => wr.rangeLeft bm w.heap.size)
  case atStart => exact ⟨_, _, _, G0⟩
  case round =>
    obtain ⟨left, cnt, A, G⟩ := hrel
    have hrg := G.out.rg
    go_wp2_with (first
      | (at_next; refine wpList_next_ranges _ rfl _ rfl 9 law asIs kyV id key_inv val_inv bm w.heap.size _ D left cnt rfl hrg ?_ ?_)
      | go_in)
    · intro hc0 hl0
      have HA := Lib.hid (G.out.all hl0)
      have hlen := G.out.long
      clear hrg hc0 hl0
      go_wp2_with (go_at_call 39; refine (sortP_at G.out.own (by omega) HT.out (by rw [← HL0.out]; exact HA.out)).mono ?_; rintro e w' ⟨rfl, ho, hg⟩)
      go_ret
      exact ⟨_, rfl, ho, G.out.low.grown hg G.out.low.size (fun k e => by have := (G.out.own.lt k e).1; omega)⟩
    · intro x c kl y1 y2 w1 cnt1 hkey hlk hy hat hrg1 hlt hg1 hs1 hen
      obtain ⟨rfl, hne, rfl, hxl⟩ := yielded (y := (y1, y2)) HR.out hkey hy hat
      have hx16 := HR.out.key x hne
      have hlen := G.out.long
      have HO := Lib.hid (show w1.ownsRow (w.heap.size + 1) 51 7 u5 A.length (pns A) from G.out.own.kept hg1 (.inr (fun e => by have := (G.out.own.lt _ e).1; omega)))
      have hkl := krow_len l x
      have HL := Lib.hid hlk
      have HG1 := Lib.hid hg1
      have HG := Lib.hid hrg1
      have hroom := G.out.room
      have hroom1 : w.heap.size + 1 ≤ w1.heap.size := Nat.le_trans hroom hg1.size
      have hcnt := hrg.left_eq
      by_cases hgx : grp x = gr
      · have HX := Lib.hid (show PnsAt w1 (V x) (krow l x) from
          (((G.out.rows HR.out HS.out).row x hne).keep (fun g hg => hg1.block g (by have := HR.out.lt hne hg; have := G.out.low.size; omega) (fun e => by injection e with e; have := HR.out.lt hne hg; omega))).lst)
        have HE : Hid (krow l x = (krow l x).filter fun y => decide (grp y.k = gr)) := Lib.hid (by rw [grp_row, if_pos hgx])
        have hb : ((gr : Int) == (gr : Int)) = true := by simp
        clear hrg hkey hy hat hlk hg1 hrg1
        go_wp2_with (first
          | (go_at_call 62; refine (pgrp_at hgx hx16 _).mono ?_; rintro e w' ⟨rfl, rfl⟩)
          | (at_builtin; refine wpList_app rfl _ _ 44 82 rfl Try.underlying44 Try.underlying82 (w.heap.size + 1) _ A rfl HO.out _ (krow l x) rfl HX.out (by omega) hroom1 ?_; intro v' w2 ho hg2 hloc))
        have G2 := G.out.step HL.out HE.out HG1.out HG.out ho hg2 hbm
        go_roundw
        case rel => exact ⟨_, _, _, Lib.hid G2⟩
        case measure => rw [G2.rg.left_eq, hcnt]; exact hlt
      · have HE : Hid ((krow l x).filter (fun y => decide (grp y.k = gr)) = []) := Lib.hid (by rw [grp_row, if_neg hgx])
        have hb : ((grp x : Int) == (gr : Int)) = false := by simpa using fun e => hgx (by omega)
        clear hrg hkey hy hat hlk hg1 hrg1
        go_wp2_with (first
          | (go_at_call 62; refine (pgrp_at rfl hx16 _).mono ?_; rintro e w' ⟨rfl, rfl⟩))
        have G2 := G.out.skip HL.out HE.out HG1.out HG.out hbm
        go_roundw
        case rel => exact ⟨_, _, _, Lib.hid G2⟩
        case measure => rw [G2.rg.left_eq, hcnt]; exact hlt
end Go.Proofs.Ytlmnkmfpdjkijaa.Kp
