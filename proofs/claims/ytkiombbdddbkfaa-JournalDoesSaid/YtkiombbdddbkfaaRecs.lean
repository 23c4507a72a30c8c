/-
  Slices of records in memory; recordsOf finds the records of a file's bytes. Conditions: the bytes lie in memory.
-/
import Derived.Test.YtkiombbdddbkfaaFramed
import Derived.Laws.Cover3
namespace Go.Proofs.Ytkiombbdddbkfaa.Jn
open Go.RowKit Go.Proofs.Ytkiombbdddbkfaa.Pk Go.Proofs.Ytkiombbdddbkfaa.Dk
set_option linter.unusedVariables false

theorem kept_cell {X : Nat → Prop} {w w' : World} (h : Kept X w w') {p : Addr} (hp : X p.block) : w'.cell? p = w.cell? p := by
  unfold World.cell?; rw [h _ hp]
/-- Bytes that lie in blocks of X. -/
def LiesX (w : World) (X : Nat → Prop) (A : Option Addr) (l : Bs) : Prop := ∀ k x, l[k]? = some x → ∃ b o, A = some ⟨b, o, none⟩ ∧ X b ∧ w.cell? ⟨b, o + k, none⟩ = some (bv x)
/-- A slice of records, all in blocks of X. -/
def Recs (w : World) (X : Nat → Prop) (A : Option Addr) (n : Nat) (L : List Bs) : Prop :=
  L.length = n ∧ ∀ (i : Nat) (r : Bs), L[i]? = some r → ∃ g o Ai ci, A = some ⟨g, o, none⟩ ∧ X g ∧ w.cell? ⟨g, o + i, none⟩ = some (.slice Ai r.length ci) ∧ LiesX w X Ai r
section
variable {w w' : World} {X Y : Nat → Prop} {A : Option Addr} {l : Bs} {n : Nat} {L : List Bs}
theorem LiesX.mono (h : LiesX w X A l) (hX : ∀ b, X b → Y b) : LiesX w Y A l := fun k x hx => by
  obtain ⟨b, o, e, hb, hc⟩ := h k x hx
  exact ⟨b, o, e, hX b hb, hc⟩
theorem LiesX.kept (h : LiesX w X A l) (hk : Kept X w w') : LiesX w' X A l := fun k x hx => by
  obtain ⟨b, o, e, hb, hc⟩ := h k x hx
  exact ⟨b, o, e, hb, (kept_cell hk (p := ⟨b, o + k, none⟩) hb).trans hc⟩
theorem LiesX.lies (h : LiesX w X A l) : Lies w w.heap.size A l := fun k x hx => by
  obtain ⟨b, o, e, hb, hc⟩ := h k x hx
  exact ⟨b, o, e, cell_block_lt (p := ⟨b, o + k, none⟩) hc, hc⟩
theorem LiesX.of {B : Nat} (h : Lies w B A l) : LiesX w (· < B) A l := h
theorem Recs.mono (h : Recs w X A n L) (hX : ∀ b, X b → Y b) : Recs w Y A n L := ⟨h.1, fun i r hr => by
  obtain ⟨g, o, Ai, ci, e, hg, hc, hl⟩ := h.2 i r hr
  exact ⟨g, o, Ai, ci, e, hX g hg, hc, hl.mono hX⟩⟩
theorem Recs.kept (h : Recs w X A n L) (hk : Kept X w w') : Recs w' X A n L := ⟨h.1, fun i r hr => by
  obtain ⟨g, o, Ai, ci, e, hg, hc, hl⟩ := h.2 i r hr
  exact ⟨g, o, Ai, ci, e, hg, (kept_cell hk (p := ⟨g, o + i, none⟩) hg).trans hc, hl.kept hk⟩⟩
theorem Recs.drewN (h : Recs w X A n L) (k : Nat) : Recs (w.drewN k) X A n L := h
theorem Recs.take (h : Recs w X A n L) {m : Nat} (hm : m ≤ n) : Recs w X A m (L.take m) := ⟨by rw [List.length_take, h.1]; omega, fun i r hr => by
  rw [List.getElem?_take] at hr
  split at hr
  · exact h.2 i r hr
  · cases hr⟩
theorem Recs.nil : Recs w X A 0 [] := ⟨rfl, fun i r hr => by simp at hr⟩
end

/-- The entries of a row of records, each in a row of its own. -/
def Ents (w : World) (base : Nat) (L : List Bs) (xs : List Value) : Prop :=
  xs.length = L.length ∧ ∀ (i : Nat) (r : Bs), L[i]? = some r → ∃ v, xs[i]? = some v ∧ w.ownsRow base 5 1 v r.length (cells r)
theorem own_keep {w w' : World} {base e n : Nat} {v : Value} {xs : List Value} (h : w.ownsRow base e 1 v n xs) (hk : ∀ g, v.ownBlock = some g → w'.heap[g]? = w.heap[g]?) : w'.ownsRow base e 1 v n xs := by
  refine ⟨h.1, ?_⟩
  rcases h.2 with h1 | ⟨g, cap, cur, rfl, hb, hg, rest⟩
  · exact .inl h1
  · exact .inr ⟨g, cap, cur, rfl, hb, (hk g rfl).trans hg, rest⟩
theorem own_apart {w : World} {base base' n m g : Nat} {v u : Value} {xs ys : List Value} (h : w.ownsRow base 5 1 v n xs) (k : w.ownsRow base' 23 1 u m ys) (hv : v.ownBlock = some g) (hu : u.ownBlock = some g) : False := by
  rcases h.2 with ⟨rfl, _⟩ | ⟨g1, _, _, rfl, _, h1, _⟩
  · cases hv
  rcases k.2 with ⟨rfl, _⟩ | ⟨g2, _, _, rfl, _, h2, _⟩
  · cases hu
  simp only [Value.ownBlock, Option.some.injEq] at hv hu
  subst hv
  subst hu
  rw [h1] at h2
  simp at h2
theorem Ents.grown {w w' : World} {base base' n : Nat} {L : List Bs} {xs ys : List Value} {u : Value} (h : Ents w base L xs) (k : w.ownsRow base' 23 1 u n ys) (hg : w.grownBy w' u.ownBlock) : Ents w' base L xs :=
  ⟨h.1, fun i r hr => by
    obtain ⟨v, hv, ho⟩ := h.2 i r hr
    exact ⟨v, hv, own_keep ho fun g hgv => hg.block g (ho.lt g hgv).2 (fun e => own_apart ho k hgv e.symm)⟩⟩
theorem Ents.below {w w' : World} {base : Nat} {L : List Bs} {xs : List Value} (h : Ents w base L xs) (hb : Below w.heap.size w w') : Ents w' base L xs :=
  ⟨h.1, fun i r hr => by
    obtain ⟨v, hv, ho⟩ := h.2 i r hr
    exact ⟨v, hv, own_keep ho fun g hgv => hb.block g (ho.lt g hgv).2⟩⟩
theorem Ents.snoc {w : World} {base : Nat} {L : List Bs} {xs : List Value} {v : Value} {r : Bs} (h : Ents w base L xs) (ho : w.ownsRow base 5 1 v r.length (cells r)) : Ents w base (L ++ [r]) (xs ++ [v]) :=
  ⟨by simp [h.1], fun i q hq => by
    rcases Nat.lt_trichotomy i L.length with hi | hi | hi
    · rw [List.getElem?_append_left hi] at hq
      obtain ⟨u, hu, hou⟩ := h.2 i q hq
      exact ⟨u, by rw [List.getElem?_append_left (by rw [h.1]; exact hi)]; exact hu, hou⟩
    · subst hi
      rw [List.getElem?_append_right (Nat.le_refl _), Nat.sub_self] at hq
      simp at hq
      subst hq
      exact ⟨v, by rw [← h.1]; simp, ho⟩
    · rw [List.getElem?_eq_none (by simp; omega)] at hq; cases hq⟩
theorem Ents.recs {w w0 : World} {L : List Bs} {xs : List Value} {A : Option Addr} {n c : Nat} (h : Ents w w0.heap.size L xs) (hown : w.ownsRow w0.heap.size 23 1 (.slice A n c) n xs) : Recs w (fun b => w0.heap.size ≤ b ∧ b < w.heap.size) A n L := by
  have hn : xs.length = n := by have := hown.1; omega
  refine ⟨by rw [← h.1]; exact hn, fun i r hr => ?_⟩
  obtain ⟨v, hv, ho⟩ := h.2 i r hr
  obtain ⟨Ai, ci, rfl, -, -, -, -, hlt⟩ := own_form ho
  have hin : i < n := by rw [← hn]; exact (List.getElem?_eq_some_iff.1 hv).1
  rcases hown.2 with ⟨e, _⟩ | ⟨g, cap, cur, e, hB, hg, _⟩
  · simp at e; omega
  · injection e with e1 e2 e3
    subst e1
    have hc := hown.cells (g := g) rfl i _ hv
    rw [Addr.add_lit, Nat.zero_add] at hc
    refine ⟨g, 0, Ai, ci, rfl, hown.lt g rfl, by rw [Nat.zero_add]; exact hc, fun k x hx => ?_⟩
    obtain ⟨b, o, rfl, -, hc2⟩ := (Lies.of_own ho) k x hx
    rcases ho.2 with ⟨e, _⟩ | ⟨g2, _, _, e, _⟩
    · cases e
    · injection e with e1
      injection e1 with e1
      injection e1 with e1 e2
      subst e1 e2
      exact ⟨_, _, rfl, ho.lt _ rfl, hc2⟩

theorem info23 : (Try.prog.info? 23).map (fun i => (i.zero, i.size, i.bytes)) = some (some (.slice none 0 0), 1, 24) := by kernel_rfl
def sliceLen : Value → Nat
  | .slice _ n _ => n
  | _ => 0
/-- What recordsOf hands back. -/
def FoundRecs (w : World) (l : Bs) (e : Ending) (w' : World) : Prop :=
  ∃ A c, e = .returned (.tuple #[.slice A (recs l).length c, .int .i64 ((l.length - used l : Nat) : Int)]) ∧ ((recs l).length ≤ c ∧ c ≤ maxLen) ∧ Recs w' (fun b => w.heap.size ≤ b ∧ b < w'.heap.size) A (recs l).length (recs l) ∧ Below w.heap.size w w'
theorem recs_next {l rest r : Bs} {L : List Bs} (h : recs l = L ++ recs rest) (hf : first rest = some r) : recs l = (L ++ [r]) ++ recs (rest.drop (8 + r.length)) := by
  rw [h, recs_some hf, List.append_assoc]; rfl
theorem used_next {l rest r : Bs} (h : l.length = used l - used rest + rest.length ∧ used rest ≤ used l) (hf : first rest = some r) : l.length = used l - used (rest.drop (8 + r.length)) + (rest.drop (8 + r.length)).length ∧ used (rest.drop (8 + r.length)) ≤ used l := by
  have e : used rest = 8 + r.length + used (rest.drop (8 + r.length)) := by unfold used; rw [recs_some hf, bytesOf_cons, List.length_append, frame_length]
  have := (first_some hf).2.1
  rw [List.length_drop]
  omega
theorem own_slice2 {w : World} {base n : Nat} {v : Value} {xs : List Value} (h : w.ownsRow base 23 1 v n xs) : ∃ A c, v = .slice A n c ∧ n ≤ c ∧ c ≤ maxLen := by
  rcases h.2 with ⟨rfl, rfl⟩ | ⟨g, cap, cur, rfl, _, _, h1, h2, _⟩
  · exact ⟨_, _, rfl, Nat.le_refl _, Nat.zero_le _⟩
  · exact ⟨_, _, rfl, h1, h2⟩
theorem own_slice {w : World} {base n : Nat} {v : Value} {xs : List Value} (h : w.ownsRow base 23 1 v n xs) : ∃ A c, v = .slice A n c := by
  rcases h.2 with ⟨rfl, rfl⟩ | ⟨g, cap, cur, rfl, _⟩
  · exact ⟨_, _, rfl⟩
  · exact ⟨_, _, rfl⟩

theorem eql_nil (a : Option Addr) (n c : Nat) (w : World) : (binOp .eql 23 (.slice a n c) (.slice none 0 0)).run Try.prog w = .ok (.bool a.isNone) w := by
  simp only [binOp]
  simp [run_equal_slice_nil w 23 5 a n c Try.underlying23]
theorem ffV_none (A : Option Addr) : ffV A none = .slice none 0 0 := rfl
theorem ffV_some {A : Option Addr} {r : Bs} {q : Nat} (h : r.length = q) : ffV A (some r) = .slice A (8 + q) (8 + q) := by subst h; rfl
theorem Ents.to {w w0 : World} {L M : List Bs} {xs : List Value} {v : Value} (h : Ents w w0.heap.size L xs) (hown : w.ownsRow w0.heap.size 23 1 v L.length xs) (e : L = M) : ∃ A c, v = .slice A M.length c ∧ (M.length ≤ c ∧ c ≤ maxLen) ∧ Recs w (fun b => w0.heap.size ≤ b ∧ b < w.heap.size) A M.length M := by
  subst e
  obtain ⟨A, c, rfl, h1, h2⟩ := own_slice2 hown
  exact ⟨A, c, rfl, ⟨h1, h2⟩, h.recs hown⟩

theorem lies_via {w w1 w2 : World} {B : Nat} {A : Option Addr} {l : Bs} (h : Lies w1 B A l) (h1 : Below B w w1) (h2 : Below B w w2) : Lies w2 B A l := h.keep fun p hp => (h2.cell hp).trans (h1.cell hp).symm
theorem recs_step (w : World) {w1 w2 : World} {q : Nat} {u : Value} {L : List Bs} {xs : List Value} {r : Bs} (ho : w1.ownsRow w.heap.size 23 1 u L.length xs) (he : Ents w1 w.heap.size L xs) (hB : Below w.heap.size w w1) (hq : r.length = q)
    (h2 : w2.ownsRow w1.heap.size 5 1 (.slice (some ⟨w1.heap.size, 0, none⟩) q q) q (cells r)) (hb : Below w1.heap.size w1 w2) :
    (w2.alloc (.cells #[.slice (some ⟨w1.heap.size, 0, none⟩) q q] 23)).ownsRow w.heap.size 23 1 u L.length xs ∧ Ents (w2.alloc (.cells #[.slice (some ⟨w1.heap.size, 0, none⟩) q q] 23)) w.heap.size (L ++ [r]) (xs ++ [.slice (some ⟨w1.heap.size, 0, none⟩) q q]) ∧ Below w.heap.size w (w2.alloc (.cells #[.slice (some ⟨w1.heap.size, 0, none⟩) q q] 23)) := by
  subst hq
  have hB2 : Below w.heap.size w w2 := hB.trans (hb.mono hB.size)
  have hba := (Below.refl w2.heap.size w2).alloc (Nat.le_refl _) (.cells #[.slice (some ⟨w1.heap.size, 0, none⟩) r.length r.length] 23)
  have ho2 := own_keep ho (w' := w2) fun g hg => hb.block g (ho.lt g hg).2
  refine ⟨own_keep ho2 fun g hg => hba.block g (ho2.lt g hg).2, ?_, hB2.trans (hba.mono hB2.size)⟩
  exact ((he.below hb).snoc (own_base h2 hB.size)).below hba

set_option maxRecDepth 20000 in
set_option maxHeartbeats 2000000 in
theorem recordsOf_any {A : Option Addr} {n c : Nat} {l : Bs} {w : World} (hl : l.length = n) (hc : n ≤ c) (hcm : c ≤ maxLen) (hm : n ≤ 16777216) (h : Lies w w.heap.size A l) :
    Calls Try.prog 29 #[.slice A n c] w (FoundRecs w l) := by
  obtain ⟨i0, hi, hz0, hz1, hz2⟩ := info_parts info23
  unfold maxLen at hcm
  have HL := Lib.hid h
  have H := Lib.hid hl
  clear h hl
  go_enter Try.func29, Try.ntmps29
  go_wp2
  go_loopw [0, 2] (fun dv rv wr => ∃ (rest : Bs) (A : Option Addr) (m c : Nat) (L : List Bs) (xs : List Value), dv = .slice A m c ∧ m ≤ c ∧ c ≤ 9223372036854775807 ∧ m ≤ 16777216 ∧ Hid (rest.length = m) ∧ Hid (Lies wr w.heap.size A rest) ∧ Hid (wr.ownsRow w.heap.size 23 1 rv L.length xs) ∧ Hid (Ents wr w.heap.size L xs) ∧ Hid (Below w.heap.size w wr) ∧ Hid (recs l = L ++ recs rest) ∧ Hid (l.length = used l - used rest + rest.length ∧ used rest ≤ used l)) (fun dv _ _ => sliceLen dv)
  case atStart => exact ⟨l, A, n, c, [], [], rfl, hc, by omega, hm, H.out, HL.out, World.ownsRow_nil _ _ _ _, ⟨rfl, fun i r hr => by simp at hr⟩, Below.refl _ _, rfl, by omega, Nat.le_refl _⟩
  case round =>
    obtain ⟨rest, A', m, c', L, xs, rfl, hmc, hc'm, hm', HM, HLi, HO, HE, HB, HR, HU⟩ := hrel
    cases hf : first rest with
    | none =>
      obtain ⟨Ar, cr, rfl⟩ := own_slice HO.out
      have hF := Lib.hid (firstFrame_any (c := c') HM.out hmc (by unfold maxLen; omega) (by omega) (HLi.out.mono HB.out.size))
      rw [hf, ffV_none] at hF
      have HF := Lib.hid hf
      clear hf
      have hnil : ∀ W, (binOp .eql 23 (.slice none 0 0) (.slice none 0 0)).run Try.prog W = .ok (.bool true) W := eql_nil none 0 0
      go_wp2_with (go_at_call 49; with_reducible refine hF.out.mono ?_; rintro e w1 ⟨rfl, hb1⟩)
      go_ret2
      have e1 : L = recs l := by rw [HR.out, recs_none HF.out, List.append_nil]
      have e0 : used rest = 0 := by unfold used; rw [recs_none HF.out]; rfl
      have e2 := HU.out
      have e3 := HM.out
      rw [e0] at e2
      obtain ⟨A2, c2, e4, hcc, hrec⟩ := (HE.out.below hb1).to (own_keep HO.out fun g hg => hb1.block g (HO.out.lt g hg).2) e1
      refine ⟨A2, c2, ?_, hcc, hrec, HB.out.trans (hb1.mono HB.out.size)⟩
      rw [← e4]
      have e5 : ((l.length - used l : Nat) : Int) = (m : Int) := by omega
      rw [e5]; rfl
    | some r =>
      obtain ⟨h1, h2, h3, h4, h5⟩ := first_some hf
      obtain ⟨q, hq⟩ : ∃ q, r.length = q := ⟨_, rfl⟩
      rw [hq] at h1 h2
      have hm8 : 8 + q ≤ m := by rw [← HM.out]; exact h2
      obtain ⟨b, o, rfl, hb, -⟩ := HLi.out.at_ (k := 0) (by omega)
      have hF := Lib.hid (firstFrame_any (c := c') HM.out hmc (by unfold maxLen; omega) (by omega) (HLi.out.mono HB.out.size))
      rw [hf, ffV_some hq] at hF
      have HF := Lib.hid hf
      have HQ := Lib.hid hq
      have e8 : Hid ((rest.take (8 + q)).drop 8 = r) := by
        show _ = _
        rw [List.drop_take, Nat.add_sub_cancel_left, h3, ← h4, hq]
      have t8 : Hid ((rest.take (8 + q)).length = 8 + q) := by
        show _ = _
        rw [List.length_take, HM.out]; omega
      clear hf hq h2 h3 h4 h5
      have hnil : ∀ W, (binOp .eql 23 (.slice (some ⟨b, o, none⟩) (8 + q) (8 + q)) (.slice none 0 0)).run Try.prog W = .ok (.bool false) W := eql_nil (some ⟨b, o, none⟩) (8 + q) (8 + q)
      have hLn : L.length ≤ 16777216 := by
        have e1 := recs_length l
        have e2 := congrArg List.length HR.out
        rw [List.length_append] at e2
        have e3 := H.out
        omega
      have HN := Lib.hid (recs_next HR.out HF.out)
      have HV := Lib.hid (used_next HU.out HF.out)
      rw [HQ.out] at HN HV
      clear HR HU
      by_cases hcq : c' = 8 + q
      · subst hcq
        go_wp2_with (first
          | (go_at_call 49; with_reducible refine hF.out.mono ?_; rintro e w1 ⟨rfl, hb1⟩; have hB1 := Lib.hid (HB.out.trans (hb1.mono HB.out.size)); have hL1 := Lib.hid ((HLi.out.take (8 + q)).below (hb1.mono HB.out.size)); have HO1 := Lib.hid (own_keep HO.out fun g hg => hb1.block g (HO.out.lt g hg).2); have HE1 := Lib.hid (HE.out.below hb1))
          | (go_at_call 50; refine (recordOf_any t8.out (by omega) (hL1.out.mono hB1.out.size)).mono ?_; rintro e w2 ⟨rfl, ho2, hb2⟩; rw [e8.out] at ho2; have HX2 := Lib.hid (recs_step w HO1.out HE1.out hB1.out (r := r) HQ.out ho2 hb2); clear ho2 hb2)
          | (at_builtin; refine wpList_append_own _ rfl (.tmp 12) (.tmp 15) 33 rfl w.heap.size 23 i0 (.slice none 0 0) 1 24 Try.underlying33 hi hz0 hz1 hz2 rfl (by decide) _ _ _ rfl HX2.out.1 ⟨w2.heap.size, 0, none⟩ 1 1 [.slice (some ⟨w1.heap.size, 0, none⟩) q q] rfl rfl (cell_one_new _ _ _) (by simp [Value.oneCell']) (by unfold maxLen; omega) (by omega) HX2.out.2.2.size ?_; intro v' w3 ho3 hg3 _; have he3 := Lib.hid (HX2.out.2.1.grown HX2.out.1 hg3); have hb3 := Lib.hid (HX2.out.2.2.grown hg3 HX2.out.2.2.size (fun k e => (HX2.out.1.lt k e).1)); have ho3 := Lib.hid ho3; clear hg3))
        go_roundw
        case rel => exact ⟨rest.drop (8 + q), _, m - (8 + q), 8 + q - (8 + q), L ++ [r], xs ++ [Value.slice (some ⟨w1.heap.size, 0, none⟩) q q], rfl, by omega, by omega, by omega, (show _ = _ by rw [List.length_drop, HM.out]), (show Lies _ _ _ _ by have := lies_via (HLi.out.cut (k := 8 + q) (cap := 8 + q) (by rw [HM.out]; exact hmc)) HB.out hb3.out; rw [if_pos rfl] at this; exact this), (show World.ownsRow _ _ _ _ _ _ _ by rw [List.length_append]; exact ho3.out), he3, hb3.out, HN.out, HV.out⟩
        case measure => simp [sliceLen]; omega
      · go_wp2_with (first
          | (go_at_call 49; with_reducible refine hF.out.mono ?_; rintro e w1 ⟨rfl, hb1⟩; have hB1 := Lib.hid (HB.out.trans (hb1.mono HB.out.size)); have hL1 := Lib.hid ((HLi.out.take (8 + q)).below (hb1.mono HB.out.size)); have HO1 := Lib.hid (own_keep HO.out fun g hg => hb1.block g (HO.out.lt g hg).2); have HE1 := Lib.hid (HE.out.below hb1))
          | (go_at_call 50; refine (recordOf_any t8.out (by omega) (hL1.out.mono hB1.out.size)).mono ?_; rintro e w2 ⟨rfl, ho2, hb2⟩; rw [e8.out] at ho2; have HX2 := Lib.hid (recs_step w HO1.out HE1.out hB1.out (r := r) HQ.out ho2 hb2); clear ho2 hb2)
          | (at_builtin; refine wpList_append_own _ rfl (.tmp 12) (.tmp 15) 33 rfl w.heap.size 23 i0 (.slice none 0 0) 1 24 Try.underlying33 hi hz0 hz1 hz2 rfl (by decide) _ _ _ rfl HX2.out.1 ⟨w2.heap.size, 0, none⟩ 1 1 [.slice (some ⟨w1.heap.size, 0, none⟩) q q] rfl rfl (cell_one_new _ _ _) (by simp [Value.oneCell']) (by unfold maxLen; omega) (by omega) HX2.out.2.2.size ?_; intro v' w3 ho3 hg3 _; have he3 := Lib.hid (HX2.out.2.1.grown HX2.out.1 hg3); have hb3 := Lib.hid (HX2.out.2.2.grown hg3 HX2.out.2.2.size (fun k e => (HX2.out.1.lt k e).1)); have ho3 := Lib.hid ho3; clear hg3))
        go_roundw
        case rel => exact ⟨rest.drop (8 + q), _, m - (8 + q), c' - (8 + q), L ++ [r], xs ++ [Value.slice (some ⟨w1.heap.size, 0, none⟩) q q], rfl, by omega, by omega, by omega, (show _ = _ by rw [List.length_drop, HM.out]), (show Lies _ _ _ _ by have := lies_via (HLi.out.cut (k := 8 + q) (cap := c') (by rw [HM.out]; exact hmc)) HB.out hb3.out; rw [if_neg hcq] at this; simpa [Addr.add] using this), (show World.ownsRow _ _ _ _ _ _ _ by rw [List.length_append]; exact ho3.out), he3, hb3.out, HN.out, HV.out⟩
        case measure => simp [sliceLen]; omega
end Go.Proofs.Ytkiombbdddbkfaa.Jn
