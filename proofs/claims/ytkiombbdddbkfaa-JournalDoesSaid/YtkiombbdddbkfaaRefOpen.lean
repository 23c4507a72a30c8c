/-
  The document's own Open of journal. Conditions: the document's disk stands in memory, few deeds.
-/
import Derived.Test.YtkiombbdddbkfaaRefAll
import Derived.Test.YtkiombbdddbkfaaMeet
import Derived.Test.YtkiombbdddbkfaaOpen
namespace Go.Proofs.Ytkiombbdddbkfaa.Jn
open Go.RowKit Go.Proofs.Ytkiombbdddbkfaa.Pk Go.Proofs.Ytkiombbdddbkfaa.Dk
set_option linter.unusedVariables false

set_option maxRecDepth 20000 in
set_option maxHeartbeats 1000000 in
theorem rAll_nil (w : World) (c : Nat) (hc : c ≤ maxLen) : Calls Try.prog 26 #[.slice none 0 c] w (FoundAll w []) := by
  have hc' := hc
  unfold maxLen at hc'
  have HN := Lib.hid (rFirst_none (rFirst_any (A := none) (n := 0) (c := c) (l := []) (w := w) rfl (Nat.zero_le _) hc (by decide) Lies.none_) (first_short (by decide)))
  have fin : ∀ w1, Below w.heap.size w w1 → FoundAll w [] (.returned (.tuple #[.slice none 0 0, .int .i64 0])) w1 := fun w1 hb1 => by
    have e : recs [] = [] := recs_none (first_short (by decide))
    have e2 : used [] = 0 := by unfold used; rw [e]; rfl
    refine ⟨none, 0, ?_, ?_, ?_, hb1⟩
    · rw [e, e2]; rfl
    · rw [e]; exact ⟨Nat.le_refl _, Nat.zero_le _⟩
    · rw [e]; exact Recs.nil
  by_cases h0 : c = 0
  · subst h0
    go_enter Try.func26, Try.ntmps26
    go_wp2
    refine wp_loop_rounds 1 ?_
    rw [rounds_succ]
    go_wp2_with (go_at_call 46; with_reducible refine HN.out.mono ?_; rintro e w1 ⟨rfl, hb1⟩)
    go_ret2
    exact fin w1 hb1
  · go_enter Try.func26, Try.ntmps26
    go_wp2
    refine wp_loop_rounds 1 ?_
    rw [rounds_succ]
    go_wp2_with (go_at_call 46; with_reducible refine HN.out.mono ?_; rintro e w1 ⟨rfl, hb1⟩)
    go_ret2
    exact fin w1 hb1
theorem rAll_opt {A : Option Addr} {n c : Nat} {l : Bs} {w : World} (hl : l.length = n) (hc : n ≤ c) (hcm : c ≤ maxLen) (hm : n ≤ 16777216) (h : Lies w w.heap.size A l) : Calls Try.prog 26 #[.slice A n c] w (FoundAll w l) := by
  cases A with
  | some ad => exact rAll_any hl hc hcm hm h
  | none =>
    have h0 : l = [] := by
      rcases l with _ | ⟨x, r⟩
      · rfl
      · obtain ⟨b, o, e, _⟩ := h 0 x rfl
        cases e
    subst h0
    have hn : n = 0 := hl.symm
    subst hn
    exact rAll_nil w c hcm

/-- Block rb is the document's journal. -/
def RJAt (w : World) (rb r : Nat) (name : ByteArray) (cnt : Nat) (sick : Bool) : Prop :=
  w.heap[rb]? = some (.cells #[.pointer (some ⟨r, 0, none⟩), .string name, .int .i64 (cnt : Int), .bool sick] 44 (0, 0))
section
variable {w w' : World} {rb r cnt : Nat} {name : ByteArray} {sick : Bool} {X : Nat → Prop}
theorem RJAt.c0 (h : RJAt w rb r name cnt sick) : w.cell? ⟨rb, 0, none⟩ = some (.pointer (some ⟨r, 0, none⟩)) := by unfold RJAt at h; simp [World.cell?, h]
theorem RJAt.c1 (h : RJAt w rb r name cnt sick) : w.cell? ⟨rb, 1, none⟩ = some (.string name) := by unfold RJAt at h; simp [World.cell?, h]
theorem RJAt.c2 (h : RJAt w rb r name cnt sick) : w.cell? ⟨rb, 2, none⟩ = some (.int .i64 cnt) := by unfold RJAt at h; simp [World.cell?, h]
theorem RJAt.c3 (h : RJAt w rb r name cnt sick) : w.cell? ⟨rb, 3, none⟩ = some (.bool sick) := by unfold RJAt at h; simp [World.cell?, h]
theorem RJAt.fz (h : RJAt w rb r name cnt sick) (o : Nat) : w.frozen? ⟨rb, o, none⟩ = false := by unfold RJAt at h; simp [World.frozen?, h]
theorem RJAt.set2 (h : RJAt w rb r name cnt sick) (n : Nat) : RJAt (w.setCell ⟨rb, 2, none⟩ (.int .i64 (n : Int))) rb r name n sick := by
  unfold RJAt at h ⊢; simp [World.setCell, Array.getElem?_modify, h]
theorem RJAt.set3 (h : RJAt w rb r name cnt sick) (u : Bool) : RJAt (w.setCell ⟨rb, 3, none⟩ (.bool u)) rb r name cnt u := by
  unfold RJAt at h ⊢; simp [World.setCell, Array.getElem?_modify, h]
theorem RJAt.kept (h : RJAt w rb r name cnt sick) (hk : Kept X w w') (hX : X rb) : RJAt w' rb r name cnt sick := (hk rb hX).trans h
theorem RJAt.lt (h : RJAt w rb r name cnt sick) : rb < w.heap.size := (Array.getElem?_eq_some_iff.1 h).1
end

section
variable {w w' : World} {T : Nat → Prop} {r : Nat} {t t' : Ds}
/-- Read of the document's disk, with the capacity. -/
theorem rread_cap {name : ByteArray} (h : RefD w T r t) (hd : t.deeds ≤ 1000000) :
    Calls Try.prog 33 #[.pointer (some ⟨r, 0, none⟩), .string name] w fun e w' => ∃ A c, e = .returned (.tuple #[.slice A (readD t name.data.toList).length c, .int .i64 (findD t name.data.toList)]) ∧ ((readD t name.data.toList).length ≤ c ∧ c ≤ maxLen) ∧ Lies w w.heap.size A (readD t name.data.toList) ∧ w = w' := by
  have hfa := rfind_any (name := name) h hd
  obtain ⟨gd, hm, hr, hl, vL, vs, ht, hi⟩ := h
  cases ho : t.off with
  | true =>
    rw [ho] at ht
    have e1 : readD t name.data.toList = [] := by unfold readD; rw [find_offD ho, if_pos (by decide)]
    rw [e1, find_offD ho]
    refine (rread_off ht.c1).mono ?_
    rintro e w' ⟨rfl, rfl⟩
    exact ⟨none, 0, rfl, ⟨Nat.le_refl _, Nat.zero_le _⟩, Lies.none_, rfl⟩
  | false =>
    rw [ho] at ht
    rcases hfa with ⟨hg, hc⟩ | ⟨i, f, hil, hat, hg, hput, hc⟩
    · have hf : findD t name.data.toList = 21 := by unfold findD; rw [if_neg (by simp [ho]), hg]; rfl
      have e1 : readD t name.data.toList = [] := by unfold readD; rw [hf, if_pos (by decide)]
      rw [e1, hf]
      refine (rread_miss ht.c1 hc).mono ?_
      rintro e w' ⟨rfl, rfl⟩
      exact ⟨none, 0, rfl, ⟨Nat.le_refl _, Nat.zero_le _⟩, Lies.none_, rfl⟩
    · obtain ⟨g, cap, A, c, hv, hgb, hTg, hfz, hB, hS, e2, e3, e4⟩ := shape_of hi hil
      have hz := find_zero ho hg
      have e1 : readD t name.data.toList = f.data := by unfold readD; rw [hz, if_neg (by decide), fileOr_some hg]
      rw [e1, hz]
      rw [hat] at hB e2 e4
      have c0 := ht.c0
      rw [hv] at c0
      refine (rread_ok ht.c1 hc c0 hil hB).mono ?_
      rintro e w' ⟨rfl, rfl⟩
      exact ⟨A, c, rfl, ⟨e2, e3⟩, e4.lies, rfl⟩
theorem ref_cell1 (h : RefD w T r t) : w.cell? ⟨r, 1, none⟩ = some (.bool t.off) := by
  obtain ⟨gd, hm, hr, hl, vL, vs, ht, hi⟩ := h
  exact ht.c1
theorem ref_good (h : RefD w T r t) : Dk.Good t := h.1
/-- The document's Open answers. -/
def ROpened (T : Nat → Prop) (w : World) (r : Nat) (name : ByteArray) (L : List Bs) (t' : Ds) (e : Ending) (w' : World) : Prop :=
  ∃ rb A c T', e = .returned (.tuple #[.pointer (some ⟨rb, 0, none⟩), .slice A L.length c, .int .i64 0]) ∧ RefD w' T' r t' ∧ Upd T T' w w' ∧ w.heap.size ≤ rb ∧ rb < w'.heap.size ∧ ¬ T' rb ∧ RJAt w' rb r name L.length false ∧ Recs w' (fun b => w.heap.size ≤ b ∧ b < w'.heap.size ∧ b ≠ rb ∧ ¬ T' b) A L.length L
set_option maxHeartbeats 1000000 in
theorem ropen_off {name : ByteArray} (h : RefD w T r t) (ho : t.off = true) : Calls Try.prog 10 #[.pointer (some ⟨r, 0, none⟩), .string name] w fun e w' => e = .returned (.tuple #[.pointer none, .slice none 0 0, .int .i64 20]) ∧ w = w' := by
  have c1 := ref_cell1 h
  rw [ho] at c1
  go_enter Try.func10, Try.ntmps10
  go_wp2
  go_ret3
  exact ⟨rfl, rfl⟩
theorem ropened_of {w2 w3 : World} {T' : Nat → Prop} {name : ByteArray} {L : List Bs} {A : Option Addr} {c n : Nat} (hn : L.length = n) (hT : ∀ b, T b → b < w.heap.size) (hb2 : Below w.heap.size w w2) (hrec : Recs w2 (fun b => w.heap.size ≤ b ∧ b < w2.heap.size) A n L) (hR3 : RefD w3 T' r t') (hu : Upd T T' w2 w3) :
    ROpened T w r name L t' (.returned (.tuple #[.pointer (some ⟨w3.heap.size, 0, none⟩), .slice A n c, .int .i64 0])) (w3.alloc (.cells #[.pointer (some ⟨r, 0, none⟩), .string name, .int .i64 (n : Int), .bool false] 44)) := by
  subst hn
  have hba := (Below.refl w3.heap.size w3).alloc (Nat.le_refl _) (.cells #[.pointer (some ⟨r, 0, none⟩), .string name, .int .i64 (L.length : Int), .bool false] 44)
  have hz2 := hb2.size
  have hz3 := hu.size
  have hT' : ∀ b, T' b → b < w3.heap.size := fun b hb => hR3.lt b hb
  refine ⟨w3.heap.size, A, c, T', rfl, hR3.keep hba.size (fun b hb => hba.block b (hT' b hb)), ?_, by omega, by simp, fun h => Nat.lt_irrefl _ (hT' _ h), heap_alloc_new w3 _, ?_⟩
  · refine ⟨hba.os.trans (hu.os.trans hb2.os), hba.tape.trans (hu.tape.trans hb2.tape), hba.output.trans (hu.output.trans hb2.output), Nat.le_trans hz2 (Nat.le_trans hz3 hba.size), fun b hb hs => (hba.block b (by omega)).trans ((hu.block b (by omega) hs).trans (hb2.block b hb)), fun b hb => ?_⟩
    rcases hu.foot b hb with h | h
    · exact .inl h
    · exact .inr (by omega)
  · have hnt : ∀ b, w.heap.size ≤ b ∧ b < w2.heap.size → ¬ T' b := fun b hb ht => by
      rcases hu.foot b ht with h | h
      · have := hT b h; omega
      · omega
    refine ((hrec.kept (w' := w3.alloc _) fun b hb => (hba.block b (by omega)).trans (hu.block b hb.2 (fun h => by have := hT b h; omega)))).mono fun b hb => ⟨hb.1, ?_, ?_, hnt b hb⟩
    · have := hba.size; omega
    · omega
set_option maxHeartbeats 2000000 in
theorem ropen_whole {name : ByteArray} {l : Bs} (h : RefD w T r t) (hs : name.size ≤ maxLen) (hd : t.deeds < 1000000) (ho : t.off = false) (hn : isName name.data.toList = true) (hl : readD t name.data.toList = l) (hlen : l.length ≤ 16777216) (hu : ¬ used l < l.length) :
    Calls Try.prog 10 #[.pointer (some ⟨r, 0, none⟩), .string name] w (ROpened T w r name (recs l) t) := by
  have c1 := ref_cell1 h
  rw [ho] at c1
  have HN := Lib.hid (refName_any name w hs)
  rw [hn] at HN
  have HRd := Lib.hid (rread_cap (name := name) h (by omega))
  rw [hl] at HRd
  have HD := Lib.hid h
  obtain ⟨n, hnl⟩ : ∃ n, l.length = n := ⟨_, rfl⟩
  obtain ⟨q, hq⟩ : ∃ q, (recs l).length = q := ⟨_, rfl⟩
  obtain ⟨u, hu'⟩ : ∃ u, used l = u := ⟨_, rfl⟩
  rw [hnl] at HRd
  have hun : (n : Int) ≤ (u : Int) := by omega
  have hun2 : ¬ (u : Int) < (n : Int) := by omega
  have hq2 : q ≤ 16777216 := by have := recs_length l; omega
  have hn16 : n ≤ 16777216 := by omega
  have Hnl := Lib.hid hnl
  have HQ := Lib.hid hq
  have HU := Lib.hid hu'
  clear h hn hl hnl hq hu' hu
  go_enter Try.func10, Try.ntmps10
  go_wp2_with (first
    | (go_at_call 32; with_reducible refine HN.out.mono ?_; rintro e w' ⟨rfl, rfl⟩)
    | (go_at_call 33; with_reducible refine HRd.out.mono ?_; rintro e w' ⟨A, c, rfl, hcc, hL, rfl⟩; have HCC := Lib.hid hcc; have HL := Lib.hid hL; clear hcc hL)
    | (go_at_call 26; refine (rAll_opt Hnl.out HCC.out.1 HCC.out.2 (by omega) HL.out).mono ?_; unfold FoundAll; rw [HQ.out, HU.out]; rintro e w2 ⟨A2, c2, rfl, -, hrec, hb2⟩; have HRec := Lib.hid hrec; have HB2 := Lib.hid hb2; clear hrec hb2))
  go_ret3
  exact ropened_of HQ.out (fun b hb => HD.out.lt b hb) HB2.out HRec.out (HD.out.keep HB2.out.size fun b hb => HB2.out.block b (HD.out.lt b hb)) (Upd.refl _ _)
set_option maxHeartbeats 2000000 in
theorem ropen_torn {name : ByteArray} {l : Bs} (h : RefD w T r t) (hs : name.size ≤ maxLen) (hd : t.deeds < 1000000) (ho : t.off = false) (hn : isName name.data.toList = true) (hl : readD t name.data.toList = l) (hlen : l.length ≤ 16777216) (hu : used l < l.length) (he : cutD t name.data.toList (used l : Int) = (0, t')) :
    Calls Try.prog 10 #[.pointer (some ⟨r, 0, none⟩), .string name] w (ROpened T w r name (recs l) t') := by
  have c1 := ref_cell1 h
  rw [ho] at c1
  have HN := Lib.hid (refName_any name w hs)
  rw [hn] at HN
  have HRd := Lib.hid (rread_cap (name := name) h (by omega))
  rw [hl] at HRd
  have HD := Lib.hid h
  obtain ⟨n, hnl⟩ : ∃ n, l.length = n := ⟨_, rfl⟩
  obtain ⟨q, hq⟩ : ∃ q, (recs l).length = q := ⟨_, rfl⟩
  obtain ⟨u, hu'⟩ : ∃ u, used l = u := ⟨_, rfl⟩
  rw [hnl] at HRd
  rw [hu'] at he
  have hun : (u : Int) < (n : Int) := by omega
  have hq2 : q ≤ 16777216 := by have := recs_length l; omega
  have hn16 : n ≤ 16777216 := by omega
  have Hnl := Lib.hid hnl
  have HQ := Lib.hid hq
  have HU := Lib.hid hu'
  have HE := Lib.hid he
  clear h hn hl hnl hq hu' hu he
  go_enter Try.func10, Try.ntmps10
  go_wp2_with (first
    | (go_at_call 32; with_reducible refine HN.out.mono ?_; rintro e w' ⟨rfl, rfl⟩)
    | (go_at_call 33; with_reducible refine HRd.out.mono ?_; rintro e w' ⟨A, c, rfl, hcc, hL, rfl⟩; have HCC := Lib.hid hcc; have HL := Lib.hid hL; clear hcc hL)
    | (go_at_call 26; refine (rAll_opt Hnl.out HCC.out.1 HCC.out.2 (by omega) HL.out).mono ?_; unfold FoundAll; rw [HQ.out, HU.out]; rintro e w2 ⟨A2, c2, rfl, -, hrec, hb2⟩; have HRec := Lib.hid hrec; have HB2 := Lib.hid hb2; have HD2 := Lib.hid (HD.out.keep hb2.size fun b hb => hb2.block b (HD.out.lt b hb)); clear hrec hb2)
    | (go_at_call 34; refine (rcut_any HD2.out hd).mono ?_; rw [HE.out]; rintro e w3 ⟨rfl, T3, hR3, hu3⟩; have HR3 := Lib.hid hR3; have HU3 := Lib.hid hu3; clear hR3 hu3))
  go_ret3
  exact ropened_of HQ.out (fun b hb => HD.out.lt b hb) HB2.out HRec.out HR3.out HU3.out
set_option maxHeartbeats 2000000 in
theorem ropen_cut {name : ByteArray} {l : Bs} (h : RefD w T r t) (hs : name.size ≤ maxLen) (hd : t.deeds < 1000000) (ho : t.off = false) (hn : isName name.data.toList = true) (hl : readD t name.data.toList = l) (hlen : l.length ≤ 16777216) (hu : used l < l.length) (he : cutD t name.data.toList (used l : Int) = (20, t')) :
    Calls Try.prog 10 #[.pointer (some ⟨r, 0, none⟩), .string name] w fun e w' => e = .returned (.tuple #[.pointer none, .slice none 0 0, .int .i64 20]) ∧ ∃ T', RefD w' T' r t' ∧ Upd T T' w w' := by
  have c1 := ref_cell1 h
  rw [ho] at c1
  have HN := Lib.hid (refName_any name w hs)
  rw [hn] at HN
  have HRd := Lib.hid (rread_cap (name := name) h (by omega))
  rw [hl] at HRd
  have HD := Lib.hid h
  obtain ⟨n, hnl⟩ : ∃ n, l.length = n := ⟨_, rfl⟩
  obtain ⟨q, hq⟩ : ∃ q, (recs l).length = q := ⟨_, rfl⟩
  obtain ⟨u, hu'⟩ : ∃ u, used l = u := ⟨_, rfl⟩
  rw [hnl] at HRd
  rw [hu'] at he
  have hun : (u : Int) < (n : Int) := by omega
  have hq2 : q ≤ 16777216 := by have := recs_length l; omega
  have hn16 : n ≤ 16777216 := by omega
  have Hnl := Lib.hid hnl
  have HQ := Lib.hid hq
  have HU := Lib.hid hu'
  have HE := Lib.hid he
  clear h hn hl hnl hq hu' hu he
  go_enter Try.func10, Try.ntmps10
  go_wp2_with (first
    | (go_at_call 32; with_reducible refine HN.out.mono ?_; rintro e w' ⟨rfl, rfl⟩)
    | (go_at_call 33; with_reducible refine HRd.out.mono ?_; rintro e w' ⟨A, c, rfl, hcc, hL, rfl⟩; have HCC := Lib.hid hcc; have HL := Lib.hid hL; clear hcc hL)
    | (go_at_call 26; refine (rAll_opt Hnl.out HCC.out.1 HCC.out.2 (by omega) HL.out).mono ?_; unfold FoundAll; rw [HQ.out, HU.out]; rintro e w2 ⟨A2, c2, rfl, -, hrec, hb2⟩; have HB2 := Lib.hid hb2; have HD2 := Lib.hid (HD.out.keep hb2.size fun b hb => hb2.block b (HD.out.lt b hb)); clear hrec hb2)
    | (go_at_call 34; refine (rcut_any HD2.out hd).mono ?_; rw [HE.out]; rintro e w3 ⟨rfl, T3, hR3, hu3⟩; have HR3 := Lib.hid hR3; have HU3 := Lib.hid hu3; clear hR3 hu3))
  go_ret3
  exact ⟨rfl, T3, HR3.out, (Upd.of_below HB2.out).trans HU3.out⟩

/-- The document's Open, at the laws' own name. -/
theorem ropen_ok {name : ByteArray} {L : List Bs} (h : RefD w T r t) (hs : name.size ≤ maxLen) (hd : t.deeds < 1000000) (he : openD t name.data.toList = (0, t')) (hL : recs (dataOf t name.data.toList) = L) :
    Calls Try.prog 10 #[.pointer (some ⟨r, 0, none⟩), .string name] w (ROpened T w r name L t') := by
  subst hL
  by_cases hc : contR t name.data.toList = 0
  · obtain ⟨e1, e2, e3⟩ := openD_on hc
    have hr := read_on (s := t) (k := name.data.toList) e2
    have hlen := dataOf_long (ref_good h) name.data.toList
    rw [e1] at he
    unfold openCut at he
    split at he
    · rename_i hu
      exact ropen_torn h hs hd e2 e3 hr hlen hu he
    · rename_i hu
      injection he with h1 h2
      subst h2
      exact ropen_whole h hs hd e2 e3 hr hlen hu
  · rw [openD_err hc] at he
    injection he with h1 h2
    exact absurd h1 hc
theorem cut_code {s : Ds} {k : Nm} {n : Nat} {q : Int} (h : cutD s k (n : Int) = (q, t')) (ho : s.off = false) (hn : n < (dataOf s k).length) (hq : q ≠ 0) : q = 20 := by
  unfold cutD at h
  cases hg : get s.m k with
  | none =>
    have : dataOf s k = [] := by unfold dataOf fileOr; rw [hg]; rfl
    rw [this] at hn; simp at hn
  | some f =>
    have hf := find_zero ho hg
    have hd : dataOf s k = f.data := by unfold dataOf; rw [fileOr_some hg]
    rw [hf, if_neg (by decide), if_neg (by rw [fileOr_some hg, ← hd]; omega)] at h
    unfold ends at h
    split at h
    · injection h with h1 h2; exact h1.symm
    · injection h with h1 h2; exact absurd h1.symm hq
theorem ropen_no {name : ByteArray} {q : Int} (h : RefD w T r t) (hs : name.size ≤ maxLen) (hd : t.deeds < 1000000) (hn : isName name.data.toList = true) (he : openD t name.data.toList = (q, t')) (hq : q ≠ 0) :
    Calls Try.prog 10 #[.pointer (some ⟨r, 0, none⟩), .string name] w fun e w' => e = .returned (.tuple #[.pointer none, .slice none 0 0, .int .i64 q]) ∧ ∃ T', RefD w' T' r t' ∧ Upd T T' w w' := by
  cases ho : t.off with
  | true =>
    have e : openD t name.data.toList = (20, t) := by unfold openD; rw [if_pos ho]
    rw [e] at he
    injection he with h1 h2
    subst h1 h2
    refine (ropen_off h ho).mono ?_
    rintro e w' ⟨rfl, rfl⟩
    exact ⟨rfl, T, h, Upd.refl _ _⟩
  | false =>
    have e : openD t name.data.toList = openCut t name.data.toList := by unfold openD; rw [if_neg (by simp [ho]), if_neg (by simp [hn])]
    rw [e] at he
    obtain ⟨hu, hcut⟩ := openCut_err he hq
    obtain rfl := cut_code hcut ho hu hq
    exact ropen_cut h hs hd ho hn (read_on ho) (dataOf_long (ref_good h) _) hu hcut
end
end Go.Proofs.Ytkiombbdddbkfaa.Jn
