/-
  The document's Append of a whole disk. Conditions: it stands in memory, the bytes lie in memory, few deeds.
-/
import Derived.Test.YtkiombbdddbkfaaRefSync
import Derived.Sort.Walk0
namespace Go.Proofs.Ytkiombbdddbkfaa.Dk
open Go.RowKit Go.Proofs.Ytkiombbdddbkfaa.Pk

section
variable {w w1 w2 : World} {T T' : Nat → Prop} {r g : Nat} {t u : Ds} {vL : Value} {vs vs2 : List Value} {name : ByteArray} {m : List (Nm × Fl)}
/-- Bytes stay while block r alone turns. -/
theorem lies_only {A : Option Addr} {l : List UInt8} {B : Nat} {off : Bool} {a b c : Int} (h : Lies w B A l) (hv : ∀ x, vL ≠ bv x) (ht : RTop w r vL off a b c) (ho : Only r w w1) : Lies w1 B A l := fun k x hx => by
  obtain ⟨b', o, e, hlt, hc⟩ := h k x hx
  refine ⟨b', o, e, hlt, (World.cell?_of_block (w := w) (a := ⟨b', o + k, none⟩) (ho.block b' (fun e2 => ?_))).trans hc⟩
  subst e2
  unfold RTop at ht
  have : ∀ j : Nat, (#[vL, .bool off, .int .i64 a, .int .i64 b, .int .i64 c] : Array Value)[j]? ≠ some (bv x) := fun j hj => by
    rcases j with _ | _ | _ | _ | _ | j
    · simp at hj; exact hv x hj
    · simp [bv] at hj
    · simp [bv] at hj
    · simp [bv] at hj
    · simp [bv] at hj
    · simp at hj
  exact this (o + k) (by simpa [World.cell?, ht] using hc)
theorem RIn.more (h : RIn w T m vL vs) (hT : ∀ b, T b → T' b) : RIn w T' m vL vs :=
  ⟨h.len, h.own, fun g hg => hT g (h.root g hg), fun i hi => by
    obtain ⟨A, c, h1, h2, h3, h4⟩ := h.file i hi
    exact ⟨A, c, h1, h2, h3, h4.keep hT (fun _ _ _ _ _ => rfl)⟩⟩
theorem slice_ne (h : RIn w T m vL vs) : ∀ x, vL ≠ bv x := fun x e => by
  rcases h.own.2 with ⟨hv, _⟩ | ⟨g, cap, cur, hv, _⟩
  · rw [hv] at e; simp [bv] at e
  · rw [hv] at e; simp [bv] at e

/-- The bytes of a file are laid anew: from w1 (counted) to the world behind the store. -/
theorem ref_laid {k : Nm} {f : Fl} {i n2 : Nat} {l' : List UInt8} {w3 : World} {v2 : Value} (gd : Good u) (hmany : u.m.length ≤ u.deeds) (hr : T r) (hl : ∀ b, T b → b < w1.heap.size) (ht1 : RTop w1 r vL u.off u.fuse u.keep u.deeds) (hi1 : RIn w1 T u.m vL vs)
    (hil : i < u.m.length) (hat : u.m[i] = (k, f)) (hput : ∀ f', put k f' u.m = u.m.set i (k, f')) (hgb : vL.ownBlock = some g) (hlen : f.data.length + l'.length ≤ 16777216) (hn2 : n2 = f.data.length + l'.length)
    (hown : w3.ownsRow w1.heap.size 5 1 v2 n2 (cells (f.data ++ l'))) (hb : Below w1.heap.size w1 w3) :
    ∃ T', RefD (w3.setCell ⟨g, i * 3 + 1, none⟩ v2) T' r (withFile u k ⟨f.data ++ l', f.safe⟩) ∧ Upd T T' w1 (w3.setCell ⟨g, i * 3 + 1, none⟩ v2) := by
  obtain ⟨A, c, rfl, hc1, hc2⟩ := own_cap hown
  have hne : vL.ownBlock ≠ some r := hi1.ne ht1
  have hrg : r ≠ g := fun e => hne (e ▸ hgb)
  have hll : (f.data ++ l').length = n2 := by rw [List.length_append, hn2]
  have hmem : (k, f) ∈ u.m := hat ▸ List.getElem_mem hil
  have hi3 : RIn w3 (fun b => T b ∨ (Value.slice A n2 c).ownBlock = some b) u.m vL vs := (hi1.keep (w1 := w3) (fun b hb' => hb.block b (hl b hb'))).more (fun _ h => .inl h)
  have hLT : LiesT (fun b => T b ∨ (Value.slice A n2 c).ownBlock = some b) w3 A (f.data ++ l') := LiesT.of_own hown (fun g hg => .inr hg)
  have hB := hi3.setB hil hgb (A := A) (c := c) (d := f.data ++ l') (by rw [hll]; exact hc1) hc2 hLT
  rw [hll, hat] at hB
  have ho2 : Only g w3 (w3.setCell ⟨g, i * 3 + 1, none⟩ (.slice A n2 c)) := (Only.refl _ _).setCell _ _
  have ht3 : RTop w3 r vL u.off u.fuse u.keep u.deeds := ht1.keep (hb.block r (hl r hr))
  have hsf := gd.safe _ hmem
  simp only at hsf
  refine ⟨_, ref_fin (i := i) (f' := ⟨f.data ++ l', f.safe⟩) gd hmany (gd.names _ hmem) (by show f.safe ≤ (f.data ++ l').length; rw [hll]; omega) (by show (f.data ++ l').length ≤ _; rw [hll]; omega) (hput _) (.inl hr) (fun b hb' => ?_) (ht3.keep (ho2.block r hrg)) hB, hb.os, hb.tape, hb.output, by rw [ho2.size]; exact hb.size, fun b hbl hnb => ?_, fun b hb' => ?_⟩
  · rw [ho2.size]
    rcases hb' with h | h
    · exact Nat.lt_of_lt_of_le (hl b h) hb.size
    · exact (hown.lt b h).2
  · exact (ho2.block b (fun e => hnb (e ▸ hi1.root g hgb))).trans (hb.block b hbl)
  · rcases hb' with h | h
    · exact .inl h
    · exact .inr (hown.lt b h).1

/-- Where a new name goes, whatever the file. -/
theorem put_where {k : Nm} : ∀ {m : List (Nm × Fl)}, get m k = none → ∃ i, i ≤ m.length ∧ (∀ j, j < i → ∀ h : j < m.length, (m[j]).1 < k) ∧ (∀ h : i < m.length, ¬ (m[i]).1 < k) ∧ ∀ f, put k f m = m.take i ++ (k, f) :: m.drop i
  | [], _ => ⟨0, Nat.le_refl _, fun j hj => by omega, fun h => by simp at h, fun _ => rfl⟩
  | (n, g) :: r, h => by
    simp only [get] at h
    split at h
    · cases h
    · rename_i hne
      by_cases hlt : n < k
      · obtain ⟨i, h1, h2, h3, h4⟩ := put_where h
        refine ⟨i + 1, by simp; omega, fun j hj hjl => ?_, fun hi => ?_, fun f => by simp [put, hne, hlt, h4]⟩
        · rcases j with _ | j
          · exact hlt
          · simpa using h2 j (by omega) (by simpa using hjl)
        · simpa using h3 (by simpa using hi)
      · exact ⟨0, Nat.zero_le _, fun j hj => by omega, fun _ => hlt, fun f => by simp [put, hne, hlt]⟩
theorem ins_lt {α : Type} {l : List α} {x : α} {p i : Nat} (hp : p ≤ l.length) (h : i < p) : (l.take p ++ x :: l.drop p)[i]? = l[i]? := by
  rw [List.getElem?_append_left (by rw [List.length_take]; omega), List.getElem?_take_of_lt h]
theorem ins_eq {α : Type} {l : List α} {x : α} {p : Nat} (hp : p ≤ l.length) : (l.take p ++ x :: l.drop p)[p]? = some x := by
  rw [List.getElem?_append_right (by rw [List.length_take]; omega)]
  rw [show p - (l.take p).length = 0 by rw [List.length_take]; omega]; rfl
theorem ins_gt {α : Type} {l : List α} {x : α} {p i : Nat} (hp : p ≤ l.length) (h : p < i) : (l.take p ++ x :: l.drop p)[i]? = l[i - 1]? := by
  rw [List.getElem?_append_right (by rw [List.length_take]; omega)]
  rw [show i - (l.take p).length = (i - 1 - p) + 1 by rw [List.length_take]; omega, List.getElem?_cons_succ, List.getElem?_drop]
  congr 1; omega
theorem rowOf_ins {k : Nm} {p : Nat} (hl : vs.length = m.length) (hp : p ≤ m.length) (hk : name.data.toList = k) : rowOf (m.take p ++ (k, ⟨[], 0⟩) :: m.drop p) (vs.take p ++ .slice none 0 0 :: vs.drop p) = ins (rowOf m vs) p name := by
  have h1 : (vs.take p).length = (m.take p).length := by simp [hl]
  have h2 := rowOf_append (m := m.take p) (m' := m.drop p) (vs := vs.take p) (vs' := vs.drop p) h1
  rw [List.take_append_drop, List.take_append_drop] at h2
  have h3 : (rowOf (m.take p) (vs.take p)).length = p * 3 := by rw [rowOf_length h1, List.length_take, Nat.min_eq_left hp]
  have e1 : (rowOf m vs).take (p * 3) = rowOf (m.take p) (vs.take p) := by rw [h2, ← h3]; exact List.take_left
  have e2 : (rowOf m vs).drop (p * 3) = rowOf (m.drop p) (vs.drop p) := by rw [h2, ← h3]; exact List.drop_left
  unfold ins
  rw [rowOf_append h1, e1, e2]
  have e : (⟨k.toArray⟩ : ByteArray) = name := by subst hk; cases name; simp
  simp [rowOf, row1, e]
theorem less_iff {x : Nm} : Op.bytesLess (⟨x.toArray⟩ : ByteArray).toList name.toList = decide (x < name.data.toList) := by
  rw [Lib.toList_data, Lib.toList_data, bytesLess_eq]

theorem rappend_any {mm c : Nat} {A : Option Addr} {l' : List UInt8} (h : RefD w T r t) (hs : name.size ≤ maxLen) (hl' : l'.length = mm) (hL : Lies w w.heap.size A l') (hd : t.deeds < 1000000) :
    Calls Try.prog 21 #[.pointer (some ⟨r, 0, none⟩), .string name, .slice A mm c] w fun e w' => e = .returned (.int .i64 (appendD t name.data.toList l').1) ∧ AfterR T r w (appendD t name.data.toList l').2 w' := by
  have h_ := h
  have hfa := rfind_any (name := name) h (by omega)
  obtain ⟨gd, hm, hr, hl, vL, vs, ht, hi⟩ := h
  cases ho : t.off with
  | true =>
    rw [ho] at ht
    rw [appendD_off ho]
    refine (rapp_off _ ht.c1).mono ?_
    rintro e w' ⟨rfl, rfl⟩
    exact ⟨rfl, AfterR.same h_⟩
  | false =>
  have ht0 := ht
  rw [ho] at ht
  cases hn : isName name.data.toList with
  | false =>
    rw [appendD_name ho hn]
    refine (rapp_name _ ht.c1 hs hn).mono ?_
    rintro e w' ⟨rfl, rfl⟩
    exact ⟨rfl, AfterR.same h_⟩
  | true =>
  rcases hfa with ⟨hg, hc⟩ | ⟨i, f, hil, hat, hg, hput, hc⟩
  · have hfo : fileOr t name.data.toList = ⟨[], 0⟩ := by unfold fileOr; rw [hg]; rfl
    by_cases hlong : 16777216 < mm
    · rw [appendD_long ho hn (by rw [hfo, hl']; simpa using hlong)]
      refine (rapp_long_new ht.c1 hs hn hc hlong).mono ?_
      rintro e w' ⟨rfl, rfl⟩
      exact ⟨rfl, AfterR.same h_⟩
    · rw [appendD_go ho hn (by rw [hfo, hl']; simpa using hlong), hfo]
      obtain ⟨p, hp1, hp2, hp3, hp4⟩ := put_where hg
      obtain ⟨AL, cap, hv⟩ : ∃ A cap, vL = .slice A t.m.length cap := by
        rcases hi.own.2 with ⟨hv, h0⟩ | ⟨g, cap, cur, hv, _⟩
        · exact ⟨none, 0, by rw [hv, h0]⟩
        · exact ⟨_, cap, hv⟩
      have c0 := ht.c0
      rw [hv] at c0
      have hown := hi.own
      rw [hv] at hown
      have hxs : ∀ u ∈ rowOf t.m vs, u.oneCell' = true := rowOf_one (fun v hv' => by
        obtain ⟨j, hj, rfl⟩ := List.getElem_of_mem hv'
        obtain ⟨A', c', e1, _⟩ := hi.file j (by rw [← hi.len]; exact hj)
        exact ⟨A', _, c', e1⟩)
      have hA : ∀ i, i < t.m.length → ∃ g, AL = some ⟨g, 0, none⟩ ∧ w.cell? ⟨g, i * 3, none⟩ = some (.string (if h : i < t.m.length then ⟨t.m[i].1.toArray⟩ else ⟨#[]⟩)) := fun i h => by
        obtain ⟨g, cap', hv', _, _, _, _, hc⟩ := row_cell hi.len hi.own (by omega)
        rw [hv] at hv'
        injection hv' with hA _ _
        rw [dif_pos h]
        exact ⟨g, hA, (hc i h).1⟩
      obtain ⟨k, hk⟩ : ∃ k, name.data.toList = k := ⟨_, rfl⟩
      have hrl := hl r hr
      have g0 : Good (withFile (dd t) k ⟨[], 0⟩) := good_put (good_dd gd) (hk ▸ hn) (by simp) (by simp)
      have hm1 : (put k ⟨[], 0⟩ t.m).length = t.m.length + 1 := length_put_new _ (hk ▸ hg)
      rw [hk] at hp2 hp3 hp4
      let Q : Nat → Nat → World → Prop := fun g' cap' w1 => ∃ T1 vs1, T1 r ∧ (∀ b, T1 b → b < w1.heap.size) ∧ RTop w1 r (.slice (some ⟨g', 0, none⟩) (t.m.length + 1) cap') t.off (dd t).fuse t.keep (dd t).deeds ∧
        RIn w1 T1 (put k ⟨[], 0⟩ t.m) (.slice (some ⟨g', 0, none⟩) (t.m.length + 1) cap') vs1 ∧ vs1[p]? = some (.slice none 0 0) ∧ Upd T T1 w w1 ∧ Lies w1 w1.heap.size A l'
      have HP : ∀ vc wc, wc.ownsRow w.heap.size 72 3 vc (t.m.length + 1) (ins (rowOf t.m vs) p name) → Below w.heap.size w wc → ∃ g' cap', vc = .slice (some ⟨g', 0, none⟩) (t.m.length + 1) cap' ∧ Hid (Calls Try.prog 45 #[.pointer (some ⟨r, 0, none⟩)] (wc.setCell ⟨r, 0, none⟩ (.slice (some ⟨g', 0, none⟩) (t.m.length + 1) cap')) fun e w' => e = .returned (.bool (decide (t.fuse = 1))) ∧ Q g' cap' w') := by
        intro vc wc hownc hbc
        rcases hownc.2 with ⟨_, h0⟩ | ⟨g', cap', cur, hvc, hgb', hhc, hnc, hcm, hcs, htk⟩
        · omega
        · subst hvc
          refine ⟨g', cap', rfl, ?_⟩
          have hrg' : r ≠ g' := by omega
          have htc : RTop wc r vL t.off t.fuse t.keep t.deeds := ht0.keep (hbc.block r hrl)
          have htW := htc.set0 (.slice (some ⟨g', 0, none⟩) (t.m.length + 1) cap')
          refine (rdeed_any htW gd (by omega)).mono ?_
          rintro e w1 ⟨rfl, hon, ht1⟩
          refine ⟨rfl, fun b => T b ∨ b = g', vs.take p ++ .slice none 0 0 :: vs.drop p, .inl hr, fun b hb => ?_, ht1, ?_, ins_eq (by rw [hi.len]; exact hp1), ?_, ?_⟩
          · rw [hon.size, size_setCell]
            rcases hb with hb | hb
            · exact Nat.lt_of_lt_of_le (hl b hb) hbc.size
            · rw [hb]; exact (Array.getElem?_eq_some_iff.1 hhc).1
          · have hRW : RIn (wc.setCell ⟨r, 0, none⟩ (.slice (some ⟨g', 0, none⟩) (t.m.length + 1) cap')) (fun b => T b ∨ b = g') (put k ⟨[], 0⟩ t.m) (.slice (some ⟨g', 0, none⟩) (t.m.length + 1) cap') (vs.take p ++ .slice none 0 0 :: vs.drop p) := by
              refine ⟨?_, ?_, fun b hb => .inr ?_, fun j hj => ?_⟩
              · rw [hm1]; simp [hi.len]; omega
              · rw [hp4, rowOf_ins hi.len hp1 hk, ← hp4, hm1]
                refine own_keep37 (w := wc) ⟨hownc.1, .inr ⟨g', cap', cur, rfl, Nat.zero_le _, hhc, hnc, hcm, hcs, htk⟩⟩ (fun b hb => ?_)
                have : g' = b := by simpa [Value.ownBlock] using hb
                exact Below.heap_setCell _ _ _ _ (fun e => hrg' (by simp only at e; omega))
              · have : g' = b := by simpa [Value.ownBlock] using hb
                exact this.symm
              · have hkeep : ∀ b cur fr, T b → w.heap[b]? = some (.cells cur 5 fr) → (wc.setCell ⟨r, 0, none⟩ (.slice (some ⟨g', 0, none⟩) (t.m.length + 1) cap')).heap[b]? = w.heap[b]? := fun b cur fr hb hh =>
                  (Below.heap_setCell _ _ _ _ (fun e => by simp only at e; unfold RTop at ht0; rw [e, ht0] at hh; simp at hh)).trans (hbc.block b (hl b hb))
                have old : ∀ q (hq : q < t.m.length), (put k ⟨[], 0⟩ t.m)[j]? = t.m[q]? → (vs.take p ++ .slice none 0 0 :: vs.drop p)[j]? = vs[q]? → ∃ A c, ∀ h1 h2, ((vs.take p ++ .slice none 0 0 :: vs.drop p)[j]'h1 = .slice A ((put k ⟨[], 0⟩ t.m)[j]'h2).2.data.length c ∧ ((put k ⟨[], 0⟩ t.m)[j]'h2).2.data.length ≤ c ∧ c ≤ maxLen ∧ LiesT (fun b => T b ∨ b = g') (wc.setCell ⟨r, 0, none⟩ (.slice (some ⟨g', 0, none⟩) (t.m.length + 1) cap')) A ((put k ⟨[], 0⟩ t.m)[j]'h2).2.data) := fun q hq e1 e2 => by
                  obtain ⟨A', c', f1, f2, f3, f4⟩ := hi.file q hq
                  refine ⟨A', c', fun h1 h2 => ?_⟩
                  have e3 : (put k ⟨[], 0⟩ t.m)[j]'h2 = t.m[q] := by
                    rw [List.getElem?_eq_getElem h2, List.getElem?_eq_getElem hq] at e1; exact Option.some.inj e1
                  have e4 : (vs.take p ++ .slice none 0 0 :: vs.drop p)[j]'h1 = vs[q]'(by rw [hi.len]; exact hq) := by
                    rw [List.getElem?_eq_getElem h1, List.getElem?_eq_getElem (by rw [hi.len]; exact hq)] at e2; exact Option.some.inj e2
                  rw [e3, e4]
                  exact ⟨f1, f2, f3, f4.keep (fun _ h => .inl h) hkeep⟩
                have hpv : p ≤ vs.length := by rw [hi.len]; exact hp1
                rw [hm1] at hj
                rcases Nat.lt_trichotomy j p with h | h | h
                · obtain ⟨A', c', hh⟩ := old j (by omega) (by rw [hp4]; exact ins_lt hp1 h) (ins_lt hpv h)
                  exact ⟨A', c', hh _ _⟩
                · subst h
                  have h2 : j < (put k ⟨[], 0⟩ t.m).length := by rw [hm1]; exact hj
                  have e3 : (put k ⟨[], 0⟩ t.m)[j]'h2 = (k, ⟨[], 0⟩) := by
                    have := ins_eq (x := (k, (⟨[], 0⟩ : Fl))) hp1
                    rw [← hp4, List.getElem?_eq_getElem h2] at this; exact Option.some.inj this
                  have h1 : j < (vs.take j ++ .slice none 0 0 :: vs.drop j).length := by simp [hi.len]; omega
                  have e4 : (vs.take j ++ .slice none 0 0 :: vs.drop j)[j]'h1 = .slice none 0 0 := by
                    have := ins_eq (x := Value.slice none 0 0) hpv
                    rw [List.getElem?_eq_getElem h1] at this; exact Option.some.inj this
                  refine ⟨none, 0, ?_, ?_, Nat.zero_le _, ?_⟩
                  · rw [e3, e4]; rfl
                  · rw [e3]; exact Nat.le_refl _
                  · rw [e3]; exact LiesT.none_
                · obtain ⟨A', c', hh⟩ := old (j - 1) (by omega) (by rw [hp4]; exact ins_gt hp1 h) (ins_gt hpv h)
                  exact ⟨A', c', hh _ _⟩
            exact hRW.keepR htW hon
          · refine ⟨hon.os.trans hbc.os, hon.tape.trans hbc.tape, hon.output.trans hbc.output, by rw [hon.size, size_setCell]; exact hbc.size, fun b hb hnb => ?_, fun b hb => ?_⟩
            · have hbr : b ≠ r := fun e => hnb (e ▸ hr)
              exact (hon.block b hbr).trans ((Below.heap_setCell _ _ _ _ hbr).trans (hbc.block b hb))
            · rcases hb with hb | hb
              · exact .inl hb
              · exact .inr (by rw [hb]; exact hgb')
          · have hLc : Lies wc wc.heap.size A l' := (hL.below hbc).mono hbc.size
            have hLW := lies_only (w1 := wc.setCell ⟨r, 0, none⟩ (.slice (some ⟨g', 0, none⟩) (t.m.length + 1) cap')) hLc (slice_ne hi) htc ((Only.refl _ _).setCell _ _)
            rw [hon.size, size_setCell]
            exact lies_only hLW (fun x => by simp [bv]) htW hon
      have HQ : ∀ g cap' w1, Q g cap' w1 → w1.cell? ⟨r, 0, none⟩ = some (.slice (some ⟨g, 0, none⟩) (t.m.length + 1) cap') ∧ w1.cell? ⟨r, 3, none⟩ = some (.int .i64 t.keep) ∧ w1.cell? ⟨g, p * 3 + 1, none⟩ = some (.slice none 0 0) ∧ w1.frozen? ⟨g, p * 3 + 1, none⟩ = false ∧ Lies w1 w1.heap.size A l' := by
        rintro g cap' w1 ⟨T1, vs1, q1, q2, q3, q4, q5, q6, q7⟩
        obtain ⟨g2, cap2, hv2, _, _, _, hfz2, hc2⟩ := row_cell q4.len q4.own (by omega)
        injection hv2 with e1 _ _
        injection e1 with e1
        injection e1 with e1 _ _
        subst e1
        have hB := (hc2 p (by omega)).2.1
        rw [List.getElem?_eq_getElem (by rw [q4.len]; omega)] at q5
        rw [Option.some.inj q5] at hB
        exact ⟨q3.c0, q3.c3, hB, hfz2 _, q7⟩
      have laid : ∀ g cap' w1, Q g cap' w1 → ∀ v2 w3, w3.ownsRow w1.heap.size 5 1 v2 mm (cells l') → Below w1.heap.size w1 w3 → AfterR T r w (withFile (dd t) k ⟨[] ++ l', 0⟩) (w3.setCell ⟨g, p * 3 + 1, none⟩ v2) := by
        rintro g cap' w1 ⟨T1, vs1, q1, q2, q3, q4, q5, q6, q7⟩ v2 w3 ho3 hb3
        have hat1 : (put k ⟨[], 0⟩ t.m)[p]? = some (k, ⟨[], 0⟩) := by rw [hp4]; exact ins_eq hp1
        have hil1 : p < (put k ⟨[], 0⟩ t.m).length := by rw [hm1]; omega
        rw [List.getElem?_eq_getElem hil1] at hat1
        obtain ⟨T2, hR, hu⟩ := ref_laid (u := withFile (dd t) k ⟨[], 0⟩) (i := p) (f := ⟨[], 0⟩) g0 (by show (put k ⟨[], 0⟩ t.m).length ≤ t.deeds + 1; omega) q1 q2 q3 q4 hil1 (Option.some.inj hat1) (fun f' => by
          show put k f' (put k ⟨[], 0⟩ t.m) = (put k ⟨[], 0⟩ t.m).set p (k, f')
          rw [put_put, hp4, hp4, List.set_append_right _ _ (by rw [List.length_take]; omega)]
          rw [show p - (t.m.take p).length = 0 by rw [List.length_take]; omega]; rfl) rfl (by show ([] : List UInt8).length + l'.length ≤ _; rw [hl']; simp; omega) (n2 := mm) (by show mm = ([] : List UInt8).length + l'.length; rw [hl']; simp) ho3 hb3
        refine ⟨T2, ?_, q6.trans hu⟩
        have e2 : withFile (withFile (dd t) k ⟨[], 0⟩) k ⟨[] ++ l', 0⟩ = withFile (dd t) k ⟨[] ++ l', 0⟩ := by unfold withFile; simp only [put_put]
        rw [← e2]; exact hR
      have hltF : ∀ i, i < p → Op.bytesLess (if h : i < t.m.length then (⟨t.m[i].1.toArray⟩ : ByteArray) else ⟨#[]⟩).toList name.toList = true := fun i hip => by
        rw [dif_pos (by omega), less_iff, hk]; simpa using hp2 i hip (by omega)
      have hstF : p < t.m.length → Op.bytesLess (if h : p < t.m.length then (⟨t.m[p].1.toArray⟩ : ByteArray) else ⟨#[]⟩).toList name.toList = false := fun hpn => by
        rw [dif_pos hpn, less_iff, hk]; simpa using hp3 hpn
      rw [hk]
      by_cases hf : t.fuse = 1
      · rw [decide_eq_true hf] at HP
        have es : strike (withFile t k ⟨[] ++ l', 0⟩) = (true, offD (withFile (dd t) k ⟨[] ++ l', 0⟩) t.keep) := strike_hit (t := withFile t k ⟨[] ++ l', 0⟩) hf
        rw [es]
        refine rapp_new_hit (keep := t.keep) (Q := Q) c0 ht.c1 (ht.fz 0) hs hn hc hown hxs (by omega) (by omega) hl' _ hA hp1 hltF hstF HP HQ (fun g cap' w1 hq v2 w3 ho3 hb3 => ?_)
        obtain ⟨T2, hR, hu⟩ := laid g cap' w1 hq v2 w3 ho3 hb3
        refine (roff_any hR (by show t.deeds + 1 ≤ _; omega) gd.keepLo gd.keepHi).mono ?_
        rintro e w' ⟨rfl, T3, hR3, hu3⟩
        exact ⟨rfl, T3, hR3, hu.trans hu3⟩
      · rw [decide_eq_false hf] at HP
        have es : strike (withFile t k ⟨[] ++ l', 0⟩) = (false, withFile (dd t) k ⟨[] ++ l', 0⟩) := strike_miss (t := withFile t k ⟨[] ++ l', 0⟩) hf
        rw [es]
        exact rapp_new_ok (keep := t.keep) (Q := Q) c0 ht.c1 (ht.fz 0) hs hn hc hown hxs (by omega) (by omega) hl' _ hA hp1 hltF hstF HP HQ laid
  · have hfo := fileOr_some hg
    have hlg := gd.long _ (get_mem hg)
    simp only at hlg
    obtain ⟨g, cap, AB, cc, hv, hgb, hTg, hfz, hB, hS, e2, e3, e4⟩ := shape_of hi hil
    have hrg : r ≠ g := fun e => hi.ne ht (e ▸ hgb)
    have c0 := ht.c0
    rw [hv] at c0
    rw [hat] at hB e4
    replace hB : w.cell? ⟨g, i * 3 + 1, none⟩ = some (.slice AB f.data.length cc) := hB
    replace e4 : LiesT T w AB f.data := e4
    by_cases hlong : 16777216 < f.data.length + mm
    · rw [appendD_long ho hn (by rw [hfo, hl']; exact hlong)]
      refine (rapp_long_old ht.c1 hs hn hc c0 hil hB hlg hlong).mono ?_
      rintro e w' ⟨rfl, rfl⟩
      exact ⟨rfl, AfterR.same h_⟩
    · rw [appendD_go ho hn (by rw [hfo, hl']; exact hlong), hfo]
      have hdd := rdeed_any ht0 gd (by omega)
      have HQ : ∀ w1, (Only r w w1 ∧ RTop w1 r vL t.off (dd t).fuse t.keep (dd t).deeds) → w1.cell? ⟨r, 0, none⟩ = some (.slice (some ⟨g, 0, none⟩) t.m.length cap) ∧ w1.cell? ⟨r, 3, none⟩ = some (.int .i64 t.keep) ∧ w1.cell? ⟨g, i * 3 + 1, none⟩ = some (.slice AB f.data.length cc) ∧ w1.frozen? ⟨g, i * 3 + 1, none⟩ = false ∧ Lies w1 w1.heap.size AB f.data ∧ Lies w1 w1.heap.size A l' := fun w1 hq => by
        have c0' := hq.2.c0
        rw [hv] at c0'
        have hblk := hq.1.block g (Ne.symm hrg)
        refine ⟨c0', hq.2.c3, (World.cell?_of_block (a := ⟨g, i * 3 + 1, none⟩) hblk).trans hB, (World.frozen?_of_block (a := ⟨g, i * 3 + 1, none⟩) hblk).trans (hfz _), ?_, ?_⟩
        · rw [hq.1.size]; exact lies_only e4.lies (slice_ne hi) ht0 hq.1
        · rw [hq.1.size]; exact lies_only hL (slice_ne hi) ht0 hq.1
      have laid : ∀ w1, (Only r w w1 ∧ RTop w1 r vL t.off (dd t).fuse t.keep (dd t).deeds) → ∀ v2 w3, w3.ownsRow w1.heap.size 5 1 v2 (f.data.length + mm) (cells (f.data ++ l')) → Below w1.heap.size w1 w3 → AfterR T r w (withFile (dd t) name.data.toList ⟨f.data ++ l', f.safe⟩) (w3.setCell ⟨g, i * 3 + 1, none⟩ v2) := fun w1 hq v2 w3 ho3 hb3 => by
        obtain ⟨T2, hR, hu⟩ := ref_laid (u := dd t) (good_dd gd) (by show t.m.length ≤ t.deeds + 1; omega) hr (fun b hb => by rw [hq.1.size]; exact hl b hb) hq.2 (hi.keepR ht0 hq.1) hil hat hput hgb (by rw [hl']; omega) (by rw [hl']) ho3 hb3
        exact ⟨T2, hR, (Upd.only hq.1 hr).trans hu⟩
      by_cases hf : t.fuse = 1
      · rw [decide_eq_true hf] at hdd
        have es : strike (withFile t name.data.toList ⟨f.data ++ l', f.safe⟩) = (true, offD (withFile (dd t) name.data.toList ⟨f.data ++ l', f.safe⟩) t.keep) := strike_hit (t := withFile t name.data.toList ⟨f.data ++ l', f.safe⟩) hf
        rw [es]
        refine rapp_old_hit (lB := f.data) (l' := l') (keep := t.keep) ht.c1 hs hn hc c0 hil hB (by omega) hrg rfl hl' hdd HQ (fun w1 hq v2 w3 ho3 hb3 => ?_)
        obtain ⟨T2, hR, hu⟩ := laid w1 hq v2 w3 ho3 hb3
        refine (roff_any hR (by show t.deeds + 1 ≤ _; omega) gd.keepLo gd.keepHi).mono ?_
        rintro e w' ⟨rfl, T3, hR3, hu3⟩
        exact ⟨rfl, T3, hR3, hu.trans hu3⟩
      · rw [decide_eq_false hf] at hdd
        have es : strike (withFile t name.data.toList ⟨f.data ++ l', f.safe⟩) = (false, withFile (dd t) name.data.toList ⟨f.data ++ l', f.safe⟩) := strike_miss (t := withFile t name.data.toList ⟨f.data ++ l', f.safe⟩) hf
        rw [es]
        exact rapp_old_ok (lB := f.data) (l' := l') (keep := t.keep) ht.c1 hs hn hc c0 hil hB (by omega) hrg rfl hl' hdd HQ laid
end
end Go.Proofs.Ytkiombbdddbkfaa.Dk
