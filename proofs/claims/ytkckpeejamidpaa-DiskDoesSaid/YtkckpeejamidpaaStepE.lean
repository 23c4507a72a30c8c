/-
  step: Names of both disks; step as a whole. Conditions: few deeds.
-/
import Derived.Test.YtkckpeejamidpaaStepD
import Derived.BigQuiet
namespace Go.Proofs.Ytkckpeejamidpaa.Dk
open Go.RowKit Go.Proofs.Ytkckpeejamidpaa.Pk

section
variable {X M : Nat → Prop} {w0 w w' : World} {d r x : Nat} {s t : Ds} {kind n keep : Int} {name : ByteArray} {A : Option Addr} {m c : Nat}
theorem own9_keep {base k : Nat} {v : Value} {xs : List Value} (h : w.ownsRow base 9 1 v k xs) (hk : ∀ g, v.ownBlock = some g → w'.heap[g]? = w.heap[g]?) : w'.ownsRow base 9 1 v k xs := by
  refine ⟨h.1, ?_⟩
  rcases h.2 with h1 | ⟨g, cap, cur, rfl, hb, hg, rest⟩
  · exact .inl h1
  · exact .inr ⟨g, cap, cur, rfl, hb, (hk g rfl).trans hg, rest⟩
theorem own9_cap {base k : Nat} {v : Value} {xs : List Value} (h : w.ownsRow base 9 1 v k xs) : k ≤ maxLen := by
  rcases h.2 with ⟨rfl, rfl⟩ | ⟨g, cap, cur, rfl, hb, hg, h1, h2, _⟩
  · exact Nat.zero_le _
  · omega
theorem own9_at {base k j c : Nat} {A : Option Addr} {xs : List Value} {u : Value} (h : w.ownsRow base 9 1 (.slice A k c) k xs) (hj : j < k) (hu : xs[j]? = some u) : ∃ g, A = some ⟨g, 0, none⟩ ∧ base ≤ g ∧ w.cell? ⟨g, j, none⟩ = some u ∧ w.frozen? ⟨g, j, none⟩ = false ∧
      ∀ u, (w.setCell ⟨g, j, none⟩ u).ownsRow base 9 1 (.slice A k c) k (xs.set j u) ∧ w.grownBy (w.setCell ⟨g, j, none⟩ u) (some g) := by
  obtain ⟨g, rfl, h1, _, _, h4, h5⟩ := own_at h hj
  exact ⟨g, rfl, h1, (h.cellAt j (by omega)).trans hu, h4, h5⟩
theorem Both.names {l : List Nm} (h : Both X w0 w d r s t) (hd : s.deeds ≤ 8796093022208) (hl : namesD s = l) :
    Calls Try.prog 22 #[.pointer (some ⟨d, 0, none⟩)] w (Lists w l) := by
  obtain ⟨hx, S, T, hD, hR, _⟩ := h
  rw [← hl]; exact names_any hD hd
theorem Both.rnames {l : List Nm} (h : Both X w0 w d r s t) (hd : t.deeds ≤ 1000000) (hl : namesD t = l) :
    Calls Try.prog 30 #[.pointer (some ⟨r, 0, none⟩)] w (Lists w l) := by
  obtain ⟨hx, S, T, hD, hR, _⟩ := h
  rw [← hl]; exact rnames_any hR hd

set_option maxRecDepth 100000 in
set_option maxHeartbeats 2000000 in
theorem step_names_len {l1 l2 : List Nm} (h : Both X w0 w d r s t) (hd : s.deeds ≤ 1000) (hd' : t.deeds ≤ 1000) (e1 : namesD s = l1) (e2 : namesD t = l2) (hne : l1.length ≠ l2.length) :
    Calls Try.prog 11 #[.pointer (some ⟨d, 0, none⟩), .pointer (some ⟨r, 0, none⟩), .agg #[.int .i64 7, .string name, .slice A m c, .int .i64 n, .int .i64 keep]] w fun e w' => e = .returned (.bool false) ∧ Both X w0 w' d r s t := by
  have hB := h.alloc (.cells #[.int .i64 7, .string name, .slice A m c, .int .i64 n, .int .i64 keep] 33)
  have hs1 : s.deeds ≤ 8796093022208 := by omega
  have ht1 : t.deeds ≤ 1000000 := by omega
  have hne' : ((l1.length : Int) != (l2.length : Int)) = true := by simp; omega
  clear h hd hd'
  go_enter Try.func11, Try.ntmps11
  go_wp2_with (first
    | (go_at_call 22; refine (hB.names hs1 e1).mono ?_; rintro e w2 ⟨A1, c1, rfl, hown, hb⟩; have hB2 := hB.keep hb; clear hb)
    | (go_at_call 30; refine (hB2.rnames ht1 e2).mono ?_; rintro e w3 ⟨A2, c2, rfl, hown2, hb⟩; have hB3 := hB2.keep hb; clear hb))
  go_ret
  exact ⟨rfl, hB3.low fun _ h => .inl (.inl (.inl h))⟩

set_option maxRecDepth 100000 in
set_option maxHeartbeats 2000000 in
theorem step_names_walk {l1 l2 : List Nm} {N : Nat} (h : Both X w0 w d r s t) (hd : s.deeds ≤ 1000) (hd' : t.deeds ≤ 1000) (e1 : namesD s = l1) (e2 : namesD t = l2) (hn1 : l1.length = N) (hn2 : l2.length = N) :
    Calls Try.prog 11 #[.pointer (some ⟨d, 0, none⟩), .pointer (some ⟨r, 0, none⟩), .agg #[.int .i64 7, .string name, .slice A m c, .int .i64 n, .int .i64 keep]] w fun e w' => ∃ b, e = .returned (.bool b) ∧ (l1 = l2 → b = true) ∧ Both X w0 w' d r s t := by
  have hB := h.alloc (.cells #[.int .i64 7, .string name, .slice A m c, .int .i64 n, .int .i64 keep] 33)
  have hw0 : w0.heap.size ≤ w.heap.size := h.size
  have hs1 : s.deeds ≤ 8796093022208 := by omega
  have ht1 : t.deeds ≤ 1000000 := by omega
  clear h hd hd'
  have HN := Lib.hid (And.intro hn1 hn2)
  clear hn1 hn2
  go_enter Try.func11, Try.ntmps11
  go_wp2_with (first
    | (go_at_call 22; refine (hB.names hs1 e1).mono ?_; rintro e w2 ⟨A1, c1, rfl, hown, hb2⟩; rw [HN.out.1] at hown ⊢; have hB2 := hB.keep hb2)
    | (go_at_call 30; refine (hB2.rnames ht1 e2).mono ?_; rintro e w3 ⟨A2, c2, rfl, hown2, hb3⟩; rw [HN.out.2] at hown2 ⊢; have hB3 := hB2.keep hb3))
  have hlen : N ≤ 9223372036854775807 := by have := own9_cap hown; unfold maxLen at this; omega
  have hXA : ∀ g, (Value.slice A1 N c1).ownBlock = some g → More (More (fun b => X b ∨ b = w.heap.size) (w.alloc (.cells #[.int .i64 7, .string name, .slice A m c, .int .i64 n, .int .i64 keep] 33)) w2) w2 w3 g ∧ g < w2.heap.size := fun g hg => ⟨.inl (.inr (hown.lt g hg)), (hown.lt g hg).2⟩
  have hown3 : w3.ownsRow (w.alloc (.cells #[.int .i64 7, .string name, .slice A m c, .int .i64 n, .int .i64 keep] 33)).heap.size 9 1 (.slice A1 N c1) N (l1.map encStr) := own9_keep hown (fun g hg => hb3.block g (hown.lt g hg).2)
  have hsz : (w.alloc (.cells #[.int .i64 7, .string name, .slice A m c, .int .i64 n, .int .i64 keep] 33)).heap.size = w.heap.size + 1 := by simp
  rw [hsz] at hown3
  obtain ⟨M, hM⟩ : ∃ M, M = More (More (fun b => X b ∨ b = w.heap.size) (w.alloc (.cells #[.int .i64 7, .string name, .slice A m c, .int .i64 n, .int .i64 keep] 33)) w2) w2 w3 := ⟨_, rfl⟩
  rw [← hM] at hXA hB3
  have HM : Hid (∀ b, X b → M b) := fun b hb => by rw [hM]; exact .inl (.inl (.inl hb))
  clear hM hB hB2 hsz hb2 hb3 hown
  go_loopw [17] (fun i wr => ∃ (k : Nat) (xs : List Value), k ≤ N ∧ i = .int .i64 k ∧ wr.ownsRow (w.heap.size + 1) 9 1 (.slice A1 N c1) N xs ∧ wr.ownsRow w2.heap.size 9 1 (.slice A2 N c2) N (l2.map encStr) ∧ Hid (∀ j, k ≤ j → xs[j]? = (l1.map encStr)[j]?) ∧ Both M w0 wr d r s t) (fun i _ => N - (intOf i).toNat)
  case atStart => exact ⟨0, _, Nat.zero_le _, rfl, hown3, hown2, fun _ _ => rfl, hB3⟩
  case round =>
    obtain ⟨k, xs, hk, rfl, ho1, ho2, hxs, hBr⟩ := hrel
    clear hown3 hown2 hB3
    by_cases hlt : k < N
    · obtain ⟨a, ha⟩ : ∃ a, l1[k]? = some a := ⟨_, List.getElem?_eq_getElem (by have := HN.out.1; omega)⟩
      obtain ⟨b, hb⟩ : ∃ b, l2[k]? = some b := ⟨_, List.getElem?_eq_getElem (by have := HN.out.2; omega)⟩
      obtain ⟨g1, rfl, hg1, hc1, hf1, hset⟩ := own9_at (u := .string ⟨a.toArray⟩) ho1 hlt (by rw [hxs.out k (Nat.le_refl _)]; simp [ha, encStr])
      obtain ⟨g2, rfl, hg2, hc2, -, -⟩ := own9_at (u := .string ⟨b.toArray⟩) ho2 hlt (by simp [hb, encStr])
      have R := Lib.hid (hset (.string ⟨#[103, 111, 110, 101]⟩))
      have hlt' : (k : Int) < (N : Int) := by omega
      have HAB := Lib.hid (And.intro ha hb)
      clear hset ha hb
      by_cases hab : a = b
      · subst hab
        go_wp2_with fail
        go_quiet (fail)
        go_wp2_with fail
        go_roundw
        case rel => exact ⟨k + 1, _, by omega, by go_num, R.out.1, own9_keep ho2 (fun g hg => by
            have hgg : g2 = g := by simpa [Value.ownBlock] using hg
            exact R.out.2.block g (ho2.lt g hg).2 (fun e => by have := Option.some.inj e; have := (hXA g1 rfl).2; omega)), (fun j hj => by rw [List.getElem?_set_ne (by omega)]; exact hxs.out j (by omega)), (hBr.wrote R.out.2 (hXA g1 rfl).1 (by omega)).drewN nq⟩
        case measure => simp [intOf]; omega
      · have hab' : (a == b) = false := by simpa using hab
        go_wp2_with fail
        go_quiet (fail)
        go_wp2_with fail
        go_ret
        exact ⟨_, rfl, fun e => absurd (Option.some.inj (HAB.out.1.symm.trans (by rw [e]; exact HAB.out.2))) hab, (hBr.low HM.out).drewN nq⟩
    · rename World => wq
      have hge' : (N : Int) ≤ (k : Int) := by omega
      go_wp2
      go_ret
      exact ⟨_, rfl, fun _ => rfl, hBr.low HM.out⟩

theorem step_names (h : Both X w0 w d r s t) (hd : s.deeds ≤ 1000) (hd' : t.deeds ≤ 1000) :
    Calls Try.prog 11 #[.pointer (some ⟨d, 0, none⟩), .pointer (some ⟨r, 0, none⟩), .agg #[.int .i64 7, .string name, .slice A m c, .int .i64 n, .int .i64 keep]] w (Stepped X w0 d r s t s t) := by
  by_cases h1 : (namesD s).length = (namesD t).length
  · exact (step_names_walk h hd hd' rfl rfl h1 rfl).mono fun e w' ⟨b, a1, a2, a3⟩ => ⟨b, a1, fun q => a2 (by rw [q]), a3⟩
  · exact (step_names_len h hd hd' rfl rfl h1).mono fun e w' ⟨a, b⟩ => ⟨_, a, fun q => absurd (by rw [q]) h1, b⟩

/-- What an operation does to a state. -/
def nextD (kind n keep : Int) (name : Nm) (l : List UInt8) (s : Ds) : Ds :=
  if kind = 0 then (appendD s name l).2 else if kind = 1 then (syncD s name).2 else if kind = 2 then (cutD s name n).2 else if kind = 4 then armD s n keep else if kind = 5 then offD s keep else if kind = 6 then onD s else s

theorem step_any {l : List UInt8} (h : Both X w0 w d r s t) (hs : name.size ≤ maxLen) (hd : s.deeds ≤ 1000) (hd' : t.deeds ≤ 1000) (hll : l.length = m) (hm : m ≤ 1024) (hL : Lies w0 w0.heap.size A l)
    (hn1 : -9223372036854775808 ≤ n) (hn2 : n ≤ 9223372036854775807) (hk1 : -9223372036854775808 ≤ keep) (hk2 : keep ≤ 9223372036854775807) :
    Calls Try.prog 11 #[.pointer (some ⟨d, 0, none⟩), .pointer (some ⟨r, 0, none⟩), .agg #[.int .i64 kind, .string name, .slice A m c, .int .i64 n, .int .i64 keep]] w (Stepped X w0 d r s t (nextD kind n keep name.data.toList l s) (nextD kind n keep name.data.toList l t)) := by
  by_cases h0 : kind = 0
  · subst h0; exact step_append h hs hd hd' hll hm hL
  by_cases h1 : kind = 1
  · subst h1; exact step_sync h hs hd hd'
  by_cases h2 : kind = 2
  · subst h2; exact step_cut h hs hd hd'
  by_cases h3 : kind = 3
  · subst h3; exact step_read h hs hd'
  by_cases h4 : kind = 4
  · subst h4; exact (step_arm h hn1 hn2 hk1 hk2).mono fun e w' ⟨a, b⟩ => ⟨_, a, fun _ => rfl, b⟩
  by_cases h5 : kind = 5
  · subst h5; exact (step_off h (by omega) hk1 hk2).mono fun e w' ⟨a, b⟩ => ⟨_, a, fun _ => rfl, b⟩
  by_cases h6 : kind = 6
  · subst h6; exact (step_on h).mono fun e w' ⟨a, b⟩ => ⟨_, a, fun _ => rfl, b⟩
  by_cases h7 : kind = 7
  · subst h7; exact step_names h hd hd'
  refine (step_none h h0 h1 h2 h3 h4 h5 h6 h7).mono fun e w' ⟨a, b⟩ => ⟨_, a, fun _ => rfl, ?_⟩
  unfold nextD
  rw [if_neg h0, if_neg h1, if_neg h2, if_neg h4, if_neg h5, if_neg h6, if_neg h0, if_neg h1, if_neg h2, if_neg h4, if_neg h5, if_neg h6]
  exact b
end
end Go.Proofs.Ytkckpeejamidpaa.Dk
