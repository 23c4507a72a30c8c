/-
  A word's kind and text; put, of whatever word is allowed; what the machine keeps. Conditions: the parser keeps what it keeps.
-/
import Derived.Test.YtlkaaembeakicaaDoorEPut2
import Derived.Test.YtlkaaembeakicaaDoorEPut3
namespace Go.Proofs.YtlkaaembeakicaaDoor.Ex
open Go.RowKit
def TokOK (k : Nat) (t : Bs) : Prop :=
  (k = 0 ∧ t = []) ∨ (k = 1 ∧ t = []) ∨ (k = 2 ∧ t ≠ [] ∧ t.length ≤ 18 ∧ ∀ c ∈ t, isDig c = true) ∨ (k = 3 ∧ isNm t = true) ∨ (k = 4 ∧ (t ∈ ops ∨ t = [33] ∨ t = [40] ∨ t = [41]))
theorem run_take (P : UInt8 → Bool) : ∀ l : Bs, ∀ c ∈ l.take (runLen P l), P c = true
  | [], c, h => by simp [runLen] at h
  | x :: r, c, h => by
    simp only [runLen] at h
    split at h
    · rename_i hx
      simp only [List.take_succ_cons, List.mem_cons] at h
      rcases h with rfl | h
      · exact hx
      · exact run_take P r c h
    · simp at h
theorem sign_tok {l : Bs} (h : 0 < signLen l) : l.take (signLen l) ∈ ops ∨ l.take (signLen l) = [33] ∨ l.take (signLen l) = [40] ∨ l.take (signLen l) = [41] := by
  match l, h with
  | c :: r, h =>
    simp only [signLen] at h ⊢
    split at h
    · rename_i h2
      rw [if_pos h2]
      left
      have h3 := h2.2
      simp only [two2, Bool.or_eq_true, beq_iff_eq] at h3
      rcases h3 with ((((h3 | h3) | h3) | h3) | h3) | h3 <;> rw [h3] <;> decide
    · rename_i h2
      rw [if_neg h2]
      split at h
      · rename_i h1
        rw [if_pos h1]
        have hc : ∀ n : Fin 256, one1 (UInt8.ofNat n) = true → [UInt8.ofNat n] ∈ ops ∨ ([UInt8.ofNat n] : Bs) = [33] ∨ ([UInt8.ofNat n] : Bs) = [40] ∨ ([UInt8.ofNat n] : Bs) = [41] := by decide +kernel
        have := hc ⟨c.toNat, c.toNat_lt⟩ (by simpa using h1)
        simpa using this
      · omega
theorem tok_ok (l : Bs) : TokOK (kindOf l) (wordOf l) := by
  unfold kindOf wordOf
  by_cases h : l = []
  · rw [if_pos h, if_pos h]; exact .inr (.inl ⟨rfl, rfl⟩)
  · rw [if_neg h, if_neg h]
    unfold meas
    by_cases h1 : 0 < runLen isDig l
    · rw [if_pos h1]
      by_cases h2 : 18 < runLen isDig l
      · rw [if_pos h2]; exact .inl ⟨rfl, by simp⟩
      · rw [if_neg h2]
        refine .inr (.inr (.inl ⟨rfl, ?_, ?_, run_take isDig l⟩))
        · have := runLen_le isDig l
          intro e
          have : (l.take (runLen isDig l)).length = 0 := by rw [e]; rfl
          rw [List.length_take] at this; omega
        · rw [List.length_take]; omega
    · rw [if_neg h1]
      by_cases h2 : 0 < runLen isLet l
      · rw [if_pos h2]
        by_cases h3 : isNm (l.take (runLen isLet l)) = true
        · rw [if_pos h3]; exact .inr (.inr (.inr (.inl ⟨rfl, h3⟩)))
        · rw [if_neg h3]; exact .inl ⟨rfl, by simp⟩
      · rw [if_neg h2]
        by_cases h3 : 0 < signLen l
        · rw [if_pos h3]; exact .inr (.inr (.inr (.inr ⟨rfl, sign_tok h3⟩)))
        · rw [if_neg h3]; exact .inl ⟨rfl, by simp⟩
theorem ops_no {t : Bs} (h : t ∈ ops) : t ≠ [40] ∧ t ≠ [41] ∧ 1 ≤ levelOf t ∧ levelOf t ≤ 5 := by
  simp only [ops, List.mem_cons, List.not_mem_nil, or_false] at h
  rcases h with h | h | h | h | h | h | h | h | h | h | h | h | h <;> rw [h] <;> decide
theorem level_ops {t : Bs} (h : levelOf t ≠ 0) : t ∈ ops := Classical.byContradiction fun hn => h (levelOf_not hn)
theorem dig_level {t : Bs} (h0 : t ≠ []) (h : ∀ c ∈ t, isDig c = true) : t ∉ ops ∧ t ≠ [40] ∧ t ≠ [41] := by
  match t, h0 with
  | c :: r, _ =>
    have hc := h c (by simp)
    refine ⟨fun hm => ?_, fun e => ?_, fun e => ?_⟩
    · simp only [ops, List.mem_cons, List.not_mem_nil, or_false] at hm
      rcases hm with e | e | e | e | e | e | e | e | e | e | e | e | e <;> (injection e with e _; subst e; revert hc; decide)
    · injection e with e _; subst e; revert hc; decide
    · injection e with e _; subst e; revert hc; decide
theorem nm_level {t : Bs} (h : isNm t = true) : t ∉ ops ∧ t ≠ [40] ∧ t ≠ [41] ∧ ∃ c, t = [c] ∧ (c = 110 ∨ c = 116 ∨ c = 118) := by
  simp only [isNm, Bool.or_eq_true, beq_iff_eq] at h
  rcases h with (rfl | rfl) | rfl
  · exact ⟨by decide, by decide, by decide, _, rfl, .inl rfl⟩
  · exact ⟨by decide, by decide, by decide, _, rfl, .inr (.inl rfl)⟩
  · exact ⟨by decide, by decide, by decide, _, rfl, .inr (.inr rfl)⟩
/-- The ways of a word that is allowed. -/
inductive Way (s : St) : Nat → Bs → Prop where
  | fin : s.complete = true → s.opn = 0 → Way s 1 []
  | num (t : Bs) : t ≠ [] → t.length ≤ 18 → (∀ c ∈ t, isDig c = true) → s.complete = false → Way s 2 t
  | name (t : Bs) : isNm t = true → s.complete = false → Way s 3 t
  | opn : s.complete = false → Way s 4 [40]
  | close : s.complete = true → 0 < s.opn → Way s 4 [41]
  | bin (t : Bs) : s.complete = true → t ∈ ops → Way s 4 t
  | sign (t : Bs) : s.complete = false → (t = [45] ∨ t = [33]) → Way s 4 t
theorem way_of {s : St} {k : Nat} {t : Bs} (h : TokOK k t) (ha : s.allows k t = true) : Way s k t := by
  unfold St.allows at ha
  rcases h with ⟨rfl, rfl⟩ | ⟨rfl, rfl⟩ | ⟨rfl, h0, hl, hd⟩ | ⟨rfl, hn⟩ | ⟨rfl, h⟩
  · cases hc : s.complete <;> rw [hc] at ha <;> revert ha <;> simp [levelOf]
  · rw [if_pos rfl] at ha; simp at ha; exact .fin ha.1 ha.2
  · obtain ⟨a, b, c⟩ := dig_level h0 hd
    rw [if_neg (by decide), if_neg c] at ha
    cases hc : s.complete
    · exact .num t h0 hl hd hc
    · rw [hc, if_pos rfl, levelOf_not a] at ha; simp at ha
  · obtain ⟨a, b, c, _⟩ := nm_level hn
    rw [if_neg (by decide), if_neg c] at ha
    cases hc : s.complete
    · exact .name t hn hc
    · rw [hc, if_pos rfl, levelOf_not a] at ha; simp at ha
  · rw [if_neg (by decide)] at ha
    by_cases h41 : t = [41]
    · rw [if_pos h41] at ha; subst h41; simp at ha; exact .close ha.1 ha.2
    · rw [if_neg h41] at ha
      cases hc : s.complete
      · rw [hc, if_neg (by simp)] at ha
        simp at ha
        rcases ha with (h1 | h1) | h1
        · exact .sign t hc (.inl h1)
        · exact .sign t hc (.inr h1)
        · subst h1; exact .opn hc
      · rw [hc, if_pos rfl] at ha
        exact .bin t hc (level_ops (by simpa using ha))
theorem put_any {w0 w : World} {p at_ k : Nat} {s : St} {t : ByteArray} (h : PS w0 p s w) (hi : s.Inv) (hw : Way s k t.data.toList) (hn : s.waits.length ≤ 1000) (hT : Tab w) :
    Calls Tryd.prog 33 #[ptr p, .agg #[.int .i64 k, .int .i64 at_, .string t]] w fun e w' => e = .returned (.tuple #[]) ∧ PS w0 p (s.put k t.data.toList) w' ∧ Keep w w' := by
  have hoc : s.opn ≤ 1000 := by
    have : no s.waits ≤ s.waits.length := by
      generalize s.waits = l
      induction l with
      | nil => simp [no]
      | cons q r ih => simp only [no, List.length_cons]; split <;> omega
    rw [hi.opn]; omega
  obtain ⟨vo, vp, es, hx⟩ := h
  have hel : es.length ≤ 1000 := by
    have := hi.count
    rw [← hx.vals] at this
    simp at this; omega
  generalize ht : t.data.toList = tl at hw
  cases hw with
  | fin h1 h2 =>
    obtain rfl := bytes_of ht
    exact put_end ⟨vo, vp, es, hx⟩ hi h1 hn
  | num _ h0 hl hd hc =>
    refine (put_num hx hel (by rw [ht]; exact h0) (by have e : t.size = t.data.toList.length := by simp
                                                      rw [e, ht]; exact hl) (by rw [ht]; exact hd) hT).mono ?_
    rw [ht]; rintro e w' ⟨rfl, hp, hk⟩
    exact ⟨rfl, hp, hk⟩
  | name _ hn hc =>
    refine (put_name hx hel (by rw [ht]; exact hn)).mono ?_
    rw [ht]; rintro e w' ⟨rfl, hp, hk⟩
    exact ⟨rfl, hp, hk⟩
  | opn hc =>
    obtain rfl := bytes_of ht
    exact put_open hx hn hoc
  | close hc ho =>
    obtain rfl := bytes_of ht
    exact put_close ⟨vo, vp, es, hx⟩ hi hc hn ho hoc
  | bin _ hc hm =>
    obtain ⟨a, b, _⟩ := ops_no hm
    refine (put_bin ⟨vo, vp, es, hx⟩ hi hc hn (by rw [ht]; exact hm)).mono ?_
    rw [ht]; rintro e w' ⟨rfl, hp, hk⟩
    refine ⟨rfl, ?_, hk⟩
    unfold St.put
    rw [if_neg (by decide), if_neg (by decide), if_neg (by decide), if_neg a, if_neg b, if_pos hc]
    exact hp
  | sign _ hc hm =>
    refine (put_sign hx hn hc (by rw [ht]; exact hm)).mono ?_
    rw [ht]; rintro e w' ⟨rfl, hp, hk⟩
    refine ⟨rfl, ?_, hk⟩
    unfold St.put
    rw [if_neg (by decide), if_neg (by decide), if_neg (by decide), if_neg (by rcases hm with rfl | rfl <;> decide), if_neg (by rcases hm with rfl | rfl <;> decide), if_neg (by simp [hc])]
    exact hp
end Go.Proofs.YtlkaaembeakicaaDoor.Ex
