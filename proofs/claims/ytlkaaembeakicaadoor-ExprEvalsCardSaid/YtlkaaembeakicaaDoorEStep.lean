/-
  What one word leaves the machine with. Conditions: the machine keeps what it keeps; the word is allowed and not one too many.
-/
import Derived.Test.YtlkaaembeakicaaDoorEDisp
namespace Go.Proofs.YtlkaaembeakicaaDoor.Ex
open Go.RowKit
/-- The parts are counted. -/
def St.Bal (s : St) : Prop := s.parts = tot s.vals + nz s.waits
theorem count_eq (s : St) (k : Nat) (t : Bs) : s.count k t = { s with parts := s.parts + (if isPart k t then 1 else 0) } := by
  unfold St.count; split <;> simp
theorem Inv.parts {s : St} (h : s.Inv) (n : Nat) : ({ s with parts := n } : St).Inv := ⟨h.wf, h.ws, h.len, h.opn, h.few⟩
theorem join_parts (s : St) (n l : Nat) : ({ s with parts := n } : St).join l = { s.join l with parts := n } := rfl
theorem part_num {t : Bs} (h0 : t ≠ []) (h : ∀ c ∈ t, isDig c = true) : isPart 2 t = true := by
  obtain ⟨_, b, c⟩ := dig_level h0 h
  simp [isPart, b, c]
theorem part_name {t : Bs} (h : isNm t = true) : isPart 3 t = true := by
  obtain ⟨_, b, c, _⟩ := nm_level h
  simp [isPart, b, c]
theorem put_inv {s : St} {k : Nat} {t : Bs} (hi : s.Inv) (hb : s.Bal) (hw : Way s k t) (hp : isPart k t = true → s.parts < 64) :
    ((s.count k t).put k t).Inv ∧ ((s.count k t).put k t).Bal ∧ ((s.count k t).put k t).waits.length ≤ s.waits.length + 1 := by
  rw [count_eq]
  unfold St.Bal at *
  cases hw with
  | fin h1 h2 =>
    obtain ⟨a, b, c, d⟩ := joinL_inv (level := 1) (by omega) (by omega) s.waits s rfl hi h1
    have e : ({ s with parts := s.parts + (if isPart 1 [] then 1 else 0) } : St).put 1 [] = s.join 1 := by
      simp [isPart, St.put]
    rw [e]
    exact ⟨a, by rw [b]; exact hb, by omega⟩
  | num _ h0 hl hd hc =>
    have hq := part_num h0 hd
    have := hp hq
    rw [if_pos hq]
    have e : ({ s with parts := s.parts + 1 } : St).put 2 t = { s with parts := s.parts + 1, vals := .num (numVal t) :: s.vals, complete := true } := by simp [St.put]
    rw [e]
    refine ⟨⟨?_, hi.ws, ?_, hi.opn, ?_⟩, ?_, by simp⟩
    · intro T hT
      simp only [List.mem_cons] at hT
      rcases hT with rfl | hT
      · exact numVal_small hl hd
      · exact hi.wf T hT
    · have := hi.len
      rw [hc] at this
      simp at this ⊢; omega
    · simp only [tot, Tree.size]; omega
    · simp only [tot, Tree.size]; omega
  | name _ hn hc =>
    have hq := part_name hn
    have := hp hq
    rw [if_pos hq]
    have e : ({ s with parts := s.parts + 1 } : St).put 3 t = { s with parts := s.parts + 1, vals := .name (t.headD 0) :: s.vals, complete := true } := by simp [St.put]
    rw [e]
    refine ⟨⟨?_, hi.ws, ?_, hi.opn, ?_⟩, ?_, by simp⟩
    · intro T hT
      simp only [List.mem_cons] at hT
      rcases hT with rfl | hT
      · obtain ⟨_, _, _, c, rfl, h⟩ := nm_level hn
        exact h
      · exact hi.wf T hT
    · have := hi.len
      rw [hc] at this
      simp at this ⊢; omega
    · simp only [tot, Tree.size]; omega
    · simp only [tot, Tree.size]; omega
  | opn hc =>
    have e : ({ s with parts := s.parts + (if isPart 4 [40] then 1 else 0) } : St).put 4 [40] = { s with waits := ([40], 0) :: s.waits, opn := s.opn + 1 } := by simp [isPart, St.put]
    rw [e]
    refine ⟨⟨hi.wf, ?_, ?_, ?_, ?_⟩, ?_, by simp⟩
    · intro q hq
      simp only [List.mem_cons] at hq
      rcases hq with rfl | hq
      · exact .inl ⟨rfl, rfl⟩
      · exact hi.ws q hq
    · have := hi.len
      simpa [nb] using this
    · have := hi.opn
      simp [no]; omega
    · have := hi.few
      simpa [nz] using this
    · simpa [nz] using hb
  | close hc ho =>
    obtain ⟨a, b, c, d⟩ := joinL_inv (level := 1) (by omega) (by omega) s.waits s rfl hi hc
    have e : ({ s with parts := s.parts + (if isPart 4 [41] then 1 else 0) } : St).put 4 [41] = { s.join 1 with waits := (s.join 1).waits.tail, opn := s.opn - 1 } := by simp [isPart, St.put]
    rw [e]
    have ho2 := a.opn
    have ho3 : (s.join 1).opn = s.opn := rfl
    rw [ho3] at ho2
    cases hv : (s.join 1).waits with
    | nil => rw [hv] at ho2; simp [no] at ho2; omega
    | cons q r =>
      have hq := d q r hv
      have hq0 : q.2 = 0 := by omega
      rw [hv] at ho2 b
      have a1 := a.ws
      have a2 := a.len
      have a3 := a.few
      rw [hv] at a1 a2 a3
      simp only [nb, nz, no, hq0] at *
      simp at *
      refine ⟨⟨a.wf, fun q hq => a1.2 q.1 q.2 hq, ?_, ?_, ?_⟩, ?_, ?_⟩
      · simpa using a2
      · simp; omega
      · simpa using a3
      · show s.parts = _; omega
      · rw [hv] at c; simp at c ⊢; omega
  | bin _ hc hm =>
    obtain ⟨n40, n41, l1, l5⟩ := ops_no hm
    have hq : isPart 4 t = true := by simp [isPart, n40, n41]
    have := hp hq
    rw [if_pos hq]
    obtain ⟨a, b, c, d⟩ := joinL_inv (level := levelOf t) (by omega) (by omega) s.waits s rfl hi hc
    have e : ({ s with parts := s.parts + 1 } : St).put 4 t = { s.join (levelOf t) with parts := s.parts + 1, waits := (t, levelOf t) :: (s.join (levelOf t)).waits, complete := false } := by
      unfold St.put
      rw [if_neg (by decide), if_neg (by decide), if_neg (by decide), if_neg n40, if_neg n41, if_pos hc]
      rfl
    rw [e]
    refine ⟨⟨a.wf, ?_, ?_, ?_, ?_⟩, ?_, ?_⟩
    · intro q hq
      simp only [List.mem_cons] at hq
      rcases hq with rfl | hq
      · exact .inr (.inr ⟨l1, l5, hm, rfl⟩)
      · exact a.ws q hq
    · have := a.len
      have hcc : (s.join (levelOf t)).complete = true := hc
      rw [hcc, if_pos rfl] at this
      simp only [nb]
      rw [if_neg (by omega)]
      simp; omega
    · have := a.opn
      simp only [no]
      rw [if_neg (by omega)]
      simpa using this
    · simp only [nz]
      rw [if_neg (by omega)]
      omega
    · simp only [nz]
      rw [if_neg (by omega)]
      omega
    · simp; omega
  | sign _ hc hm =>
    have n40 : t ≠ [40] := by rcases hm with rfl | rfl <;> decide
    have n41 : t ≠ [41] := by rcases hm with rfl | rfl <;> decide
    have hq : isPart 4 t = true := by simp [isPart, n40, n41]
    have := hp hq
    rw [if_pos hq]
    have e : ({ s with parts := s.parts + 1 } : St).put 4 t = { s with parts := s.parts + 1, waits := (t, 6) :: s.waits } := by
      unfold St.put
      rw [if_neg (by decide), if_neg (by decide), if_neg (by decide), if_neg n40, if_neg n41, if_neg (by simp [hc])]
    rw [e]
    refine ⟨⟨hi.wf, ?_, ?_, ?_, ?_⟩, ?_, by simp⟩
    · intro q hq
      simp only [List.mem_cons] at hq
      rcases hq with rfl | hq
      · exact .inr (.inl ⟨rfl, hm⟩)
      · exact hi.ws q hq
    · have := hi.len
      simpa [nb] using this
    · have := hi.opn
      simpa [no] using this
    · simp [nz]; omega
    · simp [nz]; omega
/-- At the end one tree is left. -/
theorem fin_one {s : St} (hi : s.Inv) (hc : s.complete = true) (ho : s.opn = 0) : ∃ T, (s.join 1).vals = [T] ∧ T.WF ∧ T.size = tot s.vals + nz s.waits ∧ T.size ≤ 64 := by
  obtain ⟨a, b, c, d⟩ := joinL_inv (level := 1) (by omega) (by omega) s.waits s rfl hi hc
  have hw : (s.join 1).waits = [] := by
    cases hv : (s.join 1).waits with
    | nil => rfl
    | cons q r =>
      have h0 := d q r hv
      have h1 := a.opn
      have h2 : (s.join 1).opn = 0 := ho
      rw [hv, h2] at h1
      simp only [no] at h1
      rw [if_pos (by omega)] at h1
      omega
  have hl := a.len
  have hcc : (s.join 1).complete = true := hc
  rw [hw, hcc] at hl
  simp [nb] at hl
  obtain ⟨T, hT⟩ := List.length_eq_one_iff.1 hl
  have hf := a.few
  rw [hT, hw] at b hf
  simp [tot, nz] at b hf
  exact ⟨T, hT, a.wf T (by rw [hT]; simp), b, hf⟩
end Go.Proofs.YtlkaaembeakicaaDoor.Ex
