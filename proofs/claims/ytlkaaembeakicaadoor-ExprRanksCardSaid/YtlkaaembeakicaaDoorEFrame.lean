/-
  An expression in parentheses, wherever it stands. Conditions: none; nothing of a program.
-/
import Derived.Test.YtlkaaembeakicaaDoorERun
namespace Go.Proofs.YtlkaaembeakicaaDoor.Ex
open Go.RowKit
/-! ### Words ahead of a blank or of a parenthesis -/
theorem runLen_tail (P : UInt8 → Bool) {c : UInt8} (hc : P c = false) (post : Bs) : ∀ l : Bs, runLen P (l ++ c :: post) = runLen P l
  | [] => by simp [runLen, hc]
  | x :: r => by simp only [List.cons_append, runLen]; rw [runLen_tail P hc post r]
def Bar (c : UInt8) : Prop := c = 32 ∨ c = 41
theorem Bar.dig {c : UInt8} (h : Bar c) : isDig c = false ∧ isLet c = false := by rcases h with rfl | rfl <;> decide
theorem two2_bar {c : UInt8} (h : Bar c) (d : UInt8) : two2 [d, c] = false := by rcases h with rfl | rfl <;> simp [two2]
theorem signLen_tail {c : UInt8} (hc : Bar c) (post : Bs) : ∀ l : Bs, l ≠ [] → signLen (l ++ c :: post) = signLen l
  | [d], _ => by
    have := two2_bar hc d
    simp [signLen, this]
  | d :: e :: r, _ => by simp [signLen]
theorem meas_tail {c : UInt8} (hc : Bar c) (post : Bs) {l : Bs} (hl : l ≠ []) : meas (l ++ c :: post) = meas l := by
  obtain ⟨h1, h2⟩ := hc.dig
  unfold meas
  rw [runLen_tail isDig h1, runLen_tail isLet h2, signLen_tail hc post l hl, List.take_append_of_le_length (runLen_le isLet l)]
theorem skip_tail {l : Bs} (h : skip l ≠ []) (τ : Bs) : skip (l ++ τ) = skip l ++ τ := by
  induction l with
  | nil => exact absurd rfl h
  | cons x r ih =>
    simp only [skip, List.cons_append] at h ⊢
    split
    · rename_i hx
      rw [if_pos hx] at h
      exact ih h
    · rfl
theorem skip_none {l : Bs} (h : skip l = []) (τ : Bs) : skip (l ++ τ) = skip τ := by
  induction l with
  | nil => rfl
  | cons x r ih =>
    simp only [skip, List.cons_append] at h ⊢
    split
    · rename_i hx
      rw [if_pos hx] at h
      exact ih h
    · rename_i hx
      rw [if_neg hx] at h
      cases h
theorem kind_one {l : Bs} (h : kindOf l ≠ 1) : l ≠ [] := fun e => h (by rw [e]; rfl)
theorem tok_tail {c : UInt8} (hc : Bar c) (post : Bs) {l : Bs} (h : skip l ≠ []) : kindOf (skip (l ++ c :: post)) = kindOf (skip l) ∧ wordOf (skip (l ++ c :: post)) = wordOf (skip l) ∧ (skip (l ++ c :: post)).drop (wordOf (skip l)).length = (skip l).drop (wordOf (skip l)).length ++ c :: post := by
  have hne : skip l ++ c :: post ≠ [] := by simp
  have hw := wordOf_le (skip l)
  rw [skip_tail h]
  refine ⟨?_, ?_, ?_⟩
  · unfold kindOf; rw [if_neg hne, if_neg h, meas_tail hc post h]
  · unfold wordOf; rw [if_neg hne, if_neg h, meas_tail hc post h, List.take_append_of_le_length (meas_le _)]
  · rw [List.drop_append_of_le_length hw]
/-! ### The frame -/
theorem way_allows {s : St} {k : Nat} {t : Bs} (h : Way s k t) : s.allows k t = true := by
  unfold St.allows
  cases h with
  | fin a b => simp [a, b]
  | num _ h0 _ hd hc => obtain ⟨_, _, c⟩ := dig_level h0 hd; simp [c, hc]
  | name _ hn hc => obtain ⟨_, _, c, _⟩ := nm_level hn; simp [c, hc]
  | opn hc => simp [hc]
  | close hc ho => simp [hc, ho]
  | bin _ hc hm => obtain ⟨_, b, c, _⟩ := ops_no hm; rw [if_neg (by decide), if_neg b, if_pos hc]; simp; omega
  | sign _ hc hm => rcases hm with rfl | rfl <;> simp [hc]
def Fr (bv : List Tree) (bw : List (Bs × Nat)) (bo bp : Nat) (s : St) : St := ⟨s.vals ++ bv, s.waits ++ ([40], 0) :: bw, s.opn + bo, s.parts + bp, s.complete⟩
theorem joinL_frame {level : Nat} (h1 : 1 ≤ level) (h6 : level ≤ 6) (bv : List Tree) (bw : List (Bs × Nat)) : ∀ (ws : List (Bs × Nat)) (s : St), s.waits = ws → s.Inv → s.complete = true →
    joinL level (s.vals ++ bv) (ws ++ ([40], 0) :: bw) = ((joinL level s.vals ws).1 ++ bv, (joinL level s.vals ws).2 ++ ([40], 0) :: bw)
  | [], s, hw, hi, hc => by
    rw [List.nil_append, joinL_stop (by omega)]; rfl
  | (t, l) :: ws, s, hw, hi, hc => by
    rw [List.cons_append]
    by_cases hle : level ≤ l
    · by_cases hl : l = 6
      · subst hl
        obtain ⟨T, r, hv, ht, hi2⟩ := inv_pre hi hc hw
        rw [hv, List.cons_append, joinL_pre h6, joinL_pre h6]
        exact joinL_frame h1 h6 bv bw ws _ rfl hi2 hc
      · obtain ⟨B, A, r, hv, ht, hi2⟩ := inv_bin hi hc hw (by omega) hl
        rw [hv, List.cons_append, List.cons_append, joinL_bin hle hl, joinL_bin hle hl]
        exact joinL_frame h1 h6 bv bw ws _ rfl hi2 hc
    · rw [joinL_stop hle, joinL_stop hle]; rfl
theorem join_frame {level : Nat} (h1 : 1 ≤ level) (h6 : level ≤ 6) (bv : List Tree) (bw : List (Bs × Nat)) (bo bp : Nat) {s : St} (hi : s.Inv) (hc : s.complete = true) : (Fr bv bw bo bp s).join level = Fr bv bw bo bp (s.join level) := by
  have := joinL_frame h1 h6 bv bw s.waits s rfl hi hc
  unfold St.join Fr
  simp only
  rw [this]
theorem way_frame {s : St} {k : Nat} {t : Bs} (h : Way s k t) (h1 : k ≠ 1) (bv : List Tree) (bw : List (Bs × Nat)) (bo bp : Nat) : Way (Fr bv bw bo bp s) k t := by
  cases h with
  | fin => exact absurd rfl h1
  | num _ a b c d => exact .num _ a b c d
  | name _ a b => exact .name _ a b
  | opn a => exact .opn a
  | close a b => exact .close a (by show 0 < s.opn + bo; omega)
  | bin _ a b => exact .bin _ a b
  | sign _ a b => exact .sign _ a b
theorem put_frame {s : St} {k : Nat} {t : Bs} (hi : s.Inv) (h : Way s k t) (h1 : k ≠ 1) (bv : List Tree) (bw : List (Bs × Nat)) (bo bp : Nat) : ((Fr bv bw bo bp s).count k t).put k t = Fr bv bw bo bp ((s.count k t).put k t) := by
  rw [count_eq, count_eq]
  cases h with
  | fin => exact absurd rfl h1
  | num _ a b c d => simp [St.put, Fr]; omega
  | name _ a b => simp [St.put, Fr]; omega
  | opn a => simp [St.put, Fr, isPart]; omega
  | close hc ho =>
    have hj := join_frame (level := 1) (by omega) (by omega) bv bw bo bp hi hc
    have e1 : ({ Fr bv bw bo bp s with parts := (Fr bv bw bo bp s).parts + (if isPart 4 [41] then 1 else 0) } : St).put 4 [41] = { (Fr bv bw bo bp s).join 1 with waits := ((Fr bv bw bo bp s).join 1).waits.tail, opn := (Fr bv bw bo bp s).opn - 1 } := by simp [isPart, St.put]
    have e2 : ({ s with parts := s.parts + (if isPart 4 [41] then 1 else 0) } : St).put 4 [41] = { s.join 1 with waits := (s.join 1).waits.tail, opn := s.opn - 1 } := by simp [isPart, St.put]
    rw [e1, e2, hj]
    obtain ⟨a, b, c, d⟩ := joinL_inv (level := 1) (by omega) (by omega) s.waits s rfl hi hc
    cases hv : (s.join 1).waits with
    | nil =>
      have := a.opn
      rw [hv] at this
      have e : (s.join 1).opn = s.opn := rfl
      rw [e] at this
      simp [no] at this
      omega
    | cons q r =>
      simp only [Fr, hv, List.cons_append, List.tail_cons]
      congr 1
      omega
  | bin _ hc hm =>
    obtain ⟨n40, n41, l1, l5⟩ := ops_no hm
    have hj := join_frame (level := levelOf t) (by omega) (by omega) bv bw bo bp hi hc
    have e1 : ∀ n, ({ Fr bv bw bo bp s with parts := n } : St).put 4 t = { (Fr bv bw bo bp s).join (levelOf t) with parts := n, waits := (t, levelOf t) :: ((Fr bv bw bo bp s).join (levelOf t)).waits, complete := false } := fun n => by
      unfold St.put
      rw [if_neg (by decide), if_neg (by decide), if_neg (by decide), if_neg n40, if_neg n41, if_pos (show (Fr bv bw bo bp s).complete = true from hc)]
      rfl
    have e2 : ∀ n, ({ s with parts := n } : St).put 4 t = { s.join (levelOf t) with parts := n, waits := (t, levelOf t) :: (s.join (levelOf t)).waits, complete := false } := fun n => by
      unfold St.put
      rw [if_neg (by decide), if_neg (by decide), if_neg (by decide), if_neg n40, if_neg n41, if_pos hc]
      rfl
    rw [e1, e2, hj]
    simp only [Fr, List.cons_append]
    congr 1
    omega
  | sign _ hc hm =>
    have n40 : t ≠ [40] := by rcases hm with rfl | rfl <;> decide
    have n41 : t ≠ [41] := by rcases hm with rfl | rfl <;> decide
    simp [St.put, Fr, n40, n41, hc]; omega
theorem put_parts (s : St) (k : Nat) (t : Bs) : (s.put k t).parts = s.parts := by
  unfold St.put
  repeat' split
  all_goals rfl
theorem frame_step {s s' : St} {r r' : Bs} (h : Step s r s' r') (hi : s.Inv) {c : UInt8} (hc : Bar c) (post : Bs) (bv : List Tree) (bw : List (Bs × Nat)) (bo bp : Nat) (hp : s.parts + bp ≤ 64) :
    (s'.parts + bp ≤ 64 → Step (Fr bv bw bo bp s) (r ++ c :: post) (Fr bv bw bo bp s') (r' ++ c :: post)) ∧ (64 < s'.parts + bp → Many (Fr bv bw bo bp s) (r ++ c :: post)) := by
  obtain ⟨h1, he, rfl, rfl⟩ := h
  have hz := err_zero he
  have hw := way_of (tok_ok _) hz.1
  obtain ⟨t1, t2, t3⟩ := tok_tail hc post (kind_one h1)
  have ha := way_allows (way_frame hw h1 bv bw bo bp)
  have hpp : ((s.count (kindOf (skip r)) (wordOf (skip r))).put (kindOf (skip r)) (wordOf (skip r))).parts = s.parts + (if isPart (kindOf (skip r)) (wordOf (skip r)) then 1 else 0) := by rw [put_parts, count_eq]
  rw [hpp]
  have hfp : (Fr bv bw bo bp s).parts = s.parts + bp := rfl
  constructor
  · intro h64
    refine ⟨by rw [t1]; exact h1, ?_, ?_, ?_⟩
    · rw [t1, t2]
      unfold St.errOf
      rw [ha, if_neg (by simp), if_neg ?_]
      rintro ⟨q1, q2⟩
      rw [q1, if_pos rfl] at h64
      rw [hfp] at q2
      omega
    · rw [t1, t2, put_frame hi hw h1]
    · rw [t2]; exact t3.symm
  · intro h64
    unfold Many
    rw [t1, t2]
    unfold St.errOf
    cases hq : isPart (kindOf (skip r)) (wordOf (skip r))
    · rw [hq] at h64; simp at h64; omega
    · rw [hq, if_pos rfl] at h64
      rw [ha, if_neg (by simp), if_pos ⟨rfl, by rw [hfp]; omega⟩]
theorem frame_run {s s' : St} {r r' : Bs} (h : Run s r s' r') {c : UInt8} (hc : Bar c) (post : Bs) (bv : List Tree) (bw : List (Bs × Nat)) (bo bp : Nat) : s.Inv → s.Bal → s.parts + bp ≤ 64 →
    (s'.parts + bp ≤ 64 → Run (Fr bv bw bo bp s) (r ++ c :: post) (Fr bv bw bo bp s') (r' ++ c :: post)) ∧ (64 < s'.parts + bp → ∃ s1 r1, Run (Fr bv bw bo bp s) (r ++ c :: post) s1 r1 ∧ Many s1 r1) := by
  induction h with
  | refl s r => exact fun _ _ hp => ⟨fun _ => .refl _ _, fun h => by omega⟩
  | @cons s s1 s2 r r1 r2 a b ih =>
    intro hi hb hp
    obtain ⟨i1, i2, i3⟩ := run_inv (.one a) hi hb
    obtain ⟨_, _, j3⟩ := run_inv b i1 i2
    obtain ⟨f1, f2⟩ := frame_step a hi hc post bv bw bo bp hp
    by_cases h64 : s1.parts + bp ≤ 64
    · obtain ⟨g1, g2⟩ := ih i1 i2 h64
      refine ⟨fun h => .cons (f1 h64) (g1 h), fun h => ?_⟩
      obtain ⟨x, y, hx, hy⟩ := g2 h
      exact ⟨x, y, .cons (f1 h64) hx, hy⟩
    · exact ⟨fun h => by omega, fun _ => ⟨_, _, .refl _ _, f2 (by omega)⟩⟩
theorem blank_run {s s' : St} {l r' : Bs} {T : Tree} (h : Run s l s' r') (hE : Ends s' r' T) : ∃ s1 r1, Run s (32 :: l) s1 r1 ∧ Ends s1 r1 T := by
  have hs : skip (32 :: l) = skip l := rfl
  cases h with
  | refl => exact ⟨s, 32 :: l, .refl _ _, by rw [hs]; exact hE.1, hE.2⟩
  | cons a b =>
    refine ⟨s', r', .cons ?_ b, hE⟩
    unfold Step at a ⊢
    rw [hs]
    exact a
theorem skip_of_ne {c : UInt8} (h : c ≠ 32) (r : Bs) : skip (c :: r) = c :: r := by simp [skip, h]
theorem tok40 (r : Bs) : kindOf (40 :: r) = 4 ∧ wordOf (40 :: r) = [40] := by
  have hm : meas (40 :: r) = (4, 1) := by
    cases r with
    | nil => decide
    | cons d q => simp [meas, runLen, isDig, isLet, signLen, two2, one1]
  constructor
  · simp [kindOf, hm]
  · simp [wordOf, hm]
theorem tok41 (r : Bs) : kindOf (41 :: r) = 4 ∧ wordOf (41 :: r) = [41] := by
  have hm : meas (41 :: r) = (4, 1) := by
    cases r with
    | nil => decide
    | cons d q => simp [meas, runLen, isDig, isLet, signLen, two2, one1]
  constructor
  · simp [kindOf, hm]
  · simp [wordOf, hm]
theorem err_of_way {s : St} {k : Nat} {t : Bs} (h : Way s k t) (hp : isPart k t = true → s.parts ≠ 64) : s.errOf k t = 0 := by
  unfold St.errOf
  rw [way_allows h, if_neg (by simp), if_neg (fun ⟨a, b⟩ => hp a b)]
/-- What stands in parentheses is read as it is by itself. -/
theorem embed {l : Bs} {T : Tree} {s' : St} {r' : Bs} (hR : Run St.init l s' r') (hE : Ends s' r' T) (bv : List Tree) (bw : List (Bs × Nat)) (bo bp : Nat) (hp : bp ≤ 64) {c : UInt8} (hc : Bar c) {post post2 : Bs} (hs : skip (c :: post) = 41 :: post2) :
    (T.size + bp ≤ 64 → Run ⟨bv, bw, bo, bp, false⟩ (40 :: (l ++ c :: post)) ⟨T :: bv, bw, bo, T.size + bp, true⟩ post2) ∧ (64 < T.size + bp → ∃ s1 r1, Run ⟨bv, bw, bo, bp, false⟩ (40 :: (l ++ c :: post)) s1 r1 ∧ Many s1 r1) := by
  obtain ⟨i1, i2, -⟩ := run_inv hR init_inv.1 init_inv.2
  obtain ⟨e1, e2, e3⟩ := hE
  have hz := (err_zero e2).1
  simp [St.allows] at hz
  obtain ⟨T', hv, -, hsz, -⟩ := fin_one i1 hz.1 hz.2
  rw [e3] at hv
  injection hv with hv _
  subst hv
  have hsp : s'.parts = T.size := by unfold St.Bal at i2; omega
  have hb1 : Fr bv bw (bo + 1) bp St.init = ⟨bv, ([40], 0) :: bw, bo + 1, bp, false⟩ := by simp [Fr, St.init]
  have st1 : Step ⟨bv, bw, bo, bp, false⟩ (40 :: (l ++ c :: post)) (Fr bv bw (bo + 1) bp St.init) (l ++ c :: post) := by
    have hk := tok40 (l ++ c :: post)
    unfold Step
    rw [skip_of_ne (by decide), hk.1, hk.2]
    refine ⟨by decide, err_of_way (.opn rfl) (by simp [isPart]), ?_, rfl⟩
    rw [hb1, count_eq]
    simp [St.put, isPart]
  obtain ⟨f1, f2⟩ := frame_run hR hc post bv bw (bo + 1) bp init_inv.1 init_inv.2 (by simp [St.init]; exact hp)
  rw [hsp] at f1 f2
  refine ⟨fun h => (Run.cons st1 (f1 h)).trans (.one ?_), fun h => ?_⟩
  · have hk := tok41 post2
    have hsk : skip (r' ++ c :: post) = 41 :: post2 := by rw [skip_none e1, hs]
    unfold Step
    rw [hsk, hk.1, hk.2]
    have hcl : Way (Fr bv bw (bo + 1) bp s') 4 [41] := .close hz.1 (by show 0 < s'.opn + (bo + 1); omega)
    refine ⟨by decide, err_of_way hcl (by simp [isPart]), ?_, rfl⟩
    rw [count_eq]
    have e : ({ Fr bv bw (bo + 1) bp s' with parts := (Fr bv bw (bo + 1) bp s').parts + (if isPart 4 [41] then 1 else 0) } : St).put 4 [41] = { (Fr bv bw (bo + 1) bp s').join 1 with waits := ((Fr bv bw (bo + 1) bp s').join 1).waits.tail, opn := (Fr bv bw (bo + 1) bp s').opn - 1 } := by simp [isPart, St.put]
    rw [e, join_frame (by omega) (by omega) bv bw (bo + 1) bp i1 hz.1]
    have hwj : (s'.join 1).waits = [] := by
      obtain ⟨a, b, c', d⟩ := joinL_inv (level := 1) (by omega) (by omega) s'.waits s' rfl i1 hz.1
      cases hv : (s'.join 1).waits with
      | nil => rfl
      | cons q r =>
        have h0 := d q r hv
        have h1 := a.opn
        have h2 : (s'.join 1).opn = 0 := hz.2
        rw [hv, h2] at h1
        simp only [no] at h1
        rw [if_pos (by omega)] at h1
        omega
    have hpj : (s'.join 1).parts = T.size := hsp
    have hoj : (Fr bv bw (bo + 1) bp s').opn = bo + 1 := by show s'.opn + (bo + 1) = bo + 1; omega
    have hcj : (s'.join 1).complete = true := hz.1
    simp only [Fr, e3, hwj, List.cons_append, List.nil_append, List.tail_cons, hpj, hcj]
    congr 1
    show bo = s'.opn + (bo + 1) - 1
    omega
  · obtain ⟨x, y, hx, hy⟩ := f2 h
    exact ⟨x, y, .cons st1 hx, hy⟩
end Go.Proofs.YtlkaaembeakicaaDoor.Ex
