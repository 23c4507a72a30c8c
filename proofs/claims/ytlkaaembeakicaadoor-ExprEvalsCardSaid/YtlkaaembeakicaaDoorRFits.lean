/-
  The document's reader: which word may stand where, and what a word leaves. Conditions: none; states of memory as the statements say.
-/
import Derived.Test.YtlkaaembeakicaaDoorRTake2
import Derived.Test.YtlkaaembeakicaaDoorEParse
namespace Go.Proofs.YtlkaaembeakicaaDoor.Ex
open Go.RowKit
def sgn (t : Bs) : Bool := t == [45] || t == [33]
theorem ops_case {P : Bs → Prop} (h : ∀ t ∈ ops, P t) {t : Bs} (ht : t ∈ ops) : P t := h t ht
theorem ops_lev {t : Bs} (h : t ∈ ops) : levelOf t ≠ 0 := by have := ops_no h; omega
theorem fits_eq {s : St} {k : Nat} {t : Bs} (h : TokOK k t) (hk : k ≠ 1) :
    s.allows k t = ((!s.complete && (decide (k = 2) || isNm t || sgn t || t == [40])) || (s.complete && (decide (levelOf t ≠ 0) || (t == [41] && decide (0 < s.opn))))) := by
  unfold St.allows
  rw [if_neg hk]
  rcases h with ⟨rfl, rfl⟩ | ⟨rfl, rfl⟩ | ⟨rfl, h0, hl, hd⟩ | ⟨rfl, hn⟩ | ⟨rfl, h⟩
  · cases s.complete <;> simp [levelOf, isNm, sgn]
  · exact absurd rfl hk
  · obtain ⟨a, b, c⟩ := dig_level h0 hd
    rw [if_neg c, levelOf_not a]
    cases s.complete <;> simp [c]
  · obtain ⟨a, b, c, _⟩ := nm_level hn
    rw [if_neg c, levelOf_not a]
    cases s.complete <;> simp [c, hn]
  · by_cases h41 : t = [41]
    · subst h41; cases s.complete <;> simp [levelOf, isNm, sgn]
    · rw [if_neg h41]
      cases s.complete
      · have hnm : isNm t = false := by
          rcases h with h | rfl | rfl | rfl
          · cases hq : isNm t
            · rfl
            · exact absurd h (nm_level hq).1
          · rfl
          · rfl
          · rfl
        rw [hnm]
        rw [Bool.eq_iff_iff]
        simp [sgn]
      · simp [h41]
theorem nb_of {k : Nat} {c : UInt8} {r : Bs} (h : TokOK k (c :: r)) : isDig c = decide (k = 2) := by
  rcases h with ⟨rfl, h⟩ | ⟨rfl, h⟩ | ⟨rfl, h0, hl, hd⟩ | ⟨rfl, hn⟩ | ⟨rfl, h⟩
  · cases h
  · cases h
  · rw [hd c (by simp)]; rfl
  · obtain ⟨_, _, _, d, hd, hc⟩ := nm_level hn
    injection hd with hd _
    subst hd
    rcases hc with rfl | rfl | rfl <;> rfl
  · simp only [ops, List.mem_cons, List.not_mem_nil, or_false] at h
    rcases h with (h | h | h | h | h | h | h | h | h | h | h | h | h) | h | h | h <;> (injection h with h1 h2; subst h1; rfl)
theorem nm_of {k : Nat} {t : Bs} (h : TokOK k t) : isNm t = decide (k = 3) := by
  rcases h with ⟨rfl, rfl⟩ | ⟨rfl, rfl⟩ | ⟨rfl, h0, hl, hd⟩ | ⟨rfl, hn⟩ | ⟨rfl, h⟩
  · rfl
  · rfl
  · cases hq : isNm t
    · rfl
    · obtain ⟨_, _, _, c, rfl, hc⟩ := nm_level hq
      have := hd c (by simp)
      rcases hc with rfl | rfl | rfl <;> cases this
  · rw [hn]; rfl
  · cases hq : isNm t
    · rfl
    · obtain ⟨a, b, c, d, rfl, hc⟩ := nm_level hq
      rcases h with h | h | h | h
      · exact absurd h a
      · injection h with h; subst h; rcases hc with h | h | h <;> cases h
      · exact absurd h b
      · exact absurd h c
theorem bn_of {k : Nat} {t : Bs} (h : TokOK k t) : (decide (0 < rankOf t) && decide (rankOf t < 6)) = decide (levelOf t ≠ 0) := by
  have h126 : t ≠ [126] := by
    rintro rfl
    rcases h with ⟨rfl, h⟩ | ⟨rfl, h⟩ | ⟨rfl, h0, hl, hd⟩ | ⟨rfl, hn⟩ | ⟨rfl, h⟩
    · cases h
    · cases h
    · have := hd 126 (by simp); cases this
    · cases hn
    · revert h; decide
  unfold rankOf
  by_cases h33 : t = [33]
  · subst h33; decide
  · rw [if_neg (by simp [h126, h33])]
    by_cases hm : t ∈ ops
    · have := ops_no hm
      rw [Bool.eq_iff_iff]
      simp only [Bool.and_eq_true, decide_eq_true_eq, ne_eq]
      omega
    · rw [levelOf_not hm]; rfl
/-- What a word leaves of the flags. -/
theorem put_flags {s : St} {k : Nat} {t : Bs} (hw : Way s k t) (hk : k ≠ 1) :
    ((s.count k t).put k t).parts = s.parts + (if t = [40] ∨ t = [41] then 0 else 1) ∧ ((s.count k t).put k t).opn = (if t = [40] then s.opn + 1 else if t = [41] then s.opn - 1 else s.opn) ∧
    ((s.count k t).put k t).complete = (if t = [40] ∨ t = [41] then s.complete else decide (k = 2) || decide (k = 3)) := by
  rw [count_eq]
  cases hw with
  | fin => exact absurd rfl hk
  | num _ h0 hl hd hc =>
    obtain ⟨a, b, c⟩ := dig_level h0 hd
    simp [isPart, St.put, b, c]
  | name _ hn hc =>
    obtain ⟨a, b, c, _⟩ := nm_level hn
    simp [isPart, St.put, b, c]
  | opn hc => simp [isPart, St.put]
  | close hc ho => simp [isPart, St.put, St.join]
  | bin _ hc hm =>
    obtain ⟨n40, n41, _, _⟩ := ops_no hm
    simp [isPart, St.put, n40, n41, hc, St.join]
  | sign _ hc hm => rcases hm with rfl | rfl <;> simp [isPart, St.put, hc]
theorem word_at {u : ByteArray} {l tl : Bs} (w : World) (hu : u.data.toList = l) (hne : l ≠ []) (hl : l.length ≤ 200) (htl : wordOf l = tl) :
    Calls Tryd.prog 23 #[.string u] w fun e w' => ∃ t : ByteArray, t.data.toList = tl ∧ e = .returned (.string t) ∧ w = w' := by
  subst hu htl
  have h : u.data.toList.length = u.size := by simp
  refine rword_any u w ?_ (by omega)
  cases hq : u.data.toList with
  | nil => exact absurd hq hne
  | cons c r => rw [hq] at h; simp at h; omega
/-- The expression that the document's reader has made. -/
def RAt (w0 : World) (x : Nat) (T : Tree) (w : World) : Prop :=
  ∃ L Ts i vL, w.heap[x]? = some (.cells #[vL, .int .i64 ((i : Nat) : Int)] 53 (0, 0)) ∧ w.ownsRow w0.heap.size 65 4 vL L.length (ndCells L) ∧ Good L Ts ∧ Ts[i]? = some T ∧ L.length = T.size
theorem RAt.grow {w0 w w' : World} {x : Nat} {T : Tree} (h : RAt w0 x T w) (hb : Below w.heap.size w w') : RAt w0 x T w' := by
  obtain ⟨L, Ts, i, vL, h1, h2, h3⟩ := h
  exact ⟨L, Ts, i, vL, by rw [hb.block x (lt_of_heap h1)]; exact h1, ownsRow_below h2 hb, h3⟩
def RParsed (w : World) (r : Res) (e : Ending) (w' : World) : Prop := Below w.heap.size w w' ∧
  match r with
  | .ok T => T.WF ∧ T.size ≤ 64 ∧ ∃ x, e = .returned (.tuple #[ptr x, .int .i64 0, .int .i64 0]) ∧ RAt w x T w'
  | .err pos n => e = .returned (.tuple #[.pointer none, .int .i64 pos, .int .i64 n])
theorem RX.root {w0 w : World} {p x : Nat} {L : List Nd} {is : List Nat} {ws : List Bs} {root : Int} {vL vV vW : Value} (h : RX w0 p x L is ws root vL vV vW w) (r : Int) :
    RX w0 p x L is ws r vL vV vW (w.setCell ⟨x, 1, none⟩ (.int .i64 r)) := by
  refine ⟨h.below.setCell h.hx _, h.hp, h.hx, heap_setCell h.blk h.px.symm _, ?_, ownsRow_setCell_other h.rowL (row_ne h.rowL h.xblk (by decide)) _, ownsRow_setCell_other h.rowV (row_ne h.rowV h.xblk (by decide)) _, ownsRow_setCell_other h.rowW (row_ne h.rowW h.xblk (by decide)) _⟩
  rw [heap_setCell_same w x 1 _ _ _ h.xblk]; rfl
theorem RM.init (w : World) : RM w (w.heap.size + 1) w.heap.size St.init ((w.alloc (.cells #[.slice none 0 0, .int .i64 0] 53)).alloc (.cells #[ptr w.heap.size, .slice none 0 0, .slice none 0 0] 55)) := by
  have b1 : Below w.heap.size w (w.alloc (.cells #[.slice none 0 0, .int .i64 0] 53)) := (Below.refl _ _).alloc (Nat.le_refl _) _
  refine ⟨[], [], [], .slice none 0 0, .slice none 0 0, .slice none 0 0, ⟨b1.alloc (by simp) _, by omega, Nat.le_refl _, ?_, ?_, World.ownsRow_nil _ _ _ _, World.ownsRow_nil _ _ _ _, World.ownsRow_nil _ _ _ _⟩, ⟨rfl, (fun T h => by cases h), (fun i nd T h => by cases h), (fun T h => by cases h)⟩, trivial, rfl⟩
  · have := heap_alloc_new (w.alloc (.cells #[.slice none 0 0, .int .i64 0] 53)) (.cells #[ptr w.heap.size, .slice none 0 0, .slice none 0 0] 55)
    rwa [World.size_alloc] at this
  · exact heap_alloc_old (heap_alloc_new w _) _
/-- What the loop keeps. -/
def RL (w : World) (N : Nat) (l : Bs) (R : Res) (k a : Nat) (st : St) (wr : World) : Prop :=
  ∃ rest f, a ≤ N ∧ l.drop a = rest ∧ rest.length = k ∧ RM w (w.heap.size + 1) w.heap.size st wr ∧ st.Inv ∧ st.Bal ∧ st.waits.length + rest.length ≤ 200 ∧ rest.length < f ∧ go f N rest st = R
theorem rnext {w wr' : World} {N k a ps f : Nat} {l rest : Bs} {R : Res} {st : St} {kk : Nat} {tl : Bs} (hl : l.length = N) (hi : st.Inv) (hb : st.Bal) (hk : TokOK kk tl) (he : st.errOf kk tl = 0) (h1 : kk ≠ 1)
    (hkk : kindOf (skip rest) = kk) (htl : wordOf (skip rest) = tl) (hps : N - (skip rest).length = ps) (ha : a ≤ N) (hrest : l.drop a = rest) (hlen : rest.length = k) (hw : st.waits.length + rest.length ≤ 200) (hf : rest.length < f + 1)
    (hgo : go f N ((skip rest).drop tl.length) ((st.count kk tl).put kk tl) = R) (hp : RM w (w.heap.size + 1) w.heap.size ((st.count kk tl).put kk tl) wr') :
    ((skip rest).drop tl.length).length < k ∧ RL w N l R ((skip rest).drop tl.length).length (ps + tl.length) ((st.count kk tl).put kk tl) wr' := by
  have hz := err_zero he
  have hway := way_of hk hz.1
  have hpos : 0 < tl.length := by
    cases hway with
    | fin => exact absurd rfl h1
    | num _ h0 => cases tl with | nil => exact absurd rfl h0 | cons => simp
    | name _ hn => obtain ⟨_, _, _, c, rfl, _⟩ := nm_level hn; simp
    | opn => simp
    | close => simp
    | bin _ _ hm => exact (ops_len hm).2
    | sign _ _ hm => rcases hm with rfl | rfl <;> simp
  have hwl := wordOf_le (skip rest)
  rw [htl] at hwl
  have hsl := skip_le rest
  obtain ⟨j, hj, hje⟩ := skip_suffix rest
  have hsk : skip rest = l.drop (a + j) := by rw [hje, ← hrest, List.drop_drop]
  have hskl : (skip rest).length = N - (a + j) := by rw [hsk, List.length_drop, hl]
  have hrl : rest.length = N - a := by rw [← hrest, List.length_drop, hl]
  have hdl : ((skip rest).drop tl.length).length = (skip rest).length - tl.length := List.length_drop
  have hfew : st.parts ≤ 64 := by have := hi.few; unfold St.Bal at hb; omega
  obtain ⟨i1, i2, i3⟩ := put_inv hi hb hway (fun hp => by have := hz.2 hp; omega)
  refine ⟨by omega, (skip rest).drop tl.length, f, by omega, ?_, rfl, hp, i1, i2, by omega, by omega, hgo⟩
  have e : ps = a + j := by omega
  rw [e, hsk, List.drop_drop]
theorem skip_at {l : Bs} {k : Nat} (h : k < l.length) : skip (l.drop k) = if l[k] == 32 then skip (l.drop (k + 1)) else l.drop k := by
  rw [List.drop_eq_getElem_cons h]; simp only [skip]
theorem skip_end2 {l : Bs} {k : Nat} (h : l.length ≤ k) : skip (l.drop k) = [] := by rw [List.drop_of_length_le h]; rfl
theorem ext_drop (s : ByteArray) (a : Nat) : (s.extract a s.size).data.toList = s.data.toList.drop a := by
  simp only [ByteArray.data_extract, Array.toList_extract]
  rw [List.extract_eq_take_drop]
  exact List.take_of_length_le (by simp)
end Go.Proofs.YtlkaaembeakicaaDoor.Ex
