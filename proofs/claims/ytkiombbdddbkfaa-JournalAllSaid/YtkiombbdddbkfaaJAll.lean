/-
  What JournalAll's calls do to the disk's state; slices of records that came in. Conditions: none but those that each theorem names.
-/
import Derived.Test.YtkiombbdddbkfaaJAwake
namespace Go.Proofs.Ytkiombbdddbkfaa.Jn
open Go.RowKit Go.Proofs.Ytkiombbdddbkfaa.Pk Go.Proofs.Ytkiombbdddbkfaa.Dk
set_option linter.unusedVariables false

theorem bytesOf_le {L : List Bs} (h : ∀ r ∈ L, r.length ≤ 1024) : (bytesOf L).length ≤ 1032 * L.length := by
  induction L with
  | nil => simp [bytesOf]
  | cons r L ih =>
    have h1 := h r List.mem_cons_self
    have h2 := ih fun q hq => h q (List.mem_cons_of_mem _ hq)
    rw [bytesOf_cons, List.length_append, frame_length, List.length_cons]; omega
/-- A frame that is not whole is none. -/
theorem first_cut (r : Bs) (hr : r.length ≤ 1048576) {j : Nat} (hj : j < 8 + r.length) : first ((frame r).take j) = none := by
  have hl : ((frame r).take j).length = j := by rw [List.length_take, frame_length]; omega
  by_cases h8 : j < 8
  · exact first_short (by omega)
  · have hw : word ((frame r).take j) = r.length := by
      unfold word
      rw [List.take_take, Nat.min_eq_left (by omega)]
      have : frame r = le4 r.length ++ (le4 (sumOf r) ++ r) := rfl
      rw [this, List.take_left' (le4_length _)]
      exact leVal_le4 (by omega)
    unfold first
    rw [if_neg (by omega), hw, if_pos (.inr (by rw [hl]; omega))]
theorem take_next_rec {R : List Bs} {k : Nat} {r : Bs} (h : R[k]? = some r) : R.take (k + 1) = R.take k ++ [r] := by
  obtain ⟨hk, rfl⟩ := List.getElem?_eq_some_iff.1 h
  exact List.take_succ_eq_append_getElem hk

section
variable {R M : List Bs} {k : Nat} {s t : Ds} {r : Bs}
/-- What was found of R behind k Adds. -/
def Found (R : List Bs) (k : Nat) (M : List Bs) : Prop := k ≤ M.length ∧ M.length ≤ k + 1 ∧ M.length ≤ R.length ∧ M = R.take M.length
/-- k records added, all safe. -/
def Grow (R : List Bs) (k : Nat) (s : Ds) : Prop := s.off = false ∧ s.deeds ≤ 2 * k ∧ fileOr s J = ⟨bytesOf (R.take k), (bytesOf (R.take k)).length⟩
/-- A file of which all is safe, with those records. -/
def Safe (R : List Bs) (k : Nat) (f : Fl) : Prop := f.safe = f.data.length ∧ f.data.length ≤ 200000 ∧ Found R k (recs f.data)
def Fell (R : List Bs) (k : Nat) (s : Ds) : Prop := s.off = true ∧ s.deeds ≤ 2 * k + 2 ∧ Safe R k (fileOr s J)
def Ready (R : List Bs) (k : Nat) (s : Ds) : Prop := s.off = false ∧ s.deeds ≤ 1000 ∧ Safe R k (fileOr s J)
def Done (M : List Bs) (s : Ds) : Prop := s.off = false ∧ s.deeds ≤ 1200 ∧ dataOf s J = bytesOf M

theorem small_take (hR : ∀ r ∈ R, r.length ≤ 1024) (k : Nat) : Small (R.take k) := fun q hq => Nat.le_trans (hR q (List.mem_of_mem_take hq)) (by decide)
theorem len_take (hR : ∀ r ∈ R, r.length ≤ 1024) (hn : R.length ≤ 150) (k : Nat) : (bytesOf (R.take k)).length ≤ 154800 := by
  have h1 := bytesOf_le (L := R.take k) fun q hq => hR q (List.mem_of_mem_take hq)
  have h2 : (R.take k).length ≤ 150 := by rw [List.length_take]; omega
  omega
theorem safe_lose {keep : Int} (hR : ∀ r ∈ R, r.length ≤ 1024) (hn : R.length ≤ 150) (hr : R[k]? = some r) : Safe R k (lose keep ⟨bytesOf (R.take k) ++ frame r, (bytesOf (R.take k)).length⟩) := by
  obtain ⟨hk, hre⟩ := List.getElem?_eq_some_iff.1 hr
  have hrl : r.length ≤ 1024 := hR r (by rw [← hre]; exact List.getElem_mem hk)
  have hb := len_take hR hn k
  obtain ⟨j, hj⟩ : ∃ j, j = min keep.toNat (8 + r.length) := ⟨_, rfl⟩
  have hkept : keptOf keep ⟨bytesOf (R.take k) ++ frame r, (bytesOf (R.take k)).length⟩ = (bytesOf (R.take k)).length + j := by
    unfold keptOf
    simp only [List.length_append, frame_length]
    omega
  have hdata : (lose keep ⟨bytesOf (R.take k) ++ frame r, (bytesOf (R.take k)).length⟩).data = bytesOf (R.take k) ++ (frame r).take j := by
    show List.take _ (bytesOf (R.take k) ++ frame r) = _
    rw [hkept, List.take_append, List.take_of_length_le (by omega), Nat.add_sub_cancel_left]
  have hsafe : (lose keep ⟨bytesOf (R.take k) ++ frame r, (bytesOf (R.take k)).length⟩).safe = (bytesOf (R.take k)).length + j := hkept
  have htl : (R.take k).length = k := by rw [List.length_take]; omega
  refine ⟨?_, ?_, ?_⟩
  · rw [hsafe, hdata, List.length_append, List.length_take, frame_length]; omega
  · rw [hdata, List.length_append, List.length_take, frame_length]; omega
  · rw [hdata]
    by_cases hw : j < 8 + r.length
    · rw [recs_of (small_take hR k) (first_cut r (by omega) hw)]
      exact ⟨by omega, by omega, by omega, by rw [htl]⟩
    · have ht : (frame r).take j = frame r := List.take_of_length_le (by rw [frame_length]; omega)
      rw [ht, ← bytesOf_snoc, ← take_next_rec hr, recs_bytesOf (small_take hR (k + 1))]
      have h1 : (R.take (k + 1)).length = k + 1 := by rw [List.length_take]; omega
      exact ⟨by omega, by omega, by omega, by rw [h1]⟩
theorem grow_add (h : Grow R k s) (hR : ∀ r ∈ R, r.length ≤ 1024) (hn : R.length ≤ 150) (hr : R[k]? = some r) :
    (∃ t, addD s J false r = (0, t) ∧ Grow R (k + 1) t) ∨ (∃ t, addD s J false r = (20, t) ∧ Fell R k t) := by
  obtain ⟨h1, h2, h3⟩ := h
  obtain ⟨hk, hre⟩ := List.getElem?_eq_some_iff.1 hr
  have hrl : r.length ≤ 1024 := hR r (by rw [← hre]; exact List.getElem_mem hk)
  have hd : dataOf s J = bytesOf (R.take k) := by unfold dataOf; rw [h3]
  have hsf : (fileOr s J).safe = (bytesOf (R.take k)).length := by rw [h3]
  have hb := len_take hR hn k
  have hl : (dataOf s J).length + (frame r).length ≤ 16777216 := by rw [hd, frame_length]; omega
  rw [add_store (by omega)]
  by_cases f1 : s.fuse = 1
  · obtain ⟨t, e, t1, t2, t3, t4⟩ := store_hit1 (b := frame r) h1 f1 j_name hl
    refine .inr ⟨t, e, t1, by omega, ?_⟩
    rw [fileOr_some t4, hd, hsf]
    exact safe_lose hR hn hr
  by_cases f2 : s.fuse = 2
  · obtain ⟨t, e, t1, t2, t3, t4⟩ := store_hit2 (b := frame r) h1 f2 j_name hl
    refine .inr ⟨t, e, t1, by omega, ?_⟩
    rw [fileOr_some t4, hd, hsf]
    exact safe_lose hR hn hr
  obtain ⟨t, e, t1, t2, t3, t4, t5⟩ := store_ok (b := frame r) h1 f1 f2 j_name hl
  refine .inl ⟨t, e, t1, by omega, ?_⟩
  rw [fileOr_some t5, hd, take_next_rec hr, bytesOf_snoc]
theorem ready_grow (h : Grow R k s) (hR : ∀ r ∈ R, r.length ≤ 1024) (hn : R.length ≤ 150) (hk : k = R.length) : Ready R k (onD s) := by
  obtain ⟨h1, h2, h3⟩ := h
  have hb := len_take hR hn k
  refine ⟨rfl, by show s.deeds ≤ 1000; omega, ?_⟩
  have : fileOr (onD s) J = fileOr s J := rfl
  rw [this, h3]
  refine ⟨rfl, by show (bytesOf (R.take k)).length ≤ _; omega, ?_⟩
  show Found R k (recs (bytesOf (R.take k)))
  rw [recs_bytesOf (small_take hR k), List.take_of_length_le (by omega)]
  exact ⟨by omega, by omega, by omega, (List.take_of_length_le (by omega)).symm⟩
theorem ready_fell (h : Fell R k s) (hk : k < 150) : Ready R k (onD s) := by
  obtain ⟨h1, h2, h3⟩ := h
  exact ⟨rfl, by show s.deeds ≤ 1000; omega, h3⟩
theorem ready_arm (h : Ready R k s) (a b : Int) : Ready R k (armD s a b) := h
theorem lose_safe {f : Fl} (h : f.safe = f.data.length) (keep : Int) : lose keep f = f := by
  have : keptOf keep f = f.data.length := by unfold keptOf; omega
  unfold lose
  rw [this, List.take_of_length_le (Nat.le_refl _), ← h]
theorem ready_open (h : Ready R k s) : ∃ M, Found R k M ∧ recs (dataOf s J) = M ∧ ((∃ t, openD s J = (0, t) ∧ Done M t) ∨ (∃ t u, openD s J = (20, t) ∧ t.deeds ≤ 1001 ∧ openD (onD t) J = (0, u) ∧ recs (dataOf (onD t) J) = M ∧ Done M u)) := by
  obtain ⟨h1, h2, h3, h4, h5⟩ := h
  refine ⟨_, h5, rfl, ?_⟩
  by_cases hf : s.fuse ≠ 1 ∨ used (dataOf s J) = (dataOf s J).length
  · obtain ⟨t, e, t1, t2, t3, t4, t5⟩ := open_fine h1 hf j_name
    exact .inl ⟨t, e, t1, by omega, t5⟩
  · have hu : s.fuse = 1 ∧ used (dataOf s J) ≠ (dataOf s J).length := by
      constructor
      · exact Classical.byContradiction fun q => hf (.inl q)
      · exact fun q => hf (.inr q)
    have hle := used_le (dataOf s J)
    cases hg : get s.m J with
    | none =>
      have : dataOf s J = [] := by unfold dataOf fileOr; rw [hg]; rfl
      rw [this] at hle hu
      have : used ([] : Bs) = 0 := by simpa using hle
      exact absurd this (by simpa using hu.2)
    | some f =>
      have hff : fileOr s J = f := fileOr_some hg
      have hd : dataOf s J = f.data := dataOf_get hg
      obtain ⟨t, e, t1, t2, t3, t4⟩ := cut_struck h1 hu.1 hg (n := used (dataOf s J)) (by rw [← hd]; exact hle)
      rw [hff] at h3
      rw [lose_safe h3] at t4
      have eo : openD s J = (20, t) := by
        unfold openD
        rw [if_neg (by simp [h1]), if_neg (by simp [j_name])]
        unfold openCut
        rw [if_pos (by omega)]
        exact e
      have hd2 : dataOf (onD t) J = f.data := dataOf_get (s := onD t) t4
      obtain ⟨u, e2, u1, u2, u3, u4, u5⟩ := open_fine (s := onD t) (k := J) rfl (.inl (by show t.fuse ≠ 1; omega)) j_name
      have hdt : (onD t).deeds = t.deeds := rfl
      refine .inr ⟨t, u, eo, by omega, e2, by rw [hd2, hff], u1, by omega, ?_⟩
      rw [u5, hd2, hff]
def behind : Bs := [98, 101, 104, 105, 110, 100]
theorem done_add (h : Done M s) (hM : Small M) (hl : (bytesOf M).length ≤ 200000) : ∃ u v, addD (armD s 0 0) J false behind = (0, u) ∧ openD u J = (0, v) ∧ recs (dataOf u J) = M ++ [behind] ∧ u.deeds ≤ 2000 := by
  obtain ⟨h1, h2, h3⟩ := h
  have hd : dataOf (armD s 0 0) J = bytesOf M := h3
  obtain ⟨u, e, u1, u2, u3, u4⟩ := add_fine (s := armD s 0 0) (k := J) (r := behind) h1 rfl j_name (by decide) (by rw [hd]; show _ + 14 ≤ _; omega)
  obtain ⟨v, e2, -, -, -, -, -⟩ := open_fine (s := u) (k := J) u1 (.inl (by omega)) j_name
  refine ⟨u, v, e, e2, ?_, by have : (armD s 0 0).deeds = s.deeds := rfl; omega⟩
  rw [u4, hd, ← bytesOf_snoc]
  exact recs_bytesOf fun q hq => by
    rcases List.mem_append.1 hq with h | h
    · exact hM q h
    · simp at h; subst h; decide
theorem open_new : openD newD J = (0, newD) := by
  unfold openD
  rw [if_neg (by decide), if_neg (by decide)]
  unfold openCut
  rw [if_neg (by rw [dataOf_new]; simp)]
theorem grow_start (n keep : Int) : Grow R 0 (armD newD n keep) := ⟨rfl, Nat.le_refl _, rfl⟩
theorem found_small (h : Found R k M) (hR : ∀ r ∈ R, r.length ≤ 1024) : Small M := by rw [h.2.2.2]; exact small_take hR _
theorem found_len (h : Found R k M) (hR : ∀ r ∈ R, r.length ≤ 1024) (hn : R.length ≤ 150) : (bytesOf M).length ≤ 200000 := by
  rw [h.2.2.2]; exact Nat.le_trans (len_take hR hn _) (by decide)
end

/-! ### what came in -/
/-- A slice of records that came in, and its capacity. -/
def RecsC (w : World) (a : Option Addr) (len cap : Nat) : Prop := len ≤ cap ∧ cap ≤ maxLen ∧ ∃ R : List Bs, Recs w (· < w.heap.size) a len R ∧ ∀ r ∈ R, r.length ≤ maxLen
theorem recs_of_pieces {w : World} {a : Option Addr} {len : Nat} (h : Pieces w a len) : ∃ R : List Bs, Recs w (· < w.heap.size) a len R ∧ ∀ r ∈ R, r.length ≤ maxLen := by
  obtain ⟨hm, hp⟩ := h
  have hp' : ∀ i : Fin len, ∃ l : Bs, ∃ b o A c, a = some ⟨b, o, none⟩ ∧ w.cell? ⟨b, o + i.1, none⟩ = some (.slice A l.length c) ∧ l.length ≤ maxLen ∧ Lies w w.heap.size A l := fun i => by
    obtain ⟨b, o, A, n, c, l, e, hc, hn, hl, hL⟩ := hp i.1 i.2
    subst hl
    exact ⟨l, b, o, A, c, e, hc, hn, hL⟩
  obtain ⟨f, hf⟩ := Classical.axiomOfChoice hp'
  refine ⟨List.ofFn f, ⟨by simp, fun i r hr => ?_⟩, fun r hr => ?_⟩
  · obtain ⟨hi, hre⟩ := List.getElem?_eq_some_iff.1 hr
    have hi' : i < len := by simpa using hi
    have : r = f ⟨i, hi'⟩ := by rw [← hre]; simp
    subst this
    obtain ⟨b, o, A, c, e, hc, hn, hL⟩ := hf ⟨i, hi'⟩
    exact ⟨b, o, A, c, e, cell_block_lt (p := ⟨b, o + i, none⟩) hc, hc, LiesX.of hL⟩
  · obtain ⟨i, rfl⟩ := List.mem_ofFn.1 hr
    obtain ⟨b, o, A, c, e, hc, hn, hL⟩ := hf i
    exact hn
theorem recsC_of {H : Type} {enc : TypeId × Value → H} {w : World} {base fuel : Nat} {held : Bool} {a : Option Addr} {len cap : Nat} {x : DataW H × List MemPlace}
    (h : DataW.trod enc Try.prog w base (fun _ => true) held fuel 33 [.slice a len cap] = some x) : RecsC w a len cap := by
  have hp := recs_of_pieces (pieces_of h)
  rcases Go.Deep.open_int_rows Try.underlying33 Try.underlying23 Try.underlying5 (by kernel_rfl) (by kernel_rfl) h with ⟨hcs, _⟩ | ⟨ad, l, c, A, L, C, Z, hcs, _, hl, hm, _, hr⟩
  · simp at hcs
    obtain ⟨rfl, rfl, rfl⟩ := hcs
    exact ⟨Nat.le_refl _, Nat.zero_le _, hp⟩
  · simp at hcs
    obtain ⟨rfl, rfl, rfl⟩ := hcs
    exact ⟨hl, hm, hp⟩

set_option maxRecDepth 20000 in
set_option maxHeartbeats 1000000 in
/-- small: are the records looked at? -/
theorem small_any {a : Option Addr} {len cap : Nat} {w : World} {R : List Bs} (hR : Recs w (· < w.heap.size) a len R) (hm : len ≤ maxLen) (hms : ∀ r ∈ R, r.length ≤ maxLen) :
    Calls Try.prog 25 #[.slice a len cap] w fun e w' => e = .returned (.bool (decide (len ≤ 150 ∧ ∀ r ∈ R, r.length ≤ 1024))) ∧ w = w' := by
  unfold maxLen at hm hms
  obtain ⟨bb, hbb⟩ : ∃ bb, bb = decide (len ≤ 150 ∧ ∀ r ∈ R, r.length ≤ 1024) := ⟨_, rfl⟩
  rw [← hbb]
  have HBB := Lib.hid hbb
  clear hbb
  by_cases hbig : 150 < len
  · have hbi : (150 : Int) < (len : Int) := by omega
    have hb0 : bb = false := HBB.out.trans (decide_eq_false (fun h => by have := h.1; omega))
    subst hb0
    clear HBB
    go_enter Try.func25, Try.ntmps25
    go_wp2
    go_ret
    exact ⟨rfl, rfl⟩
  have hbi : ¬ (150 : Int) < (len : Int) := by omega
  have HR := Lib.hid hR
  have HM := Lib.hid hms
  clear hR hms
  go_enter Try.func25, Try.ntmps25
  go_wp2
  go_loop [3] (fun i => ∃ k : Nat, k ≤ len ∧ i = .int .i64 k ∧ Hid (∀ r ∈ R.take k, r.length ≤ 1024)) (fun i => len - (intOf i).toNat)
  case atStart => exact ⟨0, Nat.zero_le _, rfl, fun r hr => by simp at hr⟩
  case round =>
    obtain ⟨k, hk, rfl, hs⟩ := hrel
    by_cases hlt : k < len
    · have hki : (k : Int) < (len : Int) := by omega
      obtain ⟨r, hr⟩ : ∃ r, R[k]? = some r := ⟨_, List.getElem?_eq_getElem (by rw [HR.out.1]; exact hlt)⟩
      obtain ⟨g, o, Ai, ci, rfl, -, hc, -⟩ := HR.out.2 k r hr
      have hrm : r.length ≤ 2 ^ 63 - 1 := HM.out r (List.mem_of_getElem? hr)
      obtain ⟨q, hq⟩ : ∃ q, r.length = q := ⟨_, rfl⟩
      rw [hq] at hc hrm
      have HQ := Lib.hid hq
      have Hr := Lib.hid hr
      clear hq hr
      by_cases hl : 1024 < q
      · have hli : (1024 : Int) < (q : Int) := by omega
        go_wp2
        go_ret
        refine ⟨?_, rfl⟩
        rw [HBB.out.trans (decide_eq_false (fun h => by have := h.2 r (List.mem_of_getElem? Hr.out); rw [HQ.out] at this; omega))]
        rfl
      · have hli : ¬ (1024 : Int) < (q : Int) := by omega
        go_wp2
        go_round
        case rel =>
          refine ⟨k + 1, by omega, by go_num, fun x hx => ?_⟩
          rw [take_next_rec Hr.out] at hx
          rcases List.mem_append.1 hx with h | h
          · exact hs.out x h
          · simp at h; subst h; rw [HQ.out]; omega
        case measure => simp [intOf]; omega
    · have hki : ¬ (k : Int) < (len : Int) := by omega
      go_wp2
      go_ret
      refine ⟨?_, rfl⟩
      rw [HBB.out.trans (decide_eq_true ⟨by omega, fun r hr => hs.out r (by rwa [List.take_of_length_le (by rw [HR.out.1]; omega)])⟩)]
      rfl

theorem addJ_down {X : Nat → Prop} {w0 w : World} {d jb cnt : Nat} {s s' : Ds} {A : Option Addr} {m c : Nat} {l : Bs} (h : Fresh X w0 w d s) (hX : X jb) (hjw : w0.heap.size ≤ jb) (hj : JAt w jb d ⟨#[106]⟩ cnt false) (hl : l.length = m) (hm : m ≤ maxLen) (hL : Lies w w.heap.size A l) (hd : s.deeds < 1000000) (hcnt : cnt < 4611686018427387904) (he : addD s J false l = (20, s')) :
    Calls Try.prog 12 #[.pointer (some ⟨jb, 0, none⟩), .slice A m c] w (Added X w0 w d jb ⟨#[106]⟩ cnt true 20 s') := addJ h hX hjw hj hl hm hL hd hcnt he
end Go.Proofs.Ytkiombbdddbkfaa.Jn
