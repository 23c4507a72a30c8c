/-
  The document's reader: a word is taken that may stand there. Conditions: the reader keeps what it keeps.
-/
import Derived.Test.YtlkaaembeakicaaDoorRDown
import Derived.Test.YtlkaaembeakicaaDoorEStep
namespace Go.Proofs.YtlkaaembeakicaaDoor.Ex
open Go.RowKit
theorem RM.same {w0 w : World} {p x : Nat} {s s' : St} (h : RM w0 p x s w) (hv : s'.vals = s.vals) (hw : s'.waits = s.waits) : RM w0 p x s' w := by
  obtain ⟨L, Ts, is, vL, vV, vW, hx, h1, h2, h3⟩ := h
  exact ⟨L, Ts, is, vL, vV, vW, by rw [hw]; exact hx, h1, by rw [hv]; exact h2, by rw [hv]; exact h3⟩
theorem numVal_next {l : Bs} {k : Nat} (h : k < l.length) : numVal (l.take (k + 1)) = 10 * numVal (l.take k) + (l[k].toNat - 48) := by
  unfold numVal
  rw [List.take_succ_eq_append_getElem h, List.foldl_append]; rfl
theorem numVal_take {l : Bs} {k : Nat} (h : ∀ c ∈ l, isDig c = true) (hk : k ≤ 17) : numVal (l.take k) < 100000000000000000 := by
  have h1 := numVal_lt (l.take k) 0 (fun c hc => h c (List.mem_of_mem_take hc))
  have h2 : (l.take k).length ≤ 17 := by rw [List.length_take]; omega
  have h3 : 10 ^ (l.take k).length ≤ 10 ^ 17 := Nat.pow_le_pow_right (by decide) h2
  unfold numVal
  omega
theorem news1p {w W : World} (a : Value) (t : TypeId) (hW : W = w.alloc (.cells #[a] t)) {n : Nat} (hn : n = w.heap.size) : ∀ j u, [a][j]? = some u → W.cell? ((⟨n, 0, none⟩ : Addr).add j) = some u := by
  subst hW hn
  intro j u hj
  match j, hj with
  | 0, hj => simp at hj; subst hj; simp [Addr.add]
  | j + 1, hj => simp at hj
section
variable {w0 w : World} {p x : Nat} {t : ByteArray} {L : List Nd} {is : List Nat} {ws : List Bs} {root : Int} {vL vV vW : Value}
set_option maxRecDepth 20000 in
set_option maxHeartbeats 4000000 in
theorem take_num (hX : RX w0 p x L is ws root vL vV vW w) (hL : L.length ≤ 1000) (his : is.length ≤ 1000) (h0 : 0 < t.size) (h18 : t.size ≤ 18) (hd : ∀ c ∈ t.data.toList, isDig c = true) (b : Bool) :
    Calls Tryd.prog 26 #[ptr p, .string t, .bool b] w fun e w' => e = .returned (.tuple #[]) ∧ ∃ vL' vV', RX w0 p x (L ++ [⟨[48], (numVal t.data.toList : Nat), 0, 0⟩]) (L.length :: is) ws root vL' vV' vW w' := by
  have hd0 : isDig t[0] = true := hd _ (by show t.data.toList[0] ∈ _; exact List.getElem_mem _)
  have HD := Lib.hid hd
  have HX := Lib.hid hX
  clear hd hX
  go_enter Tryd.func26, Tryd.ntmps26
  go_wp2_with (go_at_call 24; (with_reducible refine (rdigit_any _ _).mono ?_); rintro e w' ⟨rfl, rfl⟩)
  go_loop [6, 7] (fun n i => ∃ k : Nat, k ≤ t.size ∧ i = .int .i64 k ∧ n = .int .i64 (numVal (t.data.toList.take k) : Nat)) (fun _ i => t.size - (intOf i).toNat)
  case atStart => exact ⟨0, Nat.zero_le _, rfl, rfl⟩
  case round =>
    obtain ⟨k, hk, rfl, rfl⟩ := hrel
    by_cases hlt : k < t.size
    · have hnx := numVal_next (l := t.data.toList) (k := k) (by simpa using hlt)
      have hb := numVal_take HD.out (k := k) (by omega)
      obtain ⟨m, hm⟩ : ∃ m, numVal (t.data.toList.take k) = m := ⟨_, rfl⟩
      rw [hm] at hnx hb ⊢
      have hdk : isDig t[k] = true := HD.out _ (by show t.data.toList[k] ∈ _; exact List.getElem_mem _)
      simp only [isDig, Bool.and_eq_true, decide_eq_true_eq] at hdk
      obtain ⟨d1, d2⟩ := hdk
      have hnx2 : numVal (t.data.toList.take (k + 1)) = 10 * m + (t[k].toNat - 48) := hnx
      have HN := Lib.hid hnx2
      clear hnx hnx2 hm
      go_wp2
      go_round
      case rel => exact ⟨k + 1, by omega, by go_num, by rw [HN.out]; go_num⟩
      case measure => simp [intOf]; omega
    · have e : k = t.size := by omega
      subst e
      have e2 : t.data.toList.take t.size = t.data.toList := List.take_of_length_le (by simp)
      rw [e2]
      clear e2
      go_wp2_with (go_at_call 35; refine (value_at (q := ⟨[48], (numVal t.data.toList : Nat), 0, 0⟩) HX.out hL his rfl).mono ?_; rintro e w' ⟨rfl, vL', vV', hx4⟩; have HX4 := Lib.hid hx4; clear hx4)
      go_end0
      exact ⟨rfl, _, _, HX4.out⟩
set_option maxRecDepth 20000 in
set_option maxHeartbeats 4000000 in
theorem take_name (hX : RX w0 p x L is ws root vL vV vW w) (hL : L.length ≤ 1000) (his : is.length ≤ 1000) (h0 : 0 < t.size) (hd : isDig t[0] = false) (hl : isLet t[0] = true) (b : Bool) :
    Calls Tryd.prog 26 #[ptr p, .string t, .bool b] w fun e w' => e = .returned (.tuple #[]) ∧ ∃ vL' vV', RX w0 p x (L ++ [⟨t.data.toList, 0, 0, 0⟩]) (L.length :: is) ws root vL' vV' vW w' := by
  have HX := Lib.hid hX
  clear hX
  have hu : ndV ⟨t.data.toList, 0, 0, 0⟩ = .agg #[.string t, .int .i64 0, .int .i64 0, .int .i64 0] := by simp [ndV]
  have HU := Lib.hid hu
  clear hu
  go_enter Tryd.func26, Tryd.ntmps26
  go_wp2_with (first
    | (go_at_call 24; (with_reducible refine (rdigit_any _ _).mono ?_); rintro e w' ⟨rfl, rfl⟩)
    | (go_at_call 34; (with_reducible refine (rletter_any _ _).mono ?_); rintro e w' ⟨rfl, rfl⟩)
    | (go_at_call 35; refine (value_at HX.out hL his HU.out).mono ?_; rintro e w' ⟨rfl, vL', vV', hx4⟩; have HX4 := Lib.hid hx4; clear hx4))
  go_end0
  exact ⟨rfl, _, _, HX4.out⟩
set_option maxRecDepth 20000 in
set_option maxHeartbeats 4000000 in
theorem take_open (hX : RX w0 p x L is ws root vL vV vW w) (hws : ws.length ≤ 1000) (h0 : 0 < t.size) (hd : isDig t[0] = false) (hl : isLet t[0] = false) (q40 : (t.toList == [40]) = true) (b : Bool) :
    Calls Tryd.prog 26 #[ptr p, .string t, .bool b] w fun e w' => e = .returned (.tuple #[]) ∧ ∃ vW', RX w0 p x L is ([40] :: ws) root vL vV vW' w' := by
  obtain ⟨i9, hi9, hy0, hy1, hy2⟩ := info_parts info9
  obtain ⟨c0, c1, c2, f0, f1, f2⟩ := rx_cells hX.blk
  have hp := lt_of_heap hX.blk
  have hB : w0.heap.size ≤ w.heap.size := hX.below.size
  have HX := Lib.hid hX
  clear hX
  go_enter Tryd.func26, Tryd.ntmps26
  go_wp2_with (first
    | (go_at_call 24; (with_reducible refine (rdigit_any _ _).mono ?_); rintro e w' ⟨rfl, rfl⟩)
    | (go_at_call 34; (with_reducible refine (rletter_any _ _).mono ?_); rintro e w' ⟨rfl, rfl⟩)
    | (refine wpList_append_lies _ (by rfl) (.tmp 59) (.tmp 60) 35 (by rfl) w0.heap.size 9 i9 (.string ⟨#[]⟩) 1 16 Tryd.underlying35 hi9 hy0 hy1 hy2 rfl (by decide) vW ws.length (wdCells ws) (by rfl) (ownsRow_below HX.out.rowW ((Below.refl _ _).alloc (Nat.le_refl _) _)) ⟨w.heap.size, 0, none⟩ 1 1 [.string ⟨#[40]⟩] (by rfl) rfl (news1p _ 9 rfl (by simp)) (one1s _) (by decide) (by unfold maxLen; omega) (by omega) (by simp; omega) _ rfl ?_; intro g2 cap2 w1 hown2 hgrow2 hat2 hlt2; obtain ⟨hp1, hx1, hx2⟩ := (HX.out.grow ((Below.refl _ _).alloc (Nat.le_refl _) _)).pushW (t := [40]) hgrow2 hown2; obtain ⟨a0, a1, a2, b0, b1, b2⟩ := rx_cells hp1; have hpz := lt_of_heap hp1; have HX2 := Lib.hid hx2; clear hown2 hgrow2 hat2 hlt2 hp1 hx1 hx2))
  go_end0
  exact ⟨rfl, _, HX2.out⟩
set_option maxRecDepth 20000 in
set_option maxHeartbeats 4000000 in
theorem take_minus (hX : RX w0 p x L is ws root vL vV vW w) (hws : ws.length ≤ 1000) (h0 : 0 < t.size) (hd : isDig t[0] = false) (hl : isLet t[0] = false) (q40 : (t.toList == [40]) = false) (q41 : (t.toList == [41]) = false) (q45 : (t.toList == [45]) = true)  :
    Calls Tryd.prog 26 #[ptr p, .string t, .bool true] w fun e w' => e = .returned (.tuple #[]) ∧ ∃ vW', RX w0 p x L is ([126] :: ws) root vL vV vW' w' := by
  obtain ⟨i9, hi9, hy0, hy1, hy2⟩ := info_parts info9
  obtain ⟨c0, c1, c2, f0, f1, f2⟩ := rx_cells hX.blk
  have hp := lt_of_heap hX.blk
  have hB : w0.heap.size ≤ w.heap.size := hX.below.size
  have HX := Lib.hid hX
  clear hX
  go_enter Tryd.func26, Tryd.ntmps26
  go_wp2_with (first
    | (go_at_call 24; (with_reducible refine (rdigit_any _ _).mono ?_); rintro e w' ⟨rfl, rfl⟩)
    | (go_at_call 34; (with_reducible refine (rletter_any _ _).mono ?_); rintro e w' ⟨rfl, rfl⟩)
    | (refine wpList_append_lies _ (by rfl) (.tmp 93) (.tmp 94) 35 (by rfl) w0.heap.size 9 i9 (.string ⟨#[]⟩) 1 16 Tryd.underlying35 hi9 hy0 hy1 hy2 rfl (by decide) vW ws.length (wdCells ws) (by rfl) (ownsRow_below HX.out.rowW ((Below.refl _ _).alloc (Nat.le_refl _) _)) ⟨w.heap.size, 0, none⟩ 1 1 [.string ⟨#[126]⟩] (by rfl) rfl (news1p _ 9 rfl (by simp)) (one1s _) (by decide) (by unfold maxLen; omega) (by omega) (by simp; omega) _ rfl ?_; intro g2 cap2 w1 hown2 hgrow2 hat2 hlt2; obtain ⟨hp1, hx1, hx2⟩ := (HX.out.grow ((Below.refl _ _).alloc (Nat.le_refl _) _)).pushW (t := [126]) hgrow2 hown2; obtain ⟨a0, a1, a2, b0, b1, b2⟩ := rx_cells hp1; have hpz := lt_of_heap hp1; have HX2 := Lib.hid hx2; clear hown2 hgrow2 hat2 hlt2 hp1 hx1 hx2))
  go_end0
  exact ⟨rfl, _, HX2.out⟩
set_option maxRecDepth 20000 in
set_option maxHeartbeats 4000000 in
theorem take_not (hX : RX w0 p x L is ws root vL vV vW w) (hws : ws.length ≤ 1000) (h0 : 0 < t.size) (hd : isDig t[0] = false) (hl : isLet t[0] = false) (q40 : (t.toList == [40]) = false) (q41 : (t.toList == [41]) = false) (q45 : (t.toList == [45]) = false)  :
    Calls Tryd.prog 26 #[ptr p, .string t, .bool true] w fun e w' => e = .returned (.tuple #[]) ∧ ∃ vW', RX w0 p x L is (t.data.toList :: ws) root vL vV vW' w' := by
  obtain ⟨i9, hi9, hy0, hy1, hy2⟩ := info_parts info9
  obtain ⟨c0, c1, c2, f0, f1, f2⟩ := rx_cells hX.blk
  have hp := lt_of_heap hX.blk
  have hB : w0.heap.size ≤ w.heap.size := hX.below.size
  have HX := Lib.hid hX
  clear hX
  go_enter Tryd.func26, Tryd.ntmps26
  go_wp2_with (first
    | (go_at_call 24; (with_reducible refine (rdigit_any _ _).mono ?_); rintro e w' ⟨rfl, rfl⟩)
    | (go_at_call 34; (with_reducible refine (rletter_any _ _).mono ?_); rintro e w' ⟨rfl, rfl⟩)
    | (refine wpList_append_lies _ (by rfl) (.tmp 104) (.tmp 106) 35 (by rfl) w0.heap.size 9 i9 (.string ⟨#[]⟩) 1 16 Tryd.underlying35 hi9 hy0 hy1 hy2 rfl (by decide) vW ws.length (wdCells ws) (by rfl) (ownsRow_below HX.out.rowW ((Below.refl _ _).alloc (Nat.le_refl _) _)) ⟨w.heap.size, 0, none⟩ 1 1 [.string t] (by rfl) rfl (news1p _ 9 rfl (by simp)) (one1s _) (by decide) (by unfold maxLen; omega) (by omega) (by simp; omega) _ rfl ?_; intro g2 cap2 w1 hown2 hgrow2 hat2 hlt2; obtain ⟨hp1, hx1, hx2⟩ := (HX.out.grow ((Below.refl _ _).alloc (Nat.le_refl _) _)).pushW (t := t.data.toList) hgrow2 (by simpa [wdC] using hown2); obtain ⟨a0, a1, a2, b0, b1, b2⟩ := rx_cells hp1; have hpz := lt_of_heap hp1; have HX2 := Lib.hid hx2; clear hown2 hgrow2 hat2 hlt2 hp1 hx1 hx2))
  go_end0
  exact ⟨rfl, _, HX2.out⟩
end
end Go.Proofs.YtlkaaembeakicaaDoor.Ex
