/-
  Texts joined into one file. Each part says in its own head what is proved there, and under which conditions.
-/
import Derived.Test.YtogcickcodlepaaGreatDoorJP5
import Derived.Defers
import Derived.Recover
import Derived.Test.YtogcickcodlepaaGreatDoorJP1
import Derived.Test.YtogcickcodlepaaGreatDoorJE2
import Derived.BigQuiet
import Derived.Deep.QuietTactic
import Derived.Deep.RegionHeld3
import Derived.RegionTactic
set_option linter.unusedVariables false
set_option linter.unusedSimpArgs false
/-
  take: a line is taken, or stops the parser by a panic with its error. Conditions: the parser keeps what it keeps.
-/
namespace Go.Proofs.YtogcickcodlepaaGreatDoor.Pl
open Go.RowKit Go.Proofs.YtogcickcodlepaaGreatDoor.Ex
variable {KL : Nat × Array Value}

/-- What stops the parser: a line's number and an error. -/
def faultP (line : Nat) (e : Int) : List PanicEntry := [{ v := .iface 53 (.agg #[.int .i64 line, .int .i64 e]), recovered := false }]
theorem wordsGo_ne : ∀ (l cur : Bs), ∀ x ∈ wordsGo cur l, x ≠ []
  | [], cur, x, h => by
    simp only [wordsGo] at h
    split at h
    · simp at h
    · simp at h; rw [h]; assumption
  | c :: r, cur, x, h => by
    simp only [wordsGo] at h
    split at h
    · split at h
      · exact wordsGo_ne r [] x h
      · rcases List.mem_cons.1 h with rfl | h
        · assumption
        · exact wordsGo_ne r [] x h
    · exact wordsGo_ne r (cur ++ [c]) x h
theorem first_word {ws : List Bs} {l : Bs} (h : wordsOf l = ws) (hn : 0 < ws.length) : ∃ c r, wd ws 0 = c :: r ∧ (idle ws = true ↔ c = 35) := by
  match ws, hn with
  | x :: xs, _ =>
    have hx : x ≠ [] := wordsGo_ne l [] x (by have : wordsGo [] l = x :: xs := h; rw [this]; simp)
    match x, hx with
    | c :: r, _ => exact ⟨c, r, rfl, by simp [idle]⟩
theorem u8_beq {c : UInt8} {k : Nat} (hk : k < 256) : ((c.toNat : Int) == (k : Int)) = decide (c = UInt8.ofNat k) := by
  rw [Bool.eq_iff_iff]
  simp only [beq_iff_eq, decide_eq_true_eq]
  constructor
  · intro h; exact UInt8.toNat_inj.1 (by rw [UInt8.toNat_ofNat']; omega)
  · intro h; rw [h, UInt8.toNat_ofNat']; omega
set_option maxRecDepth 20000 in
set_option maxHeartbeats 4000000 in
theorem take_idle {w0 w : World} {p line : Nat} {S : PSt} (h : PS KL w0 p S w) (s : ByteArray) (hs : s.size ≤ 4096) (hi : idle (wordsOf s.data.toList) = true) :
    Calls Tryz.prog 25 #[ptr p, .int .i64 line, .string s] w fun e w' => e = .returned (.tuple #[]) ∧ PS KL w0 p S w' := by
  obtain ⟨ws, hws⟩ : ∃ ws, wordsOf s.data.toList = ws := ⟨_, rfl⟩
  obtain ⟨n, hn⟩ : ∃ n, ws.length = n := ⟨_, rfl⟩
  rw [hws] at hi
  have HWD := Lib.hid (wordsOf_new s w (by omega) hws hn)
  have HP := Lib.hid h
  by_cases h0 : n = 0
  · subst h0
    clear h hws hn hi
    go_enter Tryz.func25, Tryz.ntmps25
    go_wp2_with (go_at_call 50; refine HWD.out.mono ?_; rintro e w1 ⟨A, rfl, hA, hw1, hb1⟩; have HP1 := Lib.hid (HP.out.grow hb1); clear hb1 hw1 hA)
    refine bodyPost_ret (results_none rfl _ _ _) rfl ?_
    exact ⟨rfl, HP1.out⟩
  · have hpos : 0 < ws.length := by omega
    obtain ⟨c, r, hc, hci⟩ := first_word hws hpos
    have hc35 : c = 35 := hci.1 hi
    subst hc35
    have hN : (0 : Int) < (n : Int) := by omega
    have hNN : 0 < n := by omega
    have e0 : ((n : Int) == 0) = false := by simp; omega
    have HPOS := Lib.hid hpos
    have HC := Lib.hid hc
    clear h hws hn hi hci hc hpos h0
    go_enter Tryz.func25, Tryz.ntmps25
    go_wp2_with (go_at_call 50; refine HWD.out.mono ?_; rintro e w1 ⟨A, rfl, hA, hw1, hb1⟩; have HP1 := Lib.hid (HP.out.grow hb1); have x0 := hw1.lit (i := 0) HPOS.out; rw [HC.out] at x0; clear hb1 hw1 hA)
    refine bodyPost_ret (results_none rfl _ _ _) rfl ?_
    exact ⟨rfl, HP1.out⟩
theorem wds_lt {w : World} {b o n cap : Nat} {ws : List Bs} (h : WdsAt w (.slice (some ⟨b, o, none⟩) n cap) ws) (h0 : 0 < ws.length) : b < w.heap.size := by
  obtain ⟨_, _, e, hl, _⟩ := h.wd h0
  simp only [Option.some.injEq, Addr.mk.injEq] at e
  rw [e.1]; exact hl
theorem idle_false {ws : List Bs} (h : ¬ idle ws = true) : 0 < ws.length := by
  cases ws with
  | nil => exact absurd rfl h
  | cons => simp
set_option maxRecDepth 20000 in
set_option maxHeartbeats 4000000 in
theorem take_form {w0 w : World} {p line : Nat} {S : PSt} (h : PS KL w0 p S w) (s : ByteArray) (hs : s.size ≤ 4096) (hi : ¬ idle (wordsOf s.data.toList) = true) (h1 : hasForm (wordsOf s.data.toList) = false) :
    Calls Tryz.prog 25 #[ptr p, .int .i64 line, .string s] w fun e w' => e = .panicked (faultP line 50) ∧ PS KL w0 p S w' := by
  obtain ⟨ws, hws⟩ : ∃ ws, wordsOf s.data.toList = ws := ⟨_, rfl⟩
  obtain ⟨n, hn⟩ : ∃ n, ws.length = n := ⟨_, rfl⟩
  rw [hws] at hi h1
  have hpos := idle_false hi
  obtain ⟨c, r, hc, hci⟩ := first_word hws hpos
  have hc35 : ¬ c = 35 := fun e => hi (hci.2 e)
  have ec : ((c.toNat : Int) == 35) = false := by
    have := u8_beq (c := c) (k := 35) (by decide)
    exact this.trans (decide_eq_false hc35)
  have ec2 : ((((⟨(c :: r).toArray⟩ : ByteArray)[0]'(by show 0 < (c :: r).toArray.size; simp)).toNat : Int) == 35) = false := ec
  have HWD := Lib.hid (wordsOf_new s w (by omega) hws hn)
  have HP := Lib.hid h
  have hN : (0 : Int) < (n : Int) := by omega
  have hNN : 0 < n := by omega
  have e0 : ((n : Int) == 0) = false := by simp; omega
  have HPOS := Lib.hid hpos
  have HC := Lib.hid hc
  have H1 := Lib.hid h1
  clear h hws hn hi hci hc hpos h1 hs hc35
  go_enter Tryz.func25, Tryz.ntmps25
  go_wp2_with (first
    | (go_at_call 50; refine HWD.out.mono ?_; rintro e w1 ⟨A, rfl, hA, hw1, hb1⟩; have HP1 := Lib.hid (HP.out.grow hb1); have x0 := hw1.lit (i := 0) HPOS.out; rw [HC.out] at x0; have HW1 := Lib.hid hw1; have HB1 := Lib.hid (And.intro hA (And.intro hb1 (wds_lt hw1 HPOS.out))); clear hb1 hw1 hA)
    | (go_at_call 51; refine (hasForm_at HW1.out HPOS.out H1.out).mono ?_; rintro e w2 ⟨rfl, hb2⟩; have HP2 := Lib.hid (HP1.out.grow hb2); have HW2 := Lib.hid (HW1.out.grow hb2); have x2 := HW2.out.lit (i := 0) HPOS.out; rw [HC.out] at x2; have HB2 := Lib.hid (And.intro HB1.out.1 (And.intro (HB1.out.2.1.trans (hb2.mono HB1.out.2.1.size)) (Nat.lt_of_lt_of_le HB1.out.2.2 hb2.size))); clear hb2))
  exact ⟨rfl, rfl, HP2.out⟩
set_option maxRecDepth 20000 in
set_option maxHeartbeats 4000000 in
theorem take_place {w0 w : World} {p line : Nat} {S : PSt} (h : PS KL w0 p S w) {m : Nat} (hz : Sz S m) (hm : m ≤ 80000) (s : ByteArray) (hs : s.size ≤ 4096) (hi : ¬ idle (wordsOf s.data.toList) = true) (h1 : hasForm (wordsOf s.data.toList) = true) (h2 : S.allows (wd (wordsOf s.data.toList) 0) = false) :
    Calls Tryz.prog 25 #[ptr p, .int .i64 line, .string s] w fun e w' => e = .panicked (faultP line 54) ∧ PS KL w0 p S w' := by
  obtain ⟨ws, hws⟩ : ∃ ws, wordsOf s.data.toList = ws := ⟨_, rfl⟩
  obtain ⟨n, hn⟩ : ∃ n, ws.length = n := ⟨_, rfl⟩
  rw [hws] at hi h1 h2
  have hpos := idle_false hi
  obtain ⟨c, r, hc, hci⟩ := first_word hws hpos
  have hc35 : ¬ c = 35 := fun e => hi (hci.2 e)
  have ec : ((c.toNat : Int) == 35) = false := by
    have := u8_beq (c := c) (k := 35) (by decide)
    exact this.trans (decide_eq_false hc35)
  have ec2 : ((((⟨(c :: r).toArray⟩ : ByteArray)[0]'(by show 0 < (c :: r).toArray.size; simp)).toNat : Int) == 35) = false := ec
  have HWD := Lib.hid (wordsOf_new s w (by omega) hws hn)
  have HP := Lib.hid h
  have hN : (0 : Int) < (n : Int) := by omega
  have hNN : 0 < n := by omega
  have e0 : ((n : Int) == 0) = false := by simp; omega
  have HPOS := Lib.hid hpos
  have HC := Lib.hid hc
  have H1 := Lib.hid h1
  have HA : Hid (∀ w2, PS KL w0 p S w2 → Calls Tryz.prog 52 #[ptr p, sv (c :: r)] w2 fun e w' => e = .returned (.bool false) ∧ ∃ k, w' = w2.drewN k) := Lib.hid (fun w2 hp2 => by
    obtain ⟨vt, vf, va, vb, es, hx⟩ := hp2
    have hl : es.length = S.flws.length := by rw [← hx.flws]; simp
    exact allows_at hx (by have := hz.flws; omega) _ (by rw [← hc]; exact h2))
  clear h hws hn hi hci hc hpos h1 h2 hz hs hc35
  go_enter Tryz.func25, Tryz.ntmps25
  go_wp2_with (first
    | (go_at_call 50; refine HWD.out.mono ?_; rintro e w1 ⟨A, rfl, hA, hw1, hb1⟩; have HP1 := Lib.hid (HP.out.grow hb1); have x0 := hw1.lit (i := 0) HPOS.out; rw [HC.out] at x0; have HW1 := Lib.hid hw1; have HB1 := Lib.hid (And.intro hA (And.intro hb1 (wds_lt hw1 HPOS.out))); clear hb1 hw1 hA)
    | (go_at_call 51; refine (hasForm_at HW1.out HPOS.out H1.out).mono ?_; rintro e w2 ⟨rfl, hb2⟩; have HP2 := Lib.hid (HP1.out.grow hb2); have HW2 := Lib.hid (HW1.out.grow hb2); have x2 := HW2.out.lit (i := 0) HPOS.out; rw [HC.out] at x2; have HB2 := Lib.hid (And.intro HB1.out.1 (And.intro (HB1.out.2.1.trans (hb2.mono HB1.out.2.1.size)) (Nat.lt_of_lt_of_le HB1.out.2.2 hb2.size))); clear hb2)
    | (go_at_call 52; refine (HA.out w2 HP2.out).mono ?_; rintro e w3 ⟨rfl, k, rfl⟩; have HP3 := Lib.hid (HP2.out.grow (belowN w2 k)); have HW3 := Lib.hid (HW2.out.grow (belowN w2 k)); have x3 := HW3.out.lit (i := 0) HPOS.out; rw [HC.out] at x3; have HB3 := Lib.hid (And.intro HB2.out.1 (And.intro (HB2.out.2.1.trans ((belowN w2 k).mono HB2.out.2.1.size)) (Nat.lt_of_lt_of_le HB2.out.2.2 (belowN w2 k).size)))))
  exact ⟨rfl, rfl, HP3.out⟩
set_option maxRecDepth 20000 in
set_option maxHeartbeats 4000000 in
theorem take_fine {w0 w : World} {p line : Nat} {S : PSt} (h : PS KL w0 p S w) {m : Nat} (hz : Sz S m) (hm : m ≤ 80000) (s : ByteArray) (hs : s.size ≤ 4096) (hi : ¬ idle (wordsOf s.data.toList) = true) (h1 : hasForm (wordsOf s.data.toList) = true) (h2 : S.allows (wd (wordsOf s.data.toList) 0) = true) :
    Calls Tryz.prog 25 #[ptr p, .int .i64 line, .string s] w fun e w' => e = .returned (.tuple #[]) ∧ PS KL w0 p (S.put line (wordsOf s.data.toList) s.data.toList) w' := by
  have HPUT : Hid (∀ (w1 : World) (b n cap : Nat), Below w.heap.size w w1 → WdsAt w1 (.slice (some ⟨b, 0, none⟩) n cap) (wordsOf s.data.toList) → w.heap.size ≤ b → b < w1.heap.size → Calls Tryz.prog 53 #[ptr p, .int .i64 line, .slice (some ⟨b, 0, none⟩) n cap, .string s] w1 fun e w' => e = .returned (.tuple #[]) ∧ PS KL w0 p (S.put line (wordsOf s.data.toList) s.data.toList) w') :=
    Lib.hid (fun w1 b n cap hB hw hb1 hbw => put_any h hB hz hm s hs hw hb1 hbw (idle_false hi) h1 h2)
  obtain ⟨ws, hws⟩ : ∃ ws, wordsOf s.data.toList = ws := ⟨_, rfl⟩
  obtain ⟨n, hn⟩ : ∃ n, ws.length = n := ⟨_, rfl⟩
  rw [hws] at hi h1 h2
  have hpos := idle_false hi
  obtain ⟨c, r, hc, hci⟩ := first_word hws hpos
  have hc35 : ¬ c = 35 := fun e => hi (hci.2 e)
  have ec : ((c.toNat : Int) == 35) = false := by
    have := u8_beq (c := c) (k := 35) (by decide)
    exact this.trans (decide_eq_false hc35)
  have ec2 : ((((⟨(c :: r).toArray⟩ : ByteArray)[0]'(by show 0 < (c :: r).toArray.size; simp)).toNat : Int) == 35) = false := ec
  have HWD := Lib.hid (wordsOf_new s w (by omega) hws hn)
  have HP := Lib.hid h
  have hN : (0 : Int) < (n : Int) := by omega
  have hNN : 0 < n := by omega
  have e0 : ((n : Int) == 0) = false := by simp; omega
  have HPOS := Lib.hid hpos
  have HC := Lib.hid hc
  have H1 := Lib.hid h1
  have HA : Hid (∀ w2, PS KL w0 p S w2 → Calls Tryz.prog 52 #[ptr p, sv (c :: r)] w2 fun e w' => e = .returned (.bool true) ∧ ∃ k, w' = w2.drewN k) := Lib.hid (fun w2 hp2 => by
    obtain ⟨vt, vf, va, vb, es, hx⟩ := hp2
    have hl : es.length = S.flws.length := by rw [← hx.flws]; simp
    exact allows_at hx (by have := hz.flws; omega) _ (by rw [← hc]; exact h2))
  rw [hws] at HPUT
  obtain ⟨S', hS'⟩ : ∃ S', S.put line ws s.data.toList = S' := ⟨_, rfl⟩
  rw [hS'] at HPUT
  rw [hws, hS']
  clear h hws hn hi hci hc hpos h1 h2 hz hs hc35 hS'
  go_enter Tryz.func25, Tryz.ntmps25
  go_wp2_with (first
    | (go_at_call 50; refine HWD.out.mono ?_; rintro e w1 ⟨A, rfl, hA, hw1, hb1⟩; have HP1 := Lib.hid (HP.out.grow hb1); have x0 := hw1.lit (i := 0) HPOS.out; rw [HC.out] at x0; have HW1 := Lib.hid hw1; have HB1 := Lib.hid (And.intro hA (And.intro hb1 (wds_lt hw1 HPOS.out))); clear hb1 hw1 hA)
    | (go_at_call 51; refine (hasForm_at HW1.out HPOS.out H1.out).mono ?_; rintro e w2 ⟨rfl, hb2⟩; have HP2 := Lib.hid (HP1.out.grow hb2); have HW2 := Lib.hid (HW1.out.grow hb2); have x2 := HW2.out.lit (i := 0) HPOS.out; rw [HC.out] at x2; have HB2 := Lib.hid (And.intro HB1.out.1 (And.intro (HB1.out.2.1.trans (hb2.mono HB1.out.2.1.size)) (Nat.lt_of_lt_of_le HB1.out.2.2 hb2.size))); clear hb2)
    | (go_at_call 52; refine (HA.out w2 HP2.out).mono ?_; rintro e w3 ⟨rfl, k, rfl⟩; have HP3 := Lib.hid (HP2.out.grow (belowN w2 k)); have HW3 := Lib.hid (HW2.out.grow (belowN w2 k)); have x3 := HW3.out.lit (i := 0) HPOS.out; rw [HC.out] at x3; have HB3 := Lib.hid (And.intro HB2.out.1 (And.intro (HB2.out.2.1.trans ((belowN w2 k).mono HB2.out.2.1.size)) (Nat.lt_of_lt_of_le HB2.out.2.2 (belowN w2 k).size))))
    | (go_at_call 53; refine (HPUT.out _ _ _ _ HB3.out.2.1 HW3.out HB3.out.1 HB3.out.2.2).mono ?_; rintro e w4 ⟨rfl, hp4⟩; have HP4 := Lib.hid hp4; clear hp4))
  go_end0
  exact ⟨rfl, HP4.out⟩
theorem take_ok {w0 w : World} {p line : Nat} {S : PSt} (h : PS KL w0 p S w) {m : Nat} (hz : Sz S m) (hm : m ≤ 80000) (s : ByteArray) (hs : s.size ≤ 4096) (he : S.errOf s.data.toList = 0) :
    Calls Tryz.prog 25 #[ptr p, .int .i64 line, .string s] w fun e w' => e = .returned (.tuple #[]) ∧ PS KL w0 p (S.next line s.data.toList) w' := by
  unfold PSt.errOf at he
  unfold PSt.next
  by_cases hi : idle (wordsOf s.data.toList) = true
  · rw [if_pos hi]; exact take_idle h s hs hi
  · rw [if_neg hi] at he ⊢
    split at he
    · cases he
    · rename_i h1
      split at he
      · cases he
      · rename_i h2
        exact take_fine h hz hm s hs hi (by simpa using h1) (by simpa using h2)
theorem take_bad {w0 w : World} {p line : Nat} {S : PSt} (h : PS KL w0 p S w) {m : Nat} (hz : Sz S m) (hm : m ≤ 80000) (s : ByteArray) (hs : s.size ≤ 4096) {E : Int} (he : S.errOf s.data.toList = E) (h0 : E ≠ 0) :
    Calls Tryz.prog 25 #[ptr p, .int .i64 line, .string s] w fun e w' => e = .panicked (faultP line E) ∧ PS KL w0 p S w' := by
  unfold PSt.errOf at he
  by_cases hi : idle (wordsOf s.data.toList) = true
  · rw [if_pos hi] at he; exact absurd he.symm h0
  · rw [if_neg hi] at he
    split at he
    · rename_i h1; subst he; exact take_form h s hs hi h1
    · rename_i h1
      split at he
      · rename_i h2; subst he; exact take_place h hz hm s hs hi (by simpa using h1) h2
      · exact absurd he.symm h0
/-! ### end, lineOf -/
set_option maxHeartbeats 1000000 in
theorem end_ok {w0 w : World} {p : Nat} {S : PSt} (h : PS KL w0 p S w) (h0 : S.win = 0) : Calls Tryz.prog 26 #[ptr p] w fun e w' => e = .returned (.tuple #[]) ∧ w = w' := by
  obtain ⟨vt, vf, va, vb, es, hx⟩ := h
  obtain ⟨-, -, -, -, c4, -⟩ := px_cells hx.blk
  have h1 : ¬ (0 : Int) < (S.win : Int) := by omega
  clear hx h0
  go_enter Tryz.func26, Tryz.ntmps26
  go_wp2
  go_end0
  exact ⟨rfl, rfl⟩
set_option maxHeartbeats 1000000 in
theorem end_bad {w0 w : World} {p : Nat} {S : PSt} (h : PS KL w0 p S w) (h0 : S.win ≠ 0) : Calls Tryz.prog 26 #[ptr p] w fun e w' => e = .panicked (faultP S.win 54) ∧ w = w' := by
  obtain ⟨vt, vf, va, vb, es, hx⟩ := h
  obtain ⟨-, -, -, -, c4, -⟩ := px_cells hx.blk
  have h1 : (0 : Int) < (S.win : Int) := by omega
  clear hx h0
  go_enter Tryz.func26, Tryz.ntmps26
  go_wp2
  exact ⟨rfl, rfl, rfl⟩
theorem ixs_cell {w : World} {B : Nat} {v : Value} {L : List Nat} (h : w.ownsRow B 3 1 v L.length (ixs L)) {j : Nat} (hj : j < L.length) : ∃ g cap, v = .slice (some ⟨g, 0, none⟩) L.length cap ∧ w.cell? ⟨g, j, none⟩ = some (.int .i64 (L.getD j 0 : Nat)) := by
  rcases h.2 with ⟨_, h0⟩ | ⟨g, cap, cur, rfl, -⟩
  · omega
  · refine ⟨g, cap, rfl, ?_⟩
    have c := h.cellAt j (by omega)
    rw [c, ixs, List.getElem?_map, List.getD_eq_getElem?_getD, List.getElem?_eq_getElem hj]
    rfl
set_option maxHeartbeats 1000000 in
theorem lineOf_at {w0 w : World} {p i : Nat} {S : PSt} (h : PS KL w0 p S w) (hi : i < 1000000) (h1 : 101 ≤ i → i - 101 < S.fl.length) (h2 : i < 101 → 1 ≤ i → i - 1 < S.tl.length) {r : Nat} (hr : S.lineOf i = r) :
    Calls Tryz.prog 27 #[ptr p, .int .i64 i] w fun e w' => e = .returned (.int .i64 r) ∧ w = w' := by
  obtain ⟨vt, vf, va, vb, es, hx⟩ := h
  obtain ⟨-, -, c2, c3, -⟩ := px_cells hx.blk
  unfold PSt.lineOf at hr
  by_cases ha : 101 ≤ i
  · rw [if_pos ha] at hr
    obtain ⟨j, rfl⟩ : ∃ j, i = j + 101 := ⟨i - 101, by omega⟩
    have hj : j < S.fl.length := by have := h1 ha; omega
    rw [show j + 101 - 101 = j by omega] at hr
    obtain ⟨g, cap, rfl, hc⟩ := ixs_cell hx.rowB hj
    rw [hr] at hc
    have e1 : IntKind.i64.wrap (((j + 101 : Nat) : Int) - 101) = (j : Int) := by rw [IntWalk.i64_in _ (by omega)]; omega
    have e2 : ((j + 101 : Nat) : Int) - 101 = (j : Int) := by omega
    have b1 : (101 : Int) ≤ ((j + 101 : Nat) : Int) := by omega
    have b2 : (0 : Int) ≤ (j : Int) := by omega
    have b3 : (j : Int) < (S.fl.length : Int) := by omega
    clear hx h1 h2 hr ha
    go_enter Tryz.func27, Tryz.ntmps27
    go_wp2
    go_ret
    exact ⟨rfl, rfl⟩
  · rw [if_neg ha] at hr
    by_cases hb : 1 ≤ i
    · rw [if_pos hb] at hr
      obtain ⟨j, rfl⟩ : ∃ j, i = j + 1 := ⟨i - 1, by omega⟩
      have hj : j < S.tl.length := by have := h2 (by omega) hb; omega
      rw [show j + 1 - 1 = j by omega] at hr
      obtain ⟨g, cap, rfl, hc⟩ := ixs_cell hx.rowA hj
      rw [hr] at hc
      have e2 : ((j + 1 : Nat) : Int) - 1 = (j : Int) := by omega
      have b1 : ¬ (101 : Int) ≤ ((j + 1 : Nat) : Int) := by omega
      have b0 : (1 : Int) ≤ ((j + 1 : Nat) : Int) := by omega
      have b2 : (0 : Int) ≤ (j : Int) := by omega
      have b3 : (j : Int) < (S.tl.length : Int) := by omega
      clear hx h1 h2 hr ha hb
      go_enter Tryz.func27, Tryz.ntmps27
      go_wp2
      go_ret
      exact ⟨rfl, rfl⟩
    · rw [if_neg hb] at hr
      obtain rfl : i = 0 := by omega
      have HR := Lib.hid hr
      clear hx h1 h2 hr ha hb
      go_enter Tryz.func27, Tryz.ntmps27
      go_wp2
      go_ret
      exact ⟨ret_int (by rw [← HR.out]; rfl), rfl⟩
end Go.Proofs.YtogcickcodlepaaGreatDoor.Pl
/-
  The function that Parse defers: it catches what stops the parser, and nothing else. Conditions: as the statements say.
-/
namespace Go.Proofs.YtogcickcodlepaaGreatDoor.Pl
open Go.RowKit Go.Proofs.YtogcickcodlepaaGreatDoor.Ex

def caughtP (line : Nat) (e : Int) : List PanicEntry := [{ v := .iface 53 (.agg #[.int .i64 line, .int .i64 e]), recovered := true }]
/-- The cells of Parse's three results. -/
structure Res3 (w : World) (r0 r1 r2 : Nat) (vt vf : Value) (l e : Int) : Prop where
  h0 : w.heap[r0]? = some (.cells #[vt, vf] 25 (0, 0))
  h1 : w.heap[r1]? = some (.cells #[.int .i64 l] 3 (0, 0))
  h2 : w.heap[r2]? = some (.cells #[.int .i64 e] 28 (0, 0))
theorem Res3.grow {w w' : World} {r0 r1 r2 : Nat} {vt vf : Value} {l e : Int} (h : Res3 w r0 r1 r2 vt vf l e) (hb : Below w.heap.size w w') : Res3 w' r0 r1 r2 vt vf l e :=
  ⟨by rw [hb.block _ (lt_of_heap h.h0)]; exact h.h0, by rw [hb.block _ (lt_of_heap h.h1)]; exact h.h1, by rw [hb.block _ (lt_of_heap h.h2)]; exact h.h2⟩
theorem Res3.ne {w : World} {r0 r1 r2 : Nat} {vt vf : Value} {l e : Int} (h : Res3 w r0 r1 r2 vt vf l e) : r0 ≠ r1 ∧ r0 ≠ r2 ∧ r1 ≠ r2 := by
  refine ⟨?_, ?_, ?_⟩
  · intro x; have := h.h0; rw [x, h.h1] at this; injection this with this; injection this with _ this; cases this
  · intro x; have := h.h0; rw [x, h.h2] at this; injection this with this; injection this with _ this; cases this
  · intro x; have := h.h1; rw [x, h.h2] at this; injection this with this; injection this with _ this; cases this
theorem Res3.cells {w : World} {r0 r1 r2 : Nat} {vt vf : Value} {l e : Int} (h : Res3 w r0 r1 r2 vt vf l e) : w.cell? ⟨r0, 0, none⟩ = some vt ∧ w.cell? ⟨r0, 1, none⟩ = some vf ∧ w.cell? ⟨r1, 0, none⟩ = some (.int .i64 l) ∧ w.cell? ⟨r2, 0, none⟩ = some (.int .i64 e) ∧
    w.frozen? ⟨r0, 0, none⟩ = false ∧ w.frozen? ⟨r0, 1, none⟩ = false ∧ w.frozen? ⟨r1, 0, none⟩ = false ∧ w.frozen? ⟨r2, 0, none⟩ = false := by
  refine ⟨?_, ?_, ?_, ?_, free_of_heap h.h0 0, free_of_heap h.h0 1, free_of_heap h.h1 0, free_of_heap h.h2 0⟩
  · rw [cell_of_heap h.h0]; rfl
  · rw [cell_of_heap h.h0]; rfl
  · rw [cell_of_heap h.h1]; rfl
  · rw [cell_of_heap h.h2]; rfl
/-- All three results are stored. -/
def put3 (w : World) (r0 r1 r2 : Nat) (vt vf : Value) (l e : Int) : World := (((w.setCell ⟨r0, 0, none⟩ vt).setCell ⟨r0, 1, none⟩ vf).setCell ⟨r1, 0, none⟩ (.int .i64 l)).setCell ⟨r2, 0, none⟩ (.int .i64 e)
theorem Res3.put {w : World} {r0 r1 r2 : Nat} {vt vf : Value} {l e : Int} (h : Res3 w r0 r1 r2 vt vf l e) (vt' vf' : Value) (l' e' : Int) : Res3 (put3 w r0 r1 r2 vt' vf' l' e') r0 r1 r2 vt' vf' l' e' := by
  obtain ⟨n1, n2, n3⟩ := h.ne
  unfold put3
  have a1 := heap_setCell_same w r0 0 _ _ vt' h.h0
  have a2 := heap_setCell_same _ r0 1 _ _ vf' a1
  have b1 : ((w.setCell ⟨r0, 0, none⟩ vt').setCell ⟨r0, 1, none⟩ vf').heap[r1]? = _ := heap_setCell (heap_setCell h.h1 n1 vt') n1 vf'
  have b2 := heap_setCell_same _ r1 0 _ _ (.int .i64 l') b1
  have c1 : (((w.setCell ⟨r0, 0, none⟩ vt').setCell ⟨r0, 1, none⟩ vf').setCell ⟨r1, 0, none⟩ (.int .i64 l')).heap[r2]? = _ := heap_setCell (heap_setCell (heap_setCell h.h2 n2 vt') n2 vf') n3 (.int .i64 l')
  have c2 := heap_setCell_same _ r2 0 _ _ (.int .i64 e') c1
  exact ⟨heap_setCell (heap_setCell a2 (Ne.symm n1) _) (Ne.symm n2) _, heap_setCell b2 (Ne.symm n3) _, c2⟩
theorem put3_below {w0 w : World} {B r0 r1 r2 : Nat} {vt vf : Value} {l e : Int} (h : Below B w0 w) (h0 : B ≤ r0) (h1 : B ≤ r1) (h2 : B ≤ r2) : Below B w0 (put3 w r0 r1 r2 vt vf l e) :=
  (((h.setCell h0 _).setCell h0 _).setCell h1 _).setCell h2 _
theorem wpS_seq_k {P : Program} {Q : Exit → Act → List Frame → World → Prop} {a : Act} {cs : List Frame} {w : World} {x y : Code} (h : ∀ K : Exit → Act → List Frame → World → Prop, (∀ a cs w, y.wpS P Q a cs w → K .normal a cs w) → x.wpS P K a cs w) : (Code.seq x y).wpS P Q a cs w :=
  wpS_seq (h _ fun _ _ _ h => h)
section
variable {P : Program} {ops : Array Oper} {Q : Exit → Act → List Frame → World → Prop} {a : Act} {cs : List Frame} {w w' : World} {i : Nat} {rest : List Nat} {o : Oper} {v : Value}
theorem opsS_rec {cs' : List Frame} (ho : ops[i]? = some o) (hg : o.guard = none) (hr : (execOp a.eval o).run P w = .ok .recover w') (hc : recoverD cs = some (v, cs')) (h : wpOpsS P ops Q rest (a.put o.dst v) cs' w') : wpOpsS P ops Q (i :: rest) a cs w := by
  have hw : Region.wanted o (yielded ops a.tmps) = true := by simp [Region.wanted, hg]
  simp only [wpOpsS, ho, hw, if_true, hr, hc]
  exact h
theorem opsS_none (ho : ops[i]? = some o) (hg : o.guard = none) (hr : (execOp a.eval o).run P w = .ok .recover w') (hc : recoverD cs = none) (h : wpOpsS P ops Q rest (a.put o.dst .nilIface) cs w') : wpOpsS P ops Q (i :: rest) a cs w := by
  have hw : Region.wanted o (yielded ops a.tmps) = true := by simp [Region.wanted, hg]
  simp only [wpOpsS, ho, hw, if_true, hr, hc]
  exact h
theorem opsS_val (ho : ops[i]? = some o) (hg : o.guard = none) (hr : (execOp a.eval o).run P w = .ok (.value v) w') (h : wpOpsS P ops Q rest (a.put o.dst v) cs w') : wpOpsS P ops Q (i :: rest) a cs w := by
  have hw : Region.wanted o (yielded ops a.tmps) = true := by simp [Region.wanted, hg]
  simp only [wpOpsS, ho, hw, if_true, hr]
  exact h
theorem opsS_skip (ho : ops[i]? = some o) (hg : o.guard = none) (hr : (execOp a.eval o).run P w = .ok .skip w') (h : wpOpsS P ops Q rest (a.put o.dst undef) cs w') : wpOpsS P ops Q (i :: rest) a cs w := by
  have hw : Region.wanted o (yielded ops a.tmps) = true := by simp [Region.wanted, hg]
  simp only [wpOpsS, ho, hw, if_true, hr]
  exact h
theorem opsS_nil {a' : Act} (ha : a = a') (h : Q .normal a' cs w) : wpOpsS P ops Q [] a cs w := by
  subst ha; exact h
end
attribute [local irreducible] wpOpsS
theorem tmps_catch (r0 r1 r2 : Nat) : (#[ptr r0, ptr r1, ptr r2] ++ Array.replicate (Tryz.f23.ntmps - 3) undef : Array Value) = #[ptr r0, ptr r1, ptr r2, undef, undef, undef, undef, undef, undef, undef, undef, undef, undef, undef, undef, undef] := by
  rw [Tryz.ntmps23]; simp [Array.replicate_succ']
@[go_sem] theorem as_fault (v : Value) (w : World) : (Instr.typeAssert (.iface 53 v) 20 53 true).run Tryz.prog w = .ok (.tuple #[v, .bool true]) w := by kernel_rfl
@[go_sem] theorem as_nil (w : World) : (Instr.typeAssert .nilIface 20 53 true).run Tryz.prog w = .ok (.tuple #[.agg #[.int .i64 0, .int .i64 0], .bool false]) w := by kernel_rfl
set_option maxRecDepth 20000 in
set_option maxHeartbeats 2000000 in
theorem catch_panicking {w0 w : World} {B r0 r1 r2 line : Nat} {e : Int} {vt vf : Value} {l0 e0 : Int} (h : Res3 w r0 r1 r2 vt vf l0 e0) (hb : Below B w0 w) (hB : B ≤ w.heap.size) (h0 : B ≤ r0) (h1 : B ≤ r1) (h2 : B ≤ r2) :
    CallsD Tryz.prog 23 #[ptr r0, ptr r1, ptr r2] (.panicking (faultP line e)) w fun en u' w' => en = .returned (.tuple #[]) ∧ u' = .panicking (caughtP line e) ∧ Below B w0 w' ∧ Res3 w' r0 r1 r2 (.slice none 0 0) (.slice none 0 0) line e := by
  refine callsD_of_wpS Tryz.func23 rfl fun c₀ cs hu => ?_
  refine wpS_seq_k fun K hK => ?_
  apply wpS_region
  unfold faultP at hu
  have hrange : List.range 8 = [0, 1, 2, 3, 4, 5, 6, 7] := by decide
  simp only [List.size_toArray, List.length_cons, List.length_nil, Nat.zero_add, Nat.reduceAdd, hrange, tmps_catch r0 r1 r2]
  apply opsS_rec (o := { dst := some 6, op := Op.call { callee := Callee.builtin Builtin.recover, args := #[], argTypes := #[] }, type := 20, pos := "plan.go:40", after := #[], guard := none }) (v := .iface 53 (.agg #[.int .i64 line, .int .i64 e])) (cs' := { c₀ with mode := .panicking (caughtP line e) } :: cs) (w' := w)
  case ho => kernel_rfl
  case hg => simp only
  case hr => simp [go_sem, Act.put, Act.eval]
  case hc => simp [recoverD, hu, caughtP]
  apply opsS_val (o := { dst := some 7, op := Op.typeAssert (Operand.tmp 6) 20 53 true, type := 54, pos := "plan.go:40", after := #[{ on := 0, ground := Ground.data }], guard := none }) (v := .tuple #[.agg #[.int .i64 line, .int .i64 e], .bool true]) (w' := w)
  case ho => kernel_rfl
  case hg => simp only
  case hr => simp [go_sem, Act.put, Act.eval]
  apply opsS_val (o := { dst := some 5, op := Op.move (Operand.tmp 7), type := 54, pos := "plan.go:40", after := #[{ on := 1, ground := Ground.data }], guard := none }) (v := .tuple #[.agg #[.int .i64 line, .int .i64 e], .bool true]) (w' := w)
  case ho => kernel_rfl
  case hg => simp only
  case hr => simp [go_sem, Act.put, Act.eval]
  apply opsS_val (o := { dst := some 8, op := Op.extract (Operand.tmp 5) 0, type := 53, pos := "plan.go:40", after := #[{ on := 2, ground := Ground.data }], guard := none }) (v := .agg #[.int .i64 line, .int .i64 e]) (w' := w)
  case ho => kernel_rfl
  case hg => simp only
  case hr => simp [go_sem, Act.put, Act.eval]
  apply opsS_val (o := { dst := some 9, op := Op.extract (Operand.tmp 5) 1, type := 4, pos := "plan.go:40", after := #[{ on := 2, ground := Ground.data }, { on := 6, ground := Ground.gcOnly Departure.lateStores }], guard := none }) (v := .bool true) (w' := w)
  case ho => kernel_rfl
  case hg => simp only
  case hr => simp [go_sem, Act.put, Act.eval]
  apply opsS_val (o := { dst := some 3, op := Op.alloc 53, type := 0, pos := "plan.go:40", after := #[], guard := none }) (v := ptr w.heap.size) (w' := w.alloc (.cells #[.int .i64 0, .int .i64 0] 53))
  case ho => kernel_rfl
  case hg => simp only
  case hr => simp [go_sem, Act.put, Act.eval]
  apply opsS_skip (o := { dst := none, op := Op.store 53 (Operand.tmp 3) (Operand.tmp 8), type := 0, pos := "plan.go:40", after := #[{ on := 5, ground := Ground.data }, { on := 3, ground := Ground.data }, { on := 0, ground := Ground.chain }, { on := 0, ground := Ground.phase }, { on := 1, ground := Ground.phase }, { on := 2, ground := Ground.phase }, { on := 3, ground := Ground.phase }, { on := 4, ground := Ground.textOnly Departure.lateStores }, { on := 5, ground := Ground.phase }], guard := none }) (w' := (((w.alloc (.cells #[.int .i64 0, .int .i64 0] 53)).setCell ⟨w.heap.size, 0, none⟩ (.int .i64 line)).setCell ⟨w.heap.size, 1, none⟩ (.int .i64 e)))
  case ho => kernel_rfl
  case hg => simp only
  case hr => simp [go_sem, Act.put, Act.eval]
  apply opsS_val (o := { dst := some 4, op := Op.assign (Operand.tmp 9), type := 4, pos := "plan.go:40", after := #[{ on := 4, ground := Ground.data }, { on := 6, ground := Ground.chain }, { on := 0, ground := Ground.phase }, { on := 1, ground := Ground.phase }, { on := 2, ground := Ground.phase }, { on := 3, ground := Ground.phase }, { on := 4, ground := Ground.phase }, { on := 5, ground := Ground.phase }, { on := 6, ground := Ground.phase }], guard := none }) (v := .bool true) (w' := (((w.alloc (.cells #[.int .i64 0, .int .i64 0] 53)).setCell ⟨w.heap.size, 0, none⟩ (.int .i64 line)).setCell ⟨w.heap.size, 1, none⟩ (.int .i64 e)))
  case ho => kernel_rfl
  case hg => simp only
  case hr => simp [go_sem, Act.put, Act.eval]
  refine opsS_nil (a' := { tmps := #[ptr r0, ptr r1, ptr r2, ptr w.heap.size, .bool true, .tuple #[.agg #[.int .i64 line, .int .i64 e], .bool true], .iface 53 (.agg #[.int .i64 line, .int .i64 e]), .tuple #[.agg #[.int .i64 line, .int .i64 e], .bool true], .agg #[.int .i64 line, .int .i64 e], .bool true, undef, undef, undef, undef, undef, undef], defers := [] }) (by simp [Act.put]) ?_
  refine hK _ _ _ ?_
  refine wpS_seq_k fun K2 hK2 => ?_
  apply wpS_region
  simp only [List.size_toArray, List.length_cons, List.length_nil, Nat.zero_add, show List.range 1 = [0] from rfl]
  apply opsS_val (o := { dst := some 10, op := Op.move (Operand.tmp 4), type := 4, pos := "plan.go:40", after := #[], guard := none }) (v := .bool true) (w' := (((w.alloc (.cells #[.int .i64 0, .int .i64 0] 53)).setCell ⟨w.heap.size, 0, none⟩ (.int .i64 line)).setCell ⟨w.heap.size, 1, none⟩ (.int .i64 e)))
  case ho => kernel_rfl
  case hg => simp only
  case hr => simp [go_sem, Act.put, Act.eval]
  refine opsS_nil (a' := { tmps := #[ptr r0, ptr r1, ptr r2, ptr w.heap.size, .bool true, .tuple #[.agg #[.int .i64 line, .int .i64 e], .bool true], .iface 53 (.agg #[.int .i64 line, .int .i64 e]), .tuple #[.agg #[.int .i64 line, .int .i64 e], .bool true], .agg #[.int .i64 line, .int .i64 e], .bool true, .bool true, undef, undef, undef, undef, undef], defers := [] }) (by simp [Act.put]) ?_
  refine hK2 _ _ _ ?_
  refine wpS_cond (t := true) (by simp [Act.eval]) ?_
  obtain ⟨w1, hw1⟩ : ∃ x, x = (((w.alloc (.cells #[.int .i64 0, .int .i64 0] 53)).setCell ⟨w.heap.size, 0, none⟩ (.int .i64 line)).setCell ⟨w.heap.size, 1, none⟩ (.int .i64 e)) := ⟨_, rfl⟩
  have hn : w1.heap[w.heap.size]? = some (.cells #[.int .i64 line, .int .i64 e] 53 (0, 0)) := by
    rw [hw1]
    exact heap_setCell_same _ _ _ _ _ _ (heap_setCell_same _ _ _ _ _ _ (heap_alloc_new w _))
  have hbn : Below w.heap.size w w1 := by
    rw [hw1]
    exact (((Below.refl _ _).alloc (Nat.le_refl _) _).setCell (Nat.le_refl _) _).setCell (Nat.le_refl _) _
  have hg := h.grow hbn
  have hbw := hb.trans (hbn.mono hB)
  rw [← hw1]
  clear hw1
  have k0 : w1.cell? ⟨w.heap.size, 0, none⟩ = some (.int .i64 line) := by rw [cell_of_heap hn]; rfl
  have k1 : w1.cell? ⟨w.heap.size, 1, none⟩ = some (.int .i64 e) := by rw [cell_of_heap hn]; rfl
  obtain ⟨c0, c1, c2, c3, f0, f1, f2, f3⟩ := hg.cells
  obtain ⟨n1, n2, n3⟩ := h.ne
  have n4 : ¬ r0 = w.heap.size := Nat.ne_of_lt (lt_of_heap h.h0)
  have n5 : ¬ r1 = w.heap.size := Nat.ne_of_lt (lt_of_heap h.h1)
  have n6 : ¬ r2 = w.heap.size := Nat.ne_of_lt (lt_of_heap h.h2)
  have m1 := Ne.symm n1
  have m2 := Ne.symm n2
  have m3 := Ne.symm n3
  have m4 := Ne.symm n4
  have m5 := Ne.symm n5
  have m6 := Ne.symm n6
  simp only [if_true]
  refine wpS_of_wp ?_
  go_region
  simp [bodyPostS, results, Tryz.results23]
  exact ⟨(((((hbw.setCell h0 _).setCell h0 _).setCell h1 _).setCell h2 _).drew), (hg.put _ _ _ _).grow (Below.refl _ _).drew⟩
set_option maxRecDepth 20000 in
set_option maxHeartbeats 2000000 in
theorem catch_idle {w0 w : World} {B r0 r1 r2 : Nat} {vt vf : Value} {l e : Int} (h : Res3 w r0 r1 r2 vt vf l e) (hb : Below B w0 w) (hB : B ≤ w.heap.size) :
    CallsD Tryz.prog 23 #[ptr r0, ptr r1, ptr r2] .returning w fun en u' w' => en = .returned (.tuple #[]) ∧ u' = .returning ∧ Below B w0 w' ∧ Res3 w' r0 r1 r2 vt vf l e := by
  refine callsD_of_wpS Tryz.func23 rfl fun c₀ cs hu => ?_
  refine wpS_seq_k fun K hK => ?_
  apply wpS_region
  have hrange : List.range 8 = [0, 1, 2, 3, 4, 5, 6, 7] := by decide
  simp only [List.size_toArray, List.length_cons, List.length_nil, Nat.zero_add, Nat.reduceAdd, hrange, tmps_catch r0 r1 r2]
  apply opsS_none (o := { dst := some 6, op := Op.call { callee := Callee.builtin Builtin.recover, args := #[], argTypes := #[] }, type := 20, pos := "plan.go:40", after := #[], guard := none }) (w' := w)
  case ho => kernel_rfl
  case hg => simp only
  case hr => simp [go_sem, Act.put, Act.eval]
  case hc => simp [recoverD, hu]
  apply opsS_val (o := { dst := some 7, op := Op.typeAssert (Operand.tmp 6) 20 53 true, type := 54, pos := "plan.go:40", after := #[{ on := 0, ground := Ground.data }], guard := none }) (v := .tuple #[.agg #[.int .i64 0, .int .i64 0], .bool false]) (w' := w)
  case ho => kernel_rfl
  case hg => simp only
  case hr => simp [go_sem, Act.put, Act.eval]
  apply opsS_val (o := { dst := some 5, op := Op.move (Operand.tmp 7), type := 54, pos := "plan.go:40", after := #[{ on := 1, ground := Ground.data }], guard := none }) (v := .tuple #[.agg #[.int .i64 0, .int .i64 0], .bool false]) (w' := w)
  case ho => kernel_rfl
  case hg => simp only
  case hr => simp [go_sem, Act.put, Act.eval]
  apply opsS_val (o := { dst := some 8, op := Op.extract (Operand.tmp 5) 0, type := 53, pos := "plan.go:40", after := #[{ on := 2, ground := Ground.data }], guard := none }) (v := .agg #[.int .i64 0, .int .i64 0]) (w' := w)
  case ho => kernel_rfl
  case hg => simp only
  case hr => simp [go_sem, Act.put, Act.eval]
  apply opsS_val (o := { dst := some 9, op := Op.extract (Operand.tmp 5) 1, type := 4, pos := "plan.go:40", after := #[{ on := 2, ground := Ground.data }, { on := 6, ground := Ground.gcOnly Departure.lateStores }], guard := none }) (v := .bool false) (w' := w)
  case ho => kernel_rfl
  case hg => simp only
  case hr => simp [go_sem, Act.put, Act.eval]
  apply opsS_val (o := { dst := some 3, op := Op.alloc 53, type := 0, pos := "plan.go:40", after := #[], guard := none }) (v := ptr w.heap.size) (w' := w.alloc (.cells #[.int .i64 0, .int .i64 0] 53))
  case ho => kernel_rfl
  case hg => simp only
  case hr => simp [go_sem, Act.put, Act.eval]
  apply opsS_skip (o := { dst := none, op := Op.store 53 (Operand.tmp 3) (Operand.tmp 8), type := 0, pos := "plan.go:40", after := #[{ on := 5, ground := Ground.data }, { on := 3, ground := Ground.data }, { on := 0, ground := Ground.chain }, { on := 0, ground := Ground.phase }, { on := 1, ground := Ground.phase }, { on := 2, ground := Ground.phase }, { on := 3, ground := Ground.phase }, { on := 4, ground := Ground.textOnly Departure.lateStores }, { on := 5, ground := Ground.phase }], guard := none }) (w' := (((w.alloc (.cells #[.int .i64 0, .int .i64 0] 53)).setCell ⟨w.heap.size, 0, none⟩ (.int .i64 0)).setCell ⟨w.heap.size, 1, none⟩ (.int .i64 0)))
  case ho => kernel_rfl
  case hg => simp only
  case hr => simp [go_sem, Act.put, Act.eval]
  apply opsS_val (o := { dst := some 4, op := Op.assign (Operand.tmp 9), type := 4, pos := "plan.go:40", after := #[{ on := 4, ground := Ground.data }, { on := 6, ground := Ground.chain }, { on := 0, ground := Ground.phase }, { on := 1, ground := Ground.phase }, { on := 2, ground := Ground.phase }, { on := 3, ground := Ground.phase }, { on := 4, ground := Ground.phase }, { on := 5, ground := Ground.phase }, { on := 6, ground := Ground.phase }], guard := none }) (v := .bool false) (w' := (((w.alloc (.cells #[.int .i64 0, .int .i64 0] 53)).setCell ⟨w.heap.size, 0, none⟩ (.int .i64 0)).setCell ⟨w.heap.size, 1, none⟩ (.int .i64 0)))
  case ho => kernel_rfl
  case hg => simp only
  case hr => simp [go_sem, Act.put, Act.eval]
  refine opsS_nil (a' := { tmps := #[ptr r0, ptr r1, ptr r2, ptr w.heap.size, .bool false, .tuple #[.agg #[.int .i64 0, .int .i64 0], .bool false], .nilIface, .tuple #[.agg #[.int .i64 0, .int .i64 0], .bool false], .agg #[.int .i64 0, .int .i64 0], .bool false, undef, undef, undef, undef, undef, undef], defers := [] }) (by simp [Act.put]) ?_
  refine hK _ _ _ ?_
  refine wpS_seq_k fun K2 hK2 => ?_
  apply wpS_region
  simp only [List.size_toArray, List.length_cons, List.length_nil, Nat.zero_add, show List.range 1 = [0] from rfl]
  apply opsS_val (o := { dst := some 10, op := Op.move (Operand.tmp 4), type := 4, pos := "plan.go:40", after := #[], guard := none }) (v := .bool false) (w' := (((w.alloc (.cells #[.int .i64 0, .int .i64 0] 53)).setCell ⟨w.heap.size, 0, none⟩ (.int .i64 0)).setCell ⟨w.heap.size, 1, none⟩ (.int .i64 0)))
  case ho => kernel_rfl
  case hg => simp only
  case hr => simp [go_sem, Act.put, Act.eval]
  refine opsS_nil (a' := { tmps := #[ptr r0, ptr r1, ptr r2, ptr w.heap.size, .bool false, .tuple #[.agg #[.int .i64 0, .int .i64 0], .bool false], .nilIface, .tuple #[.agg #[.int .i64 0, .int .i64 0], .bool false], .agg #[.int .i64 0, .int .i64 0], .bool false, .bool false, undef, undef, undef, undef, undef], defers := [] }) (by simp [Act.put]) ?_
  refine hK2 _ _ _ ?_
  refine wpS_cond (t := false) (by simp [Act.eval]) ?_
  have hbn : Below w.heap.size w (((w.alloc (.cells #[.int .i64 0, .int .i64 0] 53)).setCell ⟨w.heap.size, 0, none⟩ (.int .i64 0)).setCell ⟨w.heap.size, 1, none⟩ (.int .i64 0)) :=
    (((Below.refl _ _).alloc (Nat.le_refl _) _).setCell (Nat.le_refl _) _).setCell (Nat.le_refl _) _
  have hg := h.grow hbn
  have hbw := hb.trans (hbn.mono hB)
  simp only [Bool.false_eq_true, if_false]
  refine wpS_of_wp (wp_skip ?_)
  cases c₀
  subst hu
  simp [bodyPostS, results, Tryz.results23]
  exact ⟨hbw, hg⟩
end Go.Proofs.YtogcickcodlepaaGreatDoor.Pl
/-
  The program's tests on a flow's bound and counts. Conditions: as the statements say.
-/
namespace Go.Proofs.YtogcickcodlepaaGreatDoor.Pl
open Go.RowKit Go.Proofs.YtogcickcodlepaaGreatDoor.Ex

set_option maxHeartbeats 1000000 in
theorem areCounts_any {w : World} {a : Option Addr} {n cap : Nat} {L : List Top} (h : TopsAt w (.slice a n cap) L) (q : FE) {R : Bool} (hR : areCounts L q.f = R) :
    Calls Tryz.prog 43 #[.slice a n cap, flwV q] w fun e w' => e = .returned (.bool R) ∧ Below w.heap.size w w' := by
  have hb0 : Below w.heap.size w (w.alloc (.cells (flwC q).toArray 43)) := (Below.refl _ _).alloc (Nat.le_refl _) _
  have HB := Lib.hid hb0
  have HT := Lib.hid (TopsAt.grow h hb0)
  have HX0 := Lib.hid (Box.new w q)
  unfold areCounts at hR
  obtain ⟨x, hx⟩ : ∃ x, partsOf L q.f.frm = x := ⟨_, rfl⟩
  rw [hx] at hR
  have HX := Lib.hid hx
  have HR := Lib.hid hR
  clear h hb0 hx hR
  by_cases h8 : x < 8
  · go_enter Tryz.func43, Tryz.ntmps43
    go_wp2_with fail
    refine Calls.mono (partsOf_at HT.out HX.out) ?_
    rintro e w1 ⟨rfl, hb1⟩
    have HB1 := Lib.hid (HB.out.trans (hb1.mono HB.out.size))
    obtain ⟨d0, d1, d2, d3, d4, d5, -⟩ := (HX0.out.grow hb1).cells
    clear hb1
    go_wp2
    all_goals go_ret
    all_goals exact ⟨ret_bool (by rw [← HR.out, Bool.eq_iff_iff]; simp [*]; try omega), HB1.out⟩
  · go_enter Tryz.func43, Tryz.ntmps43
    go_wp2_with fail
    refine Calls.mono (partsOf_at HT.out HX.out) ?_
    rintro e w1 ⟨rfl, hb1⟩
    have HB1 := Lib.hid (HB.out.trans (hb1.mono HB.out.size))
    obtain ⟨d0, d1, d2, d3, d4, d5, -⟩ := (HX0.out.grow hb1).cells
    clear hb1
    go_wp2
    all_goals go_ret
    all_goals exact ⟨ret_bool (by rw [← HR.out, Bool.eq_iff_iff]; simp [*]; try omega), HB1.out⟩
set_option maxHeartbeats 1000000 in
theorem isBound_any {w : World} {a : Option Addr} {n cap : Nat} {es : List FE} (h : FlwsAt w (.slice a n cap) es) (q : FE) {R : Bool} (hR : isBound (es.map FE.f) q.f = R) :
    Calls Tryz.prog 42 #[.slice a n cap, flwV q] w fun e w' => e = .returned (.bool R) ∧ Below w.heap.size w w' := by
  have hb0 : Below w.heap.size w (w.alloc (.cells (flwC q).toArray 43)) := (Below.refl _ _).alloc (Nat.le_refl _) _
  have HB := Lib.hid hb0
  have HT := Lib.hid (FlwsAt.grow h hb0)
  unfold isBound at hR
  obtain ⟨x, hx⟩ : ∃ x, writes (es.map FE.f) q.f.frm = x := ⟨_, rfl⟩
  rw [hx] at hR
  have HX := Lib.hid hx
  have HR := Lib.hid hR
  clear h hb0 hx hR
  go_enter Tryz.func42, Tryz.ntmps42
  go_wp2_with (go_at_call 41; refine (writes_any HT.out ⟨q.f.frm.toArray⟩ HX.out).mono ?_; rintro e w1 ⟨rfl, hb1⟩; have HB1 := Lib.hid (HB.out.trans (hb1.mono HB.out.size)); clear hb1)
  all_goals go_ret
  all_goals exact ⟨ret_bool (by rw [← HR.out, Bool.eq_iff_iff]; first | (simp [*]; done) | (simp [*]; intros; omega)), by first | exact HB1.out | exact HB.out | exact (Below.refl _ _).alloc (Nat.le_refl _) _⟩
end Go.Proofs.YtogcickcodlepaaGreatDoor.Pl
/-
  The program's test on a topic. Conditions: as the statements say.
-/
namespace Go.Proofs.YtogcickcodlepaaGreatDoor.Pl
open Go.RowKit Go.Proofs.YtogcickcodlepaaGreatDoor.Ex

theorem top_kept {W X : World} {b : Nat} {t : Top} (hb : b < W.heap.size) (h0 : W.cell? ⟨b, 0, none⟩ = some (sv t.name)) (h1 : W.cell? ⟨b, 1, none⟩ = some (.int .i64 t.parts)) (h : Below W.heap.size W X) :
    X.cell? ⟨b, 0, none⟩ = some (sv t.name) ∧ X.cell? ⟨b, 1, none⟩ = some (.int .i64 t.parts) ∧ Hid (Below W.heap.size W X) :=
  ⟨by rw [h.cell (p := ⟨b, 0, none⟩) hb]; exact h0, by rw [h.cell (p := ⟨b, 1, none⟩) hb]; exact h1, Lib.hid h⟩
set_option maxRecDepth 20000 in
set_option maxHeartbeats 2000000 in
theorem checkTopic_any {w : World} {a : Option Addr} {n cap i : Nat} {L : List Top} (h : TopsAt w (.slice a n cap) L) (hi : i < L.length) {R : Int} (hR : topErr (L.take i) L[i] = R) :
    Calls Tryz.prog 17 #[.slice a n cap, .int .i64 i] w fun e w' => e = .returned (.int .i64 R) ∧ Below w.heap.size w w' := by
  obtain ⟨hn, hcap, hmax, hcm⟩ := h.len
  obtain ⟨b, o, rfl, hbl, c0, c1⟩ := TopsAt.cells h hi
  unfold maxLen at hmax hcm
  have hin : i < n := by omega
  obtain ⟨t, ht⟩ : ∃ t, L[i] = t := ⟨_, rfl⟩
  rw [ht] at c0 c1 hR
  have hb0 : Below w.heap.size w (w.alloc (.cells #[sv t.name, .int .i64 t.parts] 47)) := (Below.refl _ _).alloc (Nat.le_refl _) _
  have HB := Lib.hid hb0
  have HT := Lib.hid (Lst.take (h.grow hb0) (Nat.le_of_lt hi))
  obtain ⟨x, hx⟩ : ∃ x, isName t.name = x := ⟨_, rfl⟩
  obtain ⟨y, hy⟩ : ∃ y, partsOf (L.take i) t.name = y := ⟨_, rfl⟩
  unfold topErr at hR
  rw [hx, hy] at hR
  have HX := Lib.hid hx
  have HY := Lib.hid hy
  clear h hb0 hx hy ht hn
  cases x with
  | false =>
    rw [if_pos rfl] at hR
    have HR := Lib.hid hR
    clear hR
    go_enter Tryz.func17, Tryz.ntmps17
    go_wp2_with (go_at_call 36; refine (isName_at _ _ HX.out).mono ?_; rintro e w' ⟨rfl, rfl⟩)
    go_ret
    exact ⟨ret_int HR.out, HB.out⟩
  | true =>
    rw [if_neg (by simp)] at hR
    have hc0 : (w.alloc (.cells #[sv t.name, .int .i64 t.parts] 47)).cell? ⟨w.heap.size, 0, none⟩ = some (sv t.name) := by rw [cell_of_heap (heap_alloc_new w _)]; rfl
    have hc1 : (w.alloc (.cells #[sv t.name, .int .i64 t.parts] 47)).cell? ⟨w.heap.size, 1, none⟩ = some (.int .i64 t.parts) := by rw [cell_of_heap (heap_alloc_new w _)]; rfl
    have hbl0 : w.heap.size < (w.alloc (.cells #[sv t.name, .int .i64 t.parts] 47)).heap.size := by simp
    have hi1 : (0 : Int) ≤ (i : Int) := by omega
    have hi2 : (i : Int) ≤ (cap : Int) := by omega
    have hi3 : i ≤ cap := by omega
    by_cases hy0 : 0 < y
    · rw [if_pos hy0] at hR
      have HR := Lib.hid hR
      clear hR
      go_enter Tryz.func17, Tryz.ntmps17
      go_wp2_with (go_at_call 36; refine (isName_at _ _ HX.out).mono ?_; rintro e w' ⟨rfl, rfl⟩)
      generalize hW : w.alloc (.cells #[sv t.name, .int .i64 t.parts] 47) = W at *
      clear hW
      go_region_held3 (fun X => X.cell? ⟨w.heap.size, 0, none⟩ = some (sv t.name) ∧ X.cell? ⟨w.heap.size, 1, none⟩ = some (.int .i64 t.parts) ∧ Hid (Below W.heap.size W X))
        (first | exact ⟨hc0, hc1, Lib.hid (Below.refl _ _).drew⟩ | exact hS3)
        (first
          | (go_at_call 37; have hh := (‹_ ∧ _ ∧ Hid (Below W.heap.size W _)›).2.2; refine (partsOf_at (Lst.grow HT.out hh.out) HY.out).mono ?_; rintro e w3 ⟨rfl, hb3⟩; have hS3 := top_kept hbl0 hc0 hc1 (hh.out.trans (hb3.mono hh.out.size)); clear hb3 hh))
      all_goals go_wp2
      all_goals go_ret
      all_goals exact ⟨ret_int HR.out, HB.out.trans ((‹_ ∧ _ ∧ Hid (Below W.heap.size W _)›).2.2.out.mono HB.out.size)⟩
    · rw [if_neg hy0] at hR
      have HR := Lib.hid hR
      clear hR
      go_enter Tryz.func17, Tryz.ntmps17
      go_wp2_with (go_at_call 36; refine (isName_at _ _ HX.out).mono ?_; rintro e w' ⟨rfl, rfl⟩)
      generalize hW : w.alloc (.cells #[sv t.name, .int .i64 t.parts] 47) = W at *
      clear hW
      go_region_held3 (fun X => X.cell? ⟨w.heap.size, 0, none⟩ = some (sv t.name) ∧ X.cell? ⟨w.heap.size, 1, none⟩ = some (.int .i64 t.parts) ∧ Hid (Below W.heap.size W X))
        (first | exact ⟨hc0, hc1, Lib.hid (Below.refl _ _).drew⟩ | exact hS3)
        (first
          | (go_at_call 37; have hh := (‹_ ∧ _ ∧ Hid (Below W.heap.size W _)›).2.2; refine (partsOf_at (Lst.grow HT.out hh.out) HY.out).mono ?_; rintro e w3 ⟨rfl, hb3⟩; have hS3 := top_kept hbl0 hc0 hc1 (hh.out.trans (hb3.mono hh.out.size)); clear hb3 hh))
      all_goals obtain ⟨g0, g1, hh⟩ := ‹_ ∧ _ ∧ Hid (Below W.heap.size W _)›
      all_goals go_wp2
      all_goals go_ret
      all_goals exact ⟨ret_int (by rw [← HR.out]; simp [*]), HB.out.trans (hh.out.mono HB.out.size)⟩
end Go.Proofs.YtogcickcodlepaaGreatDoor.Pl
