/-
  Texts joined into one file. Each part says in its own head what is proved there, and under which conditions.
-/
import Derived.Test.YtogcickcodlepaaGreatDoorJP8
import Derived.Test.YtogcickcodlepaaGreatDoorJP9
import Derived.Test.YtogcickcodlepaaGreatDoorJR3
import Derived.Lib.ItoaMem
set_option linter.unusedVariables false
set_option linter.unusedSimpArgs false
/-
  The document's lines of steps, its names of aggregations, its numbers as texts. Conditions: the steps lie in memory, are eight at most and without an error.
-/
namespace Go.Proofs.YtogcickcodlepaaGreatDoor.Pl
open Go.RowKit Go.Proofs.YtogcickcodlepaaGreatDoor.Ex

theorem dec_at {i : Int} {w : World} {r : Bs} (h0 : 0 ≤ i) (h1 : i < 1000000000000000000) (hr : Lib.itoa i = r) : Calls Tryz.prog 33 #[.int .i64 i] w fun e w' => e = .returned (sv r) ∧ Below w.heap.size w w' := by
  obtain ⟨n, rfl⟩ : ∃ n : Nat, i = n := ⟨i.toNat, by omega⟩
  rw [Lib.itoa_nonneg] at hr
  subst hr
  exact rdec_any n (by omega) w
theorem aggName_at (a : Int) (w : World) {r : Bs} (hr : aggWord a = r) : Calls Tryz.prog 35 #[.int .i64 a] w fun e w' => e = .returned (sv r) ∧ w = w' := by
  subst hr
  by_cases h1 : a = 1
  · subst h1
    go_enter Tryz.func35, Tryz.ntmps35
    go_wp2
    go_ret
    exact ⟨rfl, rfl⟩
  have e1 := ibne h1
  by_cases h2 : a = 2
  · subst h2
    go_enter Tryz.func35, Tryz.ntmps35
    go_wp2
    go_ret
    exact ⟨rfl, rfl⟩
  have e2 := ibne h2
  by_cases h3 : a = 3
  · subst h3
    go_enter Tryz.func35, Tryz.ntmps35
    go_wp2
    go_ret
    exact ⟨rfl, rfl⟩
  have e3 := ibne h3
  have hr : sv (aggWord a) = .string ⟨#[109, 97, 120]⟩ := by unfold aggWord; rw [if_neg h1, if_neg h2, if_neg h3]; rfl
  go_enter Tryz.func35, Tryz.ntmps35
  go_wp2
  go_ret
  exact ⟨by rw [hr]; rfl, rfl⟩
/-- Steps without an error. -/
def OkS (s : Stp) : Prop := (s.kind = 1 ∨ s.kind = 2 ∨ s.kind = 3) ∧ s.text.length ≤ 200 ∧ 0 ≤ s.n ∧ s.n ≤ 16
set_option maxRecDepth 20000 in
set_option maxHeartbeats 1000000 in
theorem rsteps_at {w : World} {u : Value} {L : List Stp} (hL : StpsAt w u L) (hk : ∀ s ∈ L, OkS s) {r : Bs} (hr : stepsText L = r) (hs : r.length ≤ 1099511627776) :
    Calls Tryz.prog 34 #[u] w fun e w' => e = .returned (sv r) ∧ Below w.heap.size w w' := by
  obtain ⟨a, c, rfl⟩ := hL.1.val
  obtain ⟨n, hn⟩ : ∃ n, L.length = n := ⟨_, rfl⟩
  obtain ⟨-, -, k2, -⟩ := hL.1.len
  rw [hn] at hL k2 ⊢
  have q2 : n ≤ 9223372036854775807 := by unfold maxLen at k2; omega
  have HN := Lib.hid hn
  have HS := Lib.hid hs
  have HL := Lib.hid hL
  have HK := Lib.hid hk
  have H0 : Hid ([] ++ stepsText (L.drop 0) = r) := Lib.hid (by simpa using hr)
  clear hn hs hL hk hr k2
  go_enter Tryz.func34, Tryz.ntmps34
  go_wp2
  go_loopw [3, 4] (fun v z wr => ∃ (k : Nat) (acc : Bs), k ≤ n ∧ z = .int .i64 k ∧ v = sv acc ∧ Hid (acc ++ stepsText (L.drop k) = r) ∧ Hid (Below w.heap.size w wr)) (fun _ z _ => n - (intOf z).toNat)
  case atStart => exact ⟨0, [], Nat.zero_le _, rfl, rfl, H0, Lib.hid (Below.refl _ _)⟩
  case round =>
    obtain ⟨k, acc, hkn, rfl, rfl, hr, hbel⟩ := hrel
    by_cases hlt : k < n
    · have hkl : k < L.length := by rw [HN.out]; exact hlt
      have hd := steps_drop L k hkl
      obtain ⟨b, o, rfl, hbl, c0, c1, c2⟩ := (HL.out.grow hbel.out).cells hkl
      have hok := HK.out _ (List.getElem_mem hkl)
      obtain ⟨⟨kd, tx, nn⟩, hs⟩ : ∃ s, L[k] = s := ⟨_, rfl⟩
      rw [hs] at hd hok c0 c1 c2
      obtain ⟨ok1, ok2, ok3, ok4⟩ := hok
      dsimp only at ok1 ok2 ok3 ok4 c0 c1 c2
      clear hs
      have hr2 : (acc ++ stepText ⟨kd, tx, nn⟩) ++ stepsText (L.drop (k + 1)) = r := by rw [← hr.out, hd]; simp
      have hal : acc.length ≤ 1099511627776 := by
        have h1 := congrArg List.length hr2
        have := HS.out
        rw [List.length_append, List.length_append] at h1
        omega
      have R2 := Lib.hid hr2
      have g0 : (0 : Int) ≤ (k : Int) := by omega
      have g1 : (k : Int) < (n : Int) := by omega
      clear hd hr hr2 hkl
      rcases ok1 with rfl | rfl | rfl
      · have z1 : ¬ 9223372036854775807 < acc.length + 7 := by omega
        have z2 : ¬ 9223372036854775807 < acc.length + 7 + tx.length := by omega
        have z3 : ¬ 9223372036854775807 < acc.length + 7 + tx.length + 1 := by omega
        clear hal
        go_wp2
        go_roundw
        case rel => exact ⟨k + 1, acc ++ stepText ⟨1, tx, nn⟩, by omega, by go_num, congrArg Value.string (by apply ByteArray.ext; simp [ByteArray.data_append, stepText, lineB, wFilter]), R2, hbel⟩
        case measure => simp [intOf]; omega
      · have z1 : ¬ 9223372036854775807 < acc.length + 4 := by omega
        have z2 : ¬ 9223372036854775807 < acc.length + 4 + tx.length := by omega
        have z3 : ¬ 9223372036854775807 < acc.length + 4 + tx.length + 1 := by omega
        clear hal
        go_wp2
        go_roundw
        case rel => exact ⟨k + 1, acc ++ stepText ⟨2, tx, nn⟩, by omega, by go_num, congrArg Value.string (by apply ByteArray.ext; simp [ByteArray.data_append, stepText, lineB, wSet]), R2, hbel⟩
        case measure => simp [intOf]; omega
      · obtain ⟨x, hx⟩ : ∃ x, Lib.itoa nn = x := ⟨_, rfl⟩
        have hxl := itoa_len nn (by unfold Num64; omega)
        rw [hx] at hxl
        have HX := Lib.hid hx
        have HO := Lib.hid (And.intro ok3 ok4)
        have z1 : ¬ 9223372036854775807 < acc.length + 4 := by omega
        have z2 : ¬ 9223372036854775807 < acc.length + 4 + x.length := by omega
        have z3 : ¬ 9223372036854775807 < acc.length + 4 + x.length + 1 := by omega
        clear hal hx
        go_wp2_with (go_at_call 33; refine (dec_at HO.out.1 (by have := HO.out.2; omega) HX.out).mono ?_; rintro e w2 ⟨rfl, hb2⟩; have HB2 := Lib.hid (hbel.out.trans (hb2.mono hbel.out.size)); clear hb2)
        go_roundw
        case rel => exact ⟨k + 1, acc ++ stepText ⟨3, tx, nn⟩, by omega, by go_num, congrArg Value.string (by apply ByteArray.ext; simp [ByteArray.data_append, stepText, lineB, wKey, HX.out]), R2, HB2⟩
        case measure => simp [intOf]; omega
    · have hkn2 : k = n := by omega
      have hfin : Hid (acc = r) := Lib.hid (by
        have := hr.out
        rw [hkn2, ← HN.out, List.drop_length] at this
        simpa [stepsText] using this)
      clear hr hkn2
      go_wp2
      go_ret
      exact ⟨by rw [hfin.out]; rfl, hbel.out⟩
end Go.Proofs.YtogcickcodlepaaGreatDoor.Pl
/-
  The numbers of a plan without an error: each is no less than zero (a bound: than minus one). Conditions: none; nothing of a program.
-/
namespace Go.Proofs.YtogcickcodlepaaGreatDoor.Pl
open Go.RowKit Go.Proofs.YtogcickcodlepaaGreatDoor.Ex

theorem stepErr_kind {s : Stp} (h : stepErr s = 0) : OkS s := by
  have h2 := stepErr_zero h
  refine ⟨?_, h2⟩
  unfold stepErr at h
  split at h
  · rename_i k; exact .inr (.inr k)
  · split at h
    · rename_i k
      rcases k with k | k
      · exact .inl k
      · exact .inr (.inl k)
    · omega
/-- A flow without an error, number by number. -/
structure RF (f : Flw) : Prop where
  sm : FSm f
  bound : -1 ≤ f.bound ∧ f.bound ≤ 1000000
  readers : 0 ≤ f.readers ∧ f.readers ≤ 8
  keepers : 0 ≤ f.keepers ∧ f.keepers ≤ 8
  kind : f.win.kind = 0 ∨ f.win.kind = 1 ∨ f.win.kind = 2 ∨ f.win.kind = 3
  size : 0 ≤ f.win.size ∧ f.win.size ≤ 1000000
  slide : 0 ≤ f.win.slide ∧ f.win.slide ≤ 1000000
  pre : ∀ s ∈ f.pre, OkS s
  post : ∀ s ∈ f.post, OkS s
theorem isWindow_more {v : Win} (h : isWindow v = true) : (v.kind = 0 ∨ v.kind = 1 ∨ v.kind = 2 ∨ v.kind = 3) ∧ (0 ≤ v.size ∧ v.size ≤ 1000000) ∧ (0 ≤ v.slide ∧ v.slide ≤ 1000000) := by
  unfold isWindow at h
  split at h
  · simp only [Bool.and_eq_true, decide_eq_true_eq] at h; omega
  · split at h
    · simp only [Bool.and_eq_true, decide_eq_true_eq] at h; omega
    · split at h
      · simp only [Bool.and_eq_true, decide_eq_true_eq] at h; omega
      · cases h
theorem flwErr_more {ts : List Top} {all e : List Flw} {f : Flw} (ht : ∀ t ∈ ts, t.name.length ≤ 16) (h : flwErr ts all e f = 0) : RF f := by
  have sm := flwErr_zero ht h
  unfold flwErr at h
  split at h
  · omega
  split at h
  · omega
  split at h
  · omega
  split at h
  · omega
  rename_i h4
  split at h
  · omega
  split at h
  · omega
  have hs := h
  unfold stepsErr at hs
  have hp : firstErr stepErr f.pre = 0 := by
    rcases Classical.em (firstErr stepErr f.pre = 0) with h | h
    · exact h
    · rw [if_neg h] at hs; exact absurd hs h
  rw [if_pos hp] at hs
  have e2 : isBound all f = true := by cases h : isBound all f <;> simp [h] at h4 ⊢
  have e3 : areCounts ts f = true := by cases h : areCounts ts f <;> simp [h] at h4 ⊢
  have e4 : isWindow f.win = true := by cases h : isWindow f.win <;> simp [h] at h4 ⊢
  unfold isBound at e2
  unfold areCounts at e3
  simp only [Bool.and_eq_true, Bool.or_eq_true, decide_eq_true_eq] at e2 e3
  obtain ⟨w0, w1, w2⟩ := isWindow_more e4
  exact ⟨sm, by omega, by omega, by omega, w0, w1, w2, fun s hs => stepErr_kind (firstErr_zero hp s hs), fun s h2 => stepErr_kind (postErr_zero (firstErr_zero hs s h2))⟩
theorem check_more {p : Pln} (h : (check p).2 = 0) : ∀ f ∈ p.flws, RF f := by
  have h0 := check_zero h
  unfold check at h
  split at h
  · cases h
  · split at h
    · rename_i r hr
      exfalso
      have : ∀ (L e : List Top) (q : Nat × Int), topsErr e L = some q → q.2 ≠ 0 := by
        intro L
        induction L with
        | nil => intro e q h; cases h
        | cons t r ih =>
          intro e q h
          simp only [topsErr] at h
          split at h
          · exact ih _ _ h
          · rename_i hn; injection h with h; subst h; exact hn
      exact this _ _ _ hr h
    · split at h
      · rename_i r hr
        exfalso
        have : ∀ (L e : List Flw) (q : Nat × Int), flwsErr p.tops p.flws e L = some q → q.2 ≠ 0 := by
          intro L
          induction L with
          | nil => intro e q h; cases h
          | cons t r ih =>
            intro e q h
            simp only [flwsErr] at h
            split at h
            · exact ih _ _ h
            · rename_i hn; injection h with h; subst h; exact hn
        exact this _ _ _ hr h
      · rename_i hf
        intro f m
        obtain ⟨e, he⟩ := flwsErr_none _ _ _ _ hf f m
        exact flwErr_more (fun t m => (h0.2.2.1 t m).1) he
end Go.Proofs.YtogcickcodlepaaGreatDoor.Pl
