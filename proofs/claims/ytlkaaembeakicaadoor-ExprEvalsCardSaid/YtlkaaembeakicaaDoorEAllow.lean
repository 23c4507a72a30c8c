/-
  Which word may stand where the parser is; which count. Conditions: the parser lies in memory.
-/
import Derived.Test.YtlkaaembeakicaaDoorEJoin
namespace Go.Proofs.YtlkaaembeakicaaDoor.Ex
open Go.RowKit
theorem levelOf_at (t : ByteArray) (w : World) {z : Nat} (h : levelOf t.data.toList = z) : Calls Tryd.prog 42 #[.string t] w fun e w' => e = .returned (.int .i64 z) ∧ w = w' := by subst h; exact levelOf_any t w
theorem ne_beq {k : Nat} {n : Nat} (h : k ≠ n) : ((k : Int) == (n : Int)) = false := by rw [beq_eq_false_iff_ne]; omega
theorem str_ne {t : ByteArray} {l : Bs} (h : t.data.toList ≠ l) : (t.toList == l) = false := by rw [Lib.toList_data, beq_eq_false_iff_ne]; exact h
set_option maxHeartbeats 1000000 in
theorem allows_cells {w : World} {p k at_ : Nat} {s : St} {t : ByteArray} (hp : p < w.heap.size) (c2 : w.cell? ⟨p, 2, none⟩ = some (.int .i64 s.opn)) (c4 : w.cell? ⟨p, 4, none⟩ = some (.bool s.complete)) :
    Calls Tryd.prog 31 #[ptr p, .agg #[.int .i64 k, .int .i64 at_, .string t]] w fun e w' => e = .returned (.bool (s.allows k t.data.toList)) ∧ Below w.heap.size w w' := by
  obtain ⟨c, hc⟩ : ∃ c, s.complete = c := ⟨_, rfl⟩
  obtain ⟨o, ho⟩ : ∃ o, s.opn = o := ⟨_, rfl⟩
  obtain ⟨r, hr⟩ : ∃ r, s.allows k t.data.toList = r := ⟨_, rfl⟩
  rw [hr]
  rw [ho] at c2
  rw [hc] at c4
  unfold St.allows at hr
  rw [hc, ho] at hr
  clear hc ho
  by_cases h1 : k = 1
  · subst h1
    rw [if_pos rfl] at hr
    by_cases h2 : o = 0
    · subst h2
      cases c
      all_goals
        simp at hr
        subst hr
        go_enter Tryd.func31, Tryd.ntmps31
        go_wp2
        go_ret
        exact ⟨rfl, (Below.refl _ _).alloc (Nat.le_refl _) _⟩
    · have h3 := ne_beq (n := 0) h2
      have h3' : ((o : Int) == 0) = false := h3
      cases c
      all_goals
        simp [h2] at hr
        subst hr
        go_enter Tryd.func31, Tryd.ntmps31
        go_wp2
        go_ret
        exact ⟨rfl, (Below.refl _ _).alloc (Nat.le_refl _) _⟩
  · rw [if_neg h1] at hr
    have e1 : ((k : Int) == 1) = false := ne_beq (n := 1) h1
    by_cases h2 : t.data.toList = [41]
    · rw [if_pos h2] at hr
      obtain rfl := bytes_of h2
      clear h2
      by_cases h3 : 0 < o
      · cases c
        all_goals
          simp [h3] at hr
          subst hr
          go_enter Tryd.func31, Tryd.ntmps31
          go_wp2
          go_ret
          exact ⟨rfl, (Below.refl _ _).alloc (Nat.le_refl _) _⟩
      · obtain rfl : o = 0 := by omega
        cases c
        all_goals
          simp at hr
          subst hr
          go_enter Tryd.func31, Tryd.ntmps31
          go_wp2
          go_ret
          exact ⟨rfl, (Below.refl _ _).alloc (Nat.le_refl _) _⟩
    · rw [if_neg h2] at hr
      have e2 := str_ne h2
      cases c
      · rw [if_neg (by simp)] at hr
        by_cases h3 : k = 2
        · subst h3
          simp at hr
          subst hr
          go_enter Tryd.func31, Tryd.ntmps31
          go_wp2
          go_ret
          exact ⟨rfl, (Below.refl _ _).alloc (Nat.le_refl _) _⟩
        · have e3 : ((k : Int) == 2) = false := ne_beq (n := 2) h3
          by_cases h4 : k = 3
          · subst h4
            simp at hr
            subst hr
            go_enter Tryd.func31, Tryd.ntmps31
            go_wp2
            go_ret
            exact ⟨rfl, (Below.refl _ _).alloc (Nat.le_refl _) _⟩
          · have e4 : ((k : Int) == 3) = false := ne_beq (n := 3) h4
            by_cases h45 : t.data.toList = [45]
            · obtain rfl := bytes_of h45
              simp at hr
              subst hr
              clear h45
              go_enter Tryd.func31, Tryd.ntmps31
              go_wp2
              go_ret
              exact ⟨rfl, (Below.refl _ _).alloc (Nat.le_refl _) _⟩
            have e45 := str_ne h45
            by_cases h33 : t.data.toList = [33]
            · obtain rfl := bytes_of h33
              simp at hr
              subst hr
              clear h33
              go_enter Tryd.func31, Tryd.ntmps31
              go_wp2
              go_ret
              exact ⟨rfl, (Below.refl _ _).alloc (Nat.le_refl _) _⟩
            have e33 := str_ne h33
            by_cases h40 : t.data.toList = [40]
            · obtain rfl := bytes_of h40
              simp at hr
              subst hr
              clear h40
              go_enter Tryd.func31, Tryd.ntmps31
              go_wp2
              go_ret
              exact ⟨rfl, (Below.refl _ _).alloc (Nat.le_refl _) _⟩
            have e40 := str_ne h40
            simp [h3, h4, h45, h33, h40] at hr
            subst hr
            clear h45 h33 h40
            go_enter Tryd.func31, Tryd.ntmps31
            go_wp2
            go_ret
            exact ⟨rfl, (Below.refl _ _).alloc (Nat.le_refl _) _⟩
      · rw [if_pos rfl] at hr
        obtain ⟨lv, hl⟩ : ∃ lv, levelOf t.data.toList = lv := ⟨_, rfl⟩
        rw [hl] at hr
        have HL := Lib.hid hl
        clear hl
        by_cases h3 : lv = 0
        · subst h3
          simp at hr
          subst hr
          go_enter Tryd.func31, Tryd.ntmps31
          go_wp2_with (go_at_call 42; refine (levelOf_at _ _ HL.out).mono ?_; rintro e w' ⟨rfl, rfl⟩)
          go_ret
          exact ⟨rfl, (Below.refl _ _).alloc (Nat.le_refl _) _⟩
        · have e3 : ((lv : Int) == 0) = false := ne_beq (n := 0) h3
          have e4 : ((lv : Int) != 0) = true := by simp [bne, e3]
          simp [h3] at hr
          subst hr
          go_enter Tryd.func31, Tryd.ntmps31
          go_wp2_with (go_at_call 42; refine (levelOf_at _ _ HL.out).mono ?_; rintro e w' ⟨rfl, rfl⟩)
          go_ret
          exact ⟨rfl, (Below.refl _ _).alloc (Nat.le_refl _) _⟩
set_option maxHeartbeats 1000000 in
theorem isPart_any {w : World} {k at_ : Nat} {t : ByteArray} :
    Calls Tryd.prog 32 #[.agg #[.int .i64 k, .int .i64 at_, .string t]] w fun e w' => e = .returned (.bool (isPart k t.data.toList)) ∧ Below w.heap.size w w' := by
  obtain ⟨r, hr⟩ : ∃ r, isPart k t.data.toList = r := ⟨_, rfl⟩
  rw [hr]
  unfold isPart at hr
  by_cases h1 : k = 1
  · subst h1
    simp at hr
    subst hr
    go_enter Tryd.func32, Tryd.ntmps32
    go_wp2
    go_ret
    exact ⟨rfl, (Below.refl _ _).alloc (Nat.le_refl _) _⟩
  · have e1 : ((k : Int) == 1) = false := ne_beq (n := 1) h1
    have e1' : ((k : Int) != 1) = true := by simp [bne, e1]
    by_cases h2 : t.data.toList = [40]
    · obtain rfl := bytes_of h2
      simp at hr
      subst hr
      clear h2
      go_enter Tryd.func32, Tryd.ntmps32
      go_wp2
      go_ret
      exact ⟨rfl, (Below.refl _ _).alloc (Nat.le_refl _) _⟩
    · have e2 := str_ne h2
      by_cases h3 : t.data.toList = [41]
      · obtain rfl := bytes_of h3
        simp at hr
        subst hr
        clear h3
        go_enter Tryd.func32, Tryd.ntmps32
        go_wp2
        go_ret
        exact ⟨rfl, (Below.refl _ _).alloc (Nat.le_refl _) _⟩
      · have e3 := str_ne h3
        simp [h1, h2, h3] at hr
        subst hr
        clear h2 h3
        go_enter Tryd.func32, Tryd.ntmps32
        go_wp2
        go_ret
        exact ⟨rfl, (Below.refl _ _).alloc (Nat.le_refl _) _⟩
end Go.Proofs.YtlkaaembeakicaaDoor.Ex
