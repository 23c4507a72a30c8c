/-
  The document's Names; rows of files, appended. Conditions: none but those that each theorem names.
-/
import Derived.Test.YtkckpeejamidpaaRefOps
namespace Go.Proofs.Ytkckpeejamidpaa.Dk
open Go.RowKit Go.Proofs.Ytkckpeejamidpaa.Pk

set_option maxHeartbeats 1000000 in
theorem rnames_off {w : World} {r n cap : Nat} {A : Option Addr} (c0 : w.cell? ⟨r, 0, none⟩ = some (.slice A n cap)) (c1 : w.cell? ⟨r, 1, none⟩ = some (.bool true)) (hn : n ≤ 1000000) :
    Calls Try.prog 30 #[.pointer (some ⟨r, 0, none⟩)] w fun e w' => e = .returned (.slice none 0 0) ∧ w = w' := by
  go_enter Try.func30, Try.ntmps30
  go_wp2
  refine wp_loop_rounds 1 ?_
  rw [rounds_succ]
  by_cases h : n = 0
  · have hz : ¬ (0 : Int) < (n : Int) := by omega
    go_wp2
    go_ret
    exact ⟨rfl, rfl⟩
  · have hz : (0 : Int) < (n : Int) := by omega
    go_wp2
    go_ret
    exact ⟨rfl, rfl⟩
set_option maxHeartbeats 1000000 in
theorem roff_none {w : World} {r cap : Nat} {A : Option Addr} (keep : Int) (c0 : w.cell? ⟨r, 0, none⟩ = some (.slice A 0 cap)) (c1 : w.cell? ⟨r, 1, none⟩ = some (.bool false)) (f1 : w.frozen? ⟨r, 1, none⟩ = false) :
    Calls Try.prog 29 #[.pointer (some ⟨r, 0, none⟩), .int .i64 keep] w fun e w' => e = .returned (.tuple #[]) ∧ w.setCell ⟨r, 1, none⟩ (.bool true) = w' := by
  go_enter Try.func29, Try.ntmps29
  go_wp2
  refine wp_loop_rounds 1 ?_
  rw [rounds_succ]
  go_wp2
  go_end0
  exact ⟨rfl, rfl⟩
theorem take_map_snoc {ns : List Nm} {j : Nat} (h : j < ns.length) : (ns.take j).map encStr ++ [encStr ns[j]] = (ns.take (j + 1)).map encStr := by
  rw [List.take_succ_eq_append_getElem h, List.map_append]; rfl
set_option maxHeartbeats 1000000 in
theorem rnames_on {w : World} {r cap : Nat} {A : Option Addr} {ns : List Nm} {n : Nat} (hl : ns.length = n) (c0 : w.cell? ⟨r, 0, none⟩ = some (.slice A n cap)) (c1 : w.cell? ⟨r, 1, none⟩ = some (.bool false)) (hn : n ≤ 1000000)
    (hA : ∀ i (h : i < ns.length), ∃ g, A = some ⟨g, 0, none⟩ ∧ w.cell? ⟨g, i * 3, none⟩ = some (.string ⟨ns[i].toArray⟩)) :
    Calls Try.prog 30 #[.pointer (some ⟨r, 0, none⟩)] w (Lists w ns) := by
  obtain ⟨i0, hi, hz0, hz1, hz2⟩ := info_parts info9
  have HL := Lib.hid hl
  have HA := Lib.hid hA
  have HC0 := Lib.hid c0
  have HC1 := Lib.hid c1
  clear hl hA c0 c1
  go_enter Try.func30, Try.ntmps30
  go_wp2
  go_loopw [3, 4] (fun v i wr => ∃ j : Nat, j ≤ n ∧ i = .int .i64 j ∧ wr.ownsRow w.heap.size 9 1 v j ((ns.take j).map encStr) ∧ Below w.heap.size w wr) (fun _ i _ => n - (intOf i).toNat)
  case atStart => exact ⟨0, Nat.zero_le _, rfl, ⟨by simp, .inl ⟨rfl, rfl⟩⟩, Below.refl _ _⟩
  case round =>
    obtain ⟨j, hj, rfl, hown, hb⟩ := hrel
    have c0 : wr.cell? ⟨r, 0, none⟩ = some (.slice A n cap) := (hb.cell (p := ⟨r, 0, none⟩) (cell_block_lt HC0.out)).trans HC0.out
    have c1 : wr.cell? ⟨r, 1, none⟩ = some (.bool false) := (hb.cell (p := ⟨r, 1, none⟩) (cell_block_lt HC1.out)).trans HC1.out
    by_cases hlt : j < n
    · have hjl : j < ns.length := by rw [HL.out]; exact hlt
      obtain ⟨g, rfl, hc⟩ := HA.out j hjl
      have hc' : wr.cell? ⟨g, j * 3, none⟩ = some (.string ⟨ns[j].toArray⟩) := (hb.cell (p := ⟨g, j * 3, none⟩) (cell_block_lt hc)).trans hc
      have hjn : (j : Int) < (n : Int) := by omega
      have HS := Lib.hid (take_map_snoc hjl)
      generalize ns[j] = x at hc' HS
      clear hc
      go_wp2_with (at_builtin; refine wpList_append_own _ rfl _ _ 50 rfl w.heap.size 9 i0 (.string ⟨#[]⟩) 1 16 Try.underlying50 hi hz0 hz1 hz2 rfl (by decide) _ _ _ rfl (hown.alloc _) ⟨wr.heap.size, 0, none⟩ 1 1 [.string ⟨x.toArray⟩] rfl rfl (cell_one_new _ _ _) (by simp [Value.oneCell']) (by unfold maxLen; omega) (by omega) (by have := hb.size; simp; omega) ?_; intro v' w3 hown' hg3 _)
      have hb3 : Below w.heap.size w w3 := (hb.alloc hb.size _).grown hg3 (by have := hb.size; simp; omega) (fun k e => (hown.lt k e).1)
      have HO := Lib.hid (HS.out ▸ hown')
      clear hown' hg3 hown HS
      go_wp2
      go_roundw
      case rel => exact ⟨j + 1, by omega, by go_num, HO.out, hb3⟩
      case measure => simp [intOf]; omega
    · have hjn : ¬ (j : Int) < (n : Int) := by omega
      obtain rfl : j = n := by omega
      go_wp2
      go_ret
      have e1 := HL.out
      rw [List.take_of_length_le (by omega)] at hown
      rcases hown.2 with ⟨rfl, h0⟩ | ⟨g, cap', cur, rfl, rest⟩
      · have : ns = [] := List.eq_nil_of_length_eq_zero (by omega)
        subst this
        exact ⟨none, 0, rfl, ⟨by simp, .inl ⟨rfl, rfl⟩⟩, hb⟩
      · exact ⟨_, cap', by rw [e1]; rfl, by rw [e1]; exact hown, hb⟩
end Go.Proofs.Ytkckpeejamidpaa.Dk
