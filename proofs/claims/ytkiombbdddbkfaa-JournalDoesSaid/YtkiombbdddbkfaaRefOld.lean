/-
  The document's Append onto a file that is there. Conditions: none but those that each theorem names.
-/
import Derived.Test.YtkiombbdddbkfaaRefApp
namespace Go.Proofs.Ytkiombbdddbkfaa.Dk
open Go.RowKit Go.Proofs.Ytkiombbdddbkfaa.Pk

set_option maxRecDepth 100000 in
set_option maxHeartbeats 2000000 in
theorem rapp_old_ok {w : World} {r m c : Nat} {A : Option Addr} {name : ByteArray} {i g n cap l cc : Nat} {AB : Option Addr} {lB l' : List UInt8} {keep : Int} {Q R : World → Prop} (c1 : w.cell? ⟨r, 1, none⟩ = some (.bool false)) (hs : name.size ≤ maxLen) (hn : isName name.data.toList = true)
    (H : Calls Try.prog 44 #[.pointer (some ⟨r, 0, none⟩), .string name] w fun e w' => e = .returned (.int .i64 i) ∧ w = w')
    (c0 : w.cell? ⟨r, 0, none⟩ = some (.slice (some ⟨g, 0, none⟩) n cap)) (hi : i < n) (cB : w.cell? ⟨g, i * 3 + 1, none⟩ = some (.slice AB l cc)) (hm : l + m ≤ 16777216) (_hrg : r ≠ g) (hlB : lB.length = l) (hl' : l'.length = m)
    (HD : Calls Try.prog 45 #[.pointer (some ⟨r, 0, none⟩)] w fun e w' => e = .returned (.bool false) ∧ Q w')
    (HQ : ∀ w1, Q w1 → w1.cell? ⟨r, 0, none⟩ = some (.slice (some ⟨g, 0, none⟩) n cap) ∧ w1.cell? ⟨r, 3, none⟩ = some (.int .i64 keep) ∧ w1.cell? ⟨g, i * 3 + 1, none⟩ = some (.slice AB l cc) ∧ w1.frozen? ⟨g, i * 3 + 1, none⟩ = false ∧ Lies w1 w1.heap.size AB lB ∧ Lies w1 w1.heap.size A l')
    (HF : ∀ w1, Q w1 → ∀ v2 w3, w3.ownsRow w1.heap.size 5 1 v2 (l + m) (cells (lB ++ l')) → Below w1.heap.size w1 w3 → R (w3.setCell ⟨g, i * 3 + 1, none⟩ v2)) :
    Calls Try.prog 21 #[.pointer (some ⟨r, 0, none⟩), .string name, .slice A m c] w fun e w' => e = .returned (.int .i64 0) ∧ R w' := by
  have HN := Lib.hid hn
  have HH := Lib.hid H
  have HG := Lib.hid HD
  have HL1 := Lib.hid hlB
  have HL2 := Lib.hid hl'
  have HQ1 := Lib.hid HQ
  have HF1 := Lib.hid HF
  clear hn H HD hlB hl' HQ HF
  have hz : (m : Int) ≤ (16777216 : Int) - (l : Int) := by omega
  have hz2 : (m : Int) ≤ 16777216 := by omega
  have hin : (i : Int) < (n : Int) := by omega
  go_enter Try.func21, Try.ntmps21
  go_wp2_with (first
    | (go_at_call 32; refine (refName_any name _ hs).mono ?_; rintro e w' ⟨rfl, rfl⟩; rw [HN.out])
    | (go_at_call 44; refine HH.out.mono ?_; rintro e w' ⟨rfl, rfl⟩)
    | (go_at_call 45; refine HG.out.mono ?_; rintro e w1 ⟨rfl, hq⟩; obtain ⟨d0, d3, dB, fB, hLB, hLA⟩ := HQ1.out w1 hq; have HQ2 := Lib.hid hq; have HLies := Lib.hid (And.intro hLB hLA); clear hq hLB hLA)
    | (at_builtin; refine wpList_append_bytes_at rfl (.tmp 93) (.tmp 101) rfl w1.heap.size (.slice none 0 0) 0 [] rfl (World.ownsRow_nil _ _ _ _) AB l cc lB rfl HL1.out w1.heap.size HLies.out.1 (by omega) (Nat.le_refl _) ?_; intro va wa howna hga _; have hba : Below w1.heap.size w1 wa := (Below.refl _ _).grown hga (Nat.le_refl _) (fun k e => by cases e); rw [Nat.zero_add, List.nil_append] at howna; have HA1 := Lib.hid (And.intro howna hba); clear howna hga hba)
    | (at_builtin; refine wpList_append_bytes_at rfl (.tmp 103) (.tmp 104) rfl w1.heap.size va l lB rfl HA1.out.1 A m c l' rfl HL2.out w1.heap.size (HLies.out.2.below HA1.out.2) (by omega) HA1.out.2.size ?_; intro vb wb hownb hgb _; have hbb : Below w1.heap.size w1 wb := HA1.out.2.grown hgb HA1.out.2.size (fun k e => (HA1.out.1.lt k e).1); obtain ⟨A2, c2, rfl, -, -⟩ := own_cap hownb; have e0 : wb.cell? ⟨r, 0, none⟩ = some (.slice (some ⟨g, 0, none⟩) n cap) := (hbb.cell (p := ⟨r, 0, none⟩) (cell_block_lt d0)).trans d0; have e3 : wb.cell? ⟨r, 3, none⟩ = some (.int .i64 keep) := (hbb.cell (p := ⟨r, 3, none⟩) (cell_block_lt d3)).trans d3; have eB : wb.cell? ⟨g, i * 3 + 1, none⟩ = some (.slice AB l cc) := (hbb.cell (p := ⟨g, i * 3 + 1, none⟩) (cell_block_lt dB)).trans dB; have eF : wb.frozen? ⟨g, i * 3 + 1, none⟩ = false := (hbb.frozen (p := ⟨g, i * 3 + 1, none⟩) (cell_block_lt dB)).trans fB; have HF2 := Lib.hid (HF1.out w1 HQ2.out _ wb hownb hbb); clear hownb hgb hbb))
  go_ret
  exact ⟨rfl, HF2.out⟩

set_option maxRecDepth 100000 in
set_option maxHeartbeats 2000000 in
theorem rapp_old_hit {w : World} {r m c : Nat} {A : Option Addr} {name : ByteArray} {i g n cap l cc : Nat} {AB : Option Addr} {lB l' : List UInt8} {keep : Int} {Q R : World → Prop} (c1 : w.cell? ⟨r, 1, none⟩ = some (.bool false)) (hs : name.size ≤ maxLen) (hn : isName name.data.toList = true)
    (H : Calls Try.prog 44 #[.pointer (some ⟨r, 0, none⟩), .string name] w fun e w' => e = .returned (.int .i64 i) ∧ w = w')
    (c0 : w.cell? ⟨r, 0, none⟩ = some (.slice (some ⟨g, 0, none⟩) n cap)) (hi : i < n) (cB : w.cell? ⟨g, i * 3 + 1, none⟩ = some (.slice AB l cc)) (hm : l + m ≤ 16777216) (_hrg : r ≠ g) (hlB : lB.length = l) (hl' : l'.length = m)
    (HD : Calls Try.prog 45 #[.pointer (some ⟨r, 0, none⟩)] w fun e w' => e = .returned (.bool true) ∧ Q w')
    (HQ : ∀ w1, Q w1 → w1.cell? ⟨r, 0, none⟩ = some (.slice (some ⟨g, 0, none⟩) n cap) ∧ w1.cell? ⟨r, 3, none⟩ = some (.int .i64 keep) ∧ w1.cell? ⟨g, i * 3 + 1, none⟩ = some (.slice AB l cc) ∧ w1.frozen? ⟨g, i * 3 + 1, none⟩ = false ∧ Lies w1 w1.heap.size AB lB ∧ Lies w1 w1.heap.size A l')
    (HF : ∀ w1, Q w1 → ∀ v2 w3, w3.ownsRow w1.heap.size 5 1 v2 (l + m) (cells (lB ++ l')) → Below w1.heap.size w1 w3 → Calls Try.prog 18 #[.pointer (some ⟨r, 0, none⟩), .int .i64 keep] (w3.setCell ⟨g, i * 3 + 1, none⟩ v2) (fun e w' => e = .returned (.tuple #[]) ∧ R w')) :
    Calls Try.prog 21 #[.pointer (some ⟨r, 0, none⟩), .string name, .slice A m c] w fun e w' => e = .returned (.int .i64 20) ∧ R w' := by
  have HN := Lib.hid hn
  have HH := Lib.hid H
  have HG := Lib.hid HD
  have HL1 := Lib.hid hlB
  have HL2 := Lib.hid hl'
  have HQ1 := Lib.hid HQ
  have HF1 := Lib.hid HF
  clear hn H HD hlB hl' HQ HF
  have hz : (m : Int) ≤ (16777216 : Int) - (l : Int) := by omega
  have hz2 : (m : Int) ≤ 16777216 := by omega
  have hin : (i : Int) < (n : Int) := by omega
  go_enter Try.func21, Try.ntmps21
  go_wp2_with (first
    | (go_at_call 32; refine (refName_any name _ hs).mono ?_; rintro e w' ⟨rfl, rfl⟩; rw [HN.out])
    | (go_at_call 44; refine HH.out.mono ?_; rintro e w' ⟨rfl, rfl⟩)
    | (go_at_call 45; refine HG.out.mono ?_; rintro e w1 ⟨rfl, hq⟩; obtain ⟨d0, d3, dB, fB, hLB, hLA⟩ := HQ1.out w1 hq; have HQ2 := Lib.hid hq; have HLies := Lib.hid (And.intro hLB hLA); clear hq hLB hLA)
    | (at_builtin; refine wpList_append_bytes_at rfl (.tmp 93) (.tmp 101) rfl w1.heap.size (.slice none 0 0) 0 [] rfl (World.ownsRow_nil _ _ _ _) AB l cc lB rfl HL1.out w1.heap.size HLies.out.1 (by omega) (Nat.le_refl _) ?_; intro va wa howna hga _; have hba : Below w1.heap.size w1 wa := (Below.refl _ _).grown hga (Nat.le_refl _) (fun k e => by cases e); rw [Nat.zero_add, List.nil_append] at howna; have HA1 := Lib.hid (And.intro howna hba); clear howna hga hba)
    | (at_builtin; refine wpList_append_bytes_at rfl (.tmp 103) (.tmp 104) rfl w1.heap.size va l lB rfl HA1.out.1 A m c l' rfl HL2.out w1.heap.size (HLies.out.2.below HA1.out.2) (by omega) HA1.out.2.size ?_; intro vb wb hownb hgb _; have hbb : Below w1.heap.size w1 wb := HA1.out.2.grown hgb HA1.out.2.size (fun k e => (HA1.out.1.lt k e).1); obtain ⟨A2, c2, rfl, -, -⟩ := own_cap hownb; have e0 : wb.cell? ⟨r, 0, none⟩ = some (.slice (some ⟨g, 0, none⟩) n cap) := (hbb.cell (p := ⟨r, 0, none⟩) (cell_block_lt d0)).trans d0; have e3 : wb.cell? ⟨r, 3, none⟩ = some (.int .i64 keep) := (hbb.cell (p := ⟨r, 3, none⟩) (cell_block_lt d3)).trans d3; have eB : wb.cell? ⟨g, i * 3 + 1, none⟩ = some (.slice AB l cc) := (hbb.cell (p := ⟨g, i * 3 + 1, none⟩) (cell_block_lt dB)).trans dB; have eF : wb.frozen? ⟨g, i * 3 + 1, none⟩ = false := (hbb.frozen (p := ⟨g, i * 3 + 1, none⟩) (cell_block_lt dB)).trans fB; have HF2 := Lib.hid (HF1.out w1 HQ2.out _ wb hownb hbb); clear hownb hgb hbb)
    | (go_at_call 18; refine HF2.out.mono ?_; rintro e w5 ⟨rfl, hR⟩))
  go_ret
  exact ⟨rfl, hR⟩

end Go.Proofs.Ytkiombbdddbkfaa.Dk
