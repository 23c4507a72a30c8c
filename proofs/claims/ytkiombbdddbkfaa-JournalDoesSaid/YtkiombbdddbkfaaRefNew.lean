/-
  The document's Append of a new file. Conditions: none but those that each theorem names.
-/
import Derived.Test.YtkiombbdddbkfaaRefOld
namespace Go.Proofs.Ytkiombbdddbkfaa.Dk
open Go.RowKit Go.Proofs.Ytkiombbdddbkfaa.Pk

/-- The row behind the insertion at p. -/
def ins (xs : List Value) (p : Nat) (name : ByteArray) : List Value := xs.take (p * 3) ++ [.string name, .slice none 0 0, .int .i64 0] ++ xs.drop (p * 3)

theorem src_take {w wb : World} {AL : Option Addr} {n cap p : Nat} {xs : List Value} (h : w.ownsRow 0 72 3 (.slice AL n cap) n xs) (hb : Below w.heap.size w wb) : ∀ j u, (xs.take (p * 3))[j]? = some u → ∃ ad, AL = some ad ∧ wb.cell? (ad.add j) = some u := fun j u hu => by
  have hu' : xs[j]? = some u := by
    rw [List.getElem?_take] at hu
    split at hu
    · exact hu
    · cases hu
  rcases h.2 with ⟨_, h0⟩ | ⟨g, cap', cur, hv, _, hg, _⟩
  · have : xs = [] := List.eq_nil_of_length_eq_zero (by have := h.1; omega)
    rw [this] at hu'; simp at hu'
  · injection hv with hA _ _
    have := h.cells (g := g) (by rw [hA]; rfl) j u hu'
    refine ⟨_, hA, (hb.cell (p := (⟨g, 0, none⟩ : Addr).add j) ?_).trans this⟩
    rw [block_add]; exact (Array.getElem?_eq_some_iff.1 hg).1
theorem src_drop {w wb : World} {g n cap p : Nat} {xs : List Value} (h : w.ownsRow 0 72 3 (.slice (some ⟨g, 0, none⟩) n cap) n xs) (hb : Below w.heap.size w wb) : ∀ j u, (xs.drop (p * 3))[j]? = some u → ∃ ad, some (⟨g, p * 3, none⟩ : Addr) = some ad ∧ wb.cell? (ad.add j) = some u := fun j u hu => by
  rw [List.getElem?_drop] at hu
  have hg := (h.lt g rfl).2
  have := h.cells (g := g) rfl _ u hu
  refine ⟨_, rfl, ?_⟩
  rw [Addr.add_lit] at this ⊢
  rw [Nat.zero_add] at this
  exact (hb.cell (p := ⟨g, p * 3 + j, none⟩) hg).trans this

theorem src_none {w wb : World} {AL A2 : Option Addr} {n cap : Nat} {xs : List Value} (h : w.ownsRow 0 72 3 (.slice AL n cap) n xs) : ∀ j u, (xs.drop (n * 3))[j]? = some u → ∃ ad, A2 = some ad ∧ wb.cell? (ad.add j) = some u := fun j u hu => by
  have : xs.drop (n * 3) = [] := List.drop_of_length_le (by have := h.1; omega)
  rw [this] at hu; simp at hu
theorem new_file (wa : World) (name : ByteArray) : ∀ j u, ([.string name, .slice none 0 0, .int .i64 0] : List Value)[j]? = some u → ∃ ad, some (⟨wa.heap.size, 0, none⟩ : Addr) = some ad ∧ (wa.alloc (.cells #[.string name, .slice none 0 0, .int .i64 0] 72)).cell? (ad.add j) = some u := fun j u hu => by
  refine ⟨_, rfl, ?_⟩
  rw [Addr.add_lit, Nat.zero_add, cell_of_row _ _ _ _ _ _ (heap_alloc_new wa _)]
  simpa using hu
theorem new_one (name : ByteArray) : ∀ u ∈ ([.string name, .slice none 0 0, .int .i64 0] : List Value), u.oneCell' = true := fun u hu => by
  simp only [List.mem_cons, List.not_mem_nil, or_false] at hu
  rcases hu with rfl | rfl | rfl <;> rfl
theorem own_cap37 {w : World} {A : Option Addr} {n cap : Nat} {xs : List Value} (h : w.ownsRow 0 72 3 (.slice A n cap) n xs) : n ≤ cap := by
  rcases h.2 with ⟨hv, rfl⟩ | ⟨g, cap', cur, hv, _, _, h1, _⟩
  · exact Nat.zero_le _
  · injection hv with _ _ hc; rw [hc]; exact h1
theorem own_shape37 {w : World} {A : Option Addr} {n cap : Nat} {xs : List Value} (h : w.ownsRow 0 72 3 (.slice A n cap) n xs) : (A = none ∧ n = 0 ∧ cap = 0) ∨ ∃ g, A = some ⟨g, 0, none⟩ ∧ n ≤ cap := by
  rcases h.2 with ⟨hv, rfl⟩ | ⟨g, cap', cur, hv, _, _, h1, _⟩
  · injection hv with hA _ hc; exact .inl ⟨hA, rfl, hc⟩
  · injection hv with hA _ hc; exact .inr ⟨g, hA, by rw [hc]; exact h1⟩

set_option maxRecDepth 100000 in
set_option maxHeartbeats 4000000 in
theorem rapp_new_ok {w : World} {r m c : Nat} {A AL : Option Addr} {name : ByteArray} {n cap p : Nat} {l' : List UInt8} {xs : List Value} {keep : Int} {Q : Nat → Nat → World → Prop} {R : World → Prop} (c0 : w.cell? ⟨r, 0, none⟩ = some (.slice AL n cap)) (c1 : w.cell? ⟨r, 1, none⟩ = some (.bool false)) (f0 : w.frozen? ⟨r, 0, none⟩ = false)
    (hs : name.size ≤ maxLen) (hn : isName name.data.toList = true) (H : Calls Try.prog 44 #[.pointer (some ⟨r, 0, none⟩), .string name] w fun e w' => e = .returned (.int .i64 (-1)) ∧ w = w')
    (hown : w.ownsRow 0 72 3 (.slice AL n cap) n xs) (hxs : ∀ u ∈ xs, u.oneCell' = true) (hnn : n ≤ 1000000) (hm : m ≤ 16777216) (hl' : l'.length = m) (nm : Nat → ByteArray) (hA : ∀ i, i < n → ∃ g, AL = some ⟨g, 0, none⟩ ∧ w.cell? ⟨g, i * 3, none⟩ = some (.string (nm i)))
    (hp : p ≤ n) (hlt : ∀ i, i < p → Op.bytesLess (nm i).toList name.toList = true) (hstop : p < n → Op.bytesLess (nm p).toList name.toList = false)
    (HP : ∀ vc wc, wc.ownsRow w.heap.size 72 3 vc (n + 1) (ins xs p name) → Below w.heap.size w wc → ∃ g' cap', vc = .slice (some ⟨g', 0, none⟩) (n + 1) cap' ∧ Hid (Calls Try.prog 45 #[.pointer (some ⟨r, 0, none⟩)] (wc.setCell ⟨r, 0, none⟩ (.slice (some ⟨g', 0, none⟩) (n + 1) cap')) fun e w' => e = .returned (.bool false) ∧ Q g' cap' w'))
    (HQ : ∀ g cap' w1, Q g cap' w1 → w1.cell? ⟨r, 0, none⟩ = some (.slice (some ⟨g, 0, none⟩) (n + 1) cap') ∧ w1.cell? ⟨r, 3, none⟩ = some (.int .i64 keep) ∧ w1.cell? ⟨g, p * 3 + 1, none⟩ = some (.slice none 0 0) ∧ w1.frozen? ⟨g, p * 3 + 1, none⟩ = false ∧ Lies w1 w1.heap.size A l')
    (HF : ∀ g cap' w1, Q g cap' w1 → ∀ v2 w3, w3.ownsRow w1.heap.size 5 1 v2 m (cells l') → Below w1.heap.size w1 w3 → R (w3.setCell ⟨g, p * 3 + 1, none⟩ v2)) :
    Calls Try.prog 21 #[.pointer (some ⟨r, 0, none⟩), .string name, .slice A m c] w fun e w' => e = .returned (.int .i64 0) ∧ R w' := by
  have HN := Lib.hid hn
  have HH := Lib.hid H
  have HL2 := Lib.hid hl'
  have HA := Lib.hid hA
  have HLT := Lib.hid hlt
  have HST := Lib.hid hstop
  have HO := Lib.hid hown
  have HX := Lib.hid hxs
  have HP1 := Lib.hid HP
  have HQ1 := Lib.hid HQ
  have HF1 := Lib.hid HF
  have HC0 := Lib.hid c0
  have HF0 := Lib.hid f0
  clear hn H hl' hA hlt hstop hown hxs HP HQ HF
  have hz2 : (m : Int) ≤ 16777216 := by omega
  go_enter Try.func21, Try.ntmps21
  go_wp2_with (first
    | (go_at_call 32; refine (refName_any name _ hs).mono ?_; rintro e w' ⟨rfl, rfl⟩; rw [HN.out])
    | (go_at_call 44; refine HH.out.mono ?_; rintro e w' ⟨rfl, rfl⟩))
  go_loop [7] (fun i => ∃ j : Nat, j ≤ p ∧ i = .int .i64 j) (fun i => n - (intOf i).toNat)
  case atStart => exact ⟨0, Nat.zero_le _, rfl⟩
  case round =>
    obtain ⟨j, hj, rfl⟩ := hrel
    by_cases hjp : j < p
    · obtain ⟨g, rfl, hc⟩ := HA.out j (by omega)
      have hjn : (j : Int) < (n : Int) := by omega
      have hd := HLT.out j hjp
      generalize nm j = x at hc hd
      go_wp2
      go_round
      case rel => exact ⟨j + 1, by omega, by go_num⟩
      case measure => simp [intOf]; omega
    · obtain rfl : j = p := by omega
      clear hj hjp
      by_cases hpn : j < n
      · obtain ⟨g, rfl, hc⟩ := HA.out j hpn
        have hjn : (j : Int) < (n : Int) := by omega
        have hd := HST.out hpn
        generalize nm j = x at hc hd
        have hcap : n ≤ cap := own_cap37 HO.out
        have hc0 : ¬ cap = 0 := by omega
        have hcj : ¬ cap = j := by omega
        have hjc : (j : Int) ≤ (cap : Int) := by omega
        have hjn2 : (j : Int) ≤ (n : Int) := by omega
        have HT1 : Hid ((xs.take (j * 3)).length = j * 3) := by have := HO.out.1; show _ = _; rw [List.length_take]; omega
        have HT2 : Hid ((xs.drop (j * 3)).length = ((n - j)) * 3) := by have := HO.out.1; show _ = _; rw [List.length_drop]; omega
        have HT3 : Hid (j + 1 + ((n - j)) = n + 1) := by show _ = _; omega
        go_wp2_with (first
          | (at_builtin; refine wpList_append_files rfl (.tmp 66) (.tmp 72) rfl w.heap.size (.slice none 0 0) 0 [] rfl (World.ownsRow_nil _ _ _ _) (some ⟨g, 0, none⟩) j cap (xs.take (j * 3)) rfl HT1.out (src_take HO.out (Below.refl _ _)) (fun u hu => HX.out u (List.mem_of_mem_take hu)) (by omega) (Nat.le_refl _) ?_; intro va wa howna hga; have hba : Below w.heap.size w wa := (Below.refl _ _).grown hga (Nat.le_refl _) (fun k e => by cases e); rw [Nat.zero_add, List.nil_append] at howna; have HA1 := Lib.hid (And.intro howna hba); clear howna hga hba)
          | (at_builtin; refine wpList_append_files rfl (.tmp 74) (.tmp 77) rfl w.heap.size va j (xs.take (j * 3)) rfl (HA1.out.1.alloc _) (some ⟨wa.heap.size, 0, none⟩) 1 1 [.string name, .slice none 0 0, .int .i64 0] rfl rfl (new_file wa name) (new_one name) (by omega) (by have := HA1.out.2.size; simp; omega) ?_; intro vb wb hownb hgb; have hbb : Below w.heap.size w wb := (HA1.out.2.alloc HA1.out.2.size _).grown hgb (by have := HA1.out.2.size; simp; omega) (fun k e => (HA1.out.1.lt k e).1); have b0 : wb.cell? ⟨r, 0, none⟩ = some (.slice (some ⟨g, 0, none⟩) n cap) := (hbb.cell (p := ⟨r, 0, none⟩) (cell_block_lt HC0.out)).trans HC0.out; have HB1 := Lib.hid (And.intro hownb hbb); clear hownb hgb hbb)
          | (at_builtin; refine wpList_append_files rfl (.tmp 79) (.tmp 85) rfl w.heap.size vb (j + 1) (xs.take (j * 3) ++ [.string name, .slice none 0 0, .int .i64 0]) rfl HB1.out.1 (some ⟨g, j * 3, none⟩) (n - j) (cap - j) (xs.drop (j * 3)) rfl HT2.out (src_drop HO.out HB1.out.2) (fun u hu => HX.out u (List.mem_of_mem_drop hu)) (by omega) HB1.out.2.size ?_; intro vc wc hownc hgc; have hbc : Below w.heap.size w wc := HB1.out.2.grown hgc HB1.out.2.size (fun k e => (HB1.out.1.lt k e).1); rw [HT3.out] at hownc; obtain ⟨g', cap', rfl, HCD⟩ := HP1.out vc wc hownc hbc; have e00 : wc.cell? ⟨r, 0, none⟩ = some (.slice (some ⟨g, 0, none⟩) n cap) := (hbc.cell (p := ⟨r, 0, none⟩) (cell_block_lt HC0.out)).trans HC0.out; have e0f : wc.frozen? ⟨r, 0, none⟩ = false := (hbc.frozen (p := ⟨r, 0, none⟩) (cell_block_lt HC0.out)).trans HF0.out; clear hownc hgc hbc)
          | (go_at_call 45; refine HCD.out.mono ?_; rintro e w1 ⟨rfl, hq⟩; obtain ⟨d0, d3, dB, fB, hLA⟩ := HQ1.out g' cap' w1 hq; have HQ2 := Lib.hid hq; have HLA := Lib.hid hLA; clear hq hLA)
          | (at_builtin; refine wpList_append_bytes_at rfl (.tmp 93) (.tmp 101) rfl w1.heap.size (.slice none 0 0) 0 [] rfl (World.ownsRow_nil _ _ _ _) none 0 0 [] rfl rfl w1.heap.size Lies.none_ (by omega) (Nat.le_refl _) ?_; intro vd wd hownd hgd _; have hbd : Below w1.heap.size w1 wd := (Below.refl _ _).grown hgd (Nat.le_refl _) (fun k e => by cases e); have HD1 := Lib.hid (And.intro hownd hbd); clear hownd hgd hbd)
          | (at_builtin; refine wpList_append_bytes_at rfl (.tmp 103) (.tmp 104) rfl w1.heap.size vd (0 + 0) ([] ++ []) rfl HD1.out.1 A m c l' rfl HL2.out w1.heap.size (HLA.out.below HD1.out.2) (by omega) HD1.out.2.size ?_; intro ve we howne hge _; have hbe : Below w1.heap.size w1 we := HD1.out.2.grown hge HD1.out.2.size (fun k e => (HD1.out.1.lt k e).1); rw [Nat.add_zero, Nat.zero_add, List.append_nil, List.nil_append] at howne; obtain ⟨A2, c2, rfl, -, -⟩ := own_cap howne; have g0 : we.cell? ⟨r, 0, none⟩ = some (.slice (some ⟨g', 0, none⟩) (n + 1) cap') := (hbe.cell (p := ⟨r, 0, none⟩) (cell_block_lt d0)).trans d0; have g3 : we.cell? ⟨r, 3, none⟩ = some (.int .i64 keep) := (hbe.cell (p := ⟨r, 3, none⟩) (cell_block_lt d3)).trans d3; have gB : we.cell? ⟨g', j * 3 + 1, none⟩ = some (.slice none 0 0) := (hbe.cell (p := ⟨g', j * 3 + 1, none⟩) (cell_block_lt dB)).trans dB; have gF : we.frozen? ⟨g', j * 3 + 1, none⟩ = false := (hbe.frozen (p := ⟨g', j * 3 + 1, none⟩) (cell_block_lt dB)).trans fB; have HF2 := Lib.hid (HF1.out g' cap' w1 HQ2.out _ we howne hbe); clear howne hge hbe))
        go_ret
        exact ⟨rfl, HF2.out⟩
      · obtain rfl : j = n := by omega
        have hjn : ¬ (j : Int) < (j : Int) := by omega
        rcases own_shape37 HO.out with ⟨rfl, rfl, rfl⟩ | ⟨g, rfl, hcap⟩
        · skip
          have HT1 : Hid ((xs.take (0 * 3)).length = 0 * 3) := by have := HO.out.1; show _ = _; rw [List.length_take]; omega
          have HT2 : Hid ((xs.drop (0 * 3)).length = (0) * 3) := by have := HO.out.1; show _ = _; rw [List.length_drop]; omega
          have HT3 : Hid (0 + 1 + (0) = 0 + 1) := by show _ = _; omega
          go_wp2_with (first
            | (at_builtin; refine wpList_append_files rfl (.tmp 66) (.tmp 72) rfl w.heap.size (.slice none 0 0) 0 [] rfl (World.ownsRow_nil _ _ _ _) none 0 0 (xs.take (0 * 3)) rfl HT1.out (src_take HO.out (Below.refl _ _)) (fun u hu => HX.out u (List.mem_of_mem_take hu)) (by omega) (Nat.le_refl _) ?_; intro va wa howna hga; have hba : Below w.heap.size w wa := (Below.refl _ _).grown hga (Nat.le_refl _) (fun k e => by cases e); rw [Nat.zero_add, List.nil_append] at howna; have HA1 := Lib.hid (And.intro howna hba); clear howna hga hba)
            | (at_builtin; refine wpList_append_files rfl (.tmp 74) (.tmp 77) rfl w.heap.size va 0 (xs.take (0 * 3)) rfl (HA1.out.1.alloc _) (some ⟨wa.heap.size, 0, none⟩) 1 1 [.string name, .slice none 0 0, .int .i64 0] rfl rfl (new_file wa name) (new_one name) (by omega) (by have := HA1.out.2.size; simp; omega) ?_; intro vb wb hownb hgb; have hbb : Below w.heap.size w wb := (HA1.out.2.alloc HA1.out.2.size _).grown hgb (by have := HA1.out.2.size; simp; omega) (fun k e => (HA1.out.1.lt k e).1); have b0 : wb.cell? ⟨r, 0, none⟩ = some (.slice none 0 0) := (hbb.cell (p := ⟨r, 0, none⟩) (cell_block_lt HC0.out)).trans HC0.out; have HB1 := Lib.hid (And.intro hownb hbb); clear hownb hgb hbb)
            | (at_builtin; refine wpList_append_files rfl (.tmp 79) (.tmp 85) rfl w.heap.size vb (0 + 1) (xs.take (0 * 3) ++ [.string name, .slice none 0 0, .int .i64 0]) rfl HB1.out.1 none 0 0 (xs.drop (0 * 3)) rfl HT2.out (src_none HO.out) (fun u hu => HX.out u (List.mem_of_mem_drop hu)) (by omega) HB1.out.2.size ?_; intro vc wc hownc hgc; have hbc : Below w.heap.size w wc := HB1.out.2.grown hgc HB1.out.2.size (fun k e => (HB1.out.1.lt k e).1); rw [HT3.out] at hownc; obtain ⟨g', cap', rfl, HCD⟩ := HP1.out vc wc hownc hbc; have e00 : wc.cell? ⟨r, 0, none⟩ = some (.slice none 0 0) := (hbc.cell (p := ⟨r, 0, none⟩) (cell_block_lt HC0.out)).trans HC0.out; have e0f : wc.frozen? ⟨r, 0, none⟩ = false := (hbc.frozen (p := ⟨r, 0, none⟩) (cell_block_lt HC0.out)).trans HF0.out; clear hownc hgc hbc)
            | (go_at_call 45; refine HCD.out.mono ?_; rintro e w1 ⟨rfl, hq⟩; obtain ⟨d0, d3, dB, fB, hLA⟩ := HQ1.out g' cap' w1 hq; have HQ2 := Lib.hid hq; have HLA := Lib.hid hLA; clear hq hLA)
            | (at_builtin; refine wpList_append_bytes_at rfl (.tmp 93) (.tmp 101) rfl w1.heap.size (.slice none 0 0) 0 [] rfl (World.ownsRow_nil _ _ _ _) none 0 0 [] rfl rfl w1.heap.size Lies.none_ (by omega) (Nat.le_refl _) ?_; intro vd wd hownd hgd _; have hbd : Below w1.heap.size w1 wd := (Below.refl _ _).grown hgd (Nat.le_refl _) (fun k e => by cases e); have HD1 := Lib.hid (And.intro hownd hbd); clear hownd hgd hbd)
            | (at_builtin; refine wpList_append_bytes_at rfl (.tmp 103) (.tmp 104) rfl w1.heap.size vd (0 + 0) ([] ++ []) rfl HD1.out.1 A m c l' rfl HL2.out w1.heap.size (HLA.out.below HD1.out.2) (by omega) HD1.out.2.size ?_; intro ve we howne hge _; have hbe : Below w1.heap.size w1 we := HD1.out.2.grown hge HD1.out.2.size (fun k e => (HD1.out.1.lt k e).1); rw [Nat.add_zero, Nat.zero_add, List.append_nil, List.nil_append] at howne; obtain ⟨A2, c2, rfl, -, -⟩ := own_cap howne; have g0 : we.cell? ⟨r, 0, none⟩ = some (.slice (some ⟨g', 0, none⟩) (0 + 1) cap') := (hbe.cell (p := ⟨r, 0, none⟩) (cell_block_lt d0)).trans d0; have g3 : we.cell? ⟨r, 3, none⟩ = some (.int .i64 keep) := (hbe.cell (p := ⟨r, 3, none⟩) (cell_block_lt d3)).trans d3; have gB : we.cell? ⟨g', 0 * 3 + 1, none⟩ = some (.slice none 0 0) := (hbe.cell (p := ⟨g', 0 * 3 + 1, none⟩) (cell_block_lt dB)).trans dB; have gF : we.frozen? ⟨g', 0 * 3 + 1, none⟩ = false := (hbe.frozen (p := ⟨g', 0 * 3 + 1, none⟩) (cell_block_lt dB)).trans fB; have HF2 := Lib.hid (HF1.out g' cap' w1 HQ2.out _ we howne hbe); clear howne hge hbe))
          go_ret
          exact ⟨rfl, HF2.out⟩
        · by_cases hcj : cap = j
          · subst hcj
            by_cases hc0 : cap = 0
            · subst hc0
              have HT1 : Hid ((xs.take (0 * 3)).length = 0 * 3) := by have := HO.out.1; show _ = _; rw [List.length_take]; omega
              have HT2 : Hid ((xs.drop (0 * 3)).length = (0) * 3) := by have := HO.out.1; show _ = _; rw [List.length_drop]; omega
              have HT3 : Hid (0 + 1 + (0) = 0 + 1) := by show _ = _; omega
              go_wp2_with (first
                | (at_builtin; refine wpList_append_files rfl (.tmp 66) (.tmp 72) rfl w.heap.size (.slice none 0 0) 0 [] rfl (World.ownsRow_nil _ _ _ _) (some ⟨g, 0, none⟩) 0 0 (xs.take (0 * 3)) rfl HT1.out (src_take HO.out (Below.refl _ _)) (fun u hu => HX.out u (List.mem_of_mem_take hu)) (by omega) (Nat.le_refl _) ?_; intro va wa howna hga; have hba : Below w.heap.size w wa := (Below.refl _ _).grown hga (Nat.le_refl _) (fun k e => by cases e); rw [Nat.zero_add, List.nil_append] at howna; have HA1 := Lib.hid (And.intro howna hba); clear howna hga hba)
                | (at_builtin; refine wpList_append_files rfl (.tmp 74) (.tmp 77) rfl w.heap.size va 0 (xs.take (0 * 3)) rfl (HA1.out.1.alloc _) (some ⟨wa.heap.size, 0, none⟩) 1 1 [.string name, .slice none 0 0, .int .i64 0] rfl rfl (new_file wa name) (new_one name) (by omega) (by have := HA1.out.2.size; simp; omega) ?_; intro vb wb hownb hgb; have hbb : Below w.heap.size w wb := (HA1.out.2.alloc HA1.out.2.size _).grown hgb (by have := HA1.out.2.size; simp; omega) (fun k e => (HA1.out.1.lt k e).1); have b0 : wb.cell? ⟨r, 0, none⟩ = some (.slice (some ⟨g, 0, none⟩) 0 0) := (hbb.cell (p := ⟨r, 0, none⟩) (cell_block_lt HC0.out)).trans HC0.out; have HB1 := Lib.hid (And.intro hownb hbb); clear hownb hgb hbb)
                | (at_builtin; refine wpList_append_files rfl (.tmp 79) (.tmp 85) rfl w.heap.size vb (0 + 1) (xs.take (0 * 3) ++ [.string name, .slice none 0 0, .int .i64 0]) rfl HB1.out.1 (some ⟨g, 0, none⟩) 0 0 (xs.drop (0 * 3)) rfl HT2.out (src_none HO.out) (fun u hu => HX.out u (List.mem_of_mem_drop hu)) (by omega) HB1.out.2.size ?_; intro vc wc hownc hgc; have hbc : Below w.heap.size w wc := HB1.out.2.grown hgc HB1.out.2.size (fun k e => (HB1.out.1.lt k e).1); rw [HT3.out] at hownc; obtain ⟨g', cap', rfl, HCD⟩ := HP1.out vc wc hownc hbc; have e00 : wc.cell? ⟨r, 0, none⟩ = some (.slice (some ⟨g, 0, none⟩) 0 0) := (hbc.cell (p := ⟨r, 0, none⟩) (cell_block_lt HC0.out)).trans HC0.out; have e0f : wc.frozen? ⟨r, 0, none⟩ = false := (hbc.frozen (p := ⟨r, 0, none⟩) (cell_block_lt HC0.out)).trans HF0.out; clear hownc hgc hbc)
                | (go_at_call 45; refine HCD.out.mono ?_; rintro e w1 ⟨rfl, hq⟩; obtain ⟨d0, d3, dB, fB, hLA⟩ := HQ1.out g' cap' w1 hq; have HQ2 := Lib.hid hq; have HLA := Lib.hid hLA; clear hq hLA)
                | (at_builtin; refine wpList_append_bytes_at rfl (.tmp 93) (.tmp 101) rfl w1.heap.size (.slice none 0 0) 0 [] rfl (World.ownsRow_nil _ _ _ _) none 0 0 [] rfl rfl w1.heap.size Lies.none_ (by omega) (Nat.le_refl _) ?_; intro vd wd hownd hgd _; have hbd : Below w1.heap.size w1 wd := (Below.refl _ _).grown hgd (Nat.le_refl _) (fun k e => by cases e); have HD1 := Lib.hid (And.intro hownd hbd); clear hownd hgd hbd)
                | (at_builtin; refine wpList_append_bytes_at rfl (.tmp 103) (.tmp 104) rfl w1.heap.size vd (0 + 0) ([] ++ []) rfl HD1.out.1 A m c l' rfl HL2.out w1.heap.size (HLA.out.below HD1.out.2) (by omega) HD1.out.2.size ?_; intro ve we howne hge _; have hbe : Below w1.heap.size w1 we := HD1.out.2.grown hge HD1.out.2.size (fun k e => (HD1.out.1.lt k e).1); rw [Nat.add_zero, Nat.zero_add, List.append_nil, List.nil_append] at howne; obtain ⟨A2, c2, rfl, -, -⟩ := own_cap howne; have g0 : we.cell? ⟨r, 0, none⟩ = some (.slice (some ⟨g', 0, none⟩) (0 + 1) cap') := (hbe.cell (p := ⟨r, 0, none⟩) (cell_block_lt d0)).trans d0; have g3 : we.cell? ⟨r, 3, none⟩ = some (.int .i64 keep) := (hbe.cell (p := ⟨r, 3, none⟩) (cell_block_lt d3)).trans d3; have gB : we.cell? ⟨g', 0 * 3 + 1, none⟩ = some (.slice none 0 0) := (hbe.cell (p := ⟨g', 0 * 3 + 1, none⟩) (cell_block_lt dB)).trans dB; have gF : we.frozen? ⟨g', 0 * 3 + 1, none⟩ = false := (hbe.frozen (p := ⟨g', 0 * 3 + 1, none⟩) (cell_block_lt dB)).trans fB; have HF2 := Lib.hid (HF1.out g' cap' w1 HQ2.out _ we howne hbe); clear howne hge hbe))
              go_ret
              exact ⟨rfl, HF2.out⟩
            · skip
              have HT1 : Hid ((xs.take (cap * 3)).length = cap * 3) := by have := HO.out.1; show _ = _; rw [List.length_take]; omega
              have HT2 : Hid ((xs.drop (cap * 3)).length = (0) * 3) := by have := HO.out.1; show _ = _; rw [List.length_drop]; omega
              have HT3 : Hid (cap + 1 + (0) = cap + 1) := by show _ = _; omega
              go_wp2_with (first
                | (at_builtin; refine wpList_append_files rfl (.tmp 66) (.tmp 72) rfl w.heap.size (.slice none 0 0) 0 [] rfl (World.ownsRow_nil _ _ _ _) (some ⟨g, 0, none⟩) cap cap (xs.take (cap * 3)) rfl HT1.out (src_take HO.out (Below.refl _ _)) (fun u hu => HX.out u (List.mem_of_mem_take hu)) (by omega) (Nat.le_refl _) ?_; intro va wa howna hga; have hba : Below w.heap.size w wa := (Below.refl _ _).grown hga (Nat.le_refl _) (fun k e => by cases e); rw [Nat.zero_add, List.nil_append] at howna; have HA1 := Lib.hid (And.intro howna hba); clear howna hga hba)
                | (at_builtin; refine wpList_append_files rfl (.tmp 74) (.tmp 77) rfl w.heap.size va cap (xs.take (cap * 3)) rfl (HA1.out.1.alloc _) (some ⟨wa.heap.size, 0, none⟩) 1 1 [.string name, .slice none 0 0, .int .i64 0] rfl rfl (new_file wa name) (new_one name) (by omega) (by have := HA1.out.2.size; simp; omega) ?_; intro vb wb hownb hgb; have hbb : Below w.heap.size w wb := (HA1.out.2.alloc HA1.out.2.size _).grown hgb (by have := HA1.out.2.size; simp; omega) (fun k e => (HA1.out.1.lt k e).1); have b0 : wb.cell? ⟨r, 0, none⟩ = some (.slice (some ⟨g, 0, none⟩) cap cap) := (hbb.cell (p := ⟨r, 0, none⟩) (cell_block_lt HC0.out)).trans HC0.out; have HB1 := Lib.hid (And.intro hownb hbb); clear hownb hgb hbb)
                | (at_builtin; refine wpList_append_files rfl (.tmp 79) (.tmp 85) rfl w.heap.size vb (cap + 1) (xs.take (cap * 3) ++ [.string name, .slice none 0 0, .int .i64 0]) rfl HB1.out.1 (some ⟨g, 0, none⟩) 0 0 (xs.drop (cap * 3)) rfl HT2.out (src_none HO.out) (fun u hu => HX.out u (List.mem_of_mem_drop hu)) (by omega) HB1.out.2.size ?_; intro vc wc hownc hgc; have hbc : Below w.heap.size w wc := HB1.out.2.grown hgc HB1.out.2.size (fun k e => (HB1.out.1.lt k e).1); rw [HT3.out] at hownc; obtain ⟨g', cap', rfl, HCD⟩ := HP1.out vc wc hownc hbc; have e00 : wc.cell? ⟨r, 0, none⟩ = some (.slice (some ⟨g, 0, none⟩) cap cap) := (hbc.cell (p := ⟨r, 0, none⟩) (cell_block_lt HC0.out)).trans HC0.out; have e0f : wc.frozen? ⟨r, 0, none⟩ = false := (hbc.frozen (p := ⟨r, 0, none⟩) (cell_block_lt HC0.out)).trans HF0.out; clear hownc hgc hbc)
                | (go_at_call 45; refine HCD.out.mono ?_; rintro e w1 ⟨rfl, hq⟩; obtain ⟨d0, d3, dB, fB, hLA⟩ := HQ1.out g' cap' w1 hq; have HQ2 := Lib.hid hq; have HLA := Lib.hid hLA; clear hq hLA)
                | (at_builtin; refine wpList_append_bytes_at rfl (.tmp 93) (.tmp 101) rfl w1.heap.size (.slice none 0 0) 0 [] rfl (World.ownsRow_nil _ _ _ _) none 0 0 [] rfl rfl w1.heap.size Lies.none_ (by omega) (Nat.le_refl _) ?_; intro vd wd hownd hgd _; have hbd : Below w1.heap.size w1 wd := (Below.refl _ _).grown hgd (Nat.le_refl _) (fun k e => by cases e); have HD1 := Lib.hid (And.intro hownd hbd); clear hownd hgd hbd)
                | (at_builtin; refine wpList_append_bytes_at rfl (.tmp 103) (.tmp 104) rfl w1.heap.size vd (0 + 0) ([] ++ []) rfl HD1.out.1 A m c l' rfl HL2.out w1.heap.size (HLA.out.below HD1.out.2) (by omega) HD1.out.2.size ?_; intro ve we howne hge _; have hbe : Below w1.heap.size w1 we := HD1.out.2.grown hge HD1.out.2.size (fun k e => (HD1.out.1.lt k e).1); rw [Nat.add_zero, Nat.zero_add, List.append_nil, List.nil_append] at howne; obtain ⟨A2, c2, rfl, -, -⟩ := own_cap howne; have g0 : we.cell? ⟨r, 0, none⟩ = some (.slice (some ⟨g', 0, none⟩) (cap + 1) cap') := (hbe.cell (p := ⟨r, 0, none⟩) (cell_block_lt d0)).trans d0; have g3 : we.cell? ⟨r, 3, none⟩ = some (.int .i64 keep) := (hbe.cell (p := ⟨r, 3, none⟩) (cell_block_lt d3)).trans d3; have gB : we.cell? ⟨g', cap * 3 + 1, none⟩ = some (.slice none 0 0) := (hbe.cell (p := ⟨g', cap * 3 + 1, none⟩) (cell_block_lt dB)).trans dB; have gF : we.frozen? ⟨g', cap * 3 + 1, none⟩ = false := (hbe.frozen (p := ⟨g', cap * 3 + 1, none⟩) (cell_block_lt dB)).trans fB; have HF2 := Lib.hid (HF1.out g' cap' w1 HQ2.out _ we howne hbe); clear howne hge hbe))
              go_ret
              exact ⟨rfl, HF2.out⟩
          · have hc0 : ¬ cap = 0 := by omega
            have hjc : (j : Int) ≤ (cap : Int) := by omega
            have HT1 : Hid ((xs.take (j * 3)).length = j * 3) := by have := HO.out.1; show _ = _; rw [List.length_take]; omega
            have HT2 : Hid ((xs.drop (j * 3)).length = (0) * 3) := by have := HO.out.1; show _ = _; rw [List.length_drop]; omega
            have HT3 : Hid (j + 1 + (0) = j + 1) := by show _ = _; omega
            go_wp2_with (first
              | (at_builtin; refine wpList_append_files rfl (.tmp 66) (.tmp 72) rfl w.heap.size (.slice none 0 0) 0 [] rfl (World.ownsRow_nil _ _ _ _) (some ⟨g, 0, none⟩) j cap (xs.take (j * 3)) rfl HT1.out (src_take HO.out (Below.refl _ _)) (fun u hu => HX.out u (List.mem_of_mem_take hu)) (by omega) (Nat.le_refl _) ?_; intro va wa howna hga; have hba : Below w.heap.size w wa := (Below.refl _ _).grown hga (Nat.le_refl _) (fun k e => by cases e); rw [Nat.zero_add, List.nil_append] at howna; have HA1 := Lib.hid (And.intro howna hba); clear howna hga hba)
              | (at_builtin; refine wpList_append_files rfl (.tmp 74) (.tmp 77) rfl w.heap.size va j (xs.take (j * 3)) rfl (HA1.out.1.alloc _) (some ⟨wa.heap.size, 0, none⟩) 1 1 [.string name, .slice none 0 0, .int .i64 0] rfl rfl (new_file wa name) (new_one name) (by omega) (by have := HA1.out.2.size; simp; omega) ?_; intro vb wb hownb hgb; have hbb : Below w.heap.size w wb := (HA1.out.2.alloc HA1.out.2.size _).grown hgb (by have := HA1.out.2.size; simp; omega) (fun k e => (HA1.out.1.lt k e).1); have b0 : wb.cell? ⟨r, 0, none⟩ = some (.slice (some ⟨g, 0, none⟩) j cap) := (hbb.cell (p := ⟨r, 0, none⟩) (cell_block_lt HC0.out)).trans HC0.out; have HB1 := Lib.hid (And.intro hownb hbb); clear hownb hgb hbb)
              | (at_builtin; refine wpList_append_files rfl (.tmp 79) (.tmp 85) rfl w.heap.size vb (j + 1) (xs.take (j * 3) ++ [.string name, .slice none 0 0, .int .i64 0]) rfl HB1.out.1 (some ⟨g, j * 3, none⟩) 0 (cap - j) (xs.drop (j * 3)) rfl HT2.out (src_none HO.out) (fun u hu => HX.out u (List.mem_of_mem_drop hu)) (by omega) HB1.out.2.size ?_; intro vc wc hownc hgc; have hbc : Below w.heap.size w wc := HB1.out.2.grown hgc HB1.out.2.size (fun k e => (HB1.out.1.lt k e).1); rw [HT3.out] at hownc; obtain ⟨g', cap', rfl, HCD⟩ := HP1.out vc wc hownc hbc; have e00 : wc.cell? ⟨r, 0, none⟩ = some (.slice (some ⟨g, 0, none⟩) j cap) := (hbc.cell (p := ⟨r, 0, none⟩) (cell_block_lt HC0.out)).trans HC0.out; have e0f : wc.frozen? ⟨r, 0, none⟩ = false := (hbc.frozen (p := ⟨r, 0, none⟩) (cell_block_lt HC0.out)).trans HF0.out; clear hownc hgc hbc)
              | (go_at_call 45; refine HCD.out.mono ?_; rintro e w1 ⟨rfl, hq⟩; obtain ⟨d0, d3, dB, fB, hLA⟩ := HQ1.out g' cap' w1 hq; have HQ2 := Lib.hid hq; have HLA := Lib.hid hLA; clear hq hLA)
              | (at_builtin; refine wpList_append_bytes_at rfl (.tmp 93) (.tmp 101) rfl w1.heap.size (.slice none 0 0) 0 [] rfl (World.ownsRow_nil _ _ _ _) none 0 0 [] rfl rfl w1.heap.size Lies.none_ (by omega) (Nat.le_refl _) ?_; intro vd wd hownd hgd _; have hbd : Below w1.heap.size w1 wd := (Below.refl _ _).grown hgd (Nat.le_refl _) (fun k e => by cases e); have HD1 := Lib.hid (And.intro hownd hbd); clear hownd hgd hbd)
              | (at_builtin; refine wpList_append_bytes_at rfl (.tmp 103) (.tmp 104) rfl w1.heap.size vd (0 + 0) ([] ++ []) rfl HD1.out.1 A m c l' rfl HL2.out w1.heap.size (HLA.out.below HD1.out.2) (by omega) HD1.out.2.size ?_; intro ve we howne hge _; have hbe : Below w1.heap.size w1 we := HD1.out.2.grown hge HD1.out.2.size (fun k e => (HD1.out.1.lt k e).1); rw [Nat.add_zero, Nat.zero_add, List.append_nil, List.nil_append] at howne; obtain ⟨A2, c2, rfl, -, -⟩ := own_cap howne; have g0 : we.cell? ⟨r, 0, none⟩ = some (.slice (some ⟨g', 0, none⟩) (j + 1) cap') := (hbe.cell (p := ⟨r, 0, none⟩) (cell_block_lt d0)).trans d0; have g3 : we.cell? ⟨r, 3, none⟩ = some (.int .i64 keep) := (hbe.cell (p := ⟨r, 3, none⟩) (cell_block_lt d3)).trans d3; have gB : we.cell? ⟨g', j * 3 + 1, none⟩ = some (.slice none 0 0) := (hbe.cell (p := ⟨g', j * 3 + 1, none⟩) (cell_block_lt dB)).trans dB; have gF : we.frozen? ⟨g', j * 3 + 1, none⟩ = false := (hbe.frozen (p := ⟨g', j * 3 + 1, none⟩) (cell_block_lt dB)).trans fB; have HF2 := Lib.hid (HF1.out g' cap' w1 HQ2.out _ we howne hbe); clear howne hge hbe))
            go_ret
            exact ⟨rfl, HF2.out⟩

set_option maxRecDepth 100000 in
set_option maxHeartbeats 4000000 in
theorem rapp_new_hit {w : World} {r m c : Nat} {A AL : Option Addr} {name : ByteArray} {n cap p : Nat} {l' : List UInt8} {xs : List Value} {keep : Int} {Q : Nat → Nat → World → Prop} {R : World → Prop} (c0 : w.cell? ⟨r, 0, none⟩ = some (.slice AL n cap)) (c1 : w.cell? ⟨r, 1, none⟩ = some (.bool false)) (f0 : w.frozen? ⟨r, 0, none⟩ = false)
    (hs : name.size ≤ maxLen) (hn : isName name.data.toList = true) (H : Calls Try.prog 44 #[.pointer (some ⟨r, 0, none⟩), .string name] w fun e w' => e = .returned (.int .i64 (-1)) ∧ w = w')
    (hown : w.ownsRow 0 72 3 (.slice AL n cap) n xs) (hxs : ∀ u ∈ xs, u.oneCell' = true) (hnn : n ≤ 1000000) (hm : m ≤ 16777216) (hl' : l'.length = m) (nm : Nat → ByteArray) (hA : ∀ i, i < n → ∃ g, AL = some ⟨g, 0, none⟩ ∧ w.cell? ⟨g, i * 3, none⟩ = some (.string (nm i)))
    (hp : p ≤ n) (hlt : ∀ i, i < p → Op.bytesLess (nm i).toList name.toList = true) (hstop : p < n → Op.bytesLess (nm p).toList name.toList = false)
    (HP : ∀ vc wc, wc.ownsRow w.heap.size 72 3 vc (n + 1) (ins xs p name) → Below w.heap.size w wc → ∃ g' cap', vc = .slice (some ⟨g', 0, none⟩) (n + 1) cap' ∧ Hid (Calls Try.prog 45 #[.pointer (some ⟨r, 0, none⟩)] (wc.setCell ⟨r, 0, none⟩ (.slice (some ⟨g', 0, none⟩) (n + 1) cap')) fun e w' => e = .returned (.bool true) ∧ Q g' cap' w'))
    (HQ : ∀ g cap' w1, Q g cap' w1 → w1.cell? ⟨r, 0, none⟩ = some (.slice (some ⟨g, 0, none⟩) (n + 1) cap') ∧ w1.cell? ⟨r, 3, none⟩ = some (.int .i64 keep) ∧ w1.cell? ⟨g, p * 3 + 1, none⟩ = some (.slice none 0 0) ∧ w1.frozen? ⟨g, p * 3 + 1, none⟩ = false ∧ Lies w1 w1.heap.size A l')
    (HF : ∀ g cap' w1, Q g cap' w1 → ∀ v2 w3, w3.ownsRow w1.heap.size 5 1 v2 m (cells l') → Below w1.heap.size w1 w3 → Calls Try.prog 18 #[.pointer (some ⟨r, 0, none⟩), .int .i64 keep] (w3.setCell ⟨g, p * 3 + 1, none⟩ v2) (fun e w' => e = .returned (.tuple #[]) ∧ R w')) :
    Calls Try.prog 21 #[.pointer (some ⟨r, 0, none⟩), .string name, .slice A m c] w fun e w' => e = .returned (.int .i64 20) ∧ R w' := by
  have HN := Lib.hid hn
  have HH := Lib.hid H
  have HL2 := Lib.hid hl'
  have HA := Lib.hid hA
  have HLT := Lib.hid hlt
  have HST := Lib.hid hstop
  have HO := Lib.hid hown
  have HX := Lib.hid hxs
  have HP1 := Lib.hid HP
  have HQ1 := Lib.hid HQ
  have HF1 := Lib.hid HF
  have HC0 := Lib.hid c0
  have HF0 := Lib.hid f0
  clear hn H hl' hA hlt hstop hown hxs HP HQ HF
  have hz2 : (m : Int) ≤ 16777216 := by omega
  go_enter Try.func21, Try.ntmps21
  go_wp2_with (first
    | (go_at_call 32; refine (refName_any name _ hs).mono ?_; rintro e w' ⟨rfl, rfl⟩; rw [HN.out])
    | (go_at_call 44; refine HH.out.mono ?_; rintro e w' ⟨rfl, rfl⟩))
  go_loop [7] (fun i => ∃ j : Nat, j ≤ p ∧ i = .int .i64 j) (fun i => n - (intOf i).toNat)
  case atStart => exact ⟨0, Nat.zero_le _, rfl⟩
  case round =>
    obtain ⟨j, hj, rfl⟩ := hrel
    by_cases hjp : j < p
    · obtain ⟨g, rfl, hc⟩ := HA.out j (by omega)
      have hjn : (j : Int) < (n : Int) := by omega
      have hd := HLT.out j hjp
      generalize nm j = x at hc hd
      go_wp2
      go_round
      case rel => exact ⟨j + 1, by omega, by go_num⟩
      case measure => simp [intOf]; omega
    · obtain rfl : j = p := by omega
      clear hj hjp
      by_cases hpn : j < n
      · obtain ⟨g, rfl, hc⟩ := HA.out j hpn
        have hjn : (j : Int) < (n : Int) := by omega
        have hd := HST.out hpn
        generalize nm j = x at hc hd
        have hcap : n ≤ cap := own_cap37 HO.out
        have hc0 : ¬ cap = 0 := by omega
        have hcj : ¬ cap = j := by omega
        have hjc : (j : Int) ≤ (cap : Int) := by omega
        have hjn2 : (j : Int) ≤ (n : Int) := by omega
        have HT1 : Hid ((xs.take (j * 3)).length = j * 3) := by have := HO.out.1; show _ = _; rw [List.length_take]; omega
        have HT2 : Hid ((xs.drop (j * 3)).length = ((n - j)) * 3) := by have := HO.out.1; show _ = _; rw [List.length_drop]; omega
        have HT3 : Hid (j + 1 + ((n - j)) = n + 1) := by show _ = _; omega
        go_wp2_with (first
          | (at_builtin; refine wpList_append_files rfl (.tmp 66) (.tmp 72) rfl w.heap.size (.slice none 0 0) 0 [] rfl (World.ownsRow_nil _ _ _ _) (some ⟨g, 0, none⟩) j cap (xs.take (j * 3)) rfl HT1.out (src_take HO.out (Below.refl _ _)) (fun u hu => HX.out u (List.mem_of_mem_take hu)) (by omega) (Nat.le_refl _) ?_; intro va wa howna hga; have hba : Below w.heap.size w wa := (Below.refl _ _).grown hga (Nat.le_refl _) (fun k e => by cases e); rw [Nat.zero_add, List.nil_append] at howna; have HA1 := Lib.hid (And.intro howna hba); clear howna hga hba)
          | (at_builtin; refine wpList_append_files rfl (.tmp 74) (.tmp 77) rfl w.heap.size va j (xs.take (j * 3)) rfl (HA1.out.1.alloc _) (some ⟨wa.heap.size, 0, none⟩) 1 1 [.string name, .slice none 0 0, .int .i64 0] rfl rfl (new_file wa name) (new_one name) (by omega) (by have := HA1.out.2.size; simp; omega) ?_; intro vb wb hownb hgb; have hbb : Below w.heap.size w wb := (HA1.out.2.alloc HA1.out.2.size _).grown hgb (by have := HA1.out.2.size; simp; omega) (fun k e => (HA1.out.1.lt k e).1); have b0 : wb.cell? ⟨r, 0, none⟩ = some (.slice (some ⟨g, 0, none⟩) n cap) := (hbb.cell (p := ⟨r, 0, none⟩) (cell_block_lt HC0.out)).trans HC0.out; have HB1 := Lib.hid (And.intro hownb hbb); clear hownb hgb hbb)
          | (at_builtin; refine wpList_append_files rfl (.tmp 79) (.tmp 85) rfl w.heap.size vb (j + 1) (xs.take (j * 3) ++ [.string name, .slice none 0 0, .int .i64 0]) rfl HB1.out.1 (some ⟨g, j * 3, none⟩) (n - j) (cap - j) (xs.drop (j * 3)) rfl HT2.out (src_drop HO.out HB1.out.2) (fun u hu => HX.out u (List.mem_of_mem_drop hu)) (by omega) HB1.out.2.size ?_; intro vc wc hownc hgc; have hbc : Below w.heap.size w wc := HB1.out.2.grown hgc HB1.out.2.size (fun k e => (HB1.out.1.lt k e).1); rw [HT3.out] at hownc; obtain ⟨g', cap', rfl, HCD⟩ := HP1.out vc wc hownc hbc; have e00 : wc.cell? ⟨r, 0, none⟩ = some (.slice (some ⟨g, 0, none⟩) n cap) := (hbc.cell (p := ⟨r, 0, none⟩) (cell_block_lt HC0.out)).trans HC0.out; have e0f : wc.frozen? ⟨r, 0, none⟩ = false := (hbc.frozen (p := ⟨r, 0, none⟩) (cell_block_lt HC0.out)).trans HF0.out; clear hownc hgc hbc)
          | (go_at_call 45; refine HCD.out.mono ?_; rintro e w1 ⟨rfl, hq⟩; obtain ⟨d0, d3, dB, fB, hLA⟩ := HQ1.out g' cap' w1 hq; have HQ2 := Lib.hid hq; have HLA := Lib.hid hLA; clear hq hLA)
          | (at_builtin; refine wpList_append_bytes_at rfl (.tmp 93) (.tmp 101) rfl w1.heap.size (.slice none 0 0) 0 [] rfl (World.ownsRow_nil _ _ _ _) none 0 0 [] rfl rfl w1.heap.size Lies.none_ (by omega) (Nat.le_refl _) ?_; intro vd wd hownd hgd _; have hbd : Below w1.heap.size w1 wd := (Below.refl _ _).grown hgd (Nat.le_refl _) (fun k e => by cases e); have HD1 := Lib.hid (And.intro hownd hbd); clear hownd hgd hbd)
          | (at_builtin; refine wpList_append_bytes_at rfl (.tmp 103) (.tmp 104) rfl w1.heap.size vd (0 + 0) ([] ++ []) rfl HD1.out.1 A m c l' rfl HL2.out w1.heap.size (HLA.out.below HD1.out.2) (by omega) HD1.out.2.size ?_; intro ve we howne hge _; have hbe : Below w1.heap.size w1 we := HD1.out.2.grown hge HD1.out.2.size (fun k e => (HD1.out.1.lt k e).1); rw [Nat.add_zero, Nat.zero_add, List.append_nil, List.nil_append] at howne; obtain ⟨A2, c2, rfl, -, -⟩ := own_cap howne; have g0 : we.cell? ⟨r, 0, none⟩ = some (.slice (some ⟨g', 0, none⟩) (n + 1) cap') := (hbe.cell (p := ⟨r, 0, none⟩) (cell_block_lt d0)).trans d0; have g3 : we.cell? ⟨r, 3, none⟩ = some (.int .i64 keep) := (hbe.cell (p := ⟨r, 3, none⟩) (cell_block_lt d3)).trans d3; have gB : we.cell? ⟨g', j * 3 + 1, none⟩ = some (.slice none 0 0) := (hbe.cell (p := ⟨g', j * 3 + 1, none⟩) (cell_block_lt dB)).trans dB; have gF : we.frozen? ⟨g', j * 3 + 1, none⟩ = false := (hbe.frozen (p := ⟨g', j * 3 + 1, none⟩) (cell_block_lt dB)).trans fB; have HF2 := Lib.hid (HF1.out g' cap' w1 HQ2.out _ we howne hbe); clear howne hge hbe)
          | (go_at_call 18; refine HF2.out.mono ?_; rintro e w5 ⟨rfl, hR⟩))
        go_ret
        exact ⟨rfl, hR⟩
      · obtain rfl : j = n := by omega
        have hjn : ¬ (j : Int) < (j : Int) := by omega
        rcases own_shape37 HO.out with ⟨rfl, rfl, rfl⟩ | ⟨g, rfl, hcap⟩
        · skip
          have HT1 : Hid ((xs.take (0 * 3)).length = 0 * 3) := by have := HO.out.1; show _ = _; rw [List.length_take]; omega
          have HT2 : Hid ((xs.drop (0 * 3)).length = (0) * 3) := by have := HO.out.1; show _ = _; rw [List.length_drop]; omega
          have HT3 : Hid (0 + 1 + (0) = 0 + 1) := by show _ = _; omega
          go_wp2_with (first
            | (at_builtin; refine wpList_append_files rfl (.tmp 66) (.tmp 72) rfl w.heap.size (.slice none 0 0) 0 [] rfl (World.ownsRow_nil _ _ _ _) none 0 0 (xs.take (0 * 3)) rfl HT1.out (src_take HO.out (Below.refl _ _)) (fun u hu => HX.out u (List.mem_of_mem_take hu)) (by omega) (Nat.le_refl _) ?_; intro va wa howna hga; have hba : Below w.heap.size w wa := (Below.refl _ _).grown hga (Nat.le_refl _) (fun k e => by cases e); rw [Nat.zero_add, List.nil_append] at howna; have HA1 := Lib.hid (And.intro howna hba); clear howna hga hba)
            | (at_builtin; refine wpList_append_files rfl (.tmp 74) (.tmp 77) rfl w.heap.size va 0 (xs.take (0 * 3)) rfl (HA1.out.1.alloc _) (some ⟨wa.heap.size, 0, none⟩) 1 1 [.string name, .slice none 0 0, .int .i64 0] rfl rfl (new_file wa name) (new_one name) (by omega) (by have := HA1.out.2.size; simp; omega) ?_; intro vb wb hownb hgb; have hbb : Below w.heap.size w wb := (HA1.out.2.alloc HA1.out.2.size _).grown hgb (by have := HA1.out.2.size; simp; omega) (fun k e => (HA1.out.1.lt k e).1); have b0 : wb.cell? ⟨r, 0, none⟩ = some (.slice none 0 0) := (hbb.cell (p := ⟨r, 0, none⟩) (cell_block_lt HC0.out)).trans HC0.out; have HB1 := Lib.hid (And.intro hownb hbb); clear hownb hgb hbb)
            | (at_builtin; refine wpList_append_files rfl (.tmp 79) (.tmp 85) rfl w.heap.size vb (0 + 1) (xs.take (0 * 3) ++ [.string name, .slice none 0 0, .int .i64 0]) rfl HB1.out.1 none 0 0 (xs.drop (0 * 3)) rfl HT2.out (src_none HO.out) (fun u hu => HX.out u (List.mem_of_mem_drop hu)) (by omega) HB1.out.2.size ?_; intro vc wc hownc hgc; have hbc : Below w.heap.size w wc := HB1.out.2.grown hgc HB1.out.2.size (fun k e => (HB1.out.1.lt k e).1); rw [HT3.out] at hownc; obtain ⟨g', cap', rfl, HCD⟩ := HP1.out vc wc hownc hbc; have e00 : wc.cell? ⟨r, 0, none⟩ = some (.slice none 0 0) := (hbc.cell (p := ⟨r, 0, none⟩) (cell_block_lt HC0.out)).trans HC0.out; have e0f : wc.frozen? ⟨r, 0, none⟩ = false := (hbc.frozen (p := ⟨r, 0, none⟩) (cell_block_lt HC0.out)).trans HF0.out; clear hownc hgc hbc)
            | (go_at_call 45; refine HCD.out.mono ?_; rintro e w1 ⟨rfl, hq⟩; obtain ⟨d0, d3, dB, fB, hLA⟩ := HQ1.out g' cap' w1 hq; have HQ2 := Lib.hid hq; have HLA := Lib.hid hLA; clear hq hLA)
            | (at_builtin; refine wpList_append_bytes_at rfl (.tmp 93) (.tmp 101) rfl w1.heap.size (.slice none 0 0) 0 [] rfl (World.ownsRow_nil _ _ _ _) none 0 0 [] rfl rfl w1.heap.size Lies.none_ (by omega) (Nat.le_refl _) ?_; intro vd wd hownd hgd _; have hbd : Below w1.heap.size w1 wd := (Below.refl _ _).grown hgd (Nat.le_refl _) (fun k e => by cases e); have HD1 := Lib.hid (And.intro hownd hbd); clear hownd hgd hbd)
            | (at_builtin; refine wpList_append_bytes_at rfl (.tmp 103) (.tmp 104) rfl w1.heap.size vd (0 + 0) ([] ++ []) rfl HD1.out.1 A m c l' rfl HL2.out w1.heap.size (HLA.out.below HD1.out.2) (by omega) HD1.out.2.size ?_; intro ve we howne hge _; have hbe : Below w1.heap.size w1 we := HD1.out.2.grown hge HD1.out.2.size (fun k e => (HD1.out.1.lt k e).1); rw [Nat.add_zero, Nat.zero_add, List.append_nil, List.nil_append] at howne; obtain ⟨A2, c2, rfl, -, -⟩ := own_cap howne; have g0 : we.cell? ⟨r, 0, none⟩ = some (.slice (some ⟨g', 0, none⟩) (0 + 1) cap') := (hbe.cell (p := ⟨r, 0, none⟩) (cell_block_lt d0)).trans d0; have g3 : we.cell? ⟨r, 3, none⟩ = some (.int .i64 keep) := (hbe.cell (p := ⟨r, 3, none⟩) (cell_block_lt d3)).trans d3; have gB : we.cell? ⟨g', 0 * 3 + 1, none⟩ = some (.slice none 0 0) := (hbe.cell (p := ⟨g', 0 * 3 + 1, none⟩) (cell_block_lt dB)).trans dB; have gF : we.frozen? ⟨g', 0 * 3 + 1, none⟩ = false := (hbe.frozen (p := ⟨g', 0 * 3 + 1, none⟩) (cell_block_lt dB)).trans fB; have HF2 := Lib.hid (HF1.out g' cap' w1 HQ2.out _ we howne hbe); clear howne hge hbe)
            | (go_at_call 18; refine HF2.out.mono ?_; rintro e w5 ⟨rfl, hR⟩))
          go_ret
          exact ⟨rfl, hR⟩
        · by_cases hcj : cap = j
          · subst hcj
            by_cases hc0 : cap = 0
            · subst hc0
              have HT1 : Hid ((xs.take (0 * 3)).length = 0 * 3) := by have := HO.out.1; show _ = _; rw [List.length_take]; omega
              have HT2 : Hid ((xs.drop (0 * 3)).length = (0) * 3) := by have := HO.out.1; show _ = _; rw [List.length_drop]; omega
              have HT3 : Hid (0 + 1 + (0) = 0 + 1) := by show _ = _; omega
              go_wp2_with (first
                | (at_builtin; refine wpList_append_files rfl (.tmp 66) (.tmp 72) rfl w.heap.size (.slice none 0 0) 0 [] rfl (World.ownsRow_nil _ _ _ _) (some ⟨g, 0, none⟩) 0 0 (xs.take (0 * 3)) rfl HT1.out (src_take HO.out (Below.refl _ _)) (fun u hu => HX.out u (List.mem_of_mem_take hu)) (by omega) (Nat.le_refl _) ?_; intro va wa howna hga; have hba : Below w.heap.size w wa := (Below.refl _ _).grown hga (Nat.le_refl _) (fun k e => by cases e); rw [Nat.zero_add, List.nil_append] at howna; have HA1 := Lib.hid (And.intro howna hba); clear howna hga hba)
                | (at_builtin; refine wpList_append_files rfl (.tmp 74) (.tmp 77) rfl w.heap.size va 0 (xs.take (0 * 3)) rfl (HA1.out.1.alloc _) (some ⟨wa.heap.size, 0, none⟩) 1 1 [.string name, .slice none 0 0, .int .i64 0] rfl rfl (new_file wa name) (new_one name) (by omega) (by have := HA1.out.2.size; simp; omega) ?_; intro vb wb hownb hgb; have hbb : Below w.heap.size w wb := (HA1.out.2.alloc HA1.out.2.size _).grown hgb (by have := HA1.out.2.size; simp; omega) (fun k e => (HA1.out.1.lt k e).1); have b0 : wb.cell? ⟨r, 0, none⟩ = some (.slice (some ⟨g, 0, none⟩) 0 0) := (hbb.cell (p := ⟨r, 0, none⟩) (cell_block_lt HC0.out)).trans HC0.out; have HB1 := Lib.hid (And.intro hownb hbb); clear hownb hgb hbb)
                | (at_builtin; refine wpList_append_files rfl (.tmp 79) (.tmp 85) rfl w.heap.size vb (0 + 1) (xs.take (0 * 3) ++ [.string name, .slice none 0 0, .int .i64 0]) rfl HB1.out.1 (some ⟨g, 0, none⟩) 0 0 (xs.drop (0 * 3)) rfl HT2.out (src_none HO.out) (fun u hu => HX.out u (List.mem_of_mem_drop hu)) (by omega) HB1.out.2.size ?_; intro vc wc hownc hgc; have hbc : Below w.heap.size w wc := HB1.out.2.grown hgc HB1.out.2.size (fun k e => (HB1.out.1.lt k e).1); rw [HT3.out] at hownc; obtain ⟨g', cap', rfl, HCD⟩ := HP1.out vc wc hownc hbc; have e00 : wc.cell? ⟨r, 0, none⟩ = some (.slice (some ⟨g, 0, none⟩) 0 0) := (hbc.cell (p := ⟨r, 0, none⟩) (cell_block_lt HC0.out)).trans HC0.out; have e0f : wc.frozen? ⟨r, 0, none⟩ = false := (hbc.frozen (p := ⟨r, 0, none⟩) (cell_block_lt HC0.out)).trans HF0.out; clear hownc hgc hbc)
                | (go_at_call 45; refine HCD.out.mono ?_; rintro e w1 ⟨rfl, hq⟩; obtain ⟨d0, d3, dB, fB, hLA⟩ := HQ1.out g' cap' w1 hq; have HQ2 := Lib.hid hq; have HLA := Lib.hid hLA; clear hq hLA)
                | (at_builtin; refine wpList_append_bytes_at rfl (.tmp 93) (.tmp 101) rfl w1.heap.size (.slice none 0 0) 0 [] rfl (World.ownsRow_nil _ _ _ _) none 0 0 [] rfl rfl w1.heap.size Lies.none_ (by omega) (Nat.le_refl _) ?_; intro vd wd hownd hgd _; have hbd : Below w1.heap.size w1 wd := (Below.refl _ _).grown hgd (Nat.le_refl _) (fun k e => by cases e); have HD1 := Lib.hid (And.intro hownd hbd); clear hownd hgd hbd)
                | (at_builtin; refine wpList_append_bytes_at rfl (.tmp 103) (.tmp 104) rfl w1.heap.size vd (0 + 0) ([] ++ []) rfl HD1.out.1 A m c l' rfl HL2.out w1.heap.size (HLA.out.below HD1.out.2) (by omega) HD1.out.2.size ?_; intro ve we howne hge _; have hbe : Below w1.heap.size w1 we := HD1.out.2.grown hge HD1.out.2.size (fun k e => (HD1.out.1.lt k e).1); rw [Nat.add_zero, Nat.zero_add, List.append_nil, List.nil_append] at howne; obtain ⟨A2, c2, rfl, -, -⟩ := own_cap howne; have g0 : we.cell? ⟨r, 0, none⟩ = some (.slice (some ⟨g', 0, none⟩) (0 + 1) cap') := (hbe.cell (p := ⟨r, 0, none⟩) (cell_block_lt d0)).trans d0; have g3 : we.cell? ⟨r, 3, none⟩ = some (.int .i64 keep) := (hbe.cell (p := ⟨r, 3, none⟩) (cell_block_lt d3)).trans d3; have gB : we.cell? ⟨g', 0 * 3 + 1, none⟩ = some (.slice none 0 0) := (hbe.cell (p := ⟨g', 0 * 3 + 1, none⟩) (cell_block_lt dB)).trans dB; have gF : we.frozen? ⟨g', 0 * 3 + 1, none⟩ = false := (hbe.frozen (p := ⟨g', 0 * 3 + 1, none⟩) (cell_block_lt dB)).trans fB; have HF2 := Lib.hid (HF1.out g' cap' w1 HQ2.out _ we howne hbe); clear howne hge hbe)
                | (go_at_call 18; refine HF2.out.mono ?_; rintro e w5 ⟨rfl, hR⟩))
              go_ret
              exact ⟨rfl, hR⟩
            · skip
              have HT1 : Hid ((xs.take (cap * 3)).length = cap * 3) := by have := HO.out.1; show _ = _; rw [List.length_take]; omega
              have HT2 : Hid ((xs.drop (cap * 3)).length = (0) * 3) := by have := HO.out.1; show _ = _; rw [List.length_drop]; omega
              have HT3 : Hid (cap + 1 + (0) = cap + 1) := by show _ = _; omega
              go_wp2_with (first
                | (at_builtin; refine wpList_append_files rfl (.tmp 66) (.tmp 72) rfl w.heap.size (.slice none 0 0) 0 [] rfl (World.ownsRow_nil _ _ _ _) (some ⟨g, 0, none⟩) cap cap (xs.take (cap * 3)) rfl HT1.out (src_take HO.out (Below.refl _ _)) (fun u hu => HX.out u (List.mem_of_mem_take hu)) (by omega) (Nat.le_refl _) ?_; intro va wa howna hga; have hba : Below w.heap.size w wa := (Below.refl _ _).grown hga (Nat.le_refl _) (fun k e => by cases e); rw [Nat.zero_add, List.nil_append] at howna; have HA1 := Lib.hid (And.intro howna hba); clear howna hga hba)
                | (at_builtin; refine wpList_append_files rfl (.tmp 74) (.tmp 77) rfl w.heap.size va cap (xs.take (cap * 3)) rfl (HA1.out.1.alloc _) (some ⟨wa.heap.size, 0, none⟩) 1 1 [.string name, .slice none 0 0, .int .i64 0] rfl rfl (new_file wa name) (new_one name) (by omega) (by have := HA1.out.2.size; simp; omega) ?_; intro vb wb hownb hgb; have hbb : Below w.heap.size w wb := (HA1.out.2.alloc HA1.out.2.size _).grown hgb (by have := HA1.out.2.size; simp; omega) (fun k e => (HA1.out.1.lt k e).1); have b0 : wb.cell? ⟨r, 0, none⟩ = some (.slice (some ⟨g, 0, none⟩) cap cap) := (hbb.cell (p := ⟨r, 0, none⟩) (cell_block_lt HC0.out)).trans HC0.out; have HB1 := Lib.hid (And.intro hownb hbb); clear hownb hgb hbb)
                | (at_builtin; refine wpList_append_files rfl (.tmp 79) (.tmp 85) rfl w.heap.size vb (cap + 1) (xs.take (cap * 3) ++ [.string name, .slice none 0 0, .int .i64 0]) rfl HB1.out.1 (some ⟨g, 0, none⟩) 0 0 (xs.drop (cap * 3)) rfl HT2.out (src_none HO.out) (fun u hu => HX.out u (List.mem_of_mem_drop hu)) (by omega) HB1.out.2.size ?_; intro vc wc hownc hgc; have hbc : Below w.heap.size w wc := HB1.out.2.grown hgc HB1.out.2.size (fun k e => (HB1.out.1.lt k e).1); rw [HT3.out] at hownc; obtain ⟨g', cap', rfl, HCD⟩ := HP1.out vc wc hownc hbc; have e00 : wc.cell? ⟨r, 0, none⟩ = some (.slice (some ⟨g, 0, none⟩) cap cap) := (hbc.cell (p := ⟨r, 0, none⟩) (cell_block_lt HC0.out)).trans HC0.out; have e0f : wc.frozen? ⟨r, 0, none⟩ = false := (hbc.frozen (p := ⟨r, 0, none⟩) (cell_block_lt HC0.out)).trans HF0.out; clear hownc hgc hbc)
                | (go_at_call 45; refine HCD.out.mono ?_; rintro e w1 ⟨rfl, hq⟩; obtain ⟨d0, d3, dB, fB, hLA⟩ := HQ1.out g' cap' w1 hq; have HQ2 := Lib.hid hq; have HLA := Lib.hid hLA; clear hq hLA)
                | (at_builtin; refine wpList_append_bytes_at rfl (.tmp 93) (.tmp 101) rfl w1.heap.size (.slice none 0 0) 0 [] rfl (World.ownsRow_nil _ _ _ _) none 0 0 [] rfl rfl w1.heap.size Lies.none_ (by omega) (Nat.le_refl _) ?_; intro vd wd hownd hgd _; have hbd : Below w1.heap.size w1 wd := (Below.refl _ _).grown hgd (Nat.le_refl _) (fun k e => by cases e); have HD1 := Lib.hid (And.intro hownd hbd); clear hownd hgd hbd)
                | (at_builtin; refine wpList_append_bytes_at rfl (.tmp 103) (.tmp 104) rfl w1.heap.size vd (0 + 0) ([] ++ []) rfl HD1.out.1 A m c l' rfl HL2.out w1.heap.size (HLA.out.below HD1.out.2) (by omega) HD1.out.2.size ?_; intro ve we howne hge _; have hbe : Below w1.heap.size w1 we := HD1.out.2.grown hge HD1.out.2.size (fun k e => (HD1.out.1.lt k e).1); rw [Nat.add_zero, Nat.zero_add, List.append_nil, List.nil_append] at howne; obtain ⟨A2, c2, rfl, -, -⟩ := own_cap howne; have g0 : we.cell? ⟨r, 0, none⟩ = some (.slice (some ⟨g', 0, none⟩) (cap + 1) cap') := (hbe.cell (p := ⟨r, 0, none⟩) (cell_block_lt d0)).trans d0; have g3 : we.cell? ⟨r, 3, none⟩ = some (.int .i64 keep) := (hbe.cell (p := ⟨r, 3, none⟩) (cell_block_lt d3)).trans d3; have gB : we.cell? ⟨g', cap * 3 + 1, none⟩ = some (.slice none 0 0) := (hbe.cell (p := ⟨g', cap * 3 + 1, none⟩) (cell_block_lt dB)).trans dB; have gF : we.frozen? ⟨g', cap * 3 + 1, none⟩ = false := (hbe.frozen (p := ⟨g', cap * 3 + 1, none⟩) (cell_block_lt dB)).trans fB; have HF2 := Lib.hid (HF1.out g' cap' w1 HQ2.out _ we howne hbe); clear howne hge hbe)
                | (go_at_call 18; refine HF2.out.mono ?_; rintro e w5 ⟨rfl, hR⟩))
              go_ret
              exact ⟨rfl, hR⟩
          · have hc0 : ¬ cap = 0 := by omega
            have hjc : (j : Int) ≤ (cap : Int) := by omega
            have HT1 : Hid ((xs.take (j * 3)).length = j * 3) := by have := HO.out.1; show _ = _; rw [List.length_take]; omega
            have HT2 : Hid ((xs.drop (j * 3)).length = (0) * 3) := by have := HO.out.1; show _ = _; rw [List.length_drop]; omega
            have HT3 : Hid (j + 1 + (0) = j + 1) := by show _ = _; omega
            go_wp2_with (first
              | (at_builtin; refine wpList_append_files rfl (.tmp 66) (.tmp 72) rfl w.heap.size (.slice none 0 0) 0 [] rfl (World.ownsRow_nil _ _ _ _) (some ⟨g, 0, none⟩) j cap (xs.take (j * 3)) rfl HT1.out (src_take HO.out (Below.refl _ _)) (fun u hu => HX.out u (List.mem_of_mem_take hu)) (by omega) (Nat.le_refl _) ?_; intro va wa howna hga; have hba : Below w.heap.size w wa := (Below.refl _ _).grown hga (Nat.le_refl _) (fun k e => by cases e); rw [Nat.zero_add, List.nil_append] at howna; have HA1 := Lib.hid (And.intro howna hba); clear howna hga hba)
              | (at_builtin; refine wpList_append_files rfl (.tmp 74) (.tmp 77) rfl w.heap.size va j (xs.take (j * 3)) rfl (HA1.out.1.alloc _) (some ⟨wa.heap.size, 0, none⟩) 1 1 [.string name, .slice none 0 0, .int .i64 0] rfl rfl (new_file wa name) (new_one name) (by omega) (by have := HA1.out.2.size; simp; omega) ?_; intro vb wb hownb hgb; have hbb : Below w.heap.size w wb := (HA1.out.2.alloc HA1.out.2.size _).grown hgb (by have := HA1.out.2.size; simp; omega) (fun k e => (HA1.out.1.lt k e).1); have b0 : wb.cell? ⟨r, 0, none⟩ = some (.slice (some ⟨g, 0, none⟩) j cap) := (hbb.cell (p := ⟨r, 0, none⟩) (cell_block_lt HC0.out)).trans HC0.out; have HB1 := Lib.hid (And.intro hownb hbb); clear hownb hgb hbb)
              | (at_builtin; refine wpList_append_files rfl (.tmp 79) (.tmp 85) rfl w.heap.size vb (j + 1) (xs.take (j * 3) ++ [.string name, .slice none 0 0, .int .i64 0]) rfl HB1.out.1 (some ⟨g, j * 3, none⟩) 0 (cap - j) (xs.drop (j * 3)) rfl HT2.out (src_none HO.out) (fun u hu => HX.out u (List.mem_of_mem_drop hu)) (by omega) HB1.out.2.size ?_; intro vc wc hownc hgc; have hbc : Below w.heap.size w wc := HB1.out.2.grown hgc HB1.out.2.size (fun k e => (HB1.out.1.lt k e).1); rw [HT3.out] at hownc; obtain ⟨g', cap', rfl, HCD⟩ := HP1.out vc wc hownc hbc; have e00 : wc.cell? ⟨r, 0, none⟩ = some (.slice (some ⟨g, 0, none⟩) j cap) := (hbc.cell (p := ⟨r, 0, none⟩) (cell_block_lt HC0.out)).trans HC0.out; have e0f : wc.frozen? ⟨r, 0, none⟩ = false := (hbc.frozen (p := ⟨r, 0, none⟩) (cell_block_lt HC0.out)).trans HF0.out; clear hownc hgc hbc)
              | (go_at_call 45; refine HCD.out.mono ?_; rintro e w1 ⟨rfl, hq⟩; obtain ⟨d0, d3, dB, fB, hLA⟩ := HQ1.out g' cap' w1 hq; have HQ2 := Lib.hid hq; have HLA := Lib.hid hLA; clear hq hLA)
              | (at_builtin; refine wpList_append_bytes_at rfl (.tmp 93) (.tmp 101) rfl w1.heap.size (.slice none 0 0) 0 [] rfl (World.ownsRow_nil _ _ _ _) none 0 0 [] rfl rfl w1.heap.size Lies.none_ (by omega) (Nat.le_refl _) ?_; intro vd wd hownd hgd _; have hbd : Below w1.heap.size w1 wd := (Below.refl _ _).grown hgd (Nat.le_refl _) (fun k e => by cases e); have HD1 := Lib.hid (And.intro hownd hbd); clear hownd hgd hbd)
              | (at_builtin; refine wpList_append_bytes_at rfl (.tmp 103) (.tmp 104) rfl w1.heap.size vd (0 + 0) ([] ++ []) rfl HD1.out.1 A m c l' rfl HL2.out w1.heap.size (HLA.out.below HD1.out.2) (by omega) HD1.out.2.size ?_; intro ve we howne hge _; have hbe : Below w1.heap.size w1 we := HD1.out.2.grown hge HD1.out.2.size (fun k e => (HD1.out.1.lt k e).1); rw [Nat.add_zero, Nat.zero_add, List.append_nil, List.nil_append] at howne; obtain ⟨A2, c2, rfl, -, -⟩ := own_cap howne; have g0 : we.cell? ⟨r, 0, none⟩ = some (.slice (some ⟨g', 0, none⟩) (j + 1) cap') := (hbe.cell (p := ⟨r, 0, none⟩) (cell_block_lt d0)).trans d0; have g3 : we.cell? ⟨r, 3, none⟩ = some (.int .i64 keep) := (hbe.cell (p := ⟨r, 3, none⟩) (cell_block_lt d3)).trans d3; have gB : we.cell? ⟨g', j * 3 + 1, none⟩ = some (.slice none 0 0) := (hbe.cell (p := ⟨g', j * 3 + 1, none⟩) (cell_block_lt dB)).trans dB; have gF : we.frozen? ⟨g', j * 3 + 1, none⟩ = false := (hbe.frozen (p := ⟨g', j * 3 + 1, none⟩) (cell_block_lt dB)).trans fB; have HF2 := Lib.hid (HF1.out g' cap' w1 HQ2.out _ we howne hbe); clear howne hge hbe)
              | (go_at_call 18; refine HF2.out.mono ?_; rintro e w5 ⟨rfl, hR⟩))
            go_ret
            exact ⟨rfl, hR⟩

end Go.Proofs.Ytkiombbdddbkfaa.Dk
