/-
  The walk of DiskNames: a file is there just if its name may be. Conditions: none (the law looks at nothing longer).
-/
import Derived.Test.YtkckpeejamidpaaRefName
import Derived.Sort.Walk0
import Derived.SliceStrings
import Derived.IntWalk
namespace Go.Proofs.Ytkckpeejamidpaa.Dk
open Go.RowKit Go.Proofs.Ytkckpeejamidpaa.Pk

/-- A slice of strings that came in. -/
def Strs (w : World) (a : Option Addr) (len : Nat) : Prop := len ≤ maxLen ∧ ∀ i, i < len → ∃ b o s, a = some ⟨b, o, none⟩ ∧ w.cell? ⟨b, o + i, none⟩ = some (.string s) ∧ s.size ≤ maxLen
theorem strs_of {H : Type} {enc : TypeId × Value → H} {w : World} {base fuel : Nat} {held : Bool} {a : Option Addr} {len cap : Nat} {x : DataW H × List MemPlace}
    (h : DataW.trod enc Try.prog w base (fun _ => true) held fuel 50 [.slice a len cap] = some x) : Strs w a len := by
  rcases ChangeShapes.open_strings Try.underlying50 Try.underlying9 (by kernel_rfl) h with ⟨hcs, _⟩ | ⟨ad, l, c, ss, hcs, _, hl, hm, hz, _, hcell, hwz⟩
  · simp at hcs
    obtain ⟨rfl, rfl, rfl⟩ := hcs
    exact ⟨Nat.zero_le _, fun i hi => by omega⟩
  · simp at hcs
    obtain ⟨rfl, rfl, rfl⟩ := hcs
    simp at hz
    refine ⟨by omega, fun i hi => ?_⟩
    obtain ⟨b, o, sp⟩ := ad
    have hsp : sp = none := by
      have h0 := hcell 0 (by omega)
      simpa [Addr.add] using World.cell?_spot h0
    subst hsp
    have hc := hcell i (by omega)
    rw [Addr.add_lit] at hc
    have e : ss.getD i ByteArray.empty = ss[i]'(by omega) := by simp [List.getD, show i < ss.length by omega]
    exact ⟨b, o, ss[i]'(by omega), rfl, by rw [← e]; exact hc, hwz _ (List.getElem_mem (show i < ss.length by omega))⟩

/-- Ahead of round k: at most k files; the power is on, nothing is armed. -/
def NamSt (k : Nat) (s : Ds) : Prop := s.off = false ∧ s.fuse = 0 ∧ s.deeds ≤ 2 * k ∧ s.m.length ≤ k

theorem Fresh.good {X : Nat → Prop} {w0 w : World} {d : Nat} {s : Ds} (h : Fresh X w0 w d s) : Good s := by obtain ⟨_, S, ⟨⟨g, _⟩, _⟩, _⟩ := h; exact g
theorem fileOr_long {s : Ds} (g : Good s) (k : Nm) : (fileOr s k).data.length ≤ 16777216 := by
  unfold fileOr
  cases hg : get s.m k with
  | none => simp
  | some f => exact g.long _ (get_mem hg)
theorem nam_yes {k : Nat} {s : Ds} {nm : Nm} (h : NamSt k s) (g : Good s) (hn : isName nm = true) : ∃ t u, appendD s nm [] = (0, t) ∧ t.deeds ≤ 2 * k + 1 ∧ syncD t nm = (0, u) ∧ NamSt (k + 1) u := by
  obtain ⟨h1, h2, h3, h4⟩ := h
  obtain ⟨t, e, t1, t2, t3, t4, t5⟩ := app_ok (b := []) h1 (by omega) hn (by have := fileOr_long g nm; simpa using this)
  obtain ⟨p1, p2⟩ := fileOr_put t5
  obtain ⟨u, e2, u1, u2, u3, u4, u5⟩ := syn_ok t1 (by omega) p2
  have hgood : Sorted t.m := by rw [t5]; exact sorted_put g.sorted
  have l1 := length_put_old (k := nm) ⟨((fileOr s nm).data ++ []), ((fileOr s nm).data ++ []).length⟩ p2 hgood
  have l2 := (length_put_le nm ⟨(fileOr s nm).data ++ [], (fileOr s nm).safe⟩ s.m).1
  rw [← t5] at l2
  rw [← u5] at l1
  exact ⟨t, u, e, by omega, e2, u1, by omega, by omega, by omega⟩
theorem nam_no {s : Ds} {nm : Nm} (ho : s.off = false) (g : Good s) (hn : isName nm = false) : appendD s nm [] = (51, s) ∧ syncD s nm = (21, s) := by
  refine ⟨appendD_name ho hn, ?_⟩
  have hg : get s.m nm = none := by
    cases hg : get s.m nm with
    | none => rfl
    | some f => have := g.names _ (get_mem hg); rw [hn] at this; cases this
  have hf : findD s nm = 21 := by unfold findD; rw [if_neg (by simp [ho]), hg]; rfl
  unfold syncD; rw [hf, if_pos (by decide)]

/-- A new list of strings, cell by cell. -/
theorem lists_cell {w : World} {base : Nat} {A : Option Addr} {c : Nat} {ns : List Nm} (h : w.ownsRow base 9 1 (.slice A ns.length c) ns.length (ns.map encStr)) (hc : 0 < ns.length) :
    ∃ g, A = some ⟨g, 0, none⟩ ∧ ∀ i (hi : i < ns.length), w.cell? ⟨g, i, none⟩ = some (.string ⟨ns[i].toArray⟩) := by
  rcases h.2 with ⟨_, h0⟩ | ⟨g, cap, cur, hv, _⟩
  · omega
  · injection hv with hA _ _
    subst hA
    refine ⟨g, rfl, fun i hi => ?_⟩
    have := h.cells (g := g) rfl i (encStr ns[i]) (by simp [hi])
    rw [Addr.add_lit, Nat.zero_add] at this
    exact this

theorem Fresh.names {X : Nat → Prop} {w0 w : World} {d : Nat} {s : Ds} {ns : List Nm} (h : Fresh X w0 w d s) (hd : s.deeds ≤ 8796093022208) (hn : namesD s = ns) :
    Calls Try.prog 22 #[.pointer (some ⟨d, 0, none⟩)] w fun e w' => ∃ A c, e = .returned (.slice A ns.length c) ∧ w'.ownsRow w.heap.size 9 1 (.slice A ns.length c) ns.length (ns.map encStr) ∧ Fresh (More X w w') w0 w' d s ∧ Below w.heap.size w w' := by
  subst hn
  have h_ := h
  obtain ⟨_, S, hD, _, _⟩ := h
  refine (names_any hD hd).mono ?_
  rintro e w' ⟨A, c, rfl, hown, hb⟩
  exact ⟨A, c, rfl, hown, h_.keep hb, hb⟩
theorem own_base9 {w : World} {base base' n : Nat} {v : Value} {xs : List Value} (h : w.ownsRow base' 9 1 v n xs) (hb : base ≤ base') : w.ownsRow base 9 1 v n xs := by
  refine ⟨h.1, ?_⟩
  rcases h.2 with h1 | ⟨g, cap, cur, rfl, hg, rest⟩
  · exact .inl h1
  · exact .inr ⟨g, cap, cur, rfl, Nat.le_trans hb hg, rest⟩
theorem refName_yes {x : Nm} (w : World) (h : isName x = true) : Calls Try.prog 23 #[.string ⟨x.toArray⟩] w fun e w' => e = .returned (.bool true) ∧ w' = w := by
  have hs : (⟨x.toArray⟩ : ByteArray).size ≤ maxLen := by
    have := name_size (name := ⟨x.toArray⟩) (by simpa using h)
    unfold maxLen; omega
  have := refName_any ⟨x.toArray⟩ w hs
  have e : isName (⟨x.toArray⟩ : ByteArray).data.toList = true := by simpa using h
  rw [e] at this
  exact this.mono fun _ _ ⟨h1, h2⟩ => ⟨h1, h2.symm⟩
theorem less_of {x y : Nm} (h : x < y) : Op.bytesLess (⟨x.toArray⟩ : ByteArray).toList (⟨y.toArray⟩ : ByteArray).toList = true := by
  rw [Lib.toList_data, Lib.toList_data, bytesLess_eq]; simpa using h

set_option maxRecDepth 100000 in
set_option maxHeartbeats 1000000 in
theorem diskNames_walk (a0 : Option Addr) (len0 cap0 : Nat) (w : World) (h0 : Strs w a0 len0) :
    Calls Try.prog 7 #[.slice a0 len0 cap0] w fun e w' => e = .returned (.bool true) ∧ Below w.heap.size w w' := by
  obtain ⟨hm, hp⟩ := h0
  unfold maxLen at hm
  by_cases hbig : 100 < len0
  · have hbi : (100 : Int) < (len0 : Int) := by omega
    go_enter Try.func7, Try.ntmps7
    go_wp2
    go_ret
    exact ⟨rfl, Below.refl _ _⟩
  have hbi : ¬ (100 : Int) < (len0 : Int) := by omega
  have HP := Lib.hid hp
  clear hp
  go_enter Try.func7, Try.ntmps7
  go_wp2_with (first
    | (go_at_call 10; refine (Fresh.new (X := fun _ => False) (fun _ h => h.elim) (Below.refl w.heap.size w)).mono ?_; rintro e w1 ⟨d, rfl, hF, -⟩))
  go_loopw [4] (fun i wr => ∃ (k : Nat) (s : Ds), k ≤ len0 ∧ i = .int .i64 k ∧ Fresh (fun _ => False) w wr d s ∧ Hid (NamSt k s)) (fun i _ => len0 - (intOf i).toNat)
  case atStart => exact ⟨0, _, Nat.zero_le _, rfl, hF, ⟨rfl, rfl, Nat.le_refl _, Nat.le_refl _⟩⟩
  case round =>
    obtain ⟨k, s, hk, rfl, hFr, hS⟩ := hrel
    clear hF
    by_cases hlt : k < len0
    · obtain ⟨b, o, nm, rfl, hc, hnl⟩ := HP.out k hlt
      have hkl : (k : Int) < (len0 : Int) := by omega
      have hc' : wr.cell? ⟨b, o + k, none⟩ = some (.string nm) := (hFr.bel.cell (p := ⟨b, o + k, none⟩) (cell_block_lt hc)).trans hc
      by_cases hlong : 256 < nm.size
      · have hlo : (256 : Int) < (nm.size : Int) := by omega
        go_wp2
        go_ret
        exact ⟨rfl, hFr.bel⟩
      · have hlo : (nm.size : Int) ≤ 256 := by omega
        have hg := hFr.good
        have HC := Lib.hid hc
        have HG := Lib.hid hg
        clear hc hg
        cases hn : isName nm.data.toList
        · have HN := Lib.hid hn
          clear hn
          obtain ⟨e1, e2⟩ := nam_no hS.out.1 HG.out HN.out
          have HS1 : Hid (NamSt (k + 1) s) := ⟨hS.out.1, hS.out.2.1, by have := hS.out.2.2.1; omega, by have := hS.out.2.2.2; omega⟩
          have hsd : s.deeds < 4611686018427387904 := by have := hS.out.2.2.1; omega
          go_wp2_with (first
            | (go_at_call 23; refine (refName_any nm _ hnl).mono ?_; rintro e w' ⟨rfl, rfl⟩; rw [HN.out])
            | (go_at_call 16; refine (hFr.append hnl rfl Lies.none_ hsd e1).mono ?_; rintro e w3 ⟨rfl, hF3, -⟩; have hc3 : w3.cell? ⟨b, o + k, none⟩ = some (.string nm) := (hF3.bel.cell (p := ⟨b, o + k, none⟩) (cell_block_lt HC.out)).trans HC.out)
            | (go_at_call 17; refine (hF3.sync hnl hsd e2).mono ?_; rintro e w4 ⟨rfl, hF4, -⟩))
          go_roundw
          case rel => exact ⟨k + 1, _, by omega, by go_num, hF4, HS1⟩
          case measure => simp [intOf]; omega
        · have HN := Lib.hid hn
          clear hn
          obtain ⟨t, u, e1, htd, e2, hS2⟩ := nam_yes hS.out HG.out HN.out
          have HS1 := Lib.hid hS2
          have hsd : s.deeds < 4611686018427387904 := by have := hS.out.2.2.1; omega
          have htd' : t.deeds < 4611686018427387904 := by omega
          clear hS2
          go_wp2_with (first
            | (go_at_call 23; refine (refName_any nm _ hnl).mono ?_; rintro e w' ⟨rfl, rfl⟩; rw [HN.out])
            | (go_at_call 16; refine (hFr.append hnl rfl Lies.none_ hsd e1).mono ?_; rintro e w3 ⟨rfl, hF3, -⟩; have hc3 : w3.cell? ⟨b, o + k, none⟩ = some (.string nm) := (hF3.bel.cell (p := ⟨b, o + k, none⟩) (cell_block_lt HC.out)).trans HC.out)
            | (go_at_call 17; refine (hF3.sync hnl htd' e2).mono ?_; rintro e w4 ⟨rfl, hF4, -⟩))
          go_roundw
          case rel => exact ⟨k + 1, _, by omega, by go_num, hF4, HS1⟩
          case measure => simp [intOf]; omega
    · have hge : ¬ (k : Int) < (len0 : Int) := by omega
      obtain ⟨ns, hns⟩ : ∃ ns, namesD s = ns := ⟨_, rfl⟩
      have hsd : s.deeds ≤ 8796093022208 := by have := hS.out.2.2.1; omega
      have hnm : ns = s.m.map (·.1) := by rw [← hns]; unfold namesD; rw [if_neg (by simp [hS.out.1])]
      have HNS : Hid (ns.Pairwise (· < ·) ∧ (∀ x ∈ ns, isName x = true) ∧ ns.length ≤ len0) := by
        refine ⟨by rw [hnm]; exact hFr.good.sorted, fun x hx => ?_, by rw [hnm, List.length_map]; have := hS.out.2.2.2; omega⟩
        rw [hnm] at hx
        obtain ⟨p, hp, rfl⟩ := List.mem_map.1 hx
        exact hFr.good.names p hp
      have hnl : ns.length ≤ len0 := HNS.out.2.2
      clear hnm hS
      go_wp2_with (go_at_call 22; refine (hFr.names hsd hns).mono ?_; rintro e w5 ⟨A, c, rfl, hown, hF5, -⟩)
      have hz5 : w.heap.size ≤ w5.heap.size := hF5.size
      have hb5 := hF5.bel
      have hown5 := own_base9 hown hFr.size
      clear hown hF5 hFr hns
      go_loopw [7] (fun i w6 => ∃ (j : Nat), j ≤ ns.length ∧ i = .int .i64 j ∧ w6.ownsRow w.heap.size 9 1 (.slice A ns.length c) ns.length (ns.map encStr) ∧ Below w.heap.size w w6) (fun i _ => ns.length - (intOf i).toNat)
      case atStart => exact ⟨0, Nat.zero_le _, rfl, hown5, hb5⟩
      case round =>
        clear hb5 hown5
        obtain ⟨j, hj, rfl, hown6, hb6⟩ := hrel
        have HO6 := Lib.hid hown6
        clear hown6
        by_cases hlj : j < ns.length
        · obtain ⟨g, rfl, hcell⟩ := lists_cell HO6.out (by omega)
          have hjl : (j : Int) < (ns.length : Int) := by omega
          have hcj := hcell j hlj
          have hnj := HNS.out.2.1 _ (List.getElem_mem hlj)
          by_cases hj0 : j = 0
          · subst hj0
            clear hcell
            generalize hx : ns[0] = x at hcj hnj
            clear hx
            have HNJ := Lib.hid hnj
            clear hnj
            go_wp2
            go_quiet ((go_at_call 23; exact Calls.quiet_of_same (refName_yes _ HNJ.out)))
            go_wp2
            go_roundw
            case rel => exact ⟨1, by omega, by go_num, HO6.out, hb6.trans ⟨rfl, rfl, rfl, Nat.le_refl _, fun _ _ => rfl⟩⟩
            case measure => simp [intOf]; omega
          · obtain ⟨p, rfl⟩ : ∃ p, j = p + 1 := ⟨j - 1, by omega⟩
            have hcp := hcell p (by omega)
            have hlt2 : ns[p]'(by omega) < ns[p + 1] := List.pairwise_iff_getElem.1 HNS.out.1 p (p + 1) (by omega) hlj (by omega)
            have hless := less_of hlt2
            have hless2 : Op.bytesLess (ns[p]'(by omega)) ns[p + 1] = true := by rw [bytesLess_eq]; simpa using hlt2
            clear hcell hlt2
            generalize ns[p + 1] = x at hcj hnj hless hless2
            generalize ns[p]'(by omega) = y at hcp hless hless2
            have HNJ := Lib.hid hnj
            clear hnj
            have hp1 : (p : Int) < (ns.length : Int) := by omega
            have hp2 : (0 : Int) < (p : Int) + 1 := by omega
            have hp3 : (p : Int) + 1 < (ns.length : Int) := by omega
            have hp4 : (0 : Int) ≤ (p : Int) + 1 := by omega
            have hp5 : ((p : Int) + 1).toNat = p + 1 := by omega
            have hw2 : IntKind.i64.wrap (p : Int) = (p : Int) := IntWalk.i64_in _ (by omega)
            have hw1 : IntKind.i64.wrap ((p : Int) + 1 - 1) = (p : Int) := by rw [show (p : Int) + 1 - 1 = (p : Int) by omega]; exact hw2
            go_wp2
            go_quiet ((go_at_call 23; exact Calls.quiet_of_same (refName_yes _ HNJ.out)))
            clear hw1 hw2 hp5
            go_wp2
            go_roundw
            case rel => exact ⟨p + 1 + 1, by omega, by go_num, HO6.out, hb6.trans ⟨rfl, rfl, rfl, Nat.le_refl _, fun _ _ => rfl⟩⟩
            case measure => simp [intOf]; omega
        · have hje : ¬ (j : Int) < (ns.length : Int) := by omega
          have hll : (ns.length : Int) ≤ (len0 : Int) := by omega
          go_wp2_with (go_at_call 15; refine (awake_any _).mono ?_; rintro e w8 ⟨rfl, hb8⟩)
          go_ret
          exact ⟨rfl, hb6.trans (hb8.mono hb6.size)⟩
end Go.Proofs.Ytkckpeejamidpaa.Dk
