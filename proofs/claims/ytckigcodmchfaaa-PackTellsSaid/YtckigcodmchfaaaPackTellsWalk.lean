/-
  The walk of a law: For every byte slice, place and four masks, turning bytes within four neighbouring places turns the checksum just if a byte was turned; the document's examples hold. Conditions: none (the law looks at no slice of more than 4096 bytes).
-/
import Derived.Test.YtckigcodmchfaaaAwake
import Derived.Test.YtckigcodmchfaaaRef
import Derived.RegionTactic
import Derived.IntWalk
namespace Go.Proofs.Ytckigcodmchfaaa.packTells
open Go.RowKit
open Go.Proofs.Ytckigcodmchfaaa.Pk
set_option linter.unusedVariables false

theorem own_empty (w : World) : (w.alloc (.cells #[] 5)).ownsRow w.heap.size 5 1 (.slice (some ⟨w.heap.size, 0, none⟩) 0 0) 0 (cells []) :=
  ⟨rfl, .inr ⟨w.heap.size, 0, #[], rfl, Nat.le_refl _, heap_alloc_new w _, Nat.le_refl _, Nat.zero_le _, rfl, rfl⟩⟩
theorem below_empty {w w1 : World} (hg : (w.alloc (.cells #[] 5)).grownBy w1 (Value.ownBlock (.slice (some ⟨w.heap.size, 0, none⟩) 0 0))) : Below w.heap.size w w1 :=
  ((Below.refl _ _).alloc (Nat.le_refl _) _).grown hg (by simp) (fun k e => by simp [Value.ownBlock] at e; omega)
theorem own_at {w : World} {base n c k : Nat} {A : Option Addr} {xs : List Value} (h : w.ownsRow base 5 1 (.slice A n c) n xs) (hk : k < n) :
    ∃ g, A = some ⟨g, 0, none⟩ ∧ base ≤ g ∧ g < w.heap.size ∧ (∃ u, w.cell? ⟨g, k, none⟩ = some u) ∧ w.frozen? ⟨g, k, none⟩ = false ∧
      ∀ u, (w.setCell ⟨g, k, none⟩ u).ownsRow base 5 1 (.slice A n c) n (xs.set k u) ∧ w.grownBy (w.setCell ⟨g, k, none⟩ u) (some g) := by
  have hl := h.lt
  rcases h.2 with ⟨_, h0⟩ | ⟨g, cap, cur, hv, _, _⟩
  · omega
  · injection hv with hA _ hc
    subst hA hc
    have hlt := hl g rfl
    have hx : k < xs.length := by have := h.1; omega
    exact ⟨g, rfl, hlt.1, hlt.2, ⟨_, (h.cellAt k (by omega)).trans (List.getElem?_eq_getElem hx)⟩, h.frozenAt k, fun u => h.stored k u⟩


/-- What the turned bytes are after k rounds, and whether one was turned. -/
def Turned (l : List UInt8) (p k : Nat) (c : List UInt8) (u : Bool) : Prop := c.length = l.length ∧ (∀ j, ¬ (p ≤ j ∧ j < p + k) → c[j]? = l[j]?) ∧ (u = true ↔ c ≠ l)
theorem turned_start (l : List UInt8) (p : Nat) : Turned l p 0 l false := ⟨rfl, fun _ _ => rfl, by simp⟩
theorem turned_skip {l c : List UInt8} {p k : Nat} {u : Bool} (h : Turned l p k c u) : Turned l p (k + 1) c u := ⟨h.1, fun j hj => h.2.1 j (fun q => hj ⟨q.1, by omega⟩), h.2.2⟩
theorem turned_same {l c : List UInt8} {p k : Nat} {u : Bool} {x m : UInt8} (h : Turned l p k c u) (hp : p + k < c.length) (hx : x = c[p + k]) (hm : m = 0) : Turned l p (k + 1) (c.set (p + k) (x ^^^ m)) u := by
  have e : c.set (p + k) (x ^^^ m) = c := by
    rw [hm, hx, UInt8.xor_zero]
    exact List.set_getElem_self hp
  rw [e]
  exact turned_skip h
theorem turned_other {l c : List UInt8} {p k : Nat} {u : Bool} {x m : UInt8} (h : Turned l p k c u) (hp : p + k < c.length) (hx : x = c[p + k]) (hm : ¬ m = 0) : Turned l p (k + 1) (c.set (p + k) (x ^^^ m)) true := by
  refine ⟨by rw [List.length_set]; exact h.1, fun j hj => ?_, ?_⟩
  · rw [List.getElem?_set_ne (by omega)]
    exact h.2.1 j (fun q => hj ⟨q.1, by omega⟩)
  · refine ⟨fun _ e => ?_, fun _ => rfl⟩
    have h1 : (c.set (p + k) (x ^^^ m))[p + k]? = some (x ^^^ m) := by rw [List.getElem?_set_self hp]
    have h2 : l[p + k]? = some x := by rw [← h.2.1 (p + k) (by omega), List.getElem?_eq_getElem hp, hx]
    rw [e, h2] at h1
    injection h1 with h1
    apply hm
    have := congrArg (x ^^^ ·) h1
    simp only [UInt8.xor_self, ← UInt8.xor_assoc, UInt8.zero_xor] at this
    exact this.symm
/-- Turned within four places: the checksums tell it. -/
theorem crc_turned {l c : List UInt8} {p : Nat} {u : Bool} (h : Turned l p 4 c u) : (crc l = crc c) ↔ u = false := by
  constructor
  · intro e
    have hl := h.1
    have t1 : c.take p = l.take p := by
      apply List.ext_getElem?
      intro j
      rw [List.getElem?_take, List.getElem?_take]
      split
      · exact h.2.1 j (by omega)
      · rfl
    have t2 : c.drop (p + 4) = l.drop (p + 4) := by
      apply List.ext_getElem?
      intro j
      rw [List.getElem?_drop, List.getElem?_drop]
      exact h.2.1 _ (by omega)
    have parts : ∀ m : List UInt8, m = m.take p ++ ((m.drop p).take 4 ++ m.drop (p + 4)) := by
      intro m
      have : m.drop (p + 4) = (m.drop p).drop 4 := by rw [List.drop_drop]
      rw [this, List.take_append_drop, List.take_append_drop]
    have e2 : (l.drop p).take 4 = (c.drop p).take 4 := by
      rw [parts l, parts c, t1, t2] at e
      exact crc_burst (by simp [hl]) (by simp; omega) e
    have : c = l := by rw [parts c, parts l, t1, t2, e2]
    cases u
    · rfl
    · exact absurd this (h.2.2.mp rfl)
  · intro e
    by_cases hc : c = l
    · rw [hc]
    · exact absurd (h.2.2.mpr hc) (by rw [e]; decide)
theorem crc_tells {l c : List UInt8} {p : Nat} {u : Bool} (h : Turned l p 4 c u) : (((crc l : Nat) : Int) != ((crc c : Nat) : Int)) = u := by
  have := crc_turned h
  cases u
  · have e := this.mpr rfl
    rw [e]; simp
  · have e : ¬ crc l = crc c := fun q => absurd (this.mp q) (by decide)
    simp only [bne_iff_ne, ne_eq]
    omega
theorem xor_byte (x m : UInt8) : bits .xor .u8 (x.toNat : Int) (m.toNat : Int) = ((x ^^^ m).toNat : Int) := by
  rw [u8_xor_nat _ _ x.toNat_lt m.toNat_lt, UInt8.toNat_xor]

theorem own_empty2 (w : World) (o : Obj) : ((w.alloc o).alloc (.cells #[] 5)).ownsRow (w.heap.size + 1) 5 1 (.slice (some ⟨w.heap.size + 1, 0, none⟩) 0 0) 0 (cells []) := by
  have := own_empty (w.alloc o)
  simpa using this
theorem below_box {w w1 : World} {cs : Array Value} {t : TypeId} (hg : ((w.alloc (.cells cs t)).alloc (.cells #[] 5)).grownBy w1 (Value.ownBlock (.slice (some ⟨w.heap.size + 1, 0, none⟩) 0 0))) :
    Below w.heap.size w w1 ∧ w1.heap[w.heap.size]? = some (.cells cs t (0, 0)) := by
  have h1 : Below w.heap.size w ((w.alloc (.cells cs t)).alloc (.cells #[] 5)) := ((Below.refl _ _).alloc (Nat.le_refl _) _).alloc (by simp) _
  refine ⟨h1.grown hg (by simp; omega) (fun k e => by simp [Value.ownBlock] at e; omega), ?_⟩
  rw [hg.block w.heap.size (by simp; omega) (fun e => by simp [Value.ownBlock] at e), Below.heap_alloc _ _ _ (by simp)]
  exact heap_alloc_new w _
theorem mask_at {w : World} {g k : Nat} {m0 m1 m2 m3 : UInt8} {t : TypeId} (h : w.heap[g]? = some (.cells #[.int .u8 (m0.toNat : Int), .int .u8 (m1.toNat : Int), .int .u8 (m2.toNat : Int), .int .u8 (m3.toNat : Int)] t (0, 0))) (hk : k < 4) :
    ∃ m : UInt8, w.cell? ⟨g, k, none⟩ = some (.int .u8 (m.toNat : Int)) := by
  rcases (show k = 0 ∨ k = 1 ∨ k = 2 ∨ k = 3 by omega) with rfl | rfl | rfl | rfl
  · exact ⟨m0, cell_blk h rfl⟩
  · exact ⟨m1, cell_blk h rfl⟩
  · exact ⟨m2, cell_blk h rfl⟩
  · exact ⟨m3, cell_blk h rfl⟩
theorem set_cells (c : List UInt8) (i : Nat) (y : UInt8) : (cells c).set i (.int .u8 (y.toNat : Int)) = cells (c.set i y) := by
  unfold cells; rw [List.map_set]; rfl

set_option maxRecDepth 100000 in
set_option maxHeartbeats 1500000 in
theorem walk (a0 : Option Addr) (len0 cap0 : Nat) (z0 : List Int) (a1 : Int) (m0 m1 m2 m3 : UInt8) (w : World) (w0 : IsRow .u8 w a0 len0 cap0 z0) (w1 : (Lit.int .i64 a1).wf = true) :
    Calls Try.prog 9 #[.slice a0 len0 cap0, .int .i64 a1, .agg #[.int .u8 (m0.toNat : Int), .int .u8 (m1.toNat : Int), .int .u8 (m2.toNat : Int), .int .u8 (m3.toNat : Int)]] w fun e w' => e = .returned (.bool true) ∧ Below w.heap.size w w' := by
  obtain ⟨l, hl, h1, h2, hlies⟩ := lies_of_row w0
  obtain ⟨r1, r2⟩ := bounds_i64 w1
  subst hl
  clear w0 w1
  by_cases hbig : 4096 < l.length
  · have hb : (4096 : Int) < (l.length : Int) := by omega
    clear hlies
    go_enter Try.func9, Try.ntmps9
    go_wp2
    go_ret
    exact ⟨rfl, (Below.refl _ _).alloc (Nat.le_refl _) _⟩
  · have hb : ¬ (4096 : Int) < (l.length : Int) := by omega
    go_enter Try.func9, Try.ntmps9
    go_wp2_with (first
      | (at_builtin; refine wpList_append_bytes rfl (.tmp 13) (.tmp 14) rfl (w.heap.size + 1) _ 0 [] rfl (own_empty2 w _) a0 l.length cap0 l rfl rfl w.heap.size ((hlies.alloc (Nat.le_refl _) _).alloc (by simp) _) (by omega) (by simp) ?_; intro v1 wA ho1 hg1; obtain ⟨hb1, hbox⟩ := below_box hg1; have HBX := Lib.hid hbox; clear hg1 hbox; simp only [Nat.zero_add, List.nil_append] at ho1; obtain ⟨A1, c1, rfl, -, -, -, -, -⟩ := own_form ho1)
      | fail)
    have hml : l.length ≤ maxLen := by unfold maxLen; omega
    by_cases hneg : a1 < 0
    · go_loop [8, 9] (fun u i => ∃ k : Nat, k ≤ 4 ∧ i = .int .i64 k ∧ u = .bool false) (fun _ i => 4 - (intOf i).toNat)
      case atStart => exact ⟨0, by omega, rfl, rfl⟩
      case round =>
        obtain ⟨k, hk, rfl, rfl⟩ := hrel
        by_cases hk4 : k < 4
        · have hk4' : (k : Int) < 4 := by omega
          have hna : decide (0 ≤ a1) = false := decide_eq_false (by omega)
          go_wp2_with fail
          go_round
          case rel => exact ⟨k + 1, by omega, by go_num, rfl⟩
          case measure => simp [intOf]; omega
        · have hk4' : (4 : Int) ≤ (k : Int) := by omega
          have hlc : Lies wA wA.heap.size A1 l := Lies.of_own ho1
          go_wp2_with (first
            | (go_at_call 13; refine (awake_any _).mono ?_; rintro e w3 ⟨rfl, hb3⟩; have hB3 := hb1.trans (hb3.mono hb1.size))
            | (go_at_call 26; (with_reducible refine (sum_any (A := a0) (n := l.length) (c := cap0) (l := l) rfl hml (hlies.below hB3)).mono ?_); rintro e w4 ⟨rfl, rfl⟩)
            | (go_at_call 26; (with_reducible refine (sum_any (A := A1) (n := l.length) (c := c1) (l := l) rfl hml (hlc.below hb3)).mono ?_); rintro e w4 ⟨rfl, rfl⟩))
          go_ret
          exact ⟨by simp, hB3⟩
    · obtain ⟨p, rfl⟩ : ∃ p : Nat, a1 = (p : Int) := ⟨a1.toNat, by omega⟩
      go_loopw [8, 9] (fun u i wr => ∃ (k : Nat) (c : List UInt8) (ub : Bool), k ≤ 4 ∧ i = .int .i64 k ∧ u = .bool ub ∧ wr.ownsRow (w.heap.size + 1) 5 1 (.slice A1 l.length c1) l.length (cells c) ∧ Hid (wr.heap[w.heap.size]? = some (.cells #[.int .u8 (m0.toNat : Int), .int .u8 (m1.toNat : Int), .int .u8 (m2.toNat : Int), .int .u8 (m3.toNat : Int)] 45 (0, 0))) ∧ Turned l p k c ub ∧ Below w.heap.size w wr) (fun _ i _ => 4 - (intOf i).toNat)
      case atStart => exact ⟨0, l, false, by omega, rfl, rfl, ho1, HBX.out, turned_start l p, hb1⟩
      case round =>
        obtain ⟨k, c, ub, hk, rfl, rfl, hown, hbx, hturn, hbel⟩ := hrel
        by_cases hk4 : k < 4
        · have hk4' : (k : Int) < 4 := by omega
          by_cases hpk : p + k < l.length
          · have hpk' : (p : Int) < (l.length : Int) - (k : Int) := by omega
            have hpc : p + k < c.length := by rw [hturn.1]; exact hpk
            obtain ⟨g, rfl, hg1, hg2, -, hfu, hset⟩ := own_at hown hpk
            obtain ⟨x, hx⟩ : ∃ x, x = c[p + k] := ⟨_, rfl⟩
            have hcx : wr.cell? ⟨g, p + k, none⟩ = some (.int .u8 (x.toNat : Int)) := by
              rw [hown.cellAt (p + k) (by omega), hx]
              simp [cells, bv, List.getElem?_eq_getElem hpc]
            obtain ⟨m, hcm⟩ := mask_at hbx.out hk4
            have R := Lib.hid (hset (.int .u8 ((x ^^^ m).toNat : Int)))
            have R1 : Hid ((wr.setCell ⟨g, p + k, none⟩ (.int .u8 ((x ^^^ m).toNat : Int))).ownsRow (w.heap.size + 1) 5 1 (.slice (some ⟨g, 0, none⟩) l.length c1) l.length (cells (c.set (p + k) (x ^^^ m)))) := by
              have := R.out.1
              rw [set_cells] at this
              exact this
            have BX : Hid ((wr.setCell ⟨g, p + k, none⟩ (.int .u8 ((x ^^^ m).toNat : Int))).heap[w.heap.size]? = some (.cells #[.int .u8 (m0.toNat : Int), .int .u8 (m1.toNat : Int), .int .u8 (m2.toNat : Int), .int .u8 (m3.toNat : Int)] 45 (0, 0))) :=
              (Below.heap_setCell wr ⟨g, p + k, none⟩ _ w.heap.size (show w.heap.size ≠ g by omega)).trans hbx.out
            have BE : Below w.heap.size w (wr.setCell ⟨g, p + k, none⟩ (.int .u8 ((x ^^^ m).toNat : Int))) := hbel.setCell (p := ⟨g, p + k, none⟩) (show w.heap.size ≤ g by omega) _
            have hcm2 : (wr.setCell ⟨g, p + k, none⟩ (.int .u8 ((x ^^^ m).toNat : Int))).cell? ⟨w.heap.size, k, none⟩ = some (.int .u8 (m.toNat : Int)) :=
              (World.cell?_of_block (w := wr) (Below.heap_setCell wr ⟨g, p + k, none⟩ _ w.heap.size (show w.heap.size ≠ g by omega))).trans hcm
            have hxor := xor_byte x m
            have hs1 : IntKind.i64.wrap ((p : Int) + (k : Int)) = (p : Int) + (k : Int) := IntWalk.i64_in _ (by omega)
            have hs2 : ((p : Int) + (k : Int)).toNat = p + k := by omega
            have hs3 : 0 ≤ (p : Int) + (k : Int) := by omega
            have hs4 : (p : Int) + (k : Int) < (l.length : Int) := by omega
            cases ub
            · by_cases hm0 : m = 0
              · have T := turned_same hturn hpc hx hm0
                have tm : ((m.toNat : Int) != 0) = false := by simp [hm0]
                clear hx hset hm0 hown hbx hturn hbel hpc R
                go_wp2_with fail
                go_region
                go_wp2_with fail
                go_roundw
                case rel => exact ⟨k + 1, c.set (p + k) (x ^^^ m), false, by omega, by go_num, rfl, R1.out, BX.out, T, BE.drew⟩
                case measure => simp [intOf]; omega
              · have T := turned_other hturn hpc hx hm0
                have tm : ((m.toNat : Int) != 0) = true := by
                  simp only [bne_iff_ne, ne_eq]
                  intro q
                  exact hm0 (UInt8.toNat_inj.mp (by simpa using q))
                clear hx hset hm0 hown hbx hturn hbel hpc R
                go_wp2_with fail
                go_region
                go_wp2_with fail
                go_roundw
                case rel => exact ⟨k + 1, c.set (p + k) (x ^^^ m), true, by omega, by go_num, rfl, R1.out, BX.out, T, BE.drew⟩
                case measure => simp [intOf]; omega
            · have T : Turned l p (k + 1) (c.set (p + k) (x ^^^ m)) true := by
                by_cases hm0 : m = 0
                · exact turned_same hturn hpc hx hm0
                · exact turned_other hturn hpc hx hm0
              clear hx hset hown hbx hturn hbel hpc R
              go_wp2_with fail
              go_region
              go_wp2_with fail
              go_roundw
              case rel => exact ⟨k + 1, c.set (p + k) (x ^^^ m), true, by omega, by go_num, rfl, R1.out, BX.out, T, BE.drew⟩
              case measure => simp [intOf]; omega
          · have hpk' : ¬ (p : Int) < (l.length : Int) - (k : Int) := by omega
            have T := turned_skip hturn
            go_wp2_with fail
            go_roundw
            case rel => exact ⟨k + 1, c, ub, by omega, by go_num, rfl, hown, hbx, T, hbel⟩
            case measure => simp [intOf]; omega
        · have hk4' : (4 : Int) ≤ (k : Int) := by omega
          obtain rfl : k = 4 := by omega
          have hlc : Lies wr wr.heap.size A1 c := Lies.of_own hown
          have hcl := hturn.1
          have HC := Lib.hid hcl
          have hcrc := crc_tells hturn
          clear hcl
          go_wp2_with (first
            | (go_at_call 13; refine (awake_any _).mono ?_; rintro e w3 ⟨rfl, hb3⟩; have hB3 := hbel.trans (hb3.mono hbel.size))
            | (go_at_call 26; (with_reducible refine (sum_any (A := a0) (n := l.length) (c := cap0) (l := l) rfl hml (hlies.below hB3)).mono ?_); rintro e w4 ⟨rfl, rfl⟩)
            | (go_at_call 26; (with_reducible refine (sum_any (A := A1) (n := l.length) (c := c1) (l := c) HC.out hml (hlc.below hb3)).mono ?_); rintro e w4 ⟨rfl, rfl⟩))
          go_ret
          exact ⟨by simp, hB3⟩

end Go.Proofs.Ytckigcodmchfaaa.packTells
