/-
  The walk of JournalReads: of any bytes just the document's records are read, and the rest is cut off. Conditions: none (the law looks at no more than 4096 bytes).
-/
import Derived.Test.YtkiombbdddbkfaaRefAll
import Derived.Test.YtkiombbdddbkfaaJAwake
import Derived.Deep.RegionHeld3
namespace Go.Proofs.Ytkiombbdddbkfaa.Jn
open Go.RowKit Go.Proofs.Ytkiombbdddbkfaa.Pk Go.Proofs.Ytkiombbdddbkfaa.Dk
set_option linter.unusedVariables false

set_option maxRecDepth 20000 in
set_option maxHeartbeats 1000000 in
theorem rAll_none (w : World) : Calls Try.prog 26 #[.slice none 0 0] w (FoundAll w []) := by
  have HN := Lib.hid (rFirst_none (rFirst_any (A := none) (n := 0) (c := 0) (l := []) (w := w) rfl (Nat.le_refl _) (by decide) (by decide) Lies.none_) (first_short (by decide)))
  go_enter Try.func26, Try.ntmps26
  go_wp2
  refine wp_loop_rounds 1 ?_
  rw [rounds_succ]
  go_wp2_with (go_at_call 46; with_reducible refine HN.out.mono ?_; rintro e w1 ⟨rfl, hb1⟩)
  go_ret2
  have e : recs [] = [] := recs_none (first_short (by decide))
  have e2 : used [] = 0 := by unfold used; rw [e]; rfl
  refine ⟨none, 0, ?_, ?_, ?_, hb1⟩
  · rw [e, e2]; rfl
  · rw [e]; exact ⟨Nat.le_refl _, Nat.zero_le _⟩
  · rw [e]; exact Recs.nil
theorem rAll_all {A : Option Addr} {n c : Nat} {l : Bs} {w : World} (hl : l.length = n) (hc : n ≤ c) (hcm : c ≤ maxLen) (hnil : A = none → c = 0) (hm : n ≤ 16777216) (h : Lies w w.heap.size A l) : Calls Try.prog 26 #[.slice A n c] w (FoundAll w l) := by
  cases A with
  | some ad => exact rAll_any hl hc hcm hm h
  | none =>
    have h0 := hnil rfl
    subst h0
    have hn : n = 0 := by omega
    subst hn
    rw [List.eq_nil_of_length_eq_zero hl]
    exact rAll_none w
/-- A slice of bytes that came in, and its capacity. -/
def BytesC (w : World) (a : Option Addr) (len cap : Nat) : Prop := len ≤ cap ∧ cap ≤ maxLen ∧ (a = none → cap = 0) ∧ ∃ l : List UInt8, l.length = len ∧ Lies w w.heap.size a l
theorem bytesC_of {H : Type} {enc : TypeId × Value → H} {w : World} {base fuel : Nat} {held : Bool} {a : Option Addr} {len cap : Nat} {x : DataW H × List MemPlace}
    (h : DataW.trod enc Try.prog w base (fun _ => true) held fuel 23 [.slice a len cap] = some x) : BytesC w a len cap := by
  rcases ChangeShapes.open_ints Try.underlying23 Try.underlying5 (by kernel_rfl) h with ⟨hcs, _⟩ | ⟨ad, l, c, zs, hcs, _, hl, hm, hz, _, hcell, hwz⟩
  · simp at hcs
    obtain ⟨rfl, rfl, rfl⟩ := hcs
    exact ⟨Nat.le_refl _, Nat.zero_le _, fun _ => rfl, [], rfl, Lies.none_⟩
  · simp at hcs
    obtain ⟨rfl, rfl, rfl⟩ := hcs
    simp at hz
    obtain ⟨l', hl', hlies⟩ := lies_of_cells (w := w) (x := ad) hl (by omega) (fun j hj => hcell j (by omega)) hwz
    exact ⟨hl, hm, fun e => (by cases e), l', hl', hlies⟩

theorem open_get {s t : Ds} {k : Nm} {r : Int} (h : openD s k = (0, t)) (hg : (get s.m k).isSome = true) : (get t.m k).isSome = true := by
  unfold openD at h
  split at h
  · cases h
  split at h
  · cases h
  unfold openCut at h
  split at h
  · unfold cutD at h
    split at h
    · rename_i hne; injection h with h1 h2; exact absurd h1 hne
    split at h
    · cases h
    · unfold ends at h
      split at h
      · cases h
      · injection h with h1 h2
        subst h2
        show (get (put k _ _) k).isSome = true
        rw [get_put_same]; rfl
  · injection h with h1 h2; subst h2; exact hg
/-- The states of JournalReads. -/
theorem reads_states {l : Bs} (hl : l.length ≤ 4096) : ∃ s0 s1, appendD newD J l = (0, s0) ∧ openD s0 J = (0, s1) ∧ recs (dataOf s0 J) = recs l ∧ findD s1 J = 0 ∧ readD s1 J = l.take (used l) ∧ s0.deeds ≤ 100 ∧ s1.deeds ≤ 100 := by
  obtain ⟨s0, e0, a1, a2, a3, -, a4⟩ := app_ok (s := newD) (k := J) (b := l) rfl (by decide) j_name (by show 0 + l.length ≤ _; omega)
  obtain ⟨p1, p2⟩ := fileOr_put a4
  have hd0 : dataOf s0 J = l := by rw [dataOf_get p2]; rfl
  have a2' : s0.deeds = 1 := a2
  have a3' : s0.fuse = 0 := a3
  obtain ⟨s1, e1, b1, b2, b3, -, b4⟩ := open_fine (s := s0) (k := J) a1 (.inl (by omega)) j_name
  rw [hd0] at b4
  obtain ⟨f, hf⟩ := Option.isSome_iff_exists.1 (open_get (r := 0) e1 (by rw [p2]; rfl))
  refine ⟨s0, s1, e0, e1, by rw [hd0], find_zero b1 hf, ?_, by omega, by omega⟩
  rw [read_on b1, b4, take_used]

/-- What the last statement of JournalReads reads. -/
structure ReadS (w : World) (A8 : Option Addr) (a0 : Option Addr) (u : Nat) (r : Bs) (Al Am : Option Addr) (q : Nat) (L : List Bs) (W : World) : Prop where
  len : r.length = u
  got : Lies W W.heap.size A8 r
  arg : Lies W W.heap.size a0 r
  ref : Recs W (· < W.heap.size) Al q L
  own : Recs W (· < W.heap.size) Am q L
  bel : Below w.heap.size w W
section
variable {w W W' : World} {A8 a0 : Option Addr} {u : Nat} {r : Bs} {Al Am : Option Addr} {q : Nat} {L : List Bs}
theorem ReadS.drewN (h : ReadS w A8 a0 u r Al Am q L W) (k : Nat) : ReadS w A8 a0 u r Al Am q L (W.drewN k) := ⟨h.len, h.got, h.arg, h.ref, h.own, below_drewN h.bel k⟩
theorem ReadS.drew (h : ReadS w A8 a0 u r Al Am q L W) : ReadS w A8 a0 u r Al Am q L W.drew := h.drewN 1
theorem ReadS.after (h : ReadS w A8 a0 u r Al Am q L W) (hb : Below W.heap.size W W') : ReadS w A8 a0 u r Al Am q L W' := by
  have hk : Kept (· < W.heap.size) W W' := fun b hlt => hb.block b hlt
  have hz : ∀ b, b < W.heap.size → b < W'.heap.size := fun b h => Nat.lt_of_lt_of_le h hb.size
  exact ⟨h.len, (h.got.below hb).mono hb.size, (h.arg.below hb).mono hb.size, (h.ref.kept hk).mono hz, (h.own.kept hk).mono hz, h.bel.trans (hb.mono h.bel.size)⟩
theorem ReadS.conv1 (h : ReadS w A8 a0 u r Al Am q L W) (c : Nat) : (convert 23 9 (.slice A8 u c)).run Try.prog W = .ok (.string ⟨r.toArray⟩) W := conv_str h.len h.got
theorem ReadS.conv2 (h : ReadS w A8 a0 u r Al Am q L W) (c : Nat) : (convert 23 9 (.slice a0 u c)).run Try.prog W = .ok (.string ⟨r.toArray⟩) W := conv_str h.len h.arg
end
theorem Recs.all' {w : World} {X : Nat → Prop} {A : Option Addr} {n : Nat} {L : List Bs} (h : Recs w X A n L) : Recs w (· < w.heap.size) A n L := ⟨h.1, fun i r hr => by
  obtain ⟨g, o, Ai, ci, e, hg, hc, hl⟩ := h.2 i r hr
  exact ⟨g, o, Ai, ci, e, cell_block_lt (p := ⟨g, o + i, none⟩) hc, hc, LiesX.of hl.lies⟩⟩

set_option maxRecDepth 20000 in
set_option maxHeartbeats 4000000 in
theorem journalReads_walk (a0 : Option Addr) (len0 cap0 : Nat) (w : World) (h0 : BytesC w a0 len0 cap0) :
    Calls Try.prog 6 #[.slice a0 len0 cap0] w fun e w' => e = .returned (.bool true) ∧ Below w.heap.size w w' := by
  obtain ⟨hlc, hcm, hnil, l, hl0, hL0⟩ := h0
  have hcm' := hcm
  unfold maxLen at hcm'
  by_cases hb0 : 4096 < len0
  · have hbi : (4096 : Int) < (len0 : Int) := by omega
    go_enter Try.func6, Try.ntmps6
    go_wp2
    go_ret
    exact ⟨rfl, Below.refl _ _⟩
  have hbi0 : (len0 : Int) ≤ 4096 := by omega
  obtain ⟨s0, s1, e0, e1, r0, f1, g1, d0, d1⟩ := reads_states (l := l) (by omega)
  have E0 := Lib.hid e0
  have E1 := Lib.hid e1
  have R0 := Lib.hid r0
  have F1 := Lib.hid f1
  have G1 := Lib.hid g1
  obtain ⟨q, hq⟩ : ∃ q, (recs l).length = q := ⟨_, rfl⟩
  obtain ⟨u, hu⟩ : ∃ u, used l = u := ⟨_, rfl⟩
  obtain ⟨rr, hrr⟩ : ∃ rr, rr = l.take (used l) := ⟨_, rfl⟩
  have hul : u ≤ len0 := by have := used_le l; omega
  have hrl : rr.length = u := by rw [hrr, List.length_take, ← hu]; omega
  have hq2 : q ≤ 4096 := by have := recs_length l; omega
  rw [← hrr] at G1
  have HQ := Lib.hid hq
  have HU := Lib.hid hu
  have HRl := Lib.hid hrl
  have HRR := Lib.hid hrr
  have HL0 := Lib.hid hL0
  have Hl0 := Lib.hid hl0
  have HNil := Lib.hid hnil
  have huc : (u : Int) ≤ (cap0 : Int) := by omega
  clear e0 e1 r0 f1 g1 hL0 hl0 hq hu hrr hrl hnil
  go_enter Try.func6, Try.ntmps6
  go_wp2_with (first
    | (go_at_call 8; refine (Fresh.new (X := fun _ => False) (fun _ h => h.elim) (Below.refl w.heap.size w)).mono ?_; rintro e w1 ⟨d, rfl, hF, -⟩; have H1 := Lib.hid hF; clear hF)
    | (go_at_call 20; refine (appendJ H1.out Hl0.out ((HL0.out.below H1.out.bel).mono H1.out.size) (by decide) E0.out).mono ?_; rintro e w2 ⟨rfl, hF2, -⟩; have H2 := Lib.hid hF2; clear hF2 H1)
    | (go_at_call 26; refine (rAll_all Hl0.out hlc hcm HNil.out (by omega) ((HL0.out.below H2.out.bel).mono H2.out.size)).mono ?_; unfold FoundAll; rw [HQ.out, HU.out]; rintro e w3 ⟨A3, c3, rfl, -, hr3, hb3⟩; have H3 := Lib.hid (H2.out.keep hb3); have HR3 := Lib.hid (hr3.mono (Y := More (fun _ => False) w2 w3) fun b hb => .inr hb); clear hr3 hb3 H2)
    | (go_at_call 9; refine (openJ H3.out (by omega) E1.out R0.out).mono ?_; unfold Opened; rw [HQ.out]; rintro e w4 ⟨jb4, A4, c4, X4, rfl, -, -, -, -, -, hr4, hF4, hK4⟩; have H4 := Lib.hid hF4; have HR4 := Lib.hid hr4; have HR34 := Lib.hid (HR3.out.kept hK4); clear hF4 hr4 hK4 H3 HR3)
    | (go_at_call 27; refine (readJ H4.out F1.out G1.out).mono ?_; rw [HRl.out]; rintro e w5 ⟨A5, c5, rfl, ho5, -, hF5, hb5⟩; have H5 := Lib.hid hF5; have HO5 := Lib.hid ho5; have HR5 := Lib.hid ((HR4.out.all'.kept fun b hb => hb5.block b hb)); have HR35 := Lib.hid (HR34.out.all'.kept fun b hb => hb5.block b hb); have HB5 := Lib.hid hb5; clear hF5 ho5 hb5))
  have hS6 : ReadS w A5 a0 u rr A3 A4 q (recs l) w5 := by
    refine ⟨HRl.out, Lies.of_own HO5.out, ?_, HR35.out.all', HR5.out.all', H5.out.bel⟩
    rw [HRR.out]
    exact ((HL0.out.take _).below H5.out.bel).mono H5.out.size
  clear HR5 HR35 H5 HO5 H4 HR4 HR34 HB5
  go_region_held3 (fun W => (convert 23 9 (.slice A5 u c5)).run Try.prog W = .ok (.string ⟨rr.toArray⟩) W ∧ (convert 23 9 (.slice a0 u cap0)).run Try.prog W = .ok (.string ⟨rr.toArray⟩) W ∧ ReadS w A5 a0 u rr A3 A4 q (recs l) W) (first | exact ⟨hS6.drew.conv1 c5, hS6.drew.conv2 cap0, hS6.drew⟩ | exact ⟨hS7.conv1 c5, hS7.conv2 cap0, hS7⟩ | exact ⟨hS8.conv1 c5, hS8.conv2 cap0, hS8⟩)
    (first
      | (go_at_call 24; refine (awake_any _).mono ?_; rintro e w7 ⟨rfl, hb7⟩; have hS7 := hS6.drew.after hb7; clear hb7)
      | (go_at_call 11; refine (same_yes hS7.ref hS7.own (by unfold maxLen; omega)).mono ?_; rintro e w8 ⟨rfl, k8, rfl⟩; have hS8 := hS7.drewN k8; have hv1 := hS8.conv1 c5; have hv2 := hS8.conv2 cap0))
  all_goals
    go_wp2
    go_ret
    exact ⟨rfl, hS8.bel⟩
end Go.Proofs.Ytkiombbdddbkfaa.Jn
