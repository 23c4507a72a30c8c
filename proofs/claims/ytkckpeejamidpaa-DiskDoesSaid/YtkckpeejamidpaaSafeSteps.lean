/-
  What DiskSafe's rounds do to the disk's state; slices of bools and integers that came in. Conditions: none but those that each theorem names.
-/
import Derived.Test.YtkckpeejamidpaaDiskStopsWalk
import Derived.Deep.Grids
namespace Go.Proofs.Ytkckpeejamidpaa.Dk
open Go.RowKit Go.Proofs.Ytkckpeejamidpaa.Pk

/-- The file holds l, of which q bytes are safe; the power is on and nothing is armed. -/
def SafeSt (k : Nat) (s : Ds) (l : List UInt8) (q : Nat) : Prop := s.off = false ∧ s.fuse = 0 ∧ s.deeds ≤ 2 * k ∧ fileOr s F = ⟨l, q⟩ ∧ q ≤ l.length ∧ l.length ≤ 256 * k
/-- .. in the midst of a round. -/
def SafeMid (k : Nat) (s : Ds) (l : List UInt8) (q : Nat) : Prop := s.off = false ∧ s.fuse = 0 ∧ s.deeds ≤ 2 * k + 2 ∧ get s.m F = some ⟨l, q⟩ ∧ q ≤ l.length ∧ l.length ≤ 256 * (k + 1)

section
variable {k q : Nat} {s t : Ds} {l l' : List UInt8}
theorem safe_append (h : SafeSt k s l q) (hk : k < 100) (hl : l'.length ≤ 256) : ∃ t, appendD s F l' = (0, t) ∧ SafeMid k t (l ++ l') q ∧ t.deeds ≤ 2 * k + 1 := by
  obtain ⟨h1, h2, h3, h4, h5, h6⟩ := h
  obtain ⟨t, e, t1, t2, t3, t4, t5⟩ := app_ok (b := l') h1 (by omega) f_name (by rw [h4]; show l.length + _ ≤ _; omega)
  obtain ⟨p1, p2⟩ := fileOr_put t5
  rw [h4] at p2
  refine ⟨t, e, ⟨t1, by omega, by omega, p2, ?_, ?_⟩, by omega⟩
  · simp only [List.length_append]; omega
  · simp only [List.length_append]; omega
theorem safe_sync (h : SafeMid k t l q) (hd : t.deeds ≤ 2 * k + 1) : ∃ u, syncD t F = (0, u) ∧ SafeMid k u l l.length := by
  obtain ⟨h1, h2, h3, h4, h5, h6⟩ := h
  obtain ⟨u, e, u1, u2, u3, u4, u5⟩ := syn_ok h1 (by omega) h4
  obtain ⟨p1, p2⟩ := fileOr_put u5
  exact ⟨u, e, u1, by omega, by omega, p2, Nat.le_refl _, h6⟩
theorem safe_next (h : SafeMid k t l q) : SafeSt (k + 1) t l q := by
  obtain ⟨h1, h2, h3, h4, h5, h6⟩ := h
  exact ⟨h1, h2, by omega, fileOr_some h4, h5, h6⟩
/-- The power is cut and comes again. -/
theorem safe_cut {c : Int} (h : SafeMid k t l q) :
    ∃ lb : List UInt8, lb = l.take lb.length ∧ lb.length = min l.length (q + c.toNat) ∧ findD (offD t c) F = 20 ∧ readD (offD t c) F = [] ∧ findD (onD (offD t c)) F = 0 ∧ readD (onD (offD t c)) F = lb ∧ SafeSt (k + 1) (onD (offD t c)) lb lb.length := by
  obtain ⟨h1, h2, h3, h4, h5, h6⟩ := h
  have hoff : (offD t c).off = true := by rw [offD_on h1]
  have hm : (onD (offD t c)).m = loseAll c t.m := by rw [offD_on h1]; rfl
  have hg : get (onD (offD t c)).m F = some (lose c ⟨l, q⟩) := by rw [hm, get_loseAll, h4]; rfl
  have e1 : (lose c ⟨l, q⟩).data = l.take (q + min c.toNat (l.length - q)) := rfl
  have e2 : (l.take (q + min c.toNat (l.length - q))).length = q + min c.toNat (l.length - q) := by rw [List.length_take]; omega
  have hz := find_zero (s := onD (offD t c)) rfl hg
  have f2 : (onD (offD t c)).fuse = 0 := by rw [offD_on h1]; exact h2
  have f3 : (onD (offD t c)).deeds = t.deeds := by rw [offD_on h1]; rfl
  refine ⟨l.take (q + min c.toNat (l.length - q)), by rw [e2], by rw [e2]; omega, find_offD hoff, ?_, hz, ?_, rfl, f2, by omega, ?_, Nat.le_refl _, by rw [e2]; omega⟩
  · unfold readD; rw [find_offD hoff, if_pos (by decide)]
  · unfold readD; rw [hz, if_neg (by decide), fileOr_some hg]; exact e1
  · rw [fileOr_some hg]; unfold lose keptOf; rw [e2]
end

/-! ### what came in -/
def Bools (w : World) (a : Option Addr) (len : Nat) : Prop := len ≤ maxLen ∧ ∀ i, i < len → ∃ b o x, a = some ⟨b, o, none⟩ ∧ w.cell? ⟨b, o + i, none⟩ = some (.bool x)
def Ints (w : World) (a : Option Addr) (len : Nat) : Prop := len ≤ maxLen ∧ ∀ i, i < len → ∃ b o x, a = some ⟨b, o, none⟩ ∧ w.cell? ⟨b, o + i, none⟩ = some (.int .i64 x) ∧ -9223372036854775808 ≤ x ∧ x ≤ 9223372036854775807

theorem plain_addr {w : World} {ad : Addr} {v : Value} (h : w.cell? (ad.add 0) = some v) : ∃ b o, ad = ⟨b, o, none⟩ := by
  obtain ⟨b, o, sp⟩ := ad
  have hsp : sp = none := by simpa [Addr.add] using World.cell?_spot h
  exact ⟨b, o, by rw [hsp]⟩
theorem ints_of {H : Type} {enc : TypeId × Value → H} {w : World} {base fuel : Nat} {held : Bool} {a : Option Addr} {len cap : Nat} {x : DataW H × List MemPlace}
    (h : DataW.trod enc Try.prog w base (fun _ => true) held fuel 40 [.slice a len cap] = some x) : Ints w a len := by
  rcases ChangeShapes.open_ints Try.underlying40 Try.underlying3 (by kernel_rfl) h with ⟨hcs, _⟩ | ⟨ad, l, c, zs, hcs, _, hl, hm, hz, _, hcell, hwz⟩
  · simp at hcs
    obtain ⟨rfl, rfl, rfl⟩ := hcs
    exact ⟨Nat.zero_le _, fun i hi => by omega⟩
  · simp at hcs
    obtain ⟨rfl, rfl, rfl⟩ := hcs
    simp at hz
    refine ⟨by omega, fun i hi => ?_⟩
    obtain ⟨b, o, rfl⟩ := plain_addr (hcell 0 (by omega))
    have hc := hcell i (by omega)
    rw [Addr.add_lit] at hc
    have e : zs.getD i 0 = zs[i]'(by omega) := by simp [List.getD, show i < zs.length by omega]
    have hb := bounds_i64 (hwz _ (List.getElem_mem (show i < zs.length by omega)))
    exact ⟨b, o, zs[i]'(by omega), rfl, by rw [← e]; exact hc, hb.1, hb.2⟩
theorem bools_of {H : Type} {enc : TypeId × Value → H} {w : World} {base fuel : Nat} {held : Bool} {a : Option Addr} {len cap : Nat} {x : DataW H × List MemPlace}
    (h : DataW.trod enc Try.prog w base (fun _ => true) held fuel 39 [.slice a len cap] = some x) : Bools w a len := by
  rcases Go.Deep.open_bools Try.underlying39 Try.underlying4 (by kernel_rfl) h with ⟨hcs, _⟩ | ⟨ad, l, c, B, hcs, _, hl, hm, _, hcell⟩
  · simp at hcs
    obtain ⟨rfl, rfl, rfl⟩ := hcs
    exact ⟨Nat.zero_le _, fun i hi => by omega⟩
  · simp at hcs
    obtain ⟨rfl, rfl, rfl⟩ := hcs
    refine ⟨by omega, fun i hi => ?_⟩
    obtain ⟨b, o, rfl⟩ := plain_addr (hcell 0 (by omega))
    have hc := hcell i (by omega)
    rw [Addr.add_lit] at hc
    exact ⟨b, o, _, rfl, hc⟩
end Go.Proofs.Ytkckpeejamidpaa.Dk
