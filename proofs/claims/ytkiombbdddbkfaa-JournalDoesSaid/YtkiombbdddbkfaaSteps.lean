/-
  What the operations do to a disk's state, case by case; slices of slices that came in. Conditions: none but those that each theorem names.
-/
import Derived.Test.YtkiombbdddbkfaaConv
import Derived.Deep.Matrix
import Derived.OpenShut
namespace Go.Proofs.Ytkiombbdddbkfaa.Dk
open Go.RowKit Go.Proofs.Ytkiombbdddbkfaa.Pk

section
variable {s : Ds} {k : Nm} {b : List UInt8} {f : Fl}
theorem strike_fst (s : Ds) : (strike s).1 = decide (s.fuse = 1) := by
  unfold strike
  split
  · rename_i h; simp [h]
  · split
    · rename_i h; simp [h]
    · rename_i h; simp [h]
theorem strike_no (h : s.fuse ≠ 1) : (strike s).2 = { s with deeds := s.deeds + 1, fuse := s.fuse - 1 } := by
  unfold strike
  by_cases h0 : s.fuse = 0
  · rw [if_pos h0]; simp [h0]
  · rw [if_neg h0, if_neg h]
theorem strike_yes (h : s.fuse = 1) (ho : s.off = false) : (strike s).2 = { s with deeds := s.deeds + 1, fuse := 0, off := true, m := loseAll s.keep s.m } := by
  unfold strike
  rw [if_neg (by omega), if_pos h]
  exact offD_on (s := { s with deeds := s.deeds + 1, fuse := 0 }) ho s.keep

theorem app_ok (ho : s.off = false) (hf : s.fuse ≠ 1) (hn : isName k = true) (hl : (fileOr s k).data.length + b.length ≤ 16777216) :
    ∃ t, appendD s k b = (0, t) ∧ t.off = false ∧ t.deeds = s.deeds + 1 ∧ t.fuse = s.fuse - 1 ∧ t.keep = s.keep ∧ t.m = put k ⟨(fileOr s k).data ++ b, (fileOr s k).safe⟩ s.m := by
  refine ⟨_, Prod.ext ?_ rfl, ?_⟩
  · rw [appendD_go ho hn (by omega)]
    show code _ = 0
    rw [strike_fst]
    have : (withFile s k ⟨(fileOr s k).data ++ b, (fileOr s k).safe⟩).fuse = s.fuse := rfl
    rw [this, decide_eq_false hf]; rfl
  · rw [appendD_go ho hn (by omega)]
    show (strike _).2.off = _ ∧ _
    rw [strike_no (s := withFile s k ⟨(fileOr s k).data ++ b, (fileOr s k).safe⟩) hf]
    exact ⟨ho, rfl, rfl, rfl, rfl⟩
theorem app_hit (ho : s.off = false) (hf : s.fuse = 1) (hn : isName k = true) (hl : (fileOr s k).data.length + b.length ≤ 16777216) :
    ∃ t, appendD s k b = (20, t) ∧ t.off = true ∧ t.deeds = s.deeds + 1 ∧ t.fuse = 0 ∧ t.keep = s.keep ∧ t.m = loseAll s.keep (put k ⟨(fileOr s k).data ++ b, (fileOr s k).safe⟩ s.m) := by
  refine ⟨_, Prod.ext ?_ rfl, ?_⟩
  · rw [appendD_go ho hn (by omega)]
    show code _ = 20
    rw [strike_fst]
    have : (withFile s k ⟨(fileOr s k).data ++ b, (fileOr s k).safe⟩).fuse = s.fuse := rfl
    rw [this, decide_eq_true hf]; rfl
  · rw [appendD_go ho hn (by omega)]
    show (strike _).2.off = _ ∧ _
    rw [strike_yes (s := withFile s k ⟨(fileOr s k).data ++ b, (fileOr s k).safe⟩) hf ho]
    exact ⟨rfl, rfl, rfl, rfl, rfl⟩
theorem find_zero (ho : s.off = false) (hg : get s.m k = some f) : findD s k = 0 := by unfold findD; rw [if_neg (by simp [ho]), hg]; rfl
theorem find_offD (ho : s.off = true) : findD s k = 20 := by unfold findD; rw [if_pos ho]
theorem fileOr_some (hg : get s.m k = some f) : fileOr s k = f := by unfold fileOr; rw [hg]; rfl
theorem syn_ok (ho : s.off = false) (hf : s.fuse ≠ 1) (hg : get s.m k = some f) :
    ∃ t, syncD s k = (0, t) ∧ t.off = false ∧ t.deeds = s.deeds + 1 ∧ t.fuse = s.fuse - 1 ∧ t.keep = s.keep ∧ t.m = put k ⟨f.data, f.data.length⟩ s.m := by
  have h0 := find_zero ho hg
  have e : syncD s k = ends (strike s) fun t => withFile t k ⟨f.data, f.data.length⟩ := by unfold syncD; rw [if_neg (by simp [h0]), fileOr_some hg]
  rw [e, ends_ok (by rw [strike_fst, decide_eq_false hf]), strike_no hf]
  exact ⟨_, rfl, ho, rfl, rfl, rfl, rfl⟩
theorem syn_hit (ho : s.off = false) (hf : s.fuse = 1) (hg : get s.m k = some f) :
    ∃ t, syncD s k = (20, t) ∧ t.off = true ∧ t.deeds = s.deeds + 1 ∧ t.fuse = 0 ∧ t.keep = s.keep ∧ t.m = loseAll s.keep s.m := by
  have h0 := find_zero ho hg
  have e : syncD s k = ends (strike s) fun t => withFile t k ⟨f.data, f.data.length⟩ := by unfold syncD; rw [if_neg (by simp [h0]), fileOr_some hg]
  rw [e, ends_hit (by rw [strike_fst, decide_eq_true hf]), strike_yes hf ho]
  exact ⟨_, rfl, rfl, rfl, rfl, rfl, rfl⟩
theorem syn_off (ho : s.off = true) : syncD s k = (20, s) := by unfold syncD; rw [find_offD ho, if_pos (by decide)]
theorem cut_offD {n : Int} (ho : s.off = true) : cutD s k n = (20, s) := by unfold cutD; rw [find_offD ho, if_pos (by decide)]
theorem lose_le (keep : Int) (f : Fl) : (lose keep f).data.length ≤ f.data.length := by simp only [lose, List.length_take]; omega
end

/-! ### what came in -/
theorem toNat_ofNat {n : Nat} (h : n < 256) : (UInt8.ofNat n).toNat = n := by simp [Nat.mod_eq_of_lt h]
theorem cell_block_lt {w : World} {p : Addr} {v : Value} (h : w.cell? p = some v) : p.block < w.heap.size := World.block_lt_of_cell? _ _ h
theorem lies_of_cells {w : World} {x : Addr} {len cap : Nat} {zs : List Int} (h1 : len ≤ cap) (h3 : zs.length = cap) (h4 : ∀ i, i < zs.length → w.cell? (x.add i) = some (.int .u8 (zs.getD i 0))) (h5 : ∀ n ∈ zs, (Lit.int .u8 n).wf = true) :
    ∃ l : List UInt8, l.length = len ∧ Lies w w.heap.size (some x) l := by
  refine ⟨(zs.take len).map fun n => UInt8.ofNat n.toNat, by simp; omega, ?_⟩
  intro k y hy
  simp only [List.getElem?_map, List.getElem?_take, Option.map_eq_some_iff] at hy
  obtain ⟨n, hn, rfl⟩ := hy
  split at hn
  · obtain ⟨hk, rfl⟩ := List.getElem?_eq_some_iff.1 hn
    have hc := h4 k hk
    obtain ⟨b, o, sp⟩ := x
    have hsp : sp = none := by
      have h0 := h4 0 (by omega)
      simpa [Addr.add] using World.cell?_spot h0
    subst hsp
    rw [Addr.add_lit] at hc
    refine ⟨b, o, rfl, cell_block_lt hc, ?_⟩
    rw [hc]
    have hb := bounds_u8 (h5 _ (List.getElem_mem hk))
    have e : zs.getD k 0 = zs[k] := by simp [List.getD, hk]
    rw [e]
    unfold bv
    have e2 : ((UInt8.ofNat (zs[k]).toNat).toNat : Int) = zs[k] := by
      rw [toNat_ofNat (by omega)]; omega
    rw [e2]
  · cases hn
theorem lies_of_row {w : World} {a : Option Addr} {len cap : Nat} {zs : List Int} (h : IsRow .u8 w a len cap zs) : ∃ l : List UInt8, l.length = len ∧ len ≤ cap ∧ cap ≤ maxLen ∧ Lies w w.heap.size a l := by
  rcases h with ⟨rfl, rfl, rfl, rfl⟩ | ⟨x, rfl, h1, h2, h3, h4, h5⟩
  · exact ⟨[], rfl, Nat.le_refl _, Nat.zero_le _, Lies.none_⟩
  · obtain ⟨l, hl, hr⟩ := lies_of_cells h1 h3 h4 h5
    exact ⟨l, hl, h1, h2, hr⟩

/-- A slice of byte slices that came in. -/
def Pieces (w : World) (a : Option Addr) (len : Nat) : Prop :=
  len ≤ maxLen ∧ ∀ i, i < len → ∃ b o A n c l, a = some ⟨b, o, none⟩ ∧ w.cell? ⟨b, o + i, none⟩ = some (.slice A n c) ∧ n ≤ maxLen ∧ l.length = n ∧ Lies w w.heap.size A l

theorem pieces_of {H : Type} {enc : TypeId × Value → H} {w : World} {base fuel : Nat} {held : Bool} {a : Option Addr} {len cap : Nat} {x : DataW H × List MemPlace}
    (h : DataW.trod enc Try.prog w base (fun _ => true) held fuel 33 [.slice a len cap] = some x) : Pieces w a len := by
  rcases Go.Deep.open_int_rows Try.underlying33 Try.underlying23 Try.underlying5 (by kernel_rfl) (by kernel_rfl) h with ⟨hcs, _⟩ | ⟨ad, l, c, A, L, C, Z, hcs, _, hl, hm, _, hr⟩
  · simp at hcs
    obtain ⟨rfl, rfl, rfl⟩ := hcs
    exact ⟨Nat.zero_le _, fun i hi => by omega⟩
  · simp at hcs
    obtain ⟨rfl, rfl, rfl⟩ := hcs
    refine ⟨by omega, fun i hi => ?_⟩
    obtain ⟨hc, h1, h2, h3, h4, h5, h6⟩ := hr i (by omega)
    obtain ⟨b, o, sp⟩ := ad
    have hsp : sp = none := by
      obtain ⟨hc0, _⟩ := hr 0 (by omega)
      simpa [Addr.add] using World.cell?_spot hc0
    subst hsp
    rw [Addr.add_lit] at hc
    cases hA : A i with
    | none =>
      have hz : L i = 0 := by have := h5 hA; omega
      exact ⟨b, o, none, L i, C i, [], rfl, hA ▸ hc, by omega, by rw [hz]; rfl, Lies.none_⟩
    | some a' =>
      obtain ⟨_, h7⟩ := h6 a' hA
      obtain ⟨l, hl', hlies⟩ := lies_of_cells (w := w) (x := a') h1 h3 (fun j hj => h7 j (by omega)) h4
      exact ⟨b, o, some a', L i, C i, l, rfl, hA ▸ hc, by omega, hl', hlies⟩
end Go.Proofs.Ytkiombbdddbkfaa.Dk
