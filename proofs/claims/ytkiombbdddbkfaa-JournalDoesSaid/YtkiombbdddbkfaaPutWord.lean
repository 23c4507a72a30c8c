/-
  putWord writes a word of four bytes into a row. Conditions: the row has four cells there.
-/
import Derived.Test.YtkiombbdddbkfaaWord
import Derived.Test.YtkiombbdddbkfaaMisc
namespace Go.Proofs.Ytkiombbdddbkfaa.Jn
open Go.RowKit Go.Proofs.Ytkiombbdddbkfaa.Pk Go.Proofs.Ytkiombbdddbkfaa.Dk

/-- Block g is a row of bytes. -/
def Row (w : World) (g : Nat) (cs : List Value) : Prop := w.heap[g]? = some (.cells cs.toArray 5 (0, 0))
theorem Row.cell {w : World} {g k : Nat} {cs : List Value} (h : Row w g cs) (hk : k < cs.length) : w.cell? ⟨g, k, none⟩ = some (cs[k]'hk) := by
  rw [cell_of_row _ _ _ _ _ _ h]; simp [hk]
theorem Row.fz {w : World} {g : Nat} {cs : List Value} (h : Row w g cs) (k : Nat) : w.frozen? ⟨g, k, none⟩ = false := by
  unfold Row at h; simp [World.frozen?, h]
theorem Row.set {w : World} {g k : Nat} {cs : List Value} (h : Row w g cs) (u : Value) : Row (w.setCell ⟨g, k, none⟩ u) g (cs.set k u) := by
  unfold Row at h ⊢; simp [World.setCell, Array.getElem?_modify, h]
theorem Row.lt {w : World} {g : Nat} {cs : List Value} (h : Row w g cs) : g < w.heap.size := (Array.getElem?_eq_some_iff.1 h).1
theorem splice_set {cur cs : List Value} {o : Nat} (v : Value) (h : o + cs.length < cur.length) : (splice cur o cs).set (o + cs.length) v = splice cur o (cs ++ [v]) := by
  unfold splice
  have e1 : (cur.take o).length = o := by simp; omega
  rw [List.set_append_right _ _ (by omega), e1, Nat.add_sub_cancel_left, List.set_append_right _ _ (Nat.le_refl _), Nat.sub_self, List.append_assoc]
  congr 2
  have e2 : cur.drop (o + cs.length) = cur[o + cs.length] :: cur.drop (o + cs.length + 1) := List.drop_eq_getElem_cons h
  rw [e2, List.set_cons_zero]
  simp [Nat.add_assoc]
theorem le4_at (x : Nat) {k : Nat} (hk : k < 4) : cells ((le4 x).take (k + 1)) = cells ((le4 x).take k) ++ [Value.int .u8 ((x / 2 ^ (8 * k) % 256 : Nat) : Int)] := by
  have q : ∀ n : Nat, ((UInt8.ofNat (n % 256)).toNat : Int) = ((n % 256 : Nat) : Int) := fun n => by rw [Jn.toNat_ofNat (Nat.mod_lt _ (by decide))]
  match k, hk with
  | 0, _ => simp [le4, cells, bv]
  | 1, _ => simp [le4, cells, bv]
  | 2, _ => simp [le4, cells, bv]
  | 3, _ => simp [le4, cells, bv]
theorem shift_val {x k : Nat} : (x : Int) / 2 ^ (8 * k) % 256 = ((x / 2 ^ (8 * k) % 256 : Nat) : Int) := by
  have e : (x : Int) / ((2 ^ (8 * k) : Nat) : Int) = ((x / 2 ^ (8 * k) : Nat) : Int) := rfl
  have e2 : ((2 ^ (8 * k) : Nat) : Int) = (2 : Int) ^ (8 * k) := Int.natCast_pow 2 (8 * k)
  rw [← e2, e]; rfl
theorem splice_nil (cur : List Value) (o : Nat) : splice cur o [] = cur := by simp [splice]
set_option maxRecDepth 20000 in
set_option maxHeartbeats 1000000 in
theorem putWord_any {w : World} {g o n c x : Nat} {cur : List Value} (hrow : Row w g cur) (hfit : o + 4 ≤ cur.length) (h4 : 4 ≤ n) (hn : n ≤ maxLen) :
    Calls Try.prog 53 #[.slice (some ⟨g, o, none⟩) n c, .int .u32 x] w fun e w' => e = .returned (.tuple #[]) ∧ Row w' g (splice cur o (cells (le4 x))) ∧ Only g w w' := by
  unfold maxLen at hn
  have HR := Lib.hid hrow
  clear hrow
  go_enter Try.func53, Try.ntmps53
  go_wp2
  go_loopw [5] (fun i wr => ∃ k : Nat, k ≤ 4 ∧ i = .int .i64 k ∧ Hid (Row wr g (splice cur o (cells ((le4 x).take k)))) ∧ Hid (Only g w wr)) (fun i _ => 4 - (intOf i).toNat)
  case atStart => exact ⟨0, by omega, rfl, (show Row _ _ _ by simpa [cells, splice_nil] using HR.out), Only.refl _ _⟩
  case round =>
    obtain ⟨k, hk, rfl, hr, ho⟩ := hrel
    by_cases hlt : k < 4
    · have hkl : ((le4 x).take k).length = k := by rw [List.length_take, le4_length]; omega
      have hsl : (splice cur o (cells ((le4 x).take k))).length = cur.length := length_splice _ _ _ (by rw [cells_length, hkl]; omega)
      obtain ⟨u0, hc⟩ : ∃ u, wr.cell? ⟨g, o + k, none⟩ = some u := ⟨_, hr.out.cell (k := o + k) (by rw [hsl]; omega)⟩
      have hf := hr.out.fz (o + k)
      have hki : (k : Int) < 4 := by omega
      have hkn : (k : Int) < (n : Int) := by omega
      have HK := Lib.hid hkl
      clear hsl hkl
      go_wp2
      go_roundw
      case rel =>
        refine ⟨k + 1, by omega, by go_num, ?_, ho.out.setCell _ _⟩
        have hkc : (cells ((le4 x).take k)).length = k := by rw [cells_length]; exact HK.out
        have hs := hr.out.set (k := o + k) (Value.int IntKind.u8 ((x : Int) / 2 ^ (8 * k) % 256))
        have e := splice_set (cur := cur) (cs := cells ((le4 x).take k)) (o := o) (Value.int IntKind.u8 ((x : Int) / 2 ^ (8 * k) % 256)) (by rw [hkc]; omega)
        rw [hkc, shift_val, ← le4_at x hlt] at e
        rw [shift_val, e] at hs
        rw [shift_val]
        exact hs
      case measure => simp [intOf]; omega
    · have e4 : k = 4 := by omega
      have hr' := Lib.hid (e4 ▸ hr.out)
      have hki : ¬ (k : Int) < 4 := by omega
      clear hr e4
      go_wp2
      go_end0
      exact ⟨rfl, hr'.out, ho.out⟩
end Go.Proofs.Ytkiombbdddbkfaa.Jn
