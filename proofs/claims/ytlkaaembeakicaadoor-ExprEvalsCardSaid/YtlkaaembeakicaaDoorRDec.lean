/-
  The document's numbers as texts, its bits and sizes. Conditions: a number from 0 to below ten to the eighteenth.
-/
import Derived.Test.YtlkaaembeakicaaDoorRFits
import Derived.Deep.LoopGhost
import Derived.Laws.IdiomStrings
namespace Go.Proofs.YtlkaaembeakicaaDoor.Ex
open Go.RowKit
set_option maxHeartbeats 400000 in
theorem rbit_any (b : Bool) (w : World) : Calls Tryd.prog 29 #[.bool b] w fun e w' => e = .returned (.int .i64 (bit b)) ∧ w = w' := by
  cases b
  · go_enter Tryd.func29, Tryd.ntmps29
    go_wp2
    go_ret
    exact ⟨rfl, rfl⟩
  · go_enter Tryd.func29, Tryd.ntmps29
    go_wp2
    go_ret
    exact ⟨rfl, rfl⟩
set_option maxHeartbeats 400000 in
theorem rsize_any {w0 w : World} {x : Nat} {T : Tree} (h : RAt w0 x T w) : Calls Tryd.prog 16 #[ptr x] w fun e w' => e = .returned (.int .i64 T.size) ∧ w = w' := by
  obtain ⟨L, Ts, i, vL, hb, hr, hg, ht, hl⟩ := h
  obtain ⟨d0, d1, g0, g1⟩ := xx_cells hb
  have hx := lt_of_heap hb
  have hpos : 0 < L.length := by rw [hl]; exact T.size_pos
  rcases hr.2 with ⟨_, h0⟩ | ⟨g, cap, cur, rfl, -⟩
  · omega
  · have HL := Lib.hid hl
    clear hb hr hg ht hl
    go_enter Tryd.func16, Tryd.ntmps16
    go_wp2
    go_ret
    exact ⟨ret_int (by rw [HL.out]), rfl⟩
def digs (m : Nat) : Bs := if m = 0 then [] else Lib.decDigits m
theorem digs_next {m : Nat} (h : m ≠ 0) : digs m = digs (m / 10) ++ [UInt8.ofNat (48 + m % 10)] := by
  unfold digs
  rw [if_neg h]
  by_cases h1 : m < 10
  · rw [Lib.decDigits_one h1, if_pos (by omega), Nat.mod_eq_of_lt h1]; rfl
  · rw [if_neg (by omega)]
    conv => lhs; rw [Lib.decDigits, dif_neg h1]
theorem conv_one (W : World) {d : Nat} (hd : d < 10) : (convert 74 9 (.slice (some ⟨W.heap.size, 0, none⟩) 1 1)).run Tryd.prog (W.alloc (.cells #[.int .u8 (48 + (d : Int))] 5)) = .ok (.string ⟨#[UInt8.ofNat (48 + d)]⟩) (W.alloc (.cells #[.int .u8 (48 + (d : Int))] 5)) :=
  run_convert_bytes_back (P := Tryd.prog) (W.alloc (.cells #[.int .u8 (48 + (d : Int))] 5)) 74 9 5 ⟨W.heap.size, 0, none⟩ 1 [UInt8.ofNat (48 + d)] Tryd.underlying74 Tryd.underlying5 Tryd.underlying9 (fun j hj => by
    obtain rfl : j = 0 := by simp at hj; exact hj
    have e : ((UInt8.ofNat (48 + d)).toNat : Int) = 48 + (d : Int) := by
      rw [UInt8.toNat_ofNat']; omega
    simp [Addr.add]
    omega)
set_option maxRecDepth 20000 in
set_option maxHeartbeats 1000000 in
theorem rdec_any (n : Nat) (hn : n < 1000000000000000000) (w : World) : Calls Tryd.prog 28 #[.int .i64 n] w fun e w' => e = .returned (.string ⟨(Lib.decDigits n).toArray⟩) ∧ Below w.heap.size w w' := by
  by_cases h0 : n = 0
  · subst h0
    go_enter Tryd.func28, Tryd.ntmps28
    go_wp2
    go_ret
    exact ⟨by simp [Lib.decDigits], Below.refl _ _⟩
  · have e0 : ((n : Int) == 0) = false := ne_beq (n := 0) h0
    go_enter Tryd.func28, Tryd.ntmps28
    go_wp2
    go_loopg [0, 4] n (fun k v0 v4 wr => ∃ (m : Nat) (out : ByteArray), m = k ∧ m ≤ n ∧ v0 = .int .i64 m ∧ v4 = .string out ∧ digs m ++ out.data.toList = Lib.decDigits n ∧ Below w.heap.size w wr)
    case atStart => exact ⟨n, ⟨#[]⟩, rfl, Nat.le_refl _, rfl, rfl, by simp [digs, h0], Below.refl _ _⟩
    case round =>
      obtain ⟨m, out, hkm, hm, rfl, rfl, hd, hb⟩ := hrel
      have hout : out.size ≤ 30 := by
        have h1 := text_le (T := .num n) hn
        have h2 := congrArg List.length hd
        simp only [Tree.text, Tree.size] at h1
        simp only [List.length_append] at h2
        have h3 : out.data.toList.length = out.size := by simp
        omega
      have HB := Lib.hid hb
      have HD := Lib.hid hd
      clear hb hd
      by_cases hm0 : m = 0
      · subst hm0
        go_wp2
        go_ret
        refine ⟨?_, HB.out⟩
        have := HD.out
        unfold digs at this
        simp at this
        rw [← this]; simp
      · have e1 : ((m : Int) == 0) = false := ne_beq (n := 0) hm0
        have e2 : ((m : Int) != 0) = true := by rw [bne, e1]; rfl
        obtain ⟨d, hdd⟩ : ∃ d, m % 10 = d := ⟨_, rfl⟩
        have hd10 : d < 10 := by omega
        have t1 : (m : Int) % 10 = (d : Int) := by omega
        have HDD := Lib.hid hdd
        have HKM := Lib.hid hkm
        have hcv := conv_one wr hd10
        clear hdd hkm
        go_wp2
        go_roundg (m / 10)
        case measure => have := HKM.out; omega
        case rel =>
          refine ⟨m / 10, ⟨#[UInt8.ofNat (48 + d)]⟩ ++ out, rfl, by omega, by go_num, by rw [UInt8.ofNat_add]; rfl, ?_, ?_⟩
          · rw [← HD.out, digs_next hm0, HDD.out]; simp
          · exact HB.out.trans (((Below.refl _ _).alloc (Nat.le_refl _) _).mono HB.out.size)
end Go.Proofs.YtlkaaembeakicaaDoor.Ex
