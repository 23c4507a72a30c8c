/-
  step: Read of both disks. Conditions: few deeds.
-/
import Derived.Test.YtkckpeejamidpaaStepC
namespace Go.Proofs.Ytkckpeejamidpaa.Dk
open Go.RowKit Go.Proofs.Ytkckpeejamidpaa.Pk

section
variable {X M : Nat → Prop} {w0 w w' : World} {d r x : Nat} {s t : Ds} {kind n keep : Int} {name : ByteArray} {A : Option Addr} {m c : Nat}
theorem Both.read {rc : Int} {l : List UInt8} (h : Both X w0 w d r s t) (hs : name.size ≤ maxLen) (he : findD s name.data.toList = rc) (hl : readD s name.data.toList = l) :
    Calls Try.prog 19 #[.pointer (some ⟨d, 0, none⟩), .string name] w fun e w' => ∃ A c, e = .returned (.tuple #[.slice A l.length c, .int .i64 rc]) ∧ w'.ownsRow w.heap.size 5 1 (.slice A l.length c) l.length (cells l) ∧ Below w.heap.size w w' := by
  obtain ⟨hx, S, T, hD, hR, _⟩ := h
  refine (read_any hD hs).mono ?_
  rw [he, hl]
  exact fun _ _ h => h
theorem Both.rread {rc : Int} {l : List UInt8} (h : Both X w0 w d r s t) (hd : t.deeds ≤ 1000000) (he : findD t name.data.toList = rc) (hl : readD t name.data.toList = l) :
    Calls Try.prog 27 #[.pointer (some ⟨r, 0, none⟩), .string name] w fun e w' => ∃ A c, e = .returned (.tuple #[.slice A l.length c, .int .i64 rc]) ∧ Lies w w.heap.size A l ∧ w = w' := by
  obtain ⟨hx, S, T, hD, hR, _⟩ := h
  refine (rread_any hR hd).mono ?_
  rw [he, hl]
  rintro e w' ⟨A, c, rfl, hL, rfl⟩
  exact ⟨A, c, rfl, hL.lies, rfl⟩

set_option maxRecDepth 100000 in
set_option maxHeartbeats 2000000 in
theorem step_read_same {rc : Int} {l : List UInt8} (h : Both X w0 w d r s t) (hs : name.size ≤ maxLen) (hd' : t.deeds ≤ 1000) (e1 : findD s name.data.toList = rc) (e2 : readD s name.data.toList = l) (e3 : findD t name.data.toList = rc) (e4 : readD t name.data.toList = l) :
    Calls Try.prog 11 #[.pointer (some ⟨d, 0, none⟩), .pointer (some ⟨r, 0, none⟩), .agg #[.int .i64 3, .string name, .slice A m c, .int .i64 n, .int .i64 keep]] w fun e w' => e = .returned (.bool true) ∧ Both X w0 w' d r s t := by
  have hO := OpAt.new w 3 n keep name A m c
  have hB := h.alloc (.cells #[.int .i64 3, .string name, .slice A m c, .int .i64 n, .int .i64 keep] 33)
  have hw0 : w0.heap.size ≤ w.heap.size := h.size
  have ht1 : t.deeds ≤ 1000000 := by omega
  clear h hd'
  go_enter Try.func11, Try.ntmps11
  go_wp2_with (first
    | (go_at_call 19; refine (hB.read hs e1 e2).mono ?_; rintro e w2 ⟨A1, c1, rfl, hown, hb⟩; have hB2 := hB.keep hb; have cO := (hO.kept (Kept.below hB.1 hb) (.inr rfl)).c1; clear hb)
    | (go_at_call 27; refine (hB2.rread ht1 e3 e4).mono ?_; rintro e w3 ⟨A2, c2, rfl, hl2, rfl⟩; have hv1 : (convert 31 9 (.slice A1 l.length c1)).run Try.prog w2 = .ok (.string ⟨l.toArray⟩) w2 := conv_str rfl (Lies.of_own hown); have hv2 : (convert 31 9 (.slice A2 l.length c2)).run Try.prog w2 = .ok (.string ⟨l.toArray⟩) w2 := conv_str rfl hl2))
  have hlen : l.length ≤ 9223372036854775807 := by
    obtain ⟨_, _, -, q1, q2⟩ := own_cap hown
    unfold maxLen at q2; omega
  have hXA : ∀ g, (Value.slice A1 l.length c1).ownBlock = some g → More (fun b => X b ∨ b = w.heap.size) (w.alloc (.cells #[.int .i64 3, .string name, .slice A m c, .int .i64 n, .int .i64 keep] 33)) w2 g := fun g hg => .inr (hown.lt g hg)
  obtain ⟨M, hM⟩ : ∃ M, M = More (fun b => X b ∨ b = w.heap.size) (w.alloc (.cells #[.int .i64 3, .string name, .slice A m c, .int .i64 n, .int .i64 keep] 33)) w2 := ⟨_, rfl⟩
  rw [← hM] at hXA hB2
  have HM : Hid (∀ b, X b → M b) := fun b hb => by rw [hM]; exact .inl (.inl hb)
  have hsz : (w.alloc (.cells #[.int .i64 3, .string name, .slice A m c, .int .i64 n, .int .i64 keep] 33)).heap.size = w.heap.size + 1 := by simp
  rw [hsz] at hown
  clear hM hB hO hv1 hv2 cO hsz hl2
  go_loopw [14] (fun i wr => ∃ (k : Nat) (xs : List Value), k ≤ l.length ∧ i = .int .i64 k ∧ wr.ownsRow (w.heap.size + 1) 5 1 (.slice A1 l.length c1) l.length xs ∧ Both M w0 wr d r s t) (fun i _ => l.length - (intOf i).toNat)
  case atStart => exact ⟨0, _, Nat.zero_le _, rfl, hown, hB2⟩
  case round =>
    obtain ⟨k, xs, hk, rfl, howr, hBr⟩ := hrel
    clear hown hB2
    by_cases hlt : k < l.length
    · obtain ⟨g1, rfl, hg1, -, ⟨u, hcu⟩, hfu, hset⟩ := own_at howr hlt
      have R := Lib.hid (hset (.int .u8 77))
      have hlt' : (k : Int) < (l.length : Int) := by omega
      clear hset
      go_wp2_with fail
      go_roundw
      case rel => exact ⟨k + 1, _, by omega, by go_num, R.out.1, hBr.wrote R.out.2 (hXA g1 rfl) (by omega)⟩
      case measure => simp [intOf]; omega
    · rename World => wq
      have hge' : (l.length : Int) ≤ (k : Int) := by omega
      go_wp2
      go_ret
      exact ⟨rfl, hBr.low HM.out⟩

set_option maxRecDepth 100000 in
set_option maxHeartbeats 2000000 in
theorem step_read_code {r1 r2 : Int} {l1 l2 : List UInt8} (h : Both X w0 w d r s t) (hs : name.size ≤ maxLen) (hd' : t.deeds ≤ 1000) (e1 : findD s name.data.toList = r1) (e2 : readD s name.data.toList = l1) (e3 : findD t name.data.toList = r2) (e4 : readD t name.data.toList = l2) (hne : r1 ≠ r2) :
    Calls Try.prog 11 #[.pointer (some ⟨d, 0, none⟩), .pointer (some ⟨r, 0, none⟩), .agg #[.int .i64 3, .string name, .slice A m c, .int .i64 n, .int .i64 keep]] w fun e w' => e = .returned (.bool false) ∧ Both X w0 w' d r s t := by
  have hO := OpAt.new w 3 n keep name A m c
  have hB := h.alloc (.cells #[.int .i64 3, .string name, .slice A m c, .int .i64 n, .int .i64 keep] 33)
  have ht1 : t.deeds ≤ 1000000 := by omega
  have hne' : (r1 != r2) = true := by simpa using hne
  clear h hd'
  go_enter Try.func11, Try.ntmps11
  go_wp2_with (first
    | (go_at_call 19; refine (hB.read hs e1 e2).mono ?_; rintro e w2 ⟨A1, c1, rfl, hown, hb⟩; have hB2 := hB.keep hb; have cO := (hO.kept (Kept.below hB.1 hb) (.inr rfl)).c1; clear hb)
    | (go_at_call 27; refine (hB2.rread ht1 e3 e4).mono ?_; rintro e w3 ⟨A2, c2, rfl, hl2, rfl⟩))
  go_ret
  exact ⟨rfl, hB2.low fun _ h => .inl (.inl h)⟩

set_option maxRecDepth 100000 in
set_option maxHeartbeats 2000000 in
theorem step_read_bytes {rc : Int} {l1 l2 : List UInt8} (h : Both X w0 w d r s t) (hs : name.size ≤ maxLen) (hd' : t.deeds ≤ 1000) (e1 : findD s name.data.toList = rc) (e2 : readD s name.data.toList = l1) (e3 : findD t name.data.toList = rc) (e4 : readD t name.data.toList = l2) (hne : l1 ≠ l2) :
    Calls Try.prog 11 #[.pointer (some ⟨d, 0, none⟩), .pointer (some ⟨r, 0, none⟩), .agg #[.int .i64 3, .string name, .slice A m c, .int .i64 n, .int .i64 keep]] w fun e w' => e = .returned (.bool false) ∧ Both X w0 w' d r s t := by
  have hO := OpAt.new w 3 n keep name A m c
  have hB := h.alloc (.cells #[.int .i64 3, .string name, .slice A m c, .int .i64 n, .int .i64 keep] 33)
  have ht1 : t.deeds ≤ 1000000 := by omega
  have hne' : (l1 == l2) = false := by simpa using hne
  clear h hd'
  go_enter Try.func11, Try.ntmps11
  go_wp2_with (first
    | (go_at_call 19; refine (hB.read hs e1 e2).mono ?_; rintro e w2 ⟨A1, c1, rfl, hown, hb⟩; have hB2 := hB.keep hb; have cO := (hO.kept (Kept.below hB.1 hb) (.inr rfl)).c1; clear hb)
    | (go_at_call 27; refine (hB2.rread ht1 e3 e4).mono ?_; rintro e w3 ⟨A2, c2, rfl, hl2, rfl⟩; have hv1 : (convert 31 9 (.slice A1 l1.length c1)).run Try.prog w2 = .ok (.string ⟨l1.toArray⟩) w2 := conv_str rfl (Lies.of_own hown); have hv2 : (convert 31 9 (.slice A2 l2.length c2)).run Try.prog w2 = .ok (.string ⟨l2.toArray⟩) w2 := conv_str rfl hl2))
  go_ret
  exact ⟨rfl, hB2.low fun _ h => .inl (.inl h)⟩

theorem step_read (h : Both X w0 w d r s t) (hs : name.size ≤ maxLen) (hd' : t.deeds ≤ 1000) :
    Calls Try.prog 11 #[.pointer (some ⟨d, 0, none⟩), .pointer (some ⟨r, 0, none⟩), .agg #[.int .i64 3, .string name, .slice A m c, .int .i64 n, .int .i64 keep]] w (Stepped X w0 d r s t s t) := by
  by_cases h1 : findD s name.data.toList = findD t name.data.toList
  · by_cases h2 : readD s name.data.toList = readD t name.data.toList
    · exact (step_read_same h hs hd' h1 h2 rfl rfl).mono fun e w' ⟨a, b⟩ => ⟨_, a, fun _ => rfl, b⟩
    · exact (step_read_bytes h hs hd' h1 rfl rfl rfl h2).mono fun e w' ⟨a, b⟩ => ⟨_, a, fun q => absurd (by rw [q]) h2, b⟩
  · exact (step_read_code h hs hd' rfl rfl rfl rfl h1).mono fun e w' ⟨a, b⟩ => ⟨_, a, fun q => absurd (by rw [q]) h1, b⟩
end
end Go.Proofs.Ytkckpeejamidpaa.Dk
