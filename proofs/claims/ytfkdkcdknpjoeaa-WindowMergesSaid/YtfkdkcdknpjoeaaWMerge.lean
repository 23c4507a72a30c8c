/-
  The document's Merge. Conditions: the spans lie in memory, at most 4096 of them.
-/
import Derived.Test.YtfkdkcdknpjoeaaWPut
namespace Go.Proofs.Ytfkdkcdknpjoeaa.Wi
set_option linter.unusedVariables false
set_option linter.unusedSimpArgs false
open Go.RowKit

theorem put_len (m : List Sp) (s : Sp) : (put m s).length ≤ m.length + 1 := by
  unfold put
  have h1 := List.length_filter_le (fun x => !share x (grown s m)) (m.dropWhile (fun x => decide (x.1 < (grown s m).1)))
  have h2 := congrArg List.length (List.takeWhile_append_dropWhile (p := fun x : Sp => decide (x.1 < (grown s m).1)) (l := m))
  rw [List.length_append] at h2
  rw [List.length_append, List.length_append, List.length_singleton]
  omega
theorem mg_len (l : List Sp) : (mg l).length ≤ l.length := by
  rw [← List.reverse_reverse l]
  generalize l.reverse = R
  induction R with
  | nil => exact Nat.le_refl _
  | cons x r ih =>
    rw [List.reverse_cons, mg_snoc, List.length_append, List.length_singleton]
    have := put_len (mg r.reverse) x
    omega
theorem mg_next {L : List Sp} {k : Nat} (hk : k < L.length) {x : Sp} (hx : L[k] = x) : mg (L.take (k + 1)) = put (mg (L.take k)) x := by
  rw [List.take_succ_eq_append_getElem hk, hx, mg_snoc]
set_option maxRecDepth 20000 in
set_option maxHeartbeats 2000000 in
theorem rmerge_at {w : World} {v : Value} {L : List Sp} (h : SpansAt w v L) (hlen : L.length ≤ 4096) {M : List Sp} (hM : mg L = M) : Calls Try.prog 19 #[v] w fun e w' => ∃ v', e = .returned v' ∧ SpansAt w' v' M ∧ Below w.heap.size w w' := by
  obtain ⟨a, c, rfl⟩ := h.val
  obtain ⟨-, k1, k2, k3⟩ := h.len
  unfold maxLen at k2 k3
  obtain ⟨n, hn⟩ : ∃ n, L.length = n := ⟨_, rfl⟩
  rw [hn] at h k1 k2 hlen ⊢
  have HI := Lib.hid h
  have HN := Lib.hid hn
  have HM := Lib.hid hM
  clear h hn hM k2
  go_enter Try.func19, Try.ntmps19
  go_wp2
  go_loopw [3, 4] (fun y z wr => ∃ k : Nat, k ≤ n ∧ z = .int .i64 k ∧ Hid (SpansAt wr y (mg (L.take k))) ∧ Hid (Below w.heap.size w wr)) (fun _ z _ => n - (intOf z).toNat)
  case atStart => exact ⟨0, Nat.zero_le _, rfl, Lib.hid (nil_spans _), Lib.hid (Below.refl _ _)⟩
  case round =>
    obtain ⟨k, hk, rfl, HY, hb⟩ := hrel
    by_cases hlt : k < n
    · have hkl : k < L.length := by rw [HN.out]; exact hlt
      obtain ⟨b, o, ha, hbl, y0', y1'⟩ := SpansAt.cells HI.out hkl
      subst ha
      obtain ⟨x, hx⟩ : ∃ x, L[k] = x := ⟨_, rfl⟩
      rw [hx] at y0' y1'
      have y0 := (hb.out.cell (p := ⟨b, _, none⟩) hbl).trans y0'
      have y1 := (hb.out.cell (p := ⟨b, _, none⟩) hbl).trans y1'
      have HX := Lib.hid (mg_next hkl hx).symm
      have HL : Hid ((mg (L.take k)).length ≤ 4096) := Lib.hid (by
        have h1 := mg_len (L.take k)
        rw [List.length_take] at h1
        omega)
      have g0 : (0 : Int) ≤ (k : Int) := by omega
      have g1 : (k : Int) < (n : Int) := by omega
      clear y0' y1' hx hkl
      go_wp2_with (go_at_call 30; refine (rput_at HY.out HL.out x HX.out).mono ?_; rintro e w2 ⟨v2, rfl, ho2, hb2⟩; have HY2 := Lib.hid (spans_row ho2); have HB2 := Lib.hid (hb.out.trans (hb2.mono hb.out.size)); clear ho2 hb2)
      go_roundw
      case rel => exact ⟨k + 1, by omega, by go_num, HY2, HB2⟩
      case measure => simp [intOf]; omega
    · have HF : Hid (mg (L.take k) = M) := Lib.hid (by rw [List.take_of_length_le (by rw [HN.out]; omega)]; exact HM.out)
      go_wp2
      go_ret
      exact ⟨_, rfl, by rw [← HF.out]; exact HY.out, hb.out⟩
end Go.Proofs.Ytfkdkcdknpjoeaa.Wi
