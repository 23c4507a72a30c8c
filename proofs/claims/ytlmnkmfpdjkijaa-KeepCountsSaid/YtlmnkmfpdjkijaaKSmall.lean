/-
  Is a script small: no more than 120 calls. Conditions: it lies in memory.
-/
import Derived.Test.YtlmnkmfpdjkijaaKAwake
namespace Go.Proofs.Ytlmnkmfpdjkijaa.Ke
set_option linter.unusedVariables false
set_option linter.unusedSimpArgs false
open Go.RowKit

def blen : Value → Nat
  | .slice _ n _ => n
  | _ => 0
def okO (o : Ob) : Bool := decide (blen o.b ≤ 1024) && decide (o.r.k.length ≤ 1024)
def smF (L : List Ob) : Bool := decide (L.length ≤ 120) && L.all okO
set_option maxRecDepth 20000 in
set_option maxHeartbeats 1000000 in
theorem small_at {w : World} {a : Option Addr} {n c : Nat} {L : List Ob} (h : ObsAt w (.slice a n c) L) {r : Bool} (hr : smF L = r) : Calls Try.prog 10 #[.slice a n c] w fun e w' => e = .returned (.bool r) ∧ w = w' := by
  obtain ⟨hnl, k1, k2, k3⟩ := Lst.len h.1
  unfold maxLen at k2 k3
  by_cases hn : n ≤ 120
  · have HI := Lib.hid h
    have HN := Lib.hid hnl
    have HR := Lib.hid hr
    clear h hnl k2 k3 hr
    go_enter Try.func10, Try.ntmps10
    go_wp2
    go_loop [3] (fun z => ∃ k : Nat, k ≤ n ∧ z = .int .i64 k ∧ Hid ((L.take k).all okO = true)) (fun z => n - (intOf z).toNat)
    case atStart => exact ⟨0, Nat.zero_le _, rfl, Lib.hid rfl⟩
    case round =>
      obtain ⟨k, hk, rfl, HA⟩ := hrel
      by_cases hlt : k < n
      · have hkl : k < L.length := by rw [← HN.out]; exact hlt
        obtain ⟨b, o, ha, hbl, y0, y1, y2, y3, y4, y5⟩ := ObsAt.cells HI.out hkl
        subst ha
        obtain ⟨bx, nx, cx, hob, hnx⟩ := (HI.out.2 L[k] (List.getElem_mem hkl)).b
        have hkk := (HI.out.2 L[k] (List.getElem_mem hkl)).k
        obtain ⟨x, hx⟩ : ∃ x, L[k] = x := ⟨_, rfl⟩
        rw [hx] at y0 y1 y2 y3 y4 y5 hob hkk
        rw [hob] at y5
        obtain ⟨ky, hky⟩ : ∃ ky, x.r.k = ky := ⟨_, rfl⟩
        rw [hky] at y1 hkk
        obtain ⟨kn, hkn⟩ : ∃ kn, ky.length = kn := ⟨_, rfl⟩
        rw [hkn] at hkk
        have hsz : (⟨ky.toArray⟩ : ByteArray).size = kn := by rw [← hkn]; rfl
        unfold maxLen at hnx hkk
        have g0 : (0 : Int) ≤ (k : Int) := by omega
        have g1 : (k : Int) < (n : Int) := by omega
        have HO : Hid (okO x = (decide (nx ≤ 1024) && decide (kn ≤ 1024))) := Lib.hid (by unfold okO; rw [hob, hky, hkn]; rfl)
        have HM : Hid (x ∈ L) := Lib.hid (by rw [← hx]; exact List.getElem_mem hkl)
        have HT : Hid (okO x = true → (L.take (k + 1)).all okO = true) := Lib.hid (fun e => by rw [List.take_succ_eq_append_getElem hkl, List.all_append, HA.out, hx]; simp [e])
        have HF : Hid (okO x = false → false = r) := Lib.hid (fun e => by
          rw [← HR.out]
          unfold smF
          have : L.all okO = false := List.all_eq_false.2 ⟨x, HM.out, by rw [e]; simp⟩
          rw [this, Bool.and_false])
        clear HA
        clear hx hob hky hkn hkl y0 y2 y3 y4
        by_cases h1 : 1024 < nx
        · have HQ : Hid (false = r) := Lib.hid (HF.out (by rw [HO.out, decide_eq_false (by omega)]; rfl))
          go_wp2
          go_ret
          exact ⟨ret_bool HQ.out, rfl⟩
        · by_cases h2 : 1024 < kn
          · have HQ : Hid (false = r) := Lib.hid (HF.out (by rw [HO.out, decide_eq_false (show ¬ kn ≤ 1024 by omega), Bool.and_false]))
            go_wp2
            go_ret
            exact ⟨ret_bool HQ.out, rfl⟩
          · have HQ := Lib.hid (HT.out (by rw [HO.out, decide_eq_true (by omega), decide_eq_true (by omega)]; rfl))
            go_wp2
            go_round
            case rel => exact ⟨k + 1, by omega, by go_num, HQ⟩
            case measure => simp [intOf]; omega
      · have HQ : Hid (true = r) := Lib.hid (by
          rw [← HR.out]
          unfold smF
          have h1 := HA.out
          rw [List.take_of_length_le (by rw [← HN.out]; omega)] at h1
          rw [h1, decide_eq_true (by rw [← HN.out]; exact hn)]
          rfl)
        clear HA
        go_wp2
        go_ret
        exact ⟨ret_bool HQ.out, rfl⟩
  · have HQ : Hid (false = r) := Lib.hid (by rw [← hr]; unfold smF; rw [decide_eq_false (by omega)]; rfl)
    clear h hnl hr
    go_enter Try.func10, Try.ntmps10
    go_wp2
    go_ret
    exact ⟨ret_bool HQ.out, rfl⟩
theorem smF_le {L : List Ob} (h : smF L = true) : L.length ≤ 120 := by
  unfold smF at h
  simp at h
  exact h.1
end Go.Proofs.Ytlmnkmfpdjkijaa.Ke
