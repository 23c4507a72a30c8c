/-
  Both journals over both disks, side by side in memory that a law has made. Conditions: few deeds.
-/
import Derived.Test.YtkiombbdddbkfaaRefAdd
import Derived.Test.YtkiombbdddbkfaaJAwake
namespace Go.Proofs.Ytkiombbdddbkfaa.Jn
open Go.RowKit Go.Proofs.Ytkiombbdddbkfaa.Pk Go.Proofs.Ytkiombbdddbkfaa.Dk
set_option linter.unusedVariables false

section
variable {X : Nat → Prop} {w0 w w' : World} {d r jb rb cnt : Nat} {s t s' t' : Ds} {down : Bool}
theorem refd_keep {T : Nat → Prop} (h : RefD w T r t) (hk : ∀ b, T b → w'.heap[b]? = w.heap[b]?) : RefD w' T r t := by
  obtain ⟨g, hm, hr, hl, vL, vs, ht, hi⟩ := h
  refine ⟨g, hm, hr, fun b hb => ?_, vL, vs, (hk r hr).trans ht, hi.keep hk⟩
  have := hk b hb
  rw [Array.getElem?_eq_getElem (hl b hb)] at this
  exact (Array.getElem?_eq_some_iff.1 this).1
theorem both_of {T X' : Nat → Prop} (hR : RefD w T r t) (hT : ∀ b, T b → w0.heap.size ≤ b) (hF : Fresh X' w0 w d s) (hTX : ∀ b, T b → X' b) : Both (fun b => X' b ∧ ¬ T b) w0 w d r s t := by
  obtain ⟨hx, S, hD, hS, hbel⟩ := hF
  exact ⟨fun b hb => hx b hb.1, S, T, hD, hR, fun b hb => ⟨(hS b hb).1, fun h => (hS b hb).2 h.1, fun h => (hS b hb).2 (hTX b h)⟩, fun b hb => ⟨hT b hb, fun h => h.2 hb⟩, hbel⟩
/-- What Open of the program's journal leaves. -/
def OpenP (X : Nat → Prop) (w0 w : World) (d r : Nat) (L : List Bs) (s' t : Ds) (e : Ending) (w' : World) : Prop :=
  ∃ jb A c X', e = .returned (.tuple #[.pointer (some ⟨jb, 0, none⟩), .slice A L.length c, .int .i64 0]) ∧ (∀ b, X b → X' b) ∧ X' jb ∧ w.heap.size ≤ jb ∧ JAt w' jb d ⟨#[106]⟩ L.length false ∧ Recs w' (fun b => X' b ∧ b ≠ jb) A L.length L ∧ Both X' w0 w' d r s' t ∧ Kept X w w'
theorem openP {L : List Bs} (h : Both X w0 w d r s t) (hd : s.deeds < 1000000) (he : openD s J = (0, s')) (hL : recs (dataOf s J) = L) :
    Calls Try.prog 9 #[.pointer (some ⟨d, 0, none⟩), .string ⟨#[106]⟩] w (OpenP X w0 w d r L s' t) := by
  obtain ⟨hx, S, T, hD, hR, hs, ht, hbel⟩ := h
  have hF : Fresh (fun b => X b ∨ T b) w0 w d s := ⟨fun b hb => hb.elim (hx b) (hR.lt b), S, hD, fun b hb => ⟨(hs b hb).1, fun h => h.elim (hs b hb).2.1 (hs b hb).2.2⟩, hbel⟩
  refine (open_okN hF j_small (by omega) he hL).mono ?_
  rintro e w' ⟨jb, A, c, X', rfl, hXX, hX, hjb, hj, -, hrec, hF', hK⟩
  have hz : w.heap.size ≤ w'.heap.size := by have := hF'.1 jb hX; omega
  have hR' : RefD w' T r t := hR.keep hz fun b hb => hK b (.inr hb)
  refine ⟨jb, A, c, fun b => X' b ∧ ¬ T b, rfl, fun b hb => ⟨hXX b (.inl hb), fun h => (ht b h).2 hb⟩, ⟨hX, fun h => by have := hR.lt jb h; omega⟩, hjb, hj, hrec.mono fun b hb => ⟨⟨hb.1, fun h => by have := hR.lt b h; have := hb.2.2; omega⟩, hb.2.1⟩, both_of hR' (fun b hb => (ht b hb).1) hF' (fun b hb => hXX b (.inr hb)), fun b hb => hK b (.inl hb)⟩
theorem openP_no {q : Int} (h : Both X w0 w d r s t) (hd : s.deeds < 1000000) (he : openD s J = (q, s')) (hq : q ≠ 0) :
    Calls Try.prog 9 #[.pointer (some ⟨d, 0, none⟩), .string ⟨#[106]⟩] w fun e w' => e = .returned (.tuple #[.pointer none, .slice none 0 0, .int .i64 q]) ∧ Both X w0 w' d r s' t ∧ Kept X w w' := by
  obtain ⟨hx, S, T, hD, hR, hs, ht, hbel⟩ := h
  have hF : Fresh (fun b => X b ∨ T b) w0 w d s := ⟨fun b hb => hb.elim (hx b) (hR.lt b), S, hD, fun b hb => ⟨(hs b hb).1, fun h => h.elim (hs b hb).2.1 (hs b hb).2.2⟩, hbel⟩
  refine (open_no hF j_small (by omega) he hq).mono ?_
  rintro e w' ⟨rfl, hF', hK⟩
  exact ⟨rfl, (both_of (refd_keep hR fun b hb => hK b (.inr hb)) (fun b hb => (ht b hb).1) hF' (fun b hb => .inr hb)).low fun b hb => ⟨.inl hb, fun h => (ht b h).2 hb⟩, fun b hb => hK b (.inl hb)⟩
theorem addP {A : Option Addr} {m c : Nat} {l : Bs} {q : Int} (h : Both X w0 w d r s t) (hX : X jb) (hjw : w0.heap.size ≤ jb) (hj : JAt w jb d ⟨#[106]⟩ cnt down) (hl : l.length = m) (hm : m ≤ maxLen) (hL : Lies w w.heap.size A l) (hd : s.deeds < 1000000) (hcnt : cnt < 4611686018427387904) (he : addD s J down l = (q, s')) :
    Calls Try.prog 12 #[.pointer (some ⟨jb, 0, none⟩), .slice A m c] w fun e w' => e = .returned (.int .i64 q) ∧ Both X w0 w' d r s' t ∧ JAt w' jb d ⟨#[106]⟩ (if q = 0 then cnt + 1 else cnt) (down || q == 20) ∧ KeptBut X jb w w' := by
  obtain ⟨hx, S, T, hD, hR, hs, ht, hbel⟩ := h
  have hF : Fresh (fun b => X b ∨ T b) w0 w d s := ⟨fun b hb => hb.elim (hx b) (hR.lt b), S, hD, fun b hb => ⟨(hs b hb).1, fun h => h.elim (hs b hb).2.1 (hs b hb).2.2⟩, hbel⟩
  refine (add_any hF (.inl hX) hjw hj j_small hl hm hL (by omega) hcnt he).mono ?_
  rintro e w' ⟨rfl, hF', hj', hK⟩
  have hne : ∀ b, T b → b ≠ jb := fun b hb e => (ht b hb).2 (e ▸ hX)
  exact ⟨rfl, (both_of (refd_keep hR fun b hb => hK b (.inr hb) (hne b hb)) (fun b hb => (ht b hb).1) hF' (fun b hb => .inr hb)).low fun b hb => ⟨.inl hb, fun h => (ht b h).2 hb⟩, hj', fun b hb hn => hK b (.inl hb) hn⟩
theorem disk_upd {S T T' : Nat → Prop} (hD : Disk w S d s) (hu : Upd T T' w w') (hs : ∀ b, S b → ¬ T b) : Disk w' S d s := hD.keep hu.size fun b hb => hu.block b (hD.1.lt b hb) (hs b hb)
/-- What Open of the document's journal leaves. -/
def OpenR (X : Nat → Prop) (w0 w : World) (d r : Nat) (L : List Bs) (s t' : Ds) (e : Ending) (w' : World) : Prop :=
  ∃ rb A c X', e = .returned (.tuple #[.pointer (some ⟨rb, 0, none⟩), .slice A L.length c, .int .i64 0]) ∧ (∀ b, X b → X' b) ∧ X' rb ∧ w.heap.size ≤ rb ∧ RJAt w' rb r ⟨#[106]⟩ L.length false ∧ Recs w' X' A L.length L ∧ Both X' w0 w' d r s t' ∧ Kept X w w'
theorem openR {L : List Bs} (h : Both X w0 w d r s t) (hd : t.deeds < 1000000) (he : openD t J = (0, t')) (hL : recs (dataOf t J) = L) :
    Calls Try.prog 10 #[.pointer (some ⟨r, 0, none⟩), .string ⟨#[106]⟩] w (OpenR X w0 w d r L s t') := by
  obtain ⟨hx, S, T, hD, hR, hs, ht, hbel⟩ := h
  refine (ropen_ok hR j_small hd he hL).mono ?_
  rintro e w' ⟨rb, A, c, T', rfl, hR', hu, hrb, hrb2, hnt, hj, hrec⟩
  have hz := hu.size
  have hbz := hbel.size
  have hT' : ∀ b, T' b → T b ∨ w.heap.size ≤ b := hu.foot
  refine ⟨rb, A, c, fun b => X b ∨ (w.heap.size ≤ b ∧ b < w'.heap.size ∧ ¬ T' b), rfl, fun b hb => .inl hb, .inr ⟨hrb, hrb2, hnt⟩, hrb, hj, hrec.mono fun b hb => .inr ⟨hb.1, hb.2.1, hb.2.2.2⟩, ⟨fun b hb => ?_, S, T', disk_upd hD hu (fun b hb => (hs b hb).2.2), hR', fun b hb => ⟨(hs b hb).1, ?_, ?_⟩, fun b hb => ⟨?_, ?_⟩, hbel.trans (hu.below hbz fun b hb hT => by have := (ht b hT).1; omega)⟩, fun b hb => hu.block b (hx b hb) fun h => (ht b h).2 hb⟩
  · rcases hb with h | h
    · exact Nat.lt_of_lt_of_le (hx b h) hz
    · exact h.2.1
  · rintro (h | h)
    · exact (hs b hb).2.1 h
    · have := hD.1.lt b hb; omega
  · intro h
    rcases hT' b h with h1 | h1
    · exact (hs b hb).2.2 h1
    · have := hD.1.lt b hb; omega
  · rcases hT' b hb with h1 | h1
    · exact (ht b h1).1
    · omega
  · rintro (h | h)
    · rcases hT' b hb with h1 | h1
      · exact (ht b h1).2 h
      · have := hx b h; omega
    · exact h.2.2 hb
theorem both_upd {T T' S : Nat → Prop} (hx : ∀ b, X b → b < w.heap.size) (hD : Disk w S d s) (hR : RefD w T r t) (hs : ∀ b, S b → w0.heap.size ≤ b ∧ ¬ X b ∧ ¬ T b) (ht : ∀ b, T b → w0.heap.size ≤ b ∧ ¬ X b) (hbel : Below w0.heap.size w0 w) (hR' : RefD w' T' r t') (hu : Upd T T' w w') : Both X w0 w' d r s t' := by
  have hz := hu.size
  have hbz := hbel.size
  have hT' : ∀ b, T' b → T b ∨ w.heap.size ≤ b := hu.foot
  refine ⟨fun b hb => Nat.lt_of_lt_of_le (hx b hb) hz, S, T', disk_upd hD hu (fun b hb => (hs b hb).2.2), hR', fun b hb => ⟨(hs b hb).1, (hs b hb).2.1, ?_⟩, fun b hb => ⟨?_, ?_⟩, hbel.trans (hu.below hbz fun b hb hT => by have := (ht b hT).1; omega)⟩
  · intro h
    rcases hT' b h with h1 | h1
    · exact (hs b hb).2.2 h1
    · have := hD.1.lt b hb; omega
  · rcases hT' b hb with h1 | h1
    · exact (ht b h1).1
    · omega
  · intro h
    rcases hT' b hb with h1 | h1
    · exact (ht b h1).2 h
    · have := hx b h; omega
theorem openR_no {q : Int} (h : Both X w0 w d r s t) (hd : t.deeds < 1000000) (he : openD t J = (q, t')) (hq : q ≠ 0) :
    Calls Try.prog 10 #[.pointer (some ⟨r, 0, none⟩), .string ⟨#[106]⟩] w fun e w' => e = .returned (.tuple #[.pointer none, .slice none 0 0, .int .i64 q]) ∧ Both X w0 w' d r s t' ∧ Kept X w w' := by
  obtain ⟨hx, S, T, hD, hR, hs, ht, hbel⟩ := h
  refine (ropen_no hR j_small hd j_name he hq).mono ?_
  rintro e w' ⟨rfl, T', hR', hu⟩
  exact ⟨rfl, both_upd hx hD hR hs ht hbel hR' hu, fun b hb => hu.block b (hx b hb) fun h => (ht b h).2 hb⟩
theorem addR {A : Option Addr} {m c : Nat} {l : Bs} {q : Int} (h : Both X w0 w d r s t) (hX : X rb) (hjw : w0.heap.size ≤ rb) (hj : RJAt w rb r ⟨#[106]⟩ cnt down) (hl : l.length = m) (hm : m ≤ maxLen) (hL : Lies w w.heap.size A l) (hd : t.deeds + 1 < 1000000) (hcnt : cnt < 4611686018427387904) (he : addD t J down l = (q, t')) :
    Calls Try.prog 13 #[.pointer (some ⟨rb, 0, none⟩), .slice A m c] w fun e w' => e = .returned (.int .i64 q) ∧ Both X w0 w' d r s t' ∧ RJAt w' rb r ⟨#[106]⟩ (if q = 0 then cnt + 1 else cnt) (down || q == 20) ∧ KeptBut X rb w w' := by
  obtain ⟨hx, S, T, hD, hR, hs, ht, hbel⟩ := h
  have hrb : ¬ T rb := fun h => (ht rb h).2 hX
  refine (radd_any hR hrb hj j_small hl hm hL hd hcnt he).mono ?_
  rintro e w' ⟨rfl, T', hR', hnt, hj', hu⟩
  have hz := hu.size
  have hbz := hbel.size
  have hrl := hx rb hX
  have hT' : ∀ b, T' b → T b ∨ w.heap.size ≤ b := fun b hb => by
    rcases hu.foot b (.inl hb) with (h | h) | h
    · exact .inl h
    · exact absurd hb (h ▸ hnt)
    · exact .inr h
  have hSn : ∀ b, S b → ¬ Plus T rb b := fun b hb => by
    rintro (h | h)
    · exact (hs b hb).2.2 h
    · exact (hs b hb).2.1 (h ▸ hX)
  refine ⟨rfl, ⟨fun b hb => Nat.lt_of_lt_of_le (hx b hb) hz, S, T', hD.keep hz fun b hb => hu.block b (hD.1.lt b hb) (hSn b hb), hR', fun b hb => ⟨(hs b hb).1, (hs b hb).2.1, ?_⟩, fun b hb => ⟨?_, ?_⟩, hbel.trans (hu.below hbz fun b hb hT => ?_)⟩, hj', fun b hb hn => hu.block b (hx b hb) ?_⟩
  · intro h
    rcases hT' b h with h1 | h1
    · exact (hs b hb).2.2 h1
    · have := hD.1.lt b hb; omega
  · rcases hT' b hb with h1 | h1
    · exact (ht b h1).1
    · omega
  · intro h
    rcases hT' b hb with h1 | h1
    · exact (ht b h1).2 h
    · have := hx b h; omega
  · rcases hT with h | h
    · have := (ht b h).1; omega
    · omega
  · rintro (h | h)
    · exact (ht b h).2 hb
    · exact hn h
end
end Go.Proofs.Ytkiombbdddbkfaa.Jn
