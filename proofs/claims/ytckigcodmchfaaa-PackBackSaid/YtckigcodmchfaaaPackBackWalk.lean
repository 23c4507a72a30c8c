/-
  The walk of a law: For all integers, strings and bytes, integers and strings that pack laid one behind the other are read again one by one, whatever bytes stand behind; the document's examples hold. Conditions: none (the law looks at no more than 200 integers and strings, and at nothing longer than 4096 bytes).
-/
import Derived.Test.YtckigcodmchfaaaAwake
import Derived.Test.YtckigcodmchfaaaRef
import Derived.Deep.RegionHeld3
namespace Go.Proofs.Ytckigcodmchfaaa.packBack
open Go.RowKit
open Go.Proofs.Ytckigcodmchfaaa.Pk
set_option linter.unusedVariables false

theorem below_one {B g : Nat} {a w w' : World} (h : Below B a w) (hg : w.grownBy w' (some g)) (hB : B ≤ g) (hs : B ≤ a.heap.size) : Below B a w' :=
  h.grown hg (Nat.le_trans hs h.size) (fun k e => by injection e with e; omega)

/-- Values that lie one behind the other. -/
def LiesV (w : World) (B : Nat) (A : Option Addr) (vs : List Value) : Prop :=
  ∀ k v, vs[k]? = some v → ∃ b o, A = some ⟨b, o, none⟩ ∧ b < B ∧ w.cell? ⟨b, o + k, none⟩ = some v
theorem LiesV.below {w w' : World} {B : Nat} {A : Option Addr} {vs : List Value} (h : LiesV w B A vs) (hb : Below B w w') : LiesV w' B A vs := fun k v hv => by
  obtain ⟨b, o, e, h1, hc⟩ := h k v hv
  exact ⟨b, o, e, h1, (hb.cell (p := ⟨b, o + k, none⟩) h1).trans hc⟩
/-- What the walk is told of a slice of strings that came in. -/
def IsStrs (w : World) (a : Option Addr) (len cap : Nat) (ss : List ByteArray) : Prop :=
  (a = none ∧ len = 0 ∧ cap = 0 ∧ ss = []) ∨
  ∃ x, a = some x ∧ len ≤ cap ∧ cap ≤ maxLen ∧ ss.length = cap ∧ (∀ i, i < ss.length → w.cell? (x.add i) = some (.string (ss.getD i ByteArray.empty))) ∧ ∀ s ∈ ss, s.size ≤ maxLen
theorem strs_lie {w : World} {a : Option Addr} {len cap : Nat} {ss : List ByteArray} (h : IsStrs w a len cap ss) : ∃ S : List ByteArray, S.length = len ∧ len ≤ maxLen ∧ LiesV w w.heap.size a (S.map .string) := by
  rcases h with ⟨rfl, rfl, rfl, rfl⟩ | ⟨x, rfl, h1, h2, h3, h4, h5⟩
  · exact ⟨[], rfl, Nat.zero_le _, fun k v hv => by simp at hv⟩
  · refine ⟨ss.take len, by simp; omega, Nat.le_trans h1 h2, ?_⟩
    intro k v hv
    simp only [List.getElem?_map, List.getElem?_take, Option.map_eq_some_iff] at hv
    obtain ⟨s, hs, rfl⟩ := hv
    split at hs
    · obtain ⟨hk, rfl⟩ := List.getElem?_eq_some_iff.1 hs
      obtain ⟨b, o, sp⟩ := x
      have h0 := h4 0 (by omega)
      have hsp : sp = none := by simpa [Addr.add] using World.cell?_spot h0
      subst hsp
      have hc := h4 k hk
      rw [Addr.add_lit] at hc
      refine ⟨b, o, rfl, cell_block_lt hc, ?_⟩
      rw [hc]
      simp [List.getD, hk]
    · cases hs
theorem ints_lie {w : World} {a : Option Addr} {len cap : Nat} {zs : List Int} (h : IsRow .i64 w a len cap zs) : ∃ X : List Int, X.length = len ∧ len ≤ maxLen ∧ LiesV w w.heap.size a (X.map (.int .i64)) ∧ ∀ x ∈ X, -9223372036854775808 ≤ x ∧ x ≤ 9223372036854775807 := by
  rcases h with ⟨rfl, rfl, rfl, rfl⟩ | ⟨x, rfl, h1, h2, h3, h4, h5⟩
  · exact ⟨[], rfl, Nat.zero_le _, fun k v hv => by simp at hv, fun x hx => by simp at hx⟩
  · refine ⟨zs.take len, by simp; omega, Nat.le_trans h1 h2, ?_, fun y hy => bounds_i64 (h5 y (List.mem_of_mem_take hy))⟩
    intro k v hv
    simp only [List.getElem?_map, List.getElem?_take, Option.map_eq_some_iff] at hv
    obtain ⟨s, hs, rfl⟩ := hv
    split at hs
    · obtain ⟨hk, rfl⟩ := List.getElem?_eq_some_iff.1 hs
      obtain ⟨b, o, sp⟩ := x
      have h0 := h4 0 (by omega)
      have hsp : sp = none := by simpa [Addr.add] using World.cell?_spot h0
      subst hsp
      have hc := h4 k hk
      rw [Addr.add_lit] at hc
      refine ⟨b, o, rfl, cell_block_lt hc, ?_⟩
      rw [hc]
      simp [List.getD, hk]
    · cases hs

def encN (x : Int) : List UInt8 := enc (fold x)
def encT (s : ByteArray) : List UInt8 := enc (fold s.size) ++ s.data.toList
def putN (X : List Int) : List UInt8 := X.flatMap encN
def putT (S : List ByteArray) : List UInt8 := S.flatMap encT
theorem putN_take {X : List Int} {k : Nat} {x : Int} (h : X[k]? = some x) : putN (X.take (k + 1)) = putN (X.take k) ++ encN x := by
  have hk := (List.getElem?_eq_some_iff.1 h).1
  rw [List.take_succ_eq_append_getElem hk]
  have e : X[k] = x := (List.getElem?_eq_some_iff.1 h).2
  rw [e]
  simp [putN]
theorem putT_take {S : List ByteArray} {k : Nat} {s : ByteArray} (h : S[k]? = some s) : putT (S.take (k + 1)) = putT (S.take k) ++ encT s := by
  have hk := (List.getElem?_eq_some_iff.1 h).1
  rw [List.take_succ_eq_append_getElem hk]
  have e : S[k] = s := (List.getElem?_eq_some_iff.1 h).2
  rw [e]
  simp [putT]
theorem putN_drop {X : List Int} {k : Nat} {x : Int} (h : X[k]? = some x) : putN (X.drop k) = encN x ++ putN (X.drop (k + 1)) := by
  obtain ⟨hk, rfl⟩ := List.getElem?_eq_some_iff.1 h
  unfold putN
  rw [List.drop_eq_getElem_cons hk, List.flatMap_cons]
theorem putT_drop {S : List ByteArray} {k : Nat} {s : ByteArray} (h : S[k]? = some s) : putT (S.drop k) = encT s ++ putT (S.drop (k + 1)) := by
  obtain ⟨hk, rfl⟩ := List.getElem?_eq_some_iff.1 h
  unfold putT
  rw [List.drop_eq_getElem_cons hk, List.flatMap_cons]
theorem putN_len (X : List Int) : X.length ≤ (putN X).length := by
  induction X with
  | nil => simp [putN]
  | cons x r ih =>
    have h1 : putN (x :: r) = encN x ++ putN r := by simp [putN]
    have h2 := enc_len_pos (fold x)
    rw [h1, List.length_append, List.length_cons]
    unfold encN
    omega
theorem encT_len {s : ByteArray} (h : s.size ≤ 4096) : (encT s).length ≤ 4106 := by
  have h1 := enc_len_ten (fold_lt (x := (s.size : Int)) (by omega) (by omega))
  have hsz : s.data.toList.length = s.size := by rw [Array.length_toList]; rfl
  unfold encT
  rw [List.length_append, hsz]
  omega

theorem own_mono {w : World} {base base' n : Nat} {v : Value} {xs : List Value} (h : w.ownsRow base 5 1 v n xs) (hb : base' ≤ base) : w.ownsRow base' 5 1 v n xs := by
  refine ⟨h.1, ?_⟩
  rcases h.2 with h2 | ⟨g, cap, cur, hv, hg, r⟩
  · exact .inl h2
  · exact .inr ⟨g, cap, cur, hv, by omega, r⟩
theorem put_num {A : Option Addr} {c : Nat} {x : Int} {cur cur' : List UInt8} {w : World} (hx : -9223372036854775808 ≤ x ∧ x ≤ 9223372036854775807) (e : cur' = cur ++ encN x) (hb : cur.length ≤ 140737488355000) (h : Lies w w.heap.size A cur) :
    Calls Try.prog 15 #[.slice A cur.length c, .int .i64 x] w (Gives w.heap.size w cur') := by
  rw [e]; exact num_any rfl hx.1 hx.2 hb h
theorem put_text {A : Option Addr} {c : Nat} {s : ByteArray} {cur cur' : List UInt8} {w : World} (hs : s.size ≤ 1073741824) (e : cur' = cur ++ encT s) (hb : cur.length ≤ 1073741824) (h : Lies w w.heap.size A cur) :
    Calls Try.prog 16 #[.slice A cur.length c, .string s] w (Gives w.heap.size w cur') := by
  rw [e]; exact text_any rfl hs hb h
theorem get_num {w : World} {g : Nat} {x : Int} {l r : List UInt8} (hx : -9223372036854775808 ≤ x ∧ x ≤ 9223372036854775807) (e : l = encN x ++ r) (h : Rd w g false l) :
    Calls Try.prog 18 #[.pointer (some ⟨g, 0, none⟩)] w fun e w' => e = .returned (.int .i64 x) ∧ Rd w' g false r ∧ w.grownBy w' (some g) := by
  have hd : dec l = some (fold x, (enc (fold x)).length) := by rw [e]; exact dec_enc (fold_lt hx.1 hx.2) r
  refine (rnum_any h).mono ?_
  rintro e' w' ⟨rfl, hr, hg⟩
  refine ⟨by simp [numVal, hd, unfold_fold], ?_, hg⟩
  have e0 : numLeft false l = l.drop (enc (fold x)).length := by simp [numLeft, hd]
  have e1 : numLeft false l = r := by rw [e0, e]; exact List.drop_left
  have e2 : numBad false l = false := by simp [numBad, hd]
  rw [e1, e2] at hr
  exact hr
theorem get_text {w : World} {g : Nat} {s : ByteArray} {l r : List UInt8} (hs : s.size ≤ 1073741824) (e : l = encT s ++ r) (h : Rd w g false l) :
    Calls Try.prog 20 #[.pointer (some ⟨g, 0, none⟩)] w fun e w' => e = .returned (.string s) ∧ Rd w' g false r ∧ w.grownBy w' (some g) := by
  have hl : l = enc (fold s.size) ++ (s.data.toList ++ r) := by rw [e, encT, List.append_assoc]
  have hd : dec l = some (fold s.size, (enc (fold s.size)).length) := by rw [hl]; exact dec_enc (fold_lt (by omega) (by omega)) _
  have hsz : s.data.toList.length = s.size := by rw [Array.length_toList]; rfl
  have e0 : numLeft false l = l.drop (enc (fold s.size)).length := by simp [numLeft, hd]
  have e1 : numLeft false l = s.data.toList ++ r := by rw [e0, hl]; exact List.drop_left
  have e2 : numBad false l = false := by simp [numBad, hd]
  have e3 : numVal false l = (s.size : Int) := by simp [numVal, hd, unfold_fold]
  have ok : txtOk false l = true := by
    simp only [txtOk, e1, e2, e3, Bool.and_eq_true, decide_eq_true_eq, Bool.not_false, List.length_append, hsz]
    exact ⟨⟨trivial, by omega⟩, by omega⟩
  obtain ⟨f1, f2, f3⟩ := txt_yes (n := s.size) ok e3.symm e1.symm
  refine (rtext_any h).mono ?_
  rintro e' w' ⟨s', rfl, hs', hr, hg⟩
  have g1 : (s.data.toList ++ r).take s.size = s.data.toList := by rw [← hsz, List.take_left]
  have g2 : (s.data.toList ++ r).drop s.size = r := by rw [← hsz, List.drop_left]
  rw [f3, g1] at hs'
  rw [f1, f2, g2] at hr
  refine ⟨?_, hr, hg⟩
  rw [bytes_of hs']

theorem rd_drew {w : World} {g : Nat} {bad : Bool} {l : List UInt8} (h : Rd w g bad l) : Rd w.drew g bad l := h
theorem cell_far {w w1 : World} {g b i B : Nat} {v : Value} (hg : w.drew.grownBy w1 (some g)) (hc : w.cell? ⟨b, i, none⟩ = some v) (hb : b < B) (hB : B ≤ g) : w1.cell? ⟨b, i, none⟩ = some v := by
  have hlt : b < w.heap.size := cell_block_lt hc
  exact (World.cell?_of_block (w := w.drew) (hg.block b hlt (fun e => by injection e with e; omega))).trans hc

set_option maxRecDepth 100000 in
set_option maxHeartbeats 1500000 in
theorem walk (a0 : Option Addr) (len0 cap0 : Nat) (z0 : List Int) (a1 : Option Addr) (len1 cap1 : Nat) (s1 : List ByteArray) (a2 : Option Addr) (len2 cap2 : Nat) (z2 : List Int) (w : World) (w0 : IsRow .i64 w a0 len0 cap0 z0) (w1 : IsStrs w a1 len1 cap1 s1) (w2 : IsRow .u8 w a2 len2 cap2 z2) :
    Calls Try.prog 5 #[.slice a0 len0 cap0, .slice a1 len1 cap1, .slice a2 len2 cap2] w fun e w' => e = .returned (.bool true) ∧ Below w.heap.size w w' := by
  obtain ⟨l, hl, h1, h2, hlies⟩ := lies_of_row w2
  obtain ⟨X, hX, hXm, hXl, hXr⟩ := ints_lie w0
  obtain ⟨S, hS, hSm, hSl⟩ := strs_lie w1
  subst hl hX hS
  clear w0 w1 w2
  by_cases hbig : 200 < X.length
  · have hb : (200 : Int) < (X.length : Int) := by omega
    clear hlies hXl hSl hXr
    go_enter Try.func5, Try.ntmps5
    go_wp2
    go_ret
    exact ⟨rfl, Below.refl _ _⟩
  · have hb : ¬ (200 : Int) < (X.length : Int) := by omega
    by_cases hbig1 : 200 < S.length
    · have hb1 : (200 : Int) < (S.length : Int) := by omega
      clear hlies hXl hSl hXr
      go_enter Try.func5, Try.ntmps5
      go_wp2
      go_ret
      exact ⟨rfl, Below.refl _ _⟩
    · have hb1 : ¬ (200 : Int) < (S.length : Int) := by omega
      by_cases hbig2 : 4096 < l.length
      · have hb2 : (4096 : Int) < (l.length : Int) := by omega
        clear hlies hXl hSl hXr
        go_enter Try.func5, Try.ntmps5
        go_wp2
        go_ret
        exact ⟨rfl, Below.refl _ _⟩
      · have hb2 : ¬ (4096 : Int) < (l.length : Int) := by omega
        go_enter Try.func5, Try.ntmps5
        go_wp2_with fail
        go_loopw [7, 8] (fun v i wr => ∃ (k : Nat) (cur : List UInt8), k ≤ X.length ∧ i = .int .i64 k ∧ Hid (cur = putN (X.take k)) ∧ cur.length ≤ 10 * k ∧ wr.ownsRow w.heap.size 5 1 v cur.length (cells cur) ∧ Below w.heap.size w wr) (fun _ i _ => X.length - (intOf i).toNat)
        case atStart => exact ⟨0, [], Nat.zero_le _, rfl, rfl, by simp, World.ownsRow_nil _ _ _ _, Below.refl _ _⟩
        case round =>
          obtain ⟨k, cur, hk, rfl, hcur, hcl, hown, hbel⟩ := hrel
          by_cases hlt : k < X.length
          · obtain ⟨x, hx⟩ : ∃ x, X[k]? = some x := ⟨_, List.getElem?_eq_getElem hlt⟩
            obtain ⟨b, o, rfl, hbb, hcx⟩ := hXl k (.int .i64 x) (by simp [hx])
            have hcx2 : wr.cell? ⟨b, o + k, none⟩ = some (.int .i64 x) := (hbel.cell (p := ⟨b, o + k, none⟩) hbb).trans hcx
            have hxr := hXr x (List.mem_of_getElem? hx)
            obtain ⟨A, c, rfl, -, -, -, hla, -⟩ := own_form hown
            obtain ⟨cur', hc'⟩ : ∃ cur', cur' = cur ++ encN x := ⟨_, rfl⟩
            have R : Hid (cur' = putN (X.take (k + 1))) := show _ = _ by rw [hc', hcur.out, putN_take hx]
            have HC := Lib.hid hc'
            have h10 : (encN x).length ≤ 10 := enc_len_ten (fold_lt hxr.1 hxr.2)
            have RL : Hid (cur'.length ≤ 10 * (k + 1)) := show _ ≤ _ by rw [hc', List.length_append]; omega
            have HR := Lib.hid hxr
            clear hc' hx hcx h10 hxr
            go_wp2_with (go_at_call 15; refine (put_num HR.out HC.out (by omega) hla).mono ?_; rintro e w3 ⟨v3, rfl, ho3, hb3⟩)
            go_roundw
            case rel => exact ⟨k + 1, cur', by omega, by go_num, R.out, RL.out, own_mono ho3 hbel.size, hbel.trans (hb3.mono hbel.size)⟩
            case measure => simp [intOf]; omega
          · have hkX : k = X.length := by omega
            have HE : Hid (cur = putN X) := show _ = _ by rw [hcur.out, hkX, List.take_length]
            have hlen0 : cur.length ≤ 2000 := by omega
            clear hkX hcur hcl
            go_wp2_with fail
            rename World => wq
            go_loopw [7, 9] (fun v i wr => ∃ (k : Nat) (cur : List UInt8), k ≤ S.length ∧ i = .int .i64 k ∧ Hid (cur = putN X ++ putT (S.take k) ∧ ∀ s ∈ S.take k, s.size ≤ 4096) ∧ cur.length ≤ 2000 + 4106 * k ∧ wr.ownsRow w.heap.size 5 1 v cur.length (cells cur) ∧ Below w.heap.size w wr) (fun _ i _ => S.length - (intOf i).toNat)
            case atStart => exact ⟨0, cur, Nat.zero_le _, rfl, ⟨by rw [HE.out]; simp [putT], by simp⟩, by omega, hown, hbel⟩
            case round =>
              clear hown hbel HE hlen0
              obtain ⟨k3, cur, hk3, rfl, hcur, hcl, hown, hbel⟩ := hrel
              by_cases hlt3 : k3 < S.length
              · obtain ⟨s, hs⟩ : ∃ s, S[k3]? = some s := ⟨_, List.getElem?_eq_getElem hlt3⟩
                obtain ⟨b, o, rfl, hbb, hcx⟩ := hSl k3 (.string s) (by simp [hs])
                have hcx2 : wr.cell? ⟨b, o + k3, none⟩ = some (.string s) := (hbel.cell (p := ⟨b, o + k3, none⟩) hbb).trans hcx
                by_cases hsb : 4096 < s.size
                · have hsb' : (4096 : Int) < (s.size : Int) := by omega
                  clear hs hcx hcur
                  go_wp2_with fail
                  go_ret
                  exact ⟨rfl, hbel⟩
                · have hsb' : ¬ (4096 : Int) < (s.size : Int) := by omega
                  obtain ⟨A, c, rfl, -, -, -, hla, -⟩ := own_form hown
                  obtain ⟨cur', hc'⟩ : ∃ cur', cur' = cur ++ encT s := ⟨_, rfl⟩
                  have R : Hid (cur' = putN X ++ putT (S.take (k3 + 1)) ∧ ∀ s ∈ S.take (k3 + 1), s.size ≤ 4096) := by
                    refine ⟨by rw [hc', hcur.out.1, putT_take hs, List.append_assoc], fun y hy => ?_⟩
                    have hkk := (List.getElem?_eq_some_iff.1 hs).1
                    rw [List.take_succ_eq_append_getElem hkk, List.mem_append, List.mem_singleton] at hy
                    rcases hy with hy | hy
                    · exact hcur.out.2 y hy
                    · rw [hy, (List.getElem?_eq_some_iff.1 hs).2]; omega
                  have HC := Lib.hid hc'
                  have h10 : (encT s).length ≤ 4106 := encT_len (by omega)
                  have RL : Hid (cur'.length ≤ 2000 + 4106 * (k3 + 1)) := show _ ≤ _ by rw [hc', List.length_append]; omega
                  clear hc' hs hcx h10 hcur
                  go_wp2_with (go_at_call 16; refine (put_text (by omega) HC.out (by omega) hla).mono ?_; rintro e w3 ⟨v3, rfl, ho3, hb3⟩)
                  go_roundw
                  case rel => exact ⟨k3 + 1, cur', by omega, by go_num, R.out, RL.out, own_mono ho3 hbel.size, hbel.trans (hb3.mono hbel.size)⟩
                  case measure => simp [intOf]; omega
              · have hkS : k3 = S.length := by omega
                have HE : Hid (cur = putN X ++ putT S ∧ ∀ s ∈ S, s.size ≤ 4096) := by
                  have := hcur.out
                  rw [hkS, List.take_length] at this
                  exact this
                have hlen1 : cur.length ≤ 1000000 := by omega
                clear hkS hcur hcl
                obtain ⟨A, c, rfl, -, -, -, -, -⟩ := own_form hown
                go_wp2_with (first
                  | (at_builtin; refine wpList_append_bytes rfl (.tmp 59) (.tmp 60) rfl w.heap.size _ cur.length cur rfl hown a2 l.length cap2 l rfl rfl w.heap.size (hlies.below hbel) (by omega) hbel.size ?_; intro v5 w5 ho5 hg5; have hb5 : Below w.heap.size w w5 := hbel.grown hg5 hbel.size (fun j e => (hown.lt j e).1); clear hg5; obtain ⟨A5, c5, rfl, hl5, -, -, hlies5, -⟩ := own_form ho5; have L5 := Lib.hid hl5; clear hl5 ho5)
                  | (go_at_call 17; refine (new_any L5.out (by omega) hlies5).mono ?_; rintro e w6 ⟨g, rfl, hg6, hrd6, hb6'⟩; have hb6 := hb5.trans (hb6'.mono hb5.size); have hgw : w.heap.size ≤ g := Nat.le_trans hb5.size hg6))
                clear hown hlies5 hb5 hb6' hg6
                rename World => w6'
                go_loopw [12] (fun i wr => ∃ (k : Nat) (m : List UInt8), k ≤ X.length ∧ i = .int .i64 k ∧ Hid (m = putN (X.drop k) ++ (putT S ++ l)) ∧ Rd wr g false m ∧ Below w.heap.size w wr) (fun i _ => X.length - (intOf i).toNat)
                case atStart => exact ⟨0, _, Nat.zero_le _, rfl, (by show _ = _; rw [HE.out.1, List.drop_zero, List.append_assoc]), hrd6, hb6⟩
                case round =>
                  clear hrd6 hb6 hbel
                  obtain ⟨k7, m, hk7, rfl, hm, hrd, hbel⟩ := hrel
                  by_cases hlt7 : k7 < X.length
                  · obtain ⟨x, hx⟩ : ∃ x, X[k7]? = some x := ⟨_, List.getElem?_eq_getElem hlt7⟩
                    obtain ⟨b, o, rfl, hbb, hcx⟩ := hXl k7 (.int .i64 x) (by simp [hx])
                    have hcx2 : wr.cell? ⟨b, o + k7, none⟩ = some (.int .i64 x) := (hbel.cell (p := ⟨b, o + k7, none⟩) hbb).trans hcx
                    have HR := Lib.hid (hXr x (List.mem_of_getElem? hx))
                    obtain ⟨r, hr⟩ : ∃ r, r = putN (X.drop (k7 + 1)) ++ (putT S ++ l) := ⟨_, rfl⟩
                    have HM : Hid (m = encN x ++ r) := show _ = _ by rw [hm.out, hr, putN_drop hx, List.append_assoc]
                    have HRR := Lib.hid hr
                    have hlt7' : (k7 : Int) < (X.length : Int) := by omega
                    clear hr hx hcx hm
                    go_wp2_with fail
                    go_region_held3 (fun W => W.cell? ⟨b, o + k7, none⟩ = some (.int .i64 x)) (first | exact hcx2 | exact hcx3)
                      (first
                        | (go_at_call 18; refine (get_num HR.out HM.out (rd_drew hrd)).mono ?_; rintro e w8 ⟨rfl, hrd8, hg8⟩; have hcx3 := cell_far hg8 hcx2 hbb hgw; have hB8 := below_one hbel.drew hg8 hgw (Nat.le_refl _)))
                    go_wp2_with fail
                    go_roundw
                    case rel => exact ⟨k7 + 1, r, by omega, by go_num, HRR.out, hrd8, hB8⟩
                    case measure => simp [intOf]; omega
                  · have hkX : k7 = X.length := by omega
                    have HM : Hid (m = putT S ++ l) := show _ = _ by rw [hm.out, hkX, List.drop_length]; rfl
                    have hge7 : (X.length : Int) ≤ (k7 : Int) := by omega
                    have hge : X.length ≤ cur.length := by
                      have h3 := putN_len X
                      rw [HE.out.1, List.length_append]
                      omega
                    have HS := Lib.hid HE.out.2
                    clear hkX hm HE
                    go_wp2_with fail
                    rename World => w7
                    go_loopw [13] (fun i wr => ∃ (k : Nat) (m : List UInt8), k ≤ S.length ∧ i = .int .i64 k ∧ Hid (m = putT (S.drop k) ++ l) ∧ Rd wr g false m ∧ Below w.heap.size w wr) (fun i _ => S.length - (intOf i).toNat)
                    case atStart => exact ⟨0, m, Nat.zero_le _, rfl, (by show _ = _; rw [HM.out, List.drop_zero]), hrd, hbel⟩
                    case round =>
                      clear hrd hbel HM
                      obtain ⟨k9, m9, hk9, rfl, hm, hrd, hbel⟩ := hrel
                      by_cases hlt9 : k9 < S.length
                      · obtain ⟨s, hs⟩ : ∃ s, S[k9]? = some s := ⟨_, List.getElem?_eq_getElem hlt9⟩
                        obtain ⟨b, o, rfl, hbb, hcx⟩ := hSl k9 (.string s) (by simp [hs])
                        have hcx2 : wr.cell? ⟨b, o + k9, none⟩ = some (.string s) := (hbel.cell (p := ⟨b, o + k9, none⟩) hbb).trans hcx
                        have HZ : Hid (s.size ≤ 1073741824) := Nat.le_trans (HS.out s (List.mem_of_getElem? hs)) (by decide)
                        obtain ⟨r, hr⟩ : ∃ r, r = putT (S.drop (k9 + 1)) ++ l := ⟨_, rfl⟩
                        have HM : Hid (m9 = encT s ++ r) := show _ = _ by rw [hm.out, hr, putT_drop hs, List.append_assoc]
                        have HRR := Lib.hid hr
                        have hlt9' : (k9 : Int) < (S.length : Int) := by omega
                        clear hr hs hcx hm
                        go_wp2_with fail
                        go_region_held3 (fun W => W.cell? ⟨b, o + k9, none⟩ = some (.string s)) (first | exact hcx2 | exact hcx3)
                          (first
                            | (go_at_call 20; refine (get_text HZ.out HM.out (rd_drew hrd)).mono ?_; rintro e w8 ⟨rfl, hrd8, hg8⟩; have hcx3 := cell_far hg8 hcx2 hbb hgw; have hB8 := below_one hbel.drew hg8 hgw (Nat.le_refl _)))
                        go_wp2_with fail
                        go_roundw
                        case rel => exact ⟨k9 + 1, r, by omega, by go_num, HRR.out, hrd8, hB8⟩
                        case measure => simp [intOf]; omega
                      · have hkS : k9 = S.length := by omega
                        have hml : m9 = l := by rw [hm.out, hkS, List.drop_length]; rfl
                        subst hml
                        have hge9 : (S.length : Int) ≤ (k9 : Int) := by omega
                        clear hkS hm
                        go_wp2_with (first
                          | (go_at_call 13; refine (awake_any _).mono ?_; rintro e wz ⟨rfl, hbz⟩; have hrdz := hrd.below hbz hrd.lt; have hBz := hbel.trans (hbz.mono hbel.size))
                          | (go_at_call 22; refine (left_any hrdz).mono ?_; rintro e wy ⟨rfl, rfl⟩)
                          | (go_at_call 24; refine (bad_any hrdz).mono ?_; rintro e wy ⟨rfl, rfl⟩))
                        go_ret
                        exact ⟨rfl, hBz⟩

end Go.Proofs.Ytckigcodmchfaaa.packBack
