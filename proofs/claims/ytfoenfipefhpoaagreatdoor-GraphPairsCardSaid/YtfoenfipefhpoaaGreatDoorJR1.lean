/-
  Texts joined into one file. Each part says in its own head what is proved there, and under which conditions.
-/
import Derived.Test.YtfoenfipefhpoaaGreatDoorJE1
import Derived.Deep.CutBlock
import Derived.Deep.DeepCutAuto
set_option linter.unusedVariables false
set_option linter.unusedSimpArgs false
/-
  The document's reader: its words and ranks. Conditions: a text of 200 bytes at most.
-/
namespace Go.Proofs.YtfoenfipefhpoaaGreatDoor.Ex
open Go.RowKit
set_option maxHeartbeats 400000 in
theorem rdigit_any (c : UInt8) (w : World) : Calls Tryz.prog 58 #[.int .u8 (c.toNat : Int)] w fun e w' => e = .returned (.bool (isDig c)) ∧ w = w' := by
  unfold isDig
  go_enter Tryz.func58, Tryz.ntmps58
  go_wp2
  all_goals go_ret
  all_goals exact ⟨ret_bool (by rw [Bool.eq_iff_iff]; simp; omega), rfl⟩
set_option maxHeartbeats 400000 in
theorem rletter_any (c : UInt8) (w : World) : Calls Tryz.prog 69 #[.int .u8 (c.toNat : Int)] w fun e w' => e = .returned (.bool (isLet c)) ∧ w = w' := by
  unfold isLet
  go_enter Tryz.func69, Tryz.ntmps69
  go_wp2
  all_goals go_ret
  all_goals exact ⟨ret_bool (by rw [Bool.eq_iff_iff]; simp; omega), rfl⟩
def rankOf (s : Bs) : Nat := if s = [126] ∨ s = [33] then 6 else levelOf s
set_option maxHeartbeats 4000000 in
theorem rrank_any (s : ByteArray) (w : World) : Calls Tryz.prog 59 #[.string s] w fun e w' => e = .returned (.int .i64 (rankOf s.data.toList : Nat)) ∧ w = w' := by
  rcases op_cases s with h | h
  · rcases op_mem h with rfl | rfl | rfl | rfl | rfl | rfl | rfl | rfl | rfl | rfl | rfl | rfl | rfl
    all_goals
      go_enter Tryz.func59, Tryz.ntmps59
      go_wp2
      go_ret
      exact ⟨rfl, rfl⟩
  · by_cases h126 : s.data.toList = [126]
    · obtain rfl := bytes_of h126
      go_enter Tryz.func59, Tryz.ntmps59
      go_wp2
      go_ret
      exact ⟨rfl, rfl⟩
    · by_cases h33 : s.data.toList = [33]
      · obtain rfl := bytes_of h33
        go_enter Tryz.func59, Tryz.ntmps59
        go_wp2
        go_ret
        exact ⟨rfl, rfl⟩
      · have HL : Hid (rankOf s.data.toList = 0) := Lib.hid (by
          unfold rankOf
          rw [if_neg (by simp [h126, h33])]
          exact levelOf_not (by
            rw [Lib.toList_data] at h
            simp only [beq_eq_false_iff_ne, ne_eq] at h
            simp [ops, h]))
        have g1 : (s.toList == [126]) = false := by rw [Lib.toList_data]; simp [h126]
        have g2 : (s.toList == [33]) = false := by rw [Lib.toList_data]; simp [h33]
        obtain ⟨h0, h1, h2, h3, h4, h5, h6, h7, h8, h9, h10, h11, h12⟩ := h
        clear h126 h33
        go_enter Tryz.func59, Tryz.ntmps59
        go_wp2
        go_ret
        exact ⟨ret_int (by rw [HL.out]; rfl), rfl⟩
theorem rank_at (s : ByteArray) (w : World) {r : Nat} (h : rankOf s.data.toList = r) : Calls Tryz.prog 59 #[.string s] w fun e w' => e = .returned (.int .i64 (r : Nat)) ∧ w = w' := by subst h; exact rrank_any s w
end Go.Proofs.YtfoenfipefhpoaaGreatDoor.Ex
/-
  The document's reader: the word with which a text begins. Conditions: a text of 200 bytes at most, not empty.
-/
namespace Go.Proofs.YtfoenfipefhpoaaGreatDoor.Ex
open Go.RowKit
theorem word_of {l : Bs} (h : l ≠ []) {k n : Nat} (hm : meas l = (k, n)) : wordOf l = l.take n := by unfold wordOf; rw [if_neg h, hm]
theorem take1 {l : Bs} (h : 0 < l.length) : l.take 1 = [l[0]] := by cases l with | nil => simp at h | cons => rfl
theorem isNm_long {l : Bs} (h : 1 < l.length) : isNm l = false := by
  unfold isNm
  have : ∀ c : UInt8, (l == [c]) = false := fun c => by
    rw [beq_eq_false_iff_ne]; intro e; rw [e] at h; simp at h
  simp [this]
set_option maxRecDepth 20000 in
set_option maxHeartbeats 4000000 in
theorem rword_any (s : ByteArray) (w : World) (h0 : 0 < s.size) (hs : s.size ≤ 200) :
    Calls Tryz.prog 57 #[.string s] w fun e w' => ∃ t : ByteArray, t.data.toList = wordOf s.data.toList ∧ e = .returned (.string t) ∧ w = w' := by
  have hlen : s.data.toList.length = s.size := by simp
  have hne : s.data.toList ≠ [] := by intro e; rw [e] at hlen; simp at hlen; omega
  obtain ⟨d, hD⟩ : ∃ d, runLen isDig s.data.toList = d := ⟨_, rfl⟩
  obtain ⟨a, hA⟩ : ∃ d, runLen isLet s.data.toList = d := ⟨_, rfl⟩
  have hd := runLen_le isDig s.data.toList
  have hl := runLen_le isLet s.data.toList
  rw [hD, hlen] at hd
  rw [hA, hlen] at hl
  have HD := Lib.hid hD
  have HA := Lib.hid hA
  have HN := Lib.hid (And.intro hne hlen)
  have hd1 : (d : Int) ≤ (s.size : Int) := by omega
  obtain ⟨di, hdi⟩ : ∃ x : Int, (d : Int) = x := ⟨_, rfl⟩
  obtain ⟨ai, hai⟩ : ∃ x : Int, (a : Int) = x := ⟨_, rfl⟩
  have HDI := Lib.hid hdi
  have HAI := Lib.hid hai
  clear hD hA hne hlen hdi hai
  go_enter Tryz.func57, Tryz.ntmps57
  go_upto_block 0 with fail
  go_cut [3] (fun s3 wx => s3 = .int .i64 di ∧ wx = w)
  case first =>
      go_wp2_with fail
      go_loop [3] (fun i => ∃ k : Nat, k ≤ s.size ∧ i = .int .i64 k ∧ runLen isDig s.data.toList = k + runLen isDig (s.data.toList.drop k)) (fun i => s.size - (intOf i).toNat)
      case atStart => exact ⟨0, Nat.zero_le _, rfl, by simp⟩
      case round =>
        obtain ⟨k, hk, rfl, hr⟩ := hrel
        by_cases hlt : k < s.size
        · have hd := runLen_drop isDig s.data.toList k (by simpa using hlt)
          by_cases hp : isDig s[k] = true
          · have HR : Hid (runLen isDig s.data.toList = k + 1 + runLen isDig (s.data.toList.drop (k + 1))) := Lib.hid (by
              have : isDig s.data.toList[k] = true := hp
              rw [hr, hd, if_pos this]; omega)
            clear hr hd
            go_wp2_with (go_at_call 58; (with_reducible refine (rdigit_any _ _).mono ?_); rintro e w' ⟨rfl, rfl⟩)
            go_round
            case rel => exact ⟨k + 1, by omega, by go_num, HR.out⟩
            case measure => simp [intOf]; omega
          · have hp' : isDig s[k] = false := by simpa using hp
            have hq : k = d := by
              have : ¬ isDig s.data.toList[k] = true := hp
              have hx := HD.out
              rw [hr, hd, if_neg this] at hx; omega
            subst hq
            clear hr hd
            go_wp2_with (go_at_call 58; (with_reducible refine (rdigit_any _ _).mono ?_); rintro e w' ⟨rfl, rfl⟩)
            go_meet
            exact ⟨by rw [HDI.out], rfl⟩
        · have hq : k = d := by
            have hx := HD.out
            rw [hr, runLen_end isDig _ k (by simpa using hlt)] at hx; omega
          subst hq
          clear hr
          go_wp2_with fail
          go_meet
          exact ⟨by rw [HDI.out], rfl⟩
  case rest =>
    obtain ⟨rfl, rfl⟩ := hcut
    by_cases h1 : 0 < d
    · obtain rfl := HDI.out
      have h1i : (0 : Int) < (d : Int) := by omega
      by_cases h2 : 18 < d
      · have h2i : (18 : Int) < (d : Int) := by omega
        have H : Hid (wordOf s.data.toList = []) := Lib.hid (by
          rw [word_of HN.out.1 (k := 0) (n := 0) (by unfold meas; rw [HD.out, if_pos h1, if_pos h2])]; simp)
        go_wp2_with fail
        go_ret
        exact ⟨⟨#[]⟩, by rw [H.out], rfl, rfl⟩
      · have h2i : ¬ (18 : Int) < (d : Int) := by omega
        have H : Hid (wordOf s.data.toList = s.data.toList.take d) := Lib.hid (by
          rw [word_of HN.out.1 (k := 2) (n := d) (by unfold meas; rw [HD.out, if_pos h1, if_neg h2])])
        go_wp2_with fail
        go_ret
        exact ⟨s.extract 0 d, by rw [H.out]; simp, rfl, rfl⟩
    · obtain rfl : d = 0 := by omega
      obtain rfl : di = 0 := by have := HDI.out; omega
      have hMM : Hid (meas s.data.toList = if 0 < a then (if isNm (s.data.toList.take a) then (3, a) else (0, 0)) else if 0 < signLen s.data.toList then (4, signLen s.data.toList) else (0, 0)) := Lib.hid (by
        conv => lhs; unfold meas
        rw [HD.out, if_neg (by omega), HA.out])
      rename World => w
      clear h1 hd hd1
      go_upto_block 2 with fail
      go_cut [3] (fun s3 wx => s3 = .int .i64 ai ∧ wx = w)
      case first =>
        go_wp2_with fail
        go_loop [3] (fun i => ∃ k : Nat, k ≤ s.size ∧ i = .int .i64 k ∧ runLen isLet s.data.toList = k + runLen isLet (s.data.toList.drop k)) (fun i => s.size - (intOf i).toNat)
        case atStart => exact ⟨0, Nat.zero_le _, rfl, by simp⟩
        case round =>
          obtain ⟨k, hk, rfl, hr⟩ := hrel
          by_cases hlt : k < s.size
          · have hd := runLen_drop isLet s.data.toList k (by simpa using hlt)
            by_cases hp : isLet s[k] = true
            · have HR : Hid (runLen isLet s.data.toList = k + 1 + runLen isLet (s.data.toList.drop (k + 1))) := Lib.hid (by
                have : isLet s.data.toList[k] = true := hp
                rw [hr, hd, if_pos this]; omega)
              clear hr hd
              go_wp2_with (go_at_call 69; (with_reducible refine (rletter_any _ _).mono ?_); rintro e w' ⟨rfl, rfl⟩)
              go_round
              case rel => exact ⟨k + 1, by omega, by go_num, HR.out⟩
              case measure => simp [intOf]; omega
            · have hp' : isLet s[k] = false := by simpa using hp
              have hq : k = a := by
                have : ¬ isLet s.data.toList[k] = true := hp
                have hx := HA.out
                rw [hr, hd, if_neg this] at hx; omega
              subst hq
              clear hr hd
              go_wp2_with (go_at_call 69; (with_reducible refine (rletter_any _ _).mono ?_); rintro e w' ⟨rfl, rfl⟩)
              go_meet
              exact ⟨by rw [HAI.out], rfl⟩
          · have hq : k = a := by
              have hx := HA.out
              rw [hr, runLen_end isLet _ k (by simpa using hlt)] at hx; omega
            subst hq
            clear hr
            go_wp2_with fail
            go_meet
            exact ⟨by rw [HAI.out], rfl⟩
      case rest =>
        obtain ⟨rfl, rfl⟩ := hcut
        have hz0 : (0 : Int) < (s.size : Int) := by omega
        by_cases h2 : 0 < a
        · obtain rfl := HAI.out
          have h2i : (0 : Int) < (a : Int) := by omega
          by_cases h3 : 1 < a
          · have h3i : (1 : Int) < (a : Int) := by omega
            have H : Hid (wordOf s.data.toList = []) := Lib.hid (by
              rw [word_of HN.out.1 (k := 0) (n := 0) (by
                rw [hMM.out, if_pos h2, isNm_long (by rw [List.length_take, HN.out.2]; omega)]; rfl)]; simp)
            go_wp2_with fail
            go_ret
            exact ⟨⟨#[]⟩, by rw [H.out], rfl, rfl⟩
          · obtain rfl : a = 1 := by omega
            have ht : s.data.toList.take 1 = [s[0]] := take1 (l := s.data.toList) (by rw [HN.out.2]; exact h0)
            have HM2 : Hid (meas s.data.toList = if isNm [s[0]] then (3, 1) else (0, 0)) := Lib.hid (by rw [hMM.out, if_pos (by omega), ht])
            clear ht h2 h2i h3
            have b110 := beq_u8 s[0] 110 (by omega)
            have b116 := beq_u8 s[0] 116 (by omega)
            have b118 := beq_u8 s[0] 118 (by omega)
            by_cases n110 : s[0] = 110
            · have hc := n110
              have e110 : ((s[0].toNat : Int) == 110) = true := b110.trans (by rw [hc]; rfl)
              have g110 : ((s[0].toNat : Int) != 110) = false := by simp [bne, e110]
              have e116 : ((s[0].toNat : Int) == 116) = false := b116.trans (by rw [hc]; rfl)
              have g116 : ((s[0].toNat : Int) != 116) = true := by simp [bne, e116]
              have e118 : ((s[0].toNat : Int) == 118) = false := b118.trans (by rw [hc]; rfl)
              have g118 : ((s[0].toNat : Int) != 118) = true := by simp [bne, e118]
              have H : Hid (wordOf s.data.toList = s.data.toList.take 1) := Lib.hid (word_of HN.out.1 (by rw [HM2.out, hc]; rfl))
              clear hc b110 b116 b118
              go_wp2_with fail
              go_ret
              exact ⟨s.extract 0 1, by rw [H.out]; simp, rfl, rfl⟩
            · skip
              by_cases n116 : s[0] = 116
              · have hc := n116
                have e110 : ((s[0].toNat : Int) == 110) = false := b110.trans (by rw [hc]; rfl)
                have g110 : ((s[0].toNat : Int) != 110) = true := by simp [bne, e110]
                have e116 : ((s[0].toNat : Int) == 116) = true := b116.trans (by rw [hc]; rfl)
                have g116 : ((s[0].toNat : Int) != 116) = false := by simp [bne, e116]
                have e118 : ((s[0].toNat : Int) == 118) = false := b118.trans (by rw [hc]; rfl)
                have g118 : ((s[0].toNat : Int) != 118) = true := by simp [bne, e118]
                have H : Hid (wordOf s.data.toList = s.data.toList.take 1) := Lib.hid (word_of HN.out.1 (by rw [HM2.out, hc]; rfl))
                clear hc b110 b116 b118
                go_wp2_with fail
                go_ret
                exact ⟨s.extract 0 1, by rw [H.out]; simp, rfl, rfl⟩
              · skip
                by_cases n118 : s[0] = 118
                · have hc := n118
                  have e110 : ((s[0].toNat : Int) == 110) = false := b110.trans (by rw [hc]; rfl)
                  have g110 : ((s[0].toNat : Int) != 110) = true := by simp [bne, e110]
                  have e116 : ((s[0].toNat : Int) == 116) = false := b116.trans (by rw [hc]; rfl)
                  have g116 : ((s[0].toNat : Int) != 116) = true := by simp [bne, e116]
                  have e118 : ((s[0].toNat : Int) == 118) = true := b118.trans (by rw [hc]; rfl)
                  have g118 : ((s[0].toNat : Int) != 118) = false := by simp [bne, e118]
                  have H : Hid (wordOf s.data.toList = s.data.toList.take 1) := Lib.hid (word_of HN.out.1 (by rw [HM2.out, hc]; rfl))
                  clear hc b110 b116 b118
                  go_wp2_with fail
                  go_ret
                  exact ⟨s.extract 0 1, by rw [H.out]; simp, rfl, rfl⟩
                · skip
                  have e110 : ((s[0].toNat : Int) == 110) = false := b110.trans (by simpa using n110)
                  have g110 : ((s[0].toNat : Int) != 110) = true := by simp [bne, e110]
                  have e116 : ((s[0].toNat : Int) == 116) = false := b116.trans (by simpa using n116)
                  have g116 : ((s[0].toNat : Int) != 116) = true := by simp [bne, e116]
                  have e118 : ((s[0].toNat : Int) == 118) = false := b118.trans (by simpa using n118)
                  have g118 : ((s[0].toNat : Int) != 118) = true := by simp [bne, e118]
                  have H : Hid (wordOf s.data.toList = []) := Lib.hid (by rw [word_of HN.out.1 (k := 0) (n := 0) (by rw [HM2.out, if_neg (by simp [isNm, n110, n116, n118])])]; simp)
                  clear n110 n116 n118 b110 b116 b118
                  go_wp2_with fail
                  go_ret
                  exact ⟨⟨#[]⟩, by rw [H.out], rfl, rfl⟩
        · obtain rfl : a = 0 := by omega
          obtain rfl : ai = 0 := by have := HAI.out; omega
          clear h2
          have hMS : Hid (meas s.data.toList = if 0 < signLen s.data.toList then (4, signLen s.data.toList) else (0, 0)) := Lib.hid (by rw [hMM.out, if_neg (by omega)])
          have hl0 : 0 < s.data.toList.length := by rw [HN.out.2]; exact h0
          by_cases h2 : 1 < s.size
          · have h2i : (2 : Int) ≤ (s.size : Int) := by omega
            have hl1 : 1 < s.data.toList.length := by rw [HN.out.2]; exact h2
            have hx : (s.extract 0 2).toList = s.data.toList.take 2 := by rw [Lib.toList_data]; simp
            have hz := two2_cases (s.extract 0 2).toList
            rcases hz with ⟨e1, e2, e3, e4, e5, e6, ht⟩ | ⟨e1, e2, e3, e4, e5, e6, ht⟩ | ⟨e1, e2, e3, e4, e5, e6, ht⟩ | ⟨e1, e2, e3, e4, e5, e6, ht⟩ | ⟨e1, e2, e3, e4, e5, e6, ht⟩ | ⟨e1, e2, e3, e4, e5, e6, ht⟩ | ⟨e1, e2, e3, e4, e5, e6, ht⟩
            iterate 6
              · have H : Hid (wordOf s.data.toList = s.data.toList.take 2) := Lib.hid (word_of HN.out.1 (by rw [hMS.out, signLen_two hl1 (hx ▸ ht)]; rfl))
                clear hx ht hl0 hl1
                go_wp2_with fail
                go_ret
                exact ⟨s.extract 0 2, by rw [H.out]; simp, rfl, rfl⟩
            have HSL := Lib.hid (signLen_one hl0 (fun _ => hx ▸ ht))
            clear hx ht hl1
            have b60 := beq_u8 s[0] 60 (by omega)
            have b62 := beq_u8 s[0] 62 (by omega)
            have b43 := beq_u8 s[0] 43 (by omega)
            have b45 := beq_u8 s[0] 45 (by omega)
            have b42 := beq_u8 s[0] 42 (by omega)
            have b47 := beq_u8 s[0] 47 (by omega)
            have b37 := beq_u8 s[0] 37 (by omega)
            have b33 := beq_u8 s[0] 33 (by omega)
            have b40 := beq_u8 s[0] 40 (by omega)
            have b41 := beq_u8 s[0] 41 (by omega)
            by_cases n60 : s[0] = 60
            · have hc := n60
              have q60 : ((s[0].toNat : Int) == 60) = true := b60.trans (by rw [hc]; rfl)
              have q62 : ((s[0].toNat : Int) == 62) = false := b62.trans (by rw [hc]; rfl)
              have q43 : ((s[0].toNat : Int) == 43) = false := b43.trans (by rw [hc]; rfl)
              have q45 : ((s[0].toNat : Int) == 45) = false := b45.trans (by rw [hc]; rfl)
              have q42 : ((s[0].toNat : Int) == 42) = false := b42.trans (by rw [hc]; rfl)
              have q47 : ((s[0].toNat : Int) == 47) = false := b47.trans (by rw [hc]; rfl)
              have q37 : ((s[0].toNat : Int) == 37) = false := b37.trans (by rw [hc]; rfl)
              have q33 : ((s[0].toNat : Int) == 33) = false := b33.trans (by rw [hc]; rfl)
              have q40 : ((s[0].toNat : Int) == 40) = false := b40.trans (by rw [hc]; rfl)
              have q41 : ((s[0].toNat : Int) == 41) = false := b41.trans (by rw [hc]; rfl)
              have H : Hid (wordOf s.data.toList = s.data.toList.take 1) := Lib.hid (word_of HN.out.1 (by rw [hMS.out, HSL.out, if_pos (show one1 s.data.toList[0] = true by rw [show s.data.toList[0] = s[0] from rfl, hc]; rfl)]; rfl))
              clear hc b60 b62 b43 b45 b42 b47 b37 b33 b40 b41
              go_wp2_with fail
              go_ret
              exact ⟨s.extract 0 1, by rw [H.out]; simp, rfl, rfl⟩
            · skip
              by_cases n62 : s[0] = 62
              · have hc := n62
                have q60 : ((s[0].toNat : Int) == 60) = false := b60.trans (by rw [hc]; rfl)
                have q62 : ((s[0].toNat : Int) == 62) = true := b62.trans (by rw [hc]; rfl)
                have q43 : ((s[0].toNat : Int) == 43) = false := b43.trans (by rw [hc]; rfl)
                have q45 : ((s[0].toNat : Int) == 45) = false := b45.trans (by rw [hc]; rfl)
                have q42 : ((s[0].toNat : Int) == 42) = false := b42.trans (by rw [hc]; rfl)
                have q47 : ((s[0].toNat : Int) == 47) = false := b47.trans (by rw [hc]; rfl)
                have q37 : ((s[0].toNat : Int) == 37) = false := b37.trans (by rw [hc]; rfl)
                have q33 : ((s[0].toNat : Int) == 33) = false := b33.trans (by rw [hc]; rfl)
                have q40 : ((s[0].toNat : Int) == 40) = false := b40.trans (by rw [hc]; rfl)
                have q41 : ((s[0].toNat : Int) == 41) = false := b41.trans (by rw [hc]; rfl)
                have H : Hid (wordOf s.data.toList = s.data.toList.take 1) := Lib.hid (word_of HN.out.1 (by rw [hMS.out, HSL.out, if_pos (show one1 s.data.toList[0] = true by rw [show s.data.toList[0] = s[0] from rfl, hc]; rfl)]; rfl))
                clear hc b60 b62 b43 b45 b42 b47 b37 b33 b40 b41
                go_wp2_with fail
                go_ret
                exact ⟨s.extract 0 1, by rw [H.out]; simp, rfl, rfl⟩
              · skip
                by_cases n43 : s[0] = 43
                · have hc := n43
                  have q60 : ((s[0].toNat : Int) == 60) = false := b60.trans (by rw [hc]; rfl)
                  have q62 : ((s[0].toNat : Int) == 62) = false := b62.trans (by rw [hc]; rfl)
                  have q43 : ((s[0].toNat : Int) == 43) = true := b43.trans (by rw [hc]; rfl)
                  have q45 : ((s[0].toNat : Int) == 45) = false := b45.trans (by rw [hc]; rfl)
                  have q42 : ((s[0].toNat : Int) == 42) = false := b42.trans (by rw [hc]; rfl)
                  have q47 : ((s[0].toNat : Int) == 47) = false := b47.trans (by rw [hc]; rfl)
                  have q37 : ((s[0].toNat : Int) == 37) = false := b37.trans (by rw [hc]; rfl)
                  have q33 : ((s[0].toNat : Int) == 33) = false := b33.trans (by rw [hc]; rfl)
                  have q40 : ((s[0].toNat : Int) == 40) = false := b40.trans (by rw [hc]; rfl)
                  have q41 : ((s[0].toNat : Int) == 41) = false := b41.trans (by rw [hc]; rfl)
                  have H : Hid (wordOf s.data.toList = s.data.toList.take 1) := Lib.hid (word_of HN.out.1 (by rw [hMS.out, HSL.out, if_pos (show one1 s.data.toList[0] = true by rw [show s.data.toList[0] = s[0] from rfl, hc]; rfl)]; rfl))
                  clear hc b60 b62 b43 b45 b42 b47 b37 b33 b40 b41
                  go_wp2_with fail
                  go_ret
                  exact ⟨s.extract 0 1, by rw [H.out]; simp, rfl, rfl⟩
                · skip
                  by_cases n45 : s[0] = 45
                  · have hc := n45
                    have q60 : ((s[0].toNat : Int) == 60) = false := b60.trans (by rw [hc]; rfl)
                    have q62 : ((s[0].toNat : Int) == 62) = false := b62.trans (by rw [hc]; rfl)
                    have q43 : ((s[0].toNat : Int) == 43) = false := b43.trans (by rw [hc]; rfl)
                    have q45 : ((s[0].toNat : Int) == 45) = true := b45.trans (by rw [hc]; rfl)
                    have q42 : ((s[0].toNat : Int) == 42) = false := b42.trans (by rw [hc]; rfl)
                    have q47 : ((s[0].toNat : Int) == 47) = false := b47.trans (by rw [hc]; rfl)
                    have q37 : ((s[0].toNat : Int) == 37) = false := b37.trans (by rw [hc]; rfl)
                    have q33 : ((s[0].toNat : Int) == 33) = false := b33.trans (by rw [hc]; rfl)
                    have q40 : ((s[0].toNat : Int) == 40) = false := b40.trans (by rw [hc]; rfl)
                    have q41 : ((s[0].toNat : Int) == 41) = false := b41.trans (by rw [hc]; rfl)
                    have H : Hid (wordOf s.data.toList = s.data.toList.take 1) := Lib.hid (word_of HN.out.1 (by rw [hMS.out, HSL.out, if_pos (show one1 s.data.toList[0] = true by rw [show s.data.toList[0] = s[0] from rfl, hc]; rfl)]; rfl))
                    clear hc b60 b62 b43 b45 b42 b47 b37 b33 b40 b41
                    go_wp2_with fail
                    go_ret
                    exact ⟨s.extract 0 1, by rw [H.out]; simp, rfl, rfl⟩
                  · skip
                    by_cases n42 : s[0] = 42
                    · have hc := n42
                      have q60 : ((s[0].toNat : Int) == 60) = false := b60.trans (by rw [hc]; rfl)
                      have q62 : ((s[0].toNat : Int) == 62) = false := b62.trans (by rw [hc]; rfl)
                      have q43 : ((s[0].toNat : Int) == 43) = false := b43.trans (by rw [hc]; rfl)
                      have q45 : ((s[0].toNat : Int) == 45) = false := b45.trans (by rw [hc]; rfl)
                      have q42 : ((s[0].toNat : Int) == 42) = true := b42.trans (by rw [hc]; rfl)
                      have q47 : ((s[0].toNat : Int) == 47) = false := b47.trans (by rw [hc]; rfl)
                      have q37 : ((s[0].toNat : Int) == 37) = false := b37.trans (by rw [hc]; rfl)
                      have q33 : ((s[0].toNat : Int) == 33) = false := b33.trans (by rw [hc]; rfl)
                      have q40 : ((s[0].toNat : Int) == 40) = false := b40.trans (by rw [hc]; rfl)
                      have q41 : ((s[0].toNat : Int) == 41) = false := b41.trans (by rw [hc]; rfl)
                      have H : Hid (wordOf s.data.toList = s.data.toList.take 1) := Lib.hid (word_of HN.out.1 (by rw [hMS.out, HSL.out, if_pos (show one1 s.data.toList[0] = true by rw [show s.data.toList[0] = s[0] from rfl, hc]; rfl)]; rfl))
                      clear hc b60 b62 b43 b45 b42 b47 b37 b33 b40 b41
                      go_wp2_with fail
                      go_ret
                      exact ⟨s.extract 0 1, by rw [H.out]; simp, rfl, rfl⟩
                    · skip
                      by_cases n47 : s[0] = 47
                      · have hc := n47
                        have q60 : ((s[0].toNat : Int) == 60) = false := b60.trans (by rw [hc]; rfl)
                        have q62 : ((s[0].toNat : Int) == 62) = false := b62.trans (by rw [hc]; rfl)
                        have q43 : ((s[0].toNat : Int) == 43) = false := b43.trans (by rw [hc]; rfl)
                        have q45 : ((s[0].toNat : Int) == 45) = false := b45.trans (by rw [hc]; rfl)
                        have q42 : ((s[0].toNat : Int) == 42) = false := b42.trans (by rw [hc]; rfl)
                        have q47 : ((s[0].toNat : Int) == 47) = true := b47.trans (by rw [hc]; rfl)
                        have q37 : ((s[0].toNat : Int) == 37) = false := b37.trans (by rw [hc]; rfl)
                        have q33 : ((s[0].toNat : Int) == 33) = false := b33.trans (by rw [hc]; rfl)
                        have q40 : ((s[0].toNat : Int) == 40) = false := b40.trans (by rw [hc]; rfl)
                        have q41 : ((s[0].toNat : Int) == 41) = false := b41.trans (by rw [hc]; rfl)
                        have H : Hid (wordOf s.data.toList = s.data.toList.take 1) := Lib.hid (word_of HN.out.1 (by rw [hMS.out, HSL.out, if_pos (show one1 s.data.toList[0] = true by rw [show s.data.toList[0] = s[0] from rfl, hc]; rfl)]; rfl))
                        clear hc b60 b62 b43 b45 b42 b47 b37 b33 b40 b41
                        go_wp2_with fail
                        go_ret
                        exact ⟨s.extract 0 1, by rw [H.out]; simp, rfl, rfl⟩
                      · skip
                        by_cases n37 : s[0] = 37
                        · have hc := n37
                          have q60 : ((s[0].toNat : Int) == 60) = false := b60.trans (by rw [hc]; rfl)
                          have q62 : ((s[0].toNat : Int) == 62) = false := b62.trans (by rw [hc]; rfl)
                          have q43 : ((s[0].toNat : Int) == 43) = false := b43.trans (by rw [hc]; rfl)
                          have q45 : ((s[0].toNat : Int) == 45) = false := b45.trans (by rw [hc]; rfl)
                          have q42 : ((s[0].toNat : Int) == 42) = false := b42.trans (by rw [hc]; rfl)
                          have q47 : ((s[0].toNat : Int) == 47) = false := b47.trans (by rw [hc]; rfl)
                          have q37 : ((s[0].toNat : Int) == 37) = true := b37.trans (by rw [hc]; rfl)
                          have q33 : ((s[0].toNat : Int) == 33) = false := b33.trans (by rw [hc]; rfl)
                          have q40 : ((s[0].toNat : Int) == 40) = false := b40.trans (by rw [hc]; rfl)
                          have q41 : ((s[0].toNat : Int) == 41) = false := b41.trans (by rw [hc]; rfl)
                          have H : Hid (wordOf s.data.toList = s.data.toList.take 1) := Lib.hid (word_of HN.out.1 (by rw [hMS.out, HSL.out, if_pos (show one1 s.data.toList[0] = true by rw [show s.data.toList[0] = s[0] from rfl, hc]; rfl)]; rfl))
                          clear hc b60 b62 b43 b45 b42 b47 b37 b33 b40 b41
                          go_wp2_with fail
                          go_ret
                          exact ⟨s.extract 0 1, by rw [H.out]; simp, rfl, rfl⟩
                        · skip
                          by_cases n33 : s[0] = 33
                          · have hc := n33
                            have q60 : ((s[0].toNat : Int) == 60) = false := b60.trans (by rw [hc]; rfl)
                            have q62 : ((s[0].toNat : Int) == 62) = false := b62.trans (by rw [hc]; rfl)
                            have q43 : ((s[0].toNat : Int) == 43) = false := b43.trans (by rw [hc]; rfl)
                            have q45 : ((s[0].toNat : Int) == 45) = false := b45.trans (by rw [hc]; rfl)
                            have q42 : ((s[0].toNat : Int) == 42) = false := b42.trans (by rw [hc]; rfl)
                            have q47 : ((s[0].toNat : Int) == 47) = false := b47.trans (by rw [hc]; rfl)
                            have q37 : ((s[0].toNat : Int) == 37) = false := b37.trans (by rw [hc]; rfl)
                            have q33 : ((s[0].toNat : Int) == 33) = true := b33.trans (by rw [hc]; rfl)
                            have q40 : ((s[0].toNat : Int) == 40) = false := b40.trans (by rw [hc]; rfl)
                            have q41 : ((s[0].toNat : Int) == 41) = false := b41.trans (by rw [hc]; rfl)
                            have H : Hid (wordOf s.data.toList = s.data.toList.take 1) := Lib.hid (word_of HN.out.1 (by rw [hMS.out, HSL.out, if_pos (show one1 s.data.toList[0] = true by rw [show s.data.toList[0] = s[0] from rfl, hc]; rfl)]; rfl))
                            clear hc b60 b62 b43 b45 b42 b47 b37 b33 b40 b41
                            go_wp2_with fail
                            go_ret
                            exact ⟨s.extract 0 1, by rw [H.out]; simp, rfl, rfl⟩
                          · skip
                            by_cases n40 : s[0] = 40
                            · have hc := n40
                              have q60 : ((s[0].toNat : Int) == 60) = false := b60.trans (by rw [hc]; rfl)
                              have q62 : ((s[0].toNat : Int) == 62) = false := b62.trans (by rw [hc]; rfl)
                              have q43 : ((s[0].toNat : Int) == 43) = false := b43.trans (by rw [hc]; rfl)
                              have q45 : ((s[0].toNat : Int) == 45) = false := b45.trans (by rw [hc]; rfl)
                              have q42 : ((s[0].toNat : Int) == 42) = false := b42.trans (by rw [hc]; rfl)
                              have q47 : ((s[0].toNat : Int) == 47) = false := b47.trans (by rw [hc]; rfl)
                              have q37 : ((s[0].toNat : Int) == 37) = false := b37.trans (by rw [hc]; rfl)
                              have q33 : ((s[0].toNat : Int) == 33) = false := b33.trans (by rw [hc]; rfl)
                              have q40 : ((s[0].toNat : Int) == 40) = true := b40.trans (by rw [hc]; rfl)
                              have q41 : ((s[0].toNat : Int) == 41) = false := b41.trans (by rw [hc]; rfl)
                              have H : Hid (wordOf s.data.toList = s.data.toList.take 1) := Lib.hid (word_of HN.out.1 (by rw [hMS.out, HSL.out, if_pos (show one1 s.data.toList[0] = true by rw [show s.data.toList[0] = s[0] from rfl, hc]; rfl)]; rfl))
                              clear hc b60 b62 b43 b45 b42 b47 b37 b33 b40 b41
                              go_wp2_with fail
                              go_ret
                              exact ⟨s.extract 0 1, by rw [H.out]; simp, rfl, rfl⟩
                            · skip
                              by_cases n41 : s[0] = 41
                              · have hc := n41
                                have q60 : ((s[0].toNat : Int) == 60) = false := b60.trans (by rw [hc]; rfl)
                                have q62 : ((s[0].toNat : Int) == 62) = false := b62.trans (by rw [hc]; rfl)
                                have q43 : ((s[0].toNat : Int) == 43) = false := b43.trans (by rw [hc]; rfl)
                                have q45 : ((s[0].toNat : Int) == 45) = false := b45.trans (by rw [hc]; rfl)
                                have q42 : ((s[0].toNat : Int) == 42) = false := b42.trans (by rw [hc]; rfl)
                                have q47 : ((s[0].toNat : Int) == 47) = false := b47.trans (by rw [hc]; rfl)
                                have q37 : ((s[0].toNat : Int) == 37) = false := b37.trans (by rw [hc]; rfl)
                                have q33 : ((s[0].toNat : Int) == 33) = false := b33.trans (by rw [hc]; rfl)
                                have q40 : ((s[0].toNat : Int) == 40) = false := b40.trans (by rw [hc]; rfl)
                                have q41 : ((s[0].toNat : Int) == 41) = true := b41.trans (by rw [hc]; rfl)
                                have H : Hid (wordOf s.data.toList = s.data.toList.take 1) := Lib.hid (word_of HN.out.1 (by rw [hMS.out, HSL.out, if_pos (show one1 s.data.toList[0] = true by rw [show s.data.toList[0] = s[0] from rfl, hc]; rfl)]; rfl))
                                clear hc b60 b62 b43 b45 b42 b47 b37 b33 b40 b41
                                go_wp2_with fail
                                go_ret
                                exact ⟨s.extract 0 1, by rw [H.out]; simp, rfl, rfl⟩
                              · skip
                                have q60 : ((s[0].toNat : Int) == 60) = false := b60.trans (by simpa using n60)
                                have q62 : ((s[0].toNat : Int) == 62) = false := b62.trans (by simpa using n62)
                                have q43 : ((s[0].toNat : Int) == 43) = false := b43.trans (by simpa using n43)
                                have q45 : ((s[0].toNat : Int) == 45) = false := b45.trans (by simpa using n45)
                                have q42 : ((s[0].toNat : Int) == 42) = false := b42.trans (by simpa using n42)
                                have q47 : ((s[0].toNat : Int) == 47) = false := b47.trans (by simpa using n47)
                                have q37 : ((s[0].toNat : Int) == 37) = false := b37.trans (by simpa using n37)
                                have q33 : ((s[0].toNat : Int) == 33) = false := b33.trans (by simpa using n33)
                                have q40 : ((s[0].toNat : Int) == 40) = false := b40.trans (by simpa using n40)
                                have q41 : ((s[0].toNat : Int) == 41) = false := b41.trans (by simpa using n41)
                                have H : Hid (wordOf s.data.toList = []) := Lib.hid (by rw [word_of HN.out.1 (k := 0) (n := 0) (by rw [hMS.out, HSL.out, if_neg (show ¬ one1 s.data.toList[0] = true by rw [show s.data.toList[0] = s[0] from rfl]; simp [one1, n60, n62, n43, n45, n42, n47, n37, n33, n40, n41])]; rfl)]; simp)
                                clear b60 b62 b43 b45 b42 b47 b37 b33 b40 b41 n60 n62 n43 n45 n42 n47 n37 n33 n40 n41
                                go_wp2_with fail
                                go_ret
                                exact ⟨⟨#[]⟩, by rw [H.out], rfl, rfl⟩
          · have h2i : ¬ (2 : Int) ≤ (s.size : Int) := by omega
            have HSL := Lib.hid (signLen_one hl0 (fun h => absurd (by simpa using h) h2))
            have b60 := beq_u8 s[0] 60 (by omega)
            have b62 := beq_u8 s[0] 62 (by omega)
            have b43 := beq_u8 s[0] 43 (by omega)
            have b45 := beq_u8 s[0] 45 (by omega)
            have b42 := beq_u8 s[0] 42 (by omega)
            have b47 := beq_u8 s[0] 47 (by omega)
            have b37 := beq_u8 s[0] 37 (by omega)
            have b33 := beq_u8 s[0] 33 (by omega)
            have b40 := beq_u8 s[0] 40 (by omega)
            have b41 := beq_u8 s[0] 41 (by omega)
            by_cases n60 : s[0] = 60
            · have hc := n60
              have q60 : ((s[0].toNat : Int) == 60) = true := b60.trans (by rw [hc]; rfl)
              have q62 : ((s[0].toNat : Int) == 62) = false := b62.trans (by rw [hc]; rfl)
              have q43 : ((s[0].toNat : Int) == 43) = false := b43.trans (by rw [hc]; rfl)
              have q45 : ((s[0].toNat : Int) == 45) = false := b45.trans (by rw [hc]; rfl)
              have q42 : ((s[0].toNat : Int) == 42) = false := b42.trans (by rw [hc]; rfl)
              have q47 : ((s[0].toNat : Int) == 47) = false := b47.trans (by rw [hc]; rfl)
              have q37 : ((s[0].toNat : Int) == 37) = false := b37.trans (by rw [hc]; rfl)
              have q33 : ((s[0].toNat : Int) == 33) = false := b33.trans (by rw [hc]; rfl)
              have q40 : ((s[0].toNat : Int) == 40) = false := b40.trans (by rw [hc]; rfl)
              have q41 : ((s[0].toNat : Int) == 41) = false := b41.trans (by rw [hc]; rfl)
              have H : Hid (wordOf s.data.toList = s.data.toList.take 1) := Lib.hid (word_of HN.out.1 (by rw [hMS.out, HSL.out, if_pos (show one1 s.data.toList[0] = true by rw [show s.data.toList[0] = s[0] from rfl, hc]; rfl)]; rfl))
              clear hc b60 b62 b43 b45 b42 b47 b37 b33 b40 b41
              go_wp2_with fail
              go_ret
              exact ⟨s.extract 0 1, by rw [H.out]; simp, rfl, rfl⟩
            · skip
              by_cases n62 : s[0] = 62
              · have hc := n62
                have q60 : ((s[0].toNat : Int) == 60) = false := b60.trans (by rw [hc]; rfl)
                have q62 : ((s[0].toNat : Int) == 62) = true := b62.trans (by rw [hc]; rfl)
                have q43 : ((s[0].toNat : Int) == 43) = false := b43.trans (by rw [hc]; rfl)
                have q45 : ((s[0].toNat : Int) == 45) = false := b45.trans (by rw [hc]; rfl)
                have q42 : ((s[0].toNat : Int) == 42) = false := b42.trans (by rw [hc]; rfl)
                have q47 : ((s[0].toNat : Int) == 47) = false := b47.trans (by rw [hc]; rfl)
                have q37 : ((s[0].toNat : Int) == 37) = false := b37.trans (by rw [hc]; rfl)
                have q33 : ((s[0].toNat : Int) == 33) = false := b33.trans (by rw [hc]; rfl)
                have q40 : ((s[0].toNat : Int) == 40) = false := b40.trans (by rw [hc]; rfl)
                have q41 : ((s[0].toNat : Int) == 41) = false := b41.trans (by rw [hc]; rfl)
                have H : Hid (wordOf s.data.toList = s.data.toList.take 1) := Lib.hid (word_of HN.out.1 (by rw [hMS.out, HSL.out, if_pos (show one1 s.data.toList[0] = true by rw [show s.data.toList[0] = s[0] from rfl, hc]; rfl)]; rfl))
                clear hc b60 b62 b43 b45 b42 b47 b37 b33 b40 b41
                go_wp2_with fail
                go_ret
                exact ⟨s.extract 0 1, by rw [H.out]; simp, rfl, rfl⟩
              · skip
                by_cases n43 : s[0] = 43
                · have hc := n43
                  have q60 : ((s[0].toNat : Int) == 60) = false := b60.trans (by rw [hc]; rfl)
                  have q62 : ((s[0].toNat : Int) == 62) = false := b62.trans (by rw [hc]; rfl)
                  have q43 : ((s[0].toNat : Int) == 43) = true := b43.trans (by rw [hc]; rfl)
                  have q45 : ((s[0].toNat : Int) == 45) = false := b45.trans (by rw [hc]; rfl)
                  have q42 : ((s[0].toNat : Int) == 42) = false := b42.trans (by rw [hc]; rfl)
                  have q47 : ((s[0].toNat : Int) == 47) = false := b47.trans (by rw [hc]; rfl)
                  have q37 : ((s[0].toNat : Int) == 37) = false := b37.trans (by rw [hc]; rfl)
                  have q33 : ((s[0].toNat : Int) == 33) = false := b33.trans (by rw [hc]; rfl)
                  have q40 : ((s[0].toNat : Int) == 40) = false := b40.trans (by rw [hc]; rfl)
                  have q41 : ((s[0].toNat : Int) == 41) = false := b41.trans (by rw [hc]; rfl)
                  have H : Hid (wordOf s.data.toList = s.data.toList.take 1) := Lib.hid (word_of HN.out.1 (by rw [hMS.out, HSL.out, if_pos (show one1 s.data.toList[0] = true by rw [show s.data.toList[0] = s[0] from rfl, hc]; rfl)]; rfl))
                  clear hc b60 b62 b43 b45 b42 b47 b37 b33 b40 b41
                  go_wp2_with fail
                  go_ret
                  exact ⟨s.extract 0 1, by rw [H.out]; simp, rfl, rfl⟩
                · skip
                  by_cases n45 : s[0] = 45
                  · have hc := n45
                    have q60 : ((s[0].toNat : Int) == 60) = false := b60.trans (by rw [hc]; rfl)
                    have q62 : ((s[0].toNat : Int) == 62) = false := b62.trans (by rw [hc]; rfl)
                    have q43 : ((s[0].toNat : Int) == 43) = false := b43.trans (by rw [hc]; rfl)
                    have q45 : ((s[0].toNat : Int) == 45) = true := b45.trans (by rw [hc]; rfl)
                    have q42 : ((s[0].toNat : Int) == 42) = false := b42.trans (by rw [hc]; rfl)
                    have q47 : ((s[0].toNat : Int) == 47) = false := b47.trans (by rw [hc]; rfl)
                    have q37 : ((s[0].toNat : Int) == 37) = false := b37.trans (by rw [hc]; rfl)
                    have q33 : ((s[0].toNat : Int) == 33) = false := b33.trans (by rw [hc]; rfl)
                    have q40 : ((s[0].toNat : Int) == 40) = false := b40.trans (by rw [hc]; rfl)
                    have q41 : ((s[0].toNat : Int) == 41) = false := b41.trans (by rw [hc]; rfl)
                    have H : Hid (wordOf s.data.toList = s.data.toList.take 1) := Lib.hid (word_of HN.out.1 (by rw [hMS.out, HSL.out, if_pos (show one1 s.data.toList[0] = true by rw [show s.data.toList[0] = s[0] from rfl, hc]; rfl)]; rfl))
                    clear hc b60 b62 b43 b45 b42 b47 b37 b33 b40 b41
                    go_wp2_with fail
                    go_ret
                    exact ⟨s.extract 0 1, by rw [H.out]; simp, rfl, rfl⟩
                  · skip
                    by_cases n42 : s[0] = 42
                    · have hc := n42
                      have q60 : ((s[0].toNat : Int) == 60) = false := b60.trans (by rw [hc]; rfl)
                      have q62 : ((s[0].toNat : Int) == 62) = false := b62.trans (by rw [hc]; rfl)
                      have q43 : ((s[0].toNat : Int) == 43) = false := b43.trans (by rw [hc]; rfl)
                      have q45 : ((s[0].toNat : Int) == 45) = false := b45.trans (by rw [hc]; rfl)
                      have q42 : ((s[0].toNat : Int) == 42) = true := b42.trans (by rw [hc]; rfl)
                      have q47 : ((s[0].toNat : Int) == 47) = false := b47.trans (by rw [hc]; rfl)
                      have q37 : ((s[0].toNat : Int) == 37) = false := b37.trans (by rw [hc]; rfl)
                      have q33 : ((s[0].toNat : Int) == 33) = false := b33.trans (by rw [hc]; rfl)
                      have q40 : ((s[0].toNat : Int) == 40) = false := b40.trans (by rw [hc]; rfl)
                      have q41 : ((s[0].toNat : Int) == 41) = false := b41.trans (by rw [hc]; rfl)
                      have H : Hid (wordOf s.data.toList = s.data.toList.take 1) := Lib.hid (word_of HN.out.1 (by rw [hMS.out, HSL.out, if_pos (show one1 s.data.toList[0] = true by rw [show s.data.toList[0] = s[0] from rfl, hc]; rfl)]; rfl))
                      clear hc b60 b62 b43 b45 b42 b47 b37 b33 b40 b41
                      go_wp2_with fail
                      go_ret
                      exact ⟨s.extract 0 1, by rw [H.out]; simp, rfl, rfl⟩
                    · skip
                      by_cases n47 : s[0] = 47
                      · have hc := n47
                        have q60 : ((s[0].toNat : Int) == 60) = false := b60.trans (by rw [hc]; rfl)
                        have q62 : ((s[0].toNat : Int) == 62) = false := b62.trans (by rw [hc]; rfl)
                        have q43 : ((s[0].toNat : Int) == 43) = false := b43.trans (by rw [hc]; rfl)
                        have q45 : ((s[0].toNat : Int) == 45) = false := b45.trans (by rw [hc]; rfl)
                        have q42 : ((s[0].toNat : Int) == 42) = false := b42.trans (by rw [hc]; rfl)
                        have q47 : ((s[0].toNat : Int) == 47) = true := b47.trans (by rw [hc]; rfl)
                        have q37 : ((s[0].toNat : Int) == 37) = false := b37.trans (by rw [hc]; rfl)
                        have q33 : ((s[0].toNat : Int) == 33) = false := b33.trans (by rw [hc]; rfl)
                        have q40 : ((s[0].toNat : Int) == 40) = false := b40.trans (by rw [hc]; rfl)
                        have q41 : ((s[0].toNat : Int) == 41) = false := b41.trans (by rw [hc]; rfl)
                        have H : Hid (wordOf s.data.toList = s.data.toList.take 1) := Lib.hid (word_of HN.out.1 (by rw [hMS.out, HSL.out, if_pos (show one1 s.data.toList[0] = true by rw [show s.data.toList[0] = s[0] from rfl, hc]; rfl)]; rfl))
                        clear hc b60 b62 b43 b45 b42 b47 b37 b33 b40 b41
                        go_wp2_with fail
                        go_ret
                        exact ⟨s.extract 0 1, by rw [H.out]; simp, rfl, rfl⟩
                      · skip
                        by_cases n37 : s[0] = 37
                        · have hc := n37
                          have q60 : ((s[0].toNat : Int) == 60) = false := b60.trans (by rw [hc]; rfl)
                          have q62 : ((s[0].toNat : Int) == 62) = false := b62.trans (by rw [hc]; rfl)
                          have q43 : ((s[0].toNat : Int) == 43) = false := b43.trans (by rw [hc]; rfl)
                          have q45 : ((s[0].toNat : Int) == 45) = false := b45.trans (by rw [hc]; rfl)
                          have q42 : ((s[0].toNat : Int) == 42) = false := b42.trans (by rw [hc]; rfl)
                          have q47 : ((s[0].toNat : Int) == 47) = false := b47.trans (by rw [hc]; rfl)
                          have q37 : ((s[0].toNat : Int) == 37) = true := b37.trans (by rw [hc]; rfl)
                          have q33 : ((s[0].toNat : Int) == 33) = false := b33.trans (by rw [hc]; rfl)
                          have q40 : ((s[0].toNat : Int) == 40) = false := b40.trans (by rw [hc]; rfl)
                          have q41 : ((s[0].toNat : Int) == 41) = false := b41.trans (by rw [hc]; rfl)
                          have H : Hid (wordOf s.data.toList = s.data.toList.take 1) := Lib.hid (word_of HN.out.1 (by rw [hMS.out, HSL.out, if_pos (show one1 s.data.toList[0] = true by rw [show s.data.toList[0] = s[0] from rfl, hc]; rfl)]; rfl))
                          clear hc b60 b62 b43 b45 b42 b47 b37 b33 b40 b41
                          go_wp2_with fail
                          go_ret
                          exact ⟨s.extract 0 1, by rw [H.out]; simp, rfl, rfl⟩
                        · skip
                          by_cases n33 : s[0] = 33
                          · have hc := n33
                            have q60 : ((s[0].toNat : Int) == 60) = false := b60.trans (by rw [hc]; rfl)
                            have q62 : ((s[0].toNat : Int) == 62) = false := b62.trans (by rw [hc]; rfl)
                            have q43 : ((s[0].toNat : Int) == 43) = false := b43.trans (by rw [hc]; rfl)
                            have q45 : ((s[0].toNat : Int) == 45) = false := b45.trans (by rw [hc]; rfl)
                            have q42 : ((s[0].toNat : Int) == 42) = false := b42.trans (by rw [hc]; rfl)
                            have q47 : ((s[0].toNat : Int) == 47) = false := b47.trans (by rw [hc]; rfl)
                            have q37 : ((s[0].toNat : Int) == 37) = false := b37.trans (by rw [hc]; rfl)
                            have q33 : ((s[0].toNat : Int) == 33) = true := b33.trans (by rw [hc]; rfl)
                            have q40 : ((s[0].toNat : Int) == 40) = false := b40.trans (by rw [hc]; rfl)
                            have q41 : ((s[0].toNat : Int) == 41) = false := b41.trans (by rw [hc]; rfl)
                            have H : Hid (wordOf s.data.toList = s.data.toList.take 1) := Lib.hid (word_of HN.out.1 (by rw [hMS.out, HSL.out, if_pos (show one1 s.data.toList[0] = true by rw [show s.data.toList[0] = s[0] from rfl, hc]; rfl)]; rfl))
                            clear hc b60 b62 b43 b45 b42 b47 b37 b33 b40 b41
                            go_wp2_with fail
                            go_ret
                            exact ⟨s.extract 0 1, by rw [H.out]; simp, rfl, rfl⟩
                          · skip
                            by_cases n40 : s[0] = 40
                            · have hc := n40
                              have q60 : ((s[0].toNat : Int) == 60) = false := b60.trans (by rw [hc]; rfl)
                              have q62 : ((s[0].toNat : Int) == 62) = false := b62.trans (by rw [hc]; rfl)
                              have q43 : ((s[0].toNat : Int) == 43) = false := b43.trans (by rw [hc]; rfl)
                              have q45 : ((s[0].toNat : Int) == 45) = false := b45.trans (by rw [hc]; rfl)
                              have q42 : ((s[0].toNat : Int) == 42) = false := b42.trans (by rw [hc]; rfl)
                              have q47 : ((s[0].toNat : Int) == 47) = false := b47.trans (by rw [hc]; rfl)
                              have q37 : ((s[0].toNat : Int) == 37) = false := b37.trans (by rw [hc]; rfl)
                              have q33 : ((s[0].toNat : Int) == 33) = false := b33.trans (by rw [hc]; rfl)
                              have q40 : ((s[0].toNat : Int) == 40) = true := b40.trans (by rw [hc]; rfl)
                              have q41 : ((s[0].toNat : Int) == 41) = false := b41.trans (by rw [hc]; rfl)
                              have H : Hid (wordOf s.data.toList = s.data.toList.take 1) := Lib.hid (word_of HN.out.1 (by rw [hMS.out, HSL.out, if_pos (show one1 s.data.toList[0] = true by rw [show s.data.toList[0] = s[0] from rfl, hc]; rfl)]; rfl))
                              clear hc b60 b62 b43 b45 b42 b47 b37 b33 b40 b41
                              go_wp2_with fail
                              go_ret
                              exact ⟨s.extract 0 1, by rw [H.out]; simp, rfl, rfl⟩
                            · skip
                              by_cases n41 : s[0] = 41
                              · have hc := n41
                                have q60 : ((s[0].toNat : Int) == 60) = false := b60.trans (by rw [hc]; rfl)
                                have q62 : ((s[0].toNat : Int) == 62) = false := b62.trans (by rw [hc]; rfl)
                                have q43 : ((s[0].toNat : Int) == 43) = false := b43.trans (by rw [hc]; rfl)
                                have q45 : ((s[0].toNat : Int) == 45) = false := b45.trans (by rw [hc]; rfl)
                                have q42 : ((s[0].toNat : Int) == 42) = false := b42.trans (by rw [hc]; rfl)
                                have q47 : ((s[0].toNat : Int) == 47) = false := b47.trans (by rw [hc]; rfl)
                                have q37 : ((s[0].toNat : Int) == 37) = false := b37.trans (by rw [hc]; rfl)
                                have q33 : ((s[0].toNat : Int) == 33) = false := b33.trans (by rw [hc]; rfl)
                                have q40 : ((s[0].toNat : Int) == 40) = false := b40.trans (by rw [hc]; rfl)
                                have q41 : ((s[0].toNat : Int) == 41) = true := b41.trans (by rw [hc]; rfl)
                                have H : Hid (wordOf s.data.toList = s.data.toList.take 1) := Lib.hid (word_of HN.out.1 (by rw [hMS.out, HSL.out, if_pos (show one1 s.data.toList[0] = true by rw [show s.data.toList[0] = s[0] from rfl, hc]; rfl)]; rfl))
                                clear hc b60 b62 b43 b45 b42 b47 b37 b33 b40 b41
                                go_wp2_with fail
                                go_ret
                                exact ⟨s.extract 0 1, by rw [H.out]; simp, rfl, rfl⟩
                              · skip
                                have q60 : ((s[0].toNat : Int) == 60) = false := b60.trans (by simpa using n60)
                                have q62 : ((s[0].toNat : Int) == 62) = false := b62.trans (by simpa using n62)
                                have q43 : ((s[0].toNat : Int) == 43) = false := b43.trans (by simpa using n43)
                                have q45 : ((s[0].toNat : Int) == 45) = false := b45.trans (by simpa using n45)
                                have q42 : ((s[0].toNat : Int) == 42) = false := b42.trans (by simpa using n42)
                                have q47 : ((s[0].toNat : Int) == 47) = false := b47.trans (by simpa using n47)
                                have q37 : ((s[0].toNat : Int) == 37) = false := b37.trans (by simpa using n37)
                                have q33 : ((s[0].toNat : Int) == 33) = false := b33.trans (by simpa using n33)
                                have q40 : ((s[0].toNat : Int) == 40) = false := b40.trans (by simpa using n40)
                                have q41 : ((s[0].toNat : Int) == 41) = false := b41.trans (by simpa using n41)
                                have H : Hid (wordOf s.data.toList = []) := Lib.hid (by rw [word_of HN.out.1 (k := 0) (n := 0) (by rw [hMS.out, HSL.out, if_neg (show ¬ one1 s.data.toList[0] = true by rw [show s.data.toList[0] = s[0] from rfl]; simp [one1, n60, n62, n43, n45, n42, n47, n37, n33, n40, n41])]; rfl)]; simp)
                                clear b60 b62 b43 b45 b42 b47 b37 b33 b40 b41 n60 n62 n43 n45 n42 n47 n37 n33 n40 n41
                                go_wp2_with fail
                                go_ret
                                exact ⟨⟨#[]⟩, by rw [H.out], rfl, rfl⟩
end Go.Proofs.YtfoenfipefhpoaaGreatDoor.Ex
