/-
  The encoding of a group, in mathematics: what is laid is read again. Conditions: as each theorem names them; nothing of a program.
-/
import Derived.Test.YtlmnkmfpdjkijaaKFine
import Derived.Test.YtlmnkmfpdjkijaaMath
namespace Go.Proofs.Ytlmnkmfpdjkijaa.Ke
set_option linter.unusedVariables false
set_option linter.unusedSimpArgs false
open Go.Proofs.Ytlmnkmfpdjkijaa.Ag (Ac jn vl wr wr_in wr_add wr_add2 ac_ext)
open Go.Proofs.Ytlmnkmfpdjkijaa.Wi (Sp ofS okW okT okT_is okW_cases cov_of Cov sl)

abbrev Bs := List UInt8
def num (x : Int) : Bs := Pk.enc (Pk.fold x)
def rdN (b : Bs) : Option (Int × Bs) := (Pk.dec b).map fun p => (Pk.unfold p.1, b.drop p.2)
theorem rdN_num {x : Int} (h : I64 x) (r : Bs) : rdN (num x ++ r) = some (x, r) := by
  unfold rdN num
  rw [Pk.dec_enc (Pk.fold_lt h.1 h.2)]
  simp [Pk.unfold_fold]
theorem num_pos (x : Int) : 0 < (num x).length := Pk.enc_len_pos _
def txt (k : Ky) : Bs := num k.length ++ k
def rdT (b : Bs) : Option (Ky × Bs) := (rdN b).bind fun p => if 0 ≤ p.1 ∧ p.1 ≤ (p.2.length : Int) then some (p.2.take p.1.toNat, p.2.drop p.1.toNat) else none
theorem rdT_txt {k : Ky} (h : k.length ≤ 16) (r : Bs) : rdT (txt k ++ r) = some (k, r) := by
  unfold rdT txt
  rw [List.append_assoc, rdN_num (by unfold I64; omega)]
  simp only [Option.bind_some]
  rw [if_pos ⟨by omega, by rw [List.length_append]; omega⟩]
  simp
def pnB (x : Pn) : Bs := txt x.k ++ (num x.f ++ (num x.t ++ (num x.a.c ++ (num x.a.s ++ (num x.a.mn ++ num x.a.mx)))))
def rdP (b : Bs) : Option (Pn × Bs) :=
  (rdT b).bind fun k => (rdN k.2).bind fun f => (rdN f.2).bind fun t => (rdN t.2).bind fun c => (rdN c.2).bind fun s => (rdN s.2).bind fun mn => (rdN mn.2).bind fun mx => some (⟨k.1, f.1, t.1, ⟨c.1, s.1, mn.1, mx.1⟩⟩, mx.2)
theorem pnB_pos (x : Pn) : 0 < (pnB x).length := by
  unfold pnB txt
  have := num_pos x.k.length
  simp only [List.length_append]
  omega
theorem ofS_t {k s l t : Int} (hw : okW k s l = true) (ht : okT t = true) {sp : Sp} (h : sp ∈ ofS k s l t) : sp.2 = sp.1 + s := by
  obtain ⟨i, hi, rfl⟩ := List.getElem_of_mem h
  exact ((cov_of hw ht rfl).at_ i _ (List.getElem?_eq_getElem hi)).2.2.1
theorem FineP.span {k s l : Int} {x : Pn} (hw : okW k s l = true) (h : FineP k s l x) : I64 x.f ∧ I64 x.t := by
  have hf := h.fit
  have hs : 0 ≤ s ∧ s ≤ 1000000 := by rcases okW_cases hw with h | h | h | h <;> omega
  unfold fitS at hf
  unfold I64
  split at hf
  · omega
  · obtain ⟨-, h1, h2, h3⟩ := hf
    have := ofS_t hw (t := min (max x.f 0) 1000000000) (by unfold Wi.okT; simp; omega) h3
    dsimp only at this
    omega
theorem rdP_pnB {k s l : Int} {x : Pn} (hw : okW k s l = true) (h : FineP k s l x) (r : Bs) : rdP (pnB x ++ r) = some (x, r) := by
  obtain ⟨h1, h2⟩ := h.span hw
  unfold rdP pnB
  simp only [List.append_assoc]
  rw [rdT_txt h.key]
  simp only [Option.bind_some]
  rw [rdN_num h1]
  simp only [Option.bind_some]
  rw [rdN_num h2]
  simp only [Option.bind_some]
  rw [rdN_num h.c]
  simp only [Option.bind_some]
  rw [rdN_num h.s]
  simp only [Option.bind_some]
  rw [rdN_num h.mn]
  simp only [Option.bind_some]
  rw [rdN_num h.mx]
  rfl
instance (k s l f t : Int) : Decidable (fitS k s l f t) := by unfold fitS; infer_instance
/-- May this pane stand there, behind that one? -/
def okp (G : Ky → Nat) (k s l : Int) (g : Nat) (m : Int) (pr : Option Pn) (x : Pn) : Bool :=
  decide (x.k.length ≤ 16) && decide (G x.k = g) && decide (1 ≤ x.a.c) && decide (fitS k s l x.f x.t) && !due m x &&
    (match pr with
    | none => true
    | some y => decide (y.k < x.k) || (decide (y.k = x.k) && decide (y.f < x.f) && !(decide (k = 3) && shr y x)))
def rdPs (G : Ky → Nat) (k s l : Int) (g : Nat) (m : Int) : Nat → Option Pn → Bs → Option (List Pn × Bs)
  | 0, _, b => some ([], b)
  | n + 1, pr, b => (rdP b).bind fun p => if okp G k s l g m pr p.1 = true then (rdPs G k s l g m n (some p.1) p.2).map fun q => (p.1 :: q.1, q.2) else none
def rd (G : Ky → Nat) (k s l : Int) (b : Bs) : Option (Nat × Int × List Pn) :=
  (rdN b).bind fun g => (rdN g.2).bind fun m => (rdN m.2).bind fun n =>
    if 0 ≤ g.1 ∧ g.1 < 16 ∧ 0 ≤ m.1 ∧ m.1 ≤ 1000000001 ∧ 0 ≤ n.1 ∧ n.1 ≤ (b.length : Int) then
      (rdPs G k s l g.1.toNat m.1 n.1.toNat none n.2).bind fun q => if q.2 = [] then some (g.1.toNat, m.1, q.1) else none
    else none
def encG (g : Nat) (m : Int) (ps : List Pn) : Bs := num g ++ (num m ++ (num ps.length ++ ps.flatMap pnB))
theorem flat_len (ps : List Pn) : ps.length ≤ (ps.flatMap pnB).length := by
  induction ps with
  | nil => exact Nat.le_refl _
  | cons x r ih =>
    rw [List.flatMap_cons, List.length_append, List.length_cons]
    have := pnB_pos x
    omega
/-- Of a row as it may be, one pane may stand behind the one ahead. -/
theorem okp_next {G : Ky → Nat} {k s l m : Int} {g : Nat} {x : Pn} {pr : Option Pn} (hf : FineP k s l x) (hc : 1 ≤ x.a.c) (hd : due m x = false) (hg : G x.k = g) (hp : ∀ y, pr = some y → plt y x ∧ (k = 3 → y.k = x.k → y.t ≤ x.f)) : okp G k s l g m pr x = true := by
  unfold okp
  simp only [Bool.and_eq_true, decide_eq_true_eq, Bool.not_eq_true']
  refine ⟨⟨⟨⟨⟨hf.key, hg⟩, hc⟩, hf.fit⟩, hd⟩, ?_⟩
  cases pr with
  | none => rfl
  | some y =>
    obtain ⟨h1, h2⟩ := hp y rfl
    simp only [Bool.or_eq_true, Bool.and_eq_true, decide_eq_true_eq, Bool.not_eq_true', Bool.and_eq_false_iff, decide_eq_false_iff_not]
    rcases h1 with h1 | ⟨h1, h3⟩
    · exact .inl h1
    · refine .inr ⟨⟨h1, h3⟩, ?_⟩
      by_cases h4 : k = 3
      · right
        have := h2 h4 h1
        unfold shr
        simp only [Bool.and_eq_false_iff, decide_eq_false_iff_not]
        right; omega
      · exact .inl h4
theorem rdPs_flat {G : Ky → Nat} {k s l m : Int} {g : Nat} (hw : okW k s l = true) : ∀ (ps : List Pn) (pr : Option Pn) (r : Bs), Fine k s l ps → Pos ps → (∀ x ∈ ps, due m x = false) → (∀ x ∈ ps, G x.k = g) → Sd ps → (k = 3 → ∀ x ∈ ps, ∀ y ∈ ps, x.k = y.k → plt x y → x.t ≤ y.f) → (∀ y, pr = some y → ∀ x ∈ ps, plt y x ∧ (k = 3 → y.k = x.k → y.t ≤ x.f)) → rdPs G k s l g m ps.length pr (ps.flatMap pnB ++ r) = some (ps, r)
  | [], pr, r, _, _, _, _, _, _, _ => rfl
  | x :: ps, pr, r, hf, hc, hd, hg, hs, ha, hp => by
    obtain ⟨s1, s2⟩ := List.pairwise_cons.1 hs
    have ih := rdPs_flat (G := G) (m := m) (g := g) hw ps (some x) r (fun y hy => hf y (by simp [hy])) (fun y hy => hc y (by simp [hy])) (fun y hy => hd y (by simp [hy])) (fun y hy => hg y (by simp [hy])) s2 (fun h y hy z hz => ha h y (by simp [hy]) z (by simp [hz])) (fun y e z hz => by
      injection e with e
      subst e
      exact ⟨s1 z hz, fun h3 hk => ha h3 x (by simp) z (by simp [hz]) hk (s1 z hz)⟩)
    rw [List.flatMap_cons, List.append_assoc, List.length_cons]
    show (rdP (pnB x ++ (ps.flatMap pnB ++ r))).bind _ = _
    rw [rdP_pnB hw (hf x (by simp))]
    simp only [Option.bind_some]
    rw [if_pos (okp_next (hf x (by simp)) (hc x (by simp)) (hd x (by simp)) (hg x (by simp)) (fun y e => hp y e x (by simp))), ih]
    rfl
/-- What is saved is read again. -/
theorem rd_enc {G : Ky → Nat} {k s l m : Int} {g : Nat} {ps : List Pn} (hw : okW k s l = true) (hf : Fine k s l ps) (hI : Inv k s ps m) (hg : g < 16) (hG : ∀ x ∈ ps, G x.k = g) (hc : csum ps ≤ 1000000000) : rd G k s l (encG g m ps) = some (g, m, ps) := by
  have hl : (ps.length : Int) ≤ csum ps := by
    have h := hI.pos
    clear hf hI hG hc
    induction ps with
    | nil => exact Int.le_refl _
    | cons x r ih =>
      have h1 := h x (by simp)
      have h2 := ih (fun y hy => h y (by simp [hy]))
      rw [csum_cons]
      simp only [List.length_cons]
      omega
  have hlo := hI.lo
  have hhi := hI.hi
  unfold rd encG
  rw [rdN_num (by unfold I64; omega)]
  simp only [Option.bind_some]
  rw [rdN_num (by unfold I64; omega)]
  simp only [Option.bind_some]
  rw [rdN_num (by unfold I64; omega)]
  simp only [Option.bind_some]
  have hfl := flat_len ps
  rw [if_pos ⟨by omega, by omega, hlo, hhi, by omega, by simp only [List.length_append]; omega⟩, Int.toNat_natCast, Int.toNat_natCast]
  have h := rdPs_flat (G := G) (m := m) (g := g) hw ps none [] hf hI.pos hI.live hG hI.good.sd (fun h3 => hI.good.apart (decide_eq_true h3)) (fun y e => by cases e)
  rw [List.append_nil] at h
  rw [h]
  simp
end Go.Proofs.Ytlmnkmfpdjkijaa.Ke
