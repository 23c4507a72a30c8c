/-
  An expression's text is read as it. Conditions: none but its length; nothing of a program.
-/
import Derived.Test.YtlkaaembeakicaaDoorEFrame
namespace Go.Proofs.YtlkaaembeakicaaDoor.Ex
open Go.RowKit
/-! ### Digits -/
theorem dig_of {d : Nat} (h : d < 10) : isDig (UInt8.ofNat (48 + d)) = true ∧ (UInt8.ofNat (48 + d)).toNat - 48 = d := by
  have : ∀ n : Fin 10, isDig (UInt8.ofNat (48 + n)) = true ∧ (UInt8.ofNat (48 + n)).toNat - 48 = n := by decide
  exact this ⟨d, h⟩
theorem numVal_snoc (l : Bs) (c : UInt8) : numVal (l ++ [c]) = 10 * numVal l + (c.toNat - 48) := by simp [numVal]
theorem dec_step {u : Nat} (h : ¬ u < 10) : Lib.decDigits u = Lib.decDigits (u / 10) ++ [UInt8.ofNat (48 + u % 10)] := by
  rw [Lib.decDigits, dif_neg h]
theorem dec_all : ∀ (n u : Nat), u < 10 ^ (n + 1) → (Lib.decDigits u ≠ []) ∧ (∀ c ∈ Lib.decDigits u, isDig c = true) ∧ numVal (Lib.decDigits u) = u ∧ (Lib.decDigits u).length ≤ n + 1
  | 0, u, h => by
    have hu : u < 10 := by simpa using h
    obtain ⟨a, b⟩ := dig_of hu
    rw [Lib.decDigits_one hu]
    refine ⟨by simp, ?_, ?_, by simp⟩
    · intro c hc; simp only [List.mem_cons, List.not_mem_nil, or_false] at hc; subst hc; exact a
    · simp only [numVal, List.foldl_cons, List.foldl_nil]; omega
  | n + 1, u, h => by
    by_cases hu : u < 10
    · obtain ⟨a, b⟩ := dig_of hu
      rw [Lib.decDigits_one hu]
      refine ⟨by simp, ?_, ?_, by simp⟩
      · intro c hc; simp only [List.mem_cons, List.not_mem_nil, or_false] at hc; subst hc; exact a
      · simp only [numVal, List.foldl_cons, List.foldl_nil]; omega
    · have h10 : u / 10 < 10 ^ (n + 1) := by
        rw [Nat.pow_succ] at h
        omega
      obtain ⟨a, b, c, d⟩ := dec_all n (u / 10) h10
      obtain ⟨e, f⟩ := dig_of (d := u % 10) (by omega)
      rw [dec_step hu]
      refine ⟨by simp, ?_, ?_, ?_⟩
      · intro x hx
        simp only [List.mem_append, List.mem_cons, List.not_mem_nil, or_false] at hx
        rcases hx with hx | rfl
        · exact b x hx
        · exact e
      · rw [numVal_snoc, c, f]; omega
      · simp; omega
/-! ### Words of a text -/
def Stop (τ : Bs) : Prop := τ = [] ∨ ∃ c post, Bar c ∧ τ = c :: post
theorem runLen_all (P : UInt8 → Bool) {τ : Bs} (hτ : runLen P τ = 0) : ∀ l : Bs, (∀ c ∈ l, P c = true) → runLen P (l ++ τ) = l.length
  | [], _ => hτ
  | x :: r, h => by
    simp only [List.cons_append, runLen, h x (by simp), if_true, List.length_cons]
    rw [runLen_all P hτ r (fun c hc => h c (by simp [hc]))]
theorem stop_run {τ : Bs} (h : Stop τ) : runLen isDig τ = 0 ∧ runLen isLet τ = 0 := by
  rcases h with rfl | ⟨c, post, hc, rfl⟩
  · exact ⟨rfl, rfl⟩
  · obtain ⟨a, b⟩ := hc.dig
    simp [runLen, a, b]
theorem dig_ne32 {c : UInt8} (h : isDig c = true) : c ≠ 32 ∧ c ≠ 61 := by
  constructor <;> (rintro rfl; revert h; decide)
theorem tok_num {l τ : Bs} (h0 : l ≠ []) (hd : ∀ c ∈ l, isDig c = true) (hl : l.length ≤ 18) (hτ : Stop τ) : skip (l ++ τ) = l ++ τ ∧ kindOf (l ++ τ) = 2 ∧ wordOf (l ++ τ) = l := by
  have hr := runLen_all isDig (stop_run hτ).1 l hd
  have hpos : 0 < l.length := by cases l with | nil => exact absurd rfl h0 | cons => simp
  have hne : l ++ τ ≠ [] := by simp [h0]
  have hm : meas (l ++ τ) = (2, l.length) := by
    unfold meas; rw [hr, if_pos hpos, if_neg (by omega)]
  refine ⟨?_, ?_, ?_⟩
  · cases l with
    | nil => exact absurd rfl h0
    | cons c r => exact skip_of_ne (dig_ne32 (hd c (by simp))).1 _
  · unfold kindOf; rw [if_neg hne, hm]
  · unfold wordOf; rw [if_neg hne, hm]; simp
theorem tok_name {c : UInt8} (hc : c = 110 ∨ c = 116 ∨ c = 118) {τ : Bs} (hτ : Stop τ) : skip (c :: τ) = c :: τ ∧ kindOf (c :: τ) = 3 ∧ wordOf (c :: τ) = [c] ∧ isNm [c] = true := by
  have hl : isLet c = true ∧ isDig c = false ∧ isNm [c] = true ∧ c ≠ 32 := by rcases hc with rfl | rfl | rfl <;> decide
  obtain ⟨h1, h2, h3, h4⟩ := hl
  have hm : meas (c :: τ) = (3, 1) := by
    unfold meas
    have e1 : runLen isDig (c :: τ) = 0 := by simp [runLen, h2]
    have e2 : runLen isLet (c :: τ) = 1 := by simp [runLen, h1, (stop_run hτ).2]
    rw [e1, e2, if_neg (by omega), if_pos (by omega), if_pos (by simpa using h3)]
  refine ⟨skip_of_ne h4 _, ?_, ?_, h3⟩
  · unfold kindOf; rw [if_neg (by simp), hm]
  · unfold wordOf; rw [if_neg (by simp), hm]; rfl
theorem tok_sign {t : Bs} (ht : t = [45] ∨ t = [33]) {d : UInt8} (hd : d ≠ 61) (r : Bs) : skip (t ++ d :: r) = t ++ d :: r ∧ kindOf (t ++ d :: r) = 4 ∧ wordOf (t ++ d :: r) = t := by
  rcases ht with rfl | rfl
  · have hm : meas (45 :: d :: r) = (4, 1) := by simp [meas, runLen, isDig, isLet, signLen, two2, one1]
    exact ⟨rfl, by simp [kindOf, hm], by simp [wordOf, hm]⟩
  · have hm : meas (33 :: d :: r) = (4, 1) := by simp [meas, runLen, isDig, isLet, signLen, two2, one1, hd]
    exact ⟨rfl, by simp [kindOf, hm], by simp [wordOf, hm]⟩
theorem tok_op {t : Bs} (ht : t ∈ ops) {d : UInt8} (hd : d = 32 ∨ d = 40) (r : Bs) : skip (t ++ d :: r) = t ++ d :: r ∧ kindOf (t ++ d :: r) = 4 ∧ wordOf (t ++ d :: r) = t := by
  simp only [ops, List.mem_cons, List.not_mem_nil, or_false] at ht
  have key : ∀ t : Bs, meas (t ++ d :: r) = (4, t.length) → t ≠ [] → t.headD 0 ≠ 32 → skip (t ++ d :: r) = t ++ d :: r ∧ kindOf (t ++ d :: r) = 4 ∧ wordOf (t ++ d :: r) = t := by
    intro t hm h0 h32
    have hne : t ++ d :: r ≠ [] := by simp
    refine ⟨?_, ?_, ?_⟩
    · cases t with
      | nil => exact absurd rfl h0
      | cons c q => exact skip_of_ne h32 _
    · unfold kindOf; rw [if_neg hne, hm]
    · unfold wordOf; rw [if_neg hne, hm]; simp
  rcases hd with rfl | rfl <;> rcases ht with rfl | rfl | rfl | rfl | rfl | rfl | rfl | rfl | rfl | rfl | rfl | rfl | rfl <;>
    exact key _ (by simp [meas, runLen, isDig, isLet, signLen, two2, one1]) (by simp) (by simp)
theorem text_head : ∀ {T : Tree}, T.WF → ∃ c r, T.text = c :: r ∧ c ≠ 61
  | .num k, h => by
    obtain ⟨a, b, -, -⟩ := dec_all 17 k (by have hk : k < 1000000000000000000 := h; omega)
    cases hd : Lib.decDigits k with
    | nil => exact absurd hd a
    | cons c r => exact ⟨c, r, hd, (dig_ne32 (b c (by rw [hd]; simp))).2⟩
  | .name c, h => ⟨c, [], rfl, by rcases h with rfl | rfl | rfl <;> decide⟩
  | .pre s x, ⟨h, _⟩ => by
    rcases h with rfl | rfl
    · exact ⟨45, x.text, rfl, by decide⟩
    · exact ⟨33, x.text, rfl, by decide⟩
  | .bin s a b, _ => ⟨40, _, by simp [Tree.text]; rfl, by decide⟩
theorem run_blank {s s' : St} {r r' : Bs} (h : Run s r s' r') (hl : r'.length < r.length) : Run s (32 :: r) s' r' := by
  cases h with
  | refl => omega
  | cons a b =>
    refine .cons ?_ b
    unfold Step at a ⊢
    exact a
/-! ### The text is read -/
theorem text_run : ∀ {T : Tree}, T.WF → ∀ (b : St) (τ : Bs), b.complete = false → b.parts + T.size ≤ 64 → Stop τ →
    ∃ b', Run b (T.text ++ τ) b' τ ∧ b'.complete = true ∧ b'.opn = b.opn ∧ b'.parts = b.parts + T.size ∧ ∀ level, 1 ≤ level → level ≤ 6 → joinL level b'.vals b'.waits = joinL level (T :: b.vals) b.waits
  | .num k, h, b, τ, hc, hp, hτ => by
    obtain ⟨d0, d1, d2, d3⟩ := dec_all 17 k (by have hk : k < 1000000000000000000 := h; omega)
    obtain ⟨t1, t2, t3⟩ := tok_num d0 d1 (by omega) hτ
    refine ⟨{ b with parts := b.parts + 1, vals := .num k :: b.vals, complete := true }, .one ?_, rfl, rfl, rfl, fun _ _ _ => rfl⟩
    have hq := part_num d0 d1
    simp only [Tree.text, Step, t1, t2, t3]
    refine ⟨by decide, err_of_way (.num _ d0 (by omega) d1 hc) (fun _ => by simp only [Tree.size] at hp; omega), ?_, by simp⟩
    rw [count_eq, hq]
    simp [St.put, d2]
  | .name c, h, b, τ, hc, hp, hτ => by
    obtain ⟨t1, t2, t3, t4⟩ := tok_name h hτ
    refine ⟨{ b with parts := b.parts + 1, vals := .name c :: b.vals, complete := true }, .one ?_, rfl, rfl, rfl, fun _ _ _ => rfl⟩
    have hq := part_name t4
    simp only [Tree.text, List.cons_append, List.nil_append, Step, t1, t2, t3]
    refine ⟨by decide, err_of_way (.name _ t4 hc) (fun _ => by simp only [Tree.size] at hp; omega), ?_, by simp⟩
    rw [count_eq, hq]
    simp [St.put]
  | .pre s x, ⟨hs, hx⟩, b, τ, hc, hp, hτ => by
    obtain ⟨d, r, hd, h61⟩ := text_head hx
    obtain ⟨t1, t2, t3⟩ := tok_sign hs h61 (r ++ τ)
    have n40 : s ≠ [40] := by rcases hs with rfl | rfl <;> decide
    have n41 : s ≠ [41] := by rcases hs with rfl | rfl <;> decide
    have hq : isPart 4 s = true := by simp [isPart, n40, n41]
    simp only [Tree.size] at hp
    obtain ⟨b', hR, h1, h2, h3, h4⟩ := text_run hx { b with parts := b.parts + 1, waits := (s, 6) :: b.waits } τ hc (by show b.parts + 1 + x.size ≤ 64; omega) hτ
    refine ⟨b', .cons ?_ hR, h1, h2, by rw [h3]; simp only [Tree.size]; omega, fun level l1 l6 => ?_⟩
    · have e : (Tree.pre s x).text ++ τ = s ++ d :: (r ++ τ) := by simp [Tree.text, hd]
      have e2 : x.text ++ τ = d :: (r ++ τ) := by simp [hd]
      rw [e, e2]
      simp only [Step, t1, t2, t3]
      refine ⟨by decide, err_of_way (.sign _ hc hs) (fun _ => by omega), ?_, by simp⟩
      rw [count_eq, hq]
      unfold St.put
      rw [if_neg (by decide), if_neg (by decide), if_neg (by decide), if_neg n40, if_neg n41, if_neg (by simp [hc])]
      rfl
    · rw [h4 level l1 l6, joinL_pre l6]
  | .bin s a c, ⟨hs, ha, hb⟩, b, τ, hc, hp, hτ => by
    simp only [Tree.size] at hp
    obtain ⟨n40, n41, l1, l5⟩ := ops_no hs
    have e0 : (Tree.bin s a c).text ++ τ = 40 :: (a.text ++ 32 :: (s ++ 32 :: (c.text ++ 41 :: τ))) := by simp [Tree.text]
    rw [e0]
    obtain ⟨b2, hR2, g1, g2, g3, g4⟩ := text_run ha { b with waits := ([40], 0) :: b.waits, opn := b.opn + 1 } (32 :: (s ++ 32 :: (c.text ++ 41 :: τ))) hc (by show b.parts + a.size ≤ 64; omega) (.inr ⟨32, _, .inl rfl, rfl⟩)
    obtain ⟨t1, t2, t3⟩ := tok_op hs (.inl rfl) (c.text ++ 41 :: τ)
    have g3' : b2.parts = b.parts + a.size := g3
    have hj2 : joinL (levelOf s) b2.vals b2.waits = (a :: b.vals, ([40], 0) :: b.waits) := by rw [g4 _ l1 (by omega)]; exact joinL_stop (by omega)
    obtain ⟨b4, hR4, k1, k2, k3, k4⟩ := text_run hb ⟨a :: b.vals, (s, levelOf s) :: ([40], 0) :: b.waits, b.opn + 1, b.parts + a.size + 1, false⟩ (41 :: τ) rfl (by show b.parts + a.size + 1 + c.size ≤ 64; omega) (.inr ⟨41, _, .inr rfl, rfl⟩)
    have k3' : b4.parts = b.parts + a.size + 1 + c.size := k3
    have k2' : b4.opn = b.opn + 1 := k2
    have hj4 : joinL 1 b4.vals b4.waits = (.bin s a c :: b.vals, ([40], 0) :: b.waits) := by
      rw [k4 1 (by omega) (by omega), joinL_bin l1 (by omega)]; exact joinL_stop (by omega)
    refine ⟨⟨.bin s a c :: b.vals, b.waits, b.opn, b.parts + (a.size + 1 + c.size), true⟩, ?_, rfl, rfl, rfl, fun _ _ _ => rfl⟩
    have st1 : Step b (40 :: (a.text ++ 32 :: (s ++ 32 :: (c.text ++ 41 :: τ)))) { b with waits := ([40], 0) :: b.waits, opn := b.opn + 1 } (a.text ++ 32 :: (s ++ 32 :: (c.text ++ 41 :: τ))) := by
      have hk := tok40 (a.text ++ 32 :: (s ++ 32 :: (c.text ++ 41 :: τ)))
      unfold Step
      rw [skip_of_ne (by decide), hk.1, hk.2]
      refine ⟨by decide, err_of_way (.opn hc) (by simp [isPart]), ?_, rfl⟩
      rw [count_eq]
      simp [St.put, isPart]
    have st3 : Step b2 (32 :: (s ++ 32 :: (c.text ++ 41 :: τ))) ⟨a :: b.vals, (s, levelOf s) :: ([40], 0) :: b.waits, b.opn + 1, b.parts + a.size + 1, false⟩ (32 :: (c.text ++ 41 :: τ)) := by
      have hsk : skip (32 :: (s ++ 32 :: (c.text ++ 41 :: τ))) = s ++ 32 :: (c.text ++ 41 :: τ) := t1
      unfold Step
      rw [hsk, t2, t3]
      refine ⟨by decide, err_of_way (.bin _ g1 hs) (fun _ => by omega), ?_, by simp⟩
      have hq : isPart 4 s = true := by simp [isPart, n40, n41]
      rw [count_eq, hq]
      unfold St.put
      rw [if_neg (by decide), if_neg (by decide), if_neg (by decide), if_neg n40, if_neg n41, if_pos (show ({ b2 with parts := b2.parts + 1 } : St).complete = true from g1)]
      unfold St.join
      simp only [if_true, hj2, g3']
      congr 1
      exact g2.symm
    have st5 : Step b4 (41 :: τ) ⟨.bin s a c :: b.vals, b.waits, b.opn, b.parts + (a.size + 1 + c.size), true⟩ τ := by
      have hk := tok41 τ
      unfold Step
      rw [skip_of_ne (by decide), hk.1, hk.2]
      refine ⟨by decide, err_of_way (.close k1 (by omega)) (by simp [isPart]), ?_, rfl⟩
      rw [count_eq]
      have e : ({ b4 with parts := b4.parts + (if isPart 4 [41] then 1 else 0) } : St).put 4 [41] = { b4.join 1 with waits := (b4.join 1).waits.tail, opn := b4.opn - 1 } := by simp [isPart, St.put]
      rw [e]
      unfold St.join
      simp only [hj4, List.tail_cons, k1]
      congr 1
      · omega
      · omega
    refine .cons st1 (hR2.trans (.cons st3 ((run_blank hR4 ?_).trans (.one st5))))
    have : 0 < c.text.length := by obtain ⟨d, r, hd, _⟩ := text_head hb; rw [hd]; simp
    simp; omega
theorem parse_text {T : Tree} (h : T.WF) (hs : T.size ≤ 64) (hl : T.text.length ≤ 200) : parse T.text = .ok T := by
  obtain ⟨b', hR, h1, h2, h3, h4⟩ := text_run h St.init [] rfl (by simp [St.init]; exact hs) (.inl rfl)
  rw [List.append_nil] at hR
  refine run_parse hl hR ⟨rfl, ?_, ?_⟩
  · exact err_of_way (.fin h1 h2) (by simp [isPart])
  · show (joinL 1 b'.vals b'.waits).1 = [T]
    rw [h4 1 (by omega) (by omega)]; rfl
end Go.Proofs.YtlkaaembeakicaaDoor.Ex
