/-
  The law's look at the document's examples of layer 11: they come out; is a script small. Conditions: none.
-/
import Derived.Test.YtlmnkmfpdjkijaaKSet
import Derived.Deep.DeepCutAuto
namespace Go.Proofs.Ytlmnkmfpdjkijaa.Ke
set_option linter.unusedVariables false
set_option linter.unusedSimpArgs false
open Go.RowKit

theorem run_rc (w : World) (k k' : Ky) (a b a' b' : Int) : (Op.equalIn 10000 32 (.agg #[kyV k, .int .i64 a, .int .i64 b]) (.agg #[kyV k', .int .i64 a', .int .i64 b'])).run Try.prog w = .ok (k == k' && (a == a' && b == b')) w := by
  rw [run_equalIn_struct w 9999 _ _ _ (by kernel_rfl) (by kernel_rfl)]
  have hf : (Try.prog.fieldsOf 32).toList.map (fun f => (f.name, f.type, f.offset)) = [("Key", 9, 0), ("Time", 3, 1), ("Value", 3, 2)] := by kernel_rfl
  generalize (Try.prog.fieldsOf 32).toList = fs at hf
  match fs with
  | [] => simp at hf
  | [_] => simp at hf
  | [_, _] => simp at hf
  | _ :: _ :: _ :: _ :: _ => simp at hf
  | [f, g, h] =>
    simp only [List.map_cons, List.map_nil, List.cons.injEq, Prod.mk.injEq, and_true] at hf
    obtain ⟨⟨f1, f2, f3⟩, ⟨g1, g2, g3⟩, h1, h2, h3⟩ := hf
    have hp : Try.prog.plainKey 3 = true := by kernel_rfl
    have hp9 : Try.prog.plainKey 9 = true := by kernel_rfl
    have p0 : ∀ (x y z : Value) (w : World), (part 9 #[x, y, z] 0).run Try.prog w = .ok x w := fun x y z w => run_part_plain w hp9 rfl
    have p1 : ∀ (x y z : Value) (w : World), (part 3 #[x, y, z] 1).run Try.prog w = .ok y w := fun x y z w => run_part_plain w hp rfl
    have p2 : ∀ (x y z : Value) (w : World), (part 3 #[x, y, z] 2).run Try.prog w = .ok z w := fun x y z w => run_part_plain w hp rfl
    have he : ∀ (x y : Int) (w : World), (Op.equalIn 9999 3 (.int .i64 x) (.int .i64 y)).run Try.prog w = .ok (x == y) w := fun x y w => run_equalIn_int w 9998 3 .i64 .i64 x y Try.underlying3
    have hs : ∀ (x y : Ky) (w : World), (Op.equalIn 9999 9 (kyV x) (kyV y)).run Try.prog w = .ok (x == y) w := fun x y w => by
      have := run_equalIn_string w 9998 9 ⟨x.toArray⟩ ⟨y.toArray⟩ Try.underlying9
      rw [this, ByteArray.toList_eq, ByteArray.toList_eq]
    cases ha : (k == k') <;> cases hb : (a == a') <;> cases hc : (b == b') <;> simp [Op.eqFields, f1, f2, f3, g1, g2, g3, h1, h2, h3, Sem.run_bind, Result.andThen_ok, p0, p1, p2, he, hs, ha, hb, hc]
theorem run_sp (w : World) (a b c d : Int) : (Op.equalIn 10000 49 (.agg #[.int .i64 a, .int .i64 b]) (.agg #[.int .i64 c, .int .i64 d])).run Try.prog w = .ok (a == c && b == d) w := by
  rw [run_equalIn_struct w 9999 _ _ _ (by kernel_rfl) (by kernel_rfl)]
  have hf : (Try.prog.fieldsOf 49).toList.map (fun f => (f.name, f.type, f.offset)) = [("From", 3, 0), ("To", 3, 1)] := by kernel_rfl
  generalize (Try.prog.fieldsOf 49).toList = fs at hf
  match fs with
  | [] => simp at hf
  | [_] => simp at hf
  | _ :: _ :: _ :: _ => simp at hf
  | [f, g] =>
    simp only [List.map_cons, List.map_nil, List.cons.injEq, Prod.mk.injEq, and_true] at hf
    obtain ⟨⟨f1, f2, f3⟩, g1, g2, g3⟩ := hf
    have hp : Try.prog.plainKey 3 = true := by kernel_rfl
    have h0 : ∀ (x y : Value) (w : World), (part 3 #[x, y] 0).run Try.prog w = .ok x w := fun x y w => run_part_plain w hp rfl
    have h1 : ∀ (x y : Value) (w : World), (part 3 #[x, y] 1).run Try.prog w = .ok y w := fun x y w => run_part_plain w hp rfl
    have he : ∀ (x y : Int) (w : World), (Op.equalIn 9999 3 (.int .i64 x) (.int .i64 y)).run Try.prog w = .ok (x == y) w := fun x y w => run_equalIn_int w 9998 3 .i64 .i64 x y Try.underlying3
    cases ha : (a == c) <;> cases hb : (b == d) <;> simp [Op.eqFields, f1, f2, f3, g1, g2, g3, Sem.run_bind, Result.andThen_ok, h0, h1, he, ha, hb]
/-- The examples, in the mathematics. -/
abbrev C1 : Cfg := ⟨1, 10, 0, 2⟩
def q1 := sPut C1 [] 0 ⟨[97], 3, 5⟩
def q2 := sPut C1 q1.1 0 ⟨[97], 9, 1⟩
def q3 := sPut C1 q2.1 0 ⟨[98], 12, 4⟩
def q4 := sMark C1 q3.1 0 10
def q5 := sPut C1 q4.1 10 ⟨[97], 9, 1⟩
theorem q1_is : sPut C1 [] 0 ⟨[97], 3, 5⟩ = (q1.1, [], 0) := by kernel_rfl
theorem q2_is : sPut C1 q1.1 0 ⟨[97], 9, 1⟩ = (q2.1, [], 0) := by kernel_rfl
theorem q3_is : sPut C1 q2.1 0 ⟨[98], 12, 4⟩ = (q3.1, [], 0) := by kernel_rfl
theorem q4_is : sMark C1 q3.1 0 10 = (q4.1, 10, [⟨[97], 9, 6⟩], 0) := by kernel_rfl
theorem q5_is : sPut C1 q4.1 10 ⟨[97], 9, 1⟩ = (q4.1, [], 7) := by kernel_rfl
theorem q4_l : q4.1 = [⟨[98], 10, 20, ⟨1, 4, 4, 4⟩⟩] := by kernel_rfl
theorem qc : 100 + csum ([] : List Pn) ≤ 1000000 ∧ 100 + csum q1.1 ≤ 1000000 ∧ 100 + csum q2.1 ≤ 1000000 ∧ 100 + csum q4.1 ≤ 1000000 := by
  refine ⟨by decide, ?_, ?_, ?_⟩
  · have : csum q1.1 = 1 := by kernel_rfl
    omega
  · have : csum q2.1 = 2 := by kernel_rfl
    omega
  · have : csum q4.1 = 1 := by kernel_rfl
    omega
theorem Lst.kept {α : Type} {k : Nat} {D : α → List Value} {w w' : World} {v : Value} {L : List α} {X : Nat → Prop} (h : Lst k D w v L) (hk : Kept X w w') (hx : ∀ g, v.ownBlock = some g → X g) : Lst k D w' v L := by
  obtain ⟨a, cap, h1, h2, h3, h3', h4⟩ := h
  refine ⟨a, cap, h1, h2, h3, h3', fun h0 => ?_⟩
  obtain ⟨b, o, e, hl, hc⟩ := h4 h0
  have hX : X b := hx b (by rw [h1, e]; rfl)
  have hb := hk.2 b hX
  exact ⟨b, o, e, Nat.lt_of_lt_of_le hl hk.1, fun i x hi j u hj => by rw [World.cell?_of_block (w := w) hb]; exact hc i x hi j u hj⟩
theorem i64_0 {z : Int} (h : decide (-9223372036854775808 ≤ z) && decide (z ≤ 9223372036854775807) = true) : I64 z := by
  unfold I64
  simpa using h
attribute [local go_sem] run_rc run_sp
set_option maxRecDepth 20000 in
set_option maxHeartbeats 2000000 in
theorem awake_any (w : World) : Calls Try.prog 12 #[] w fun e w' => e = .returned (.bool true) ∧ Below w.heap.size w w' := by
  obtain ⟨c0, c1, c2, c4⟩ := qc
  have HC0 := Lib.hid c0
  have HC1 := Lib.hid c1
  have HC2 := Lib.hid c2
  have HC4 := Lib.hid c4
  have H0 := Lib.hid (Fam.none w (Below.refl _ _) C1 (fun _ => 0) (fun _ => []) (fun _ => 0))
  clear c0 c1 c2 c4
  go_enter Try.func12, Try.ntmps12
  go_upto_region 2 with (go_at_call 11; refine (H0.out.new (by rfl)).mono ?_; rintro e w1 ⟨g, rfl, hf1, -⟩; have H1 := Lib.hid hf1; clear hf1 H0)
  go_upto_region 5 with (go_at_call 13; refine (H1.out.put (i := 0) (by omega) (upd_same _ _ _) (upd_same _ _ _) (upd_same _ _ _) (r := ⟨[97], 3, 5⟩) (i64_0 (by decide)) HC0.out q1_is).mono ?_; rintro e w2 ⟨v2, rfl, -, hf2, -⟩; have H2 := Lib.hid hf2; clear hf2 H1)
  go_upto_region 6 with (go_at_call 13; refine (H2.out.put (i := 0) (by omega) (upd_same _ _ _) (upd_same _ _ _) (upd_same _ _ _) (r := ⟨[97], 9, 1⟩) (i64_0 (by decide)) HC1.out q2_is).mono ?_; rintro e w3 ⟨v3, rfl, -, hf3, -⟩; have H3 := Lib.hid hf3; clear hf3 H2)
  go_upto_region 7 with (go_at_call 13; refine (H3.out.put (i := 0) (by omega) (upd_same _ _ _) (upd_same _ _ _) (upd_same _ _ _) (r := ⟨[98], 12, 4⟩) (i64_0 (by decide)) HC2.out q3_is).mono ?_; rintro e w4 ⟨v4, rfl, -, hf4, -⟩; have H4 := Lib.hid hf4; clear hf4 H3)
  go_upto_region 8 with (go_at_call 16; refine (H4.out.mark (i := 0) (by omega) (upd_same _ _ _) (upd_same _ _ _) (upd_same _ _ _) (x := 10) q4_is).mono ?_; rintro e w5 ⟨v5, rfl, hr5, hf5, -⟩; obtain ⟨a5, c5, rfl⟩ := Lst.val hr5; have H5 := Lib.hid hf5; have R5 := Lib.hid hr5; clear hf5 hr5 H4)
  go_upto_region 9 with (go_at_call 13; refine (H5.out.put (i := 0) (by omega) (upd_same _ _ _) (upd_same _ _ _) (upd_same _ _ _) (r := ⟨[97], 9, 1⟩) (i64_0 (by decide)) HC4.out q5_is).mono ?_; rintro e w6 ⟨v6, rfl, -, hf6, hk6⟩; have H6 := Lib.hid hf6; have R6 := Lib.hid (Lst.kept R5.out hk6 (fun q e => .inr e)); clear hf6 hk6 H5 R5)
  go_upto_region 10 with (go_at_call 17; refine (H6.out.open_ (i := 0) (by omega) (upd_same _ _ _) (upd_same _ _ _)).mono ?_; rintro e w7 ⟨v7, rfl, hp7, hf7, hb7⟩; rw [q4_l] at hp7; obtain ⟨a7, c7, rfl⟩ := Lst.val hp7; have H7 := Lib.hid hf7.below; have R7 := Lib.hid (Lst.grow R6.out hb7); have P7 := Lib.hid hp7; clear hf7 hb7 hp7 H6 R6)
  obtain ⟨b5, o5, ha5, -, r0, r1, r2⟩ := RcsAt.cells R7.out (i := 0) (by simp)
  obtain ⟨b7, o7, ha7, -, p0, p1, p2, p3, p4, p5, p6⟩ := PnsAt.cells P7.out (i := 0) (by simp)
  subst ha5 ha7
  simp only [List.getElem_cons_zero, Nat.zero_mul, Nat.add_zero] at r0 r1 r2 p0 p1 p2 p3 p4 p5 p6
  clear R7 P7
  go_wp2
  go_ret
  exact ⟨rfl, H7.out⟩
end Go.Proofs.Ytlmnkmfpdjkijaa.Ke
