/-
  The law's look at the document's examples of layer 7: they come out. Conditions: none.
-/
import Derived.Test.YtamcocdkhjplfaaHApi
import Derived.Test.YtamcocdkhjplfaaHHash
import Derived.Test.YtamcocdkhjplfaaHMoves
import Derived.Test.YtamcocdkhjplfaaHParts
import Derived.Test.YtamcocdkhjplfaaHRange
namespace Go.Proofs.Ytamcocdkhjplfaa.Gp
set_option linter.unusedVariables false
set_option linter.unusedSimpArgs false
open Go.RowKit
attribute [local go_sem] run_tri

theorem ex_ow : ow 6 3 = 1 := by decide +kernel
theorem ex_lo : lo 1 3 = 6 ∧ lo (1 + 1) 3 = 11 := by decide +kernel
theorem ex_parts : prts 1 3 7 = [1, 4] := by decide +kernel
theorem ex_movs : movs 1 2 16 = [(8, 0, 1), (9, 0, 1), (10, 0, 1), (11, 0, 1), (12, 0, 1), (13, 0, 1), (14, 0, 1), (15, 0, 1)] := by decide +kernel
theorem ex_hash : hs [97] = 3826002220 := by decide +kernel
theorem ex_group : hs [] % 16 = 5 := by decide +kernel
theorem owner_ex (w : World) : Calls Try.prog 12 #[.int .i64 6, .int .i64 3] w fun e w' => e = .returned (.tuple #[.int .i64 1, .int .i64 0]) ∧ w = w' := by
  have := owner_ok (g := 6) (n := 3) (by omega) (by omega) (by omega) w
  rwa [ex_ow] at this
theorem range_ex (w : World) : Calls Try.prog 13 #[.int .i64 1, .int .i64 3] w fun e w' => e = .returned (.tuple #[.int .i64 6, .int .i64 11, .int .i64 0]) ∧ Below w.heap.size w w' := by
  have := range_ok (k := 1) (n := 3) (by omega) (by omega) w
  rwa [ex_lo.1, ex_lo.2] at this
theorem parts_ex (w : World) : Calls Try.prog 14 #[.int .i64 1, .int .i64 3, .int .i64 7] w fun e w' => ∃ v, e = .returned (.tuple #[v, .int .i64 0]) ∧ IntsAt w' v [1, 4] ∧ Below w.heap.size w w' :=
  parts_ok (r := 1) (n := 3) (m := 7) (by omega) (by omega) (by omega) (by omega) ex_parts w
theorem moves_ex (w : World) : Calls Try.prog 19 #[.int .i64 1, .int .i64 2] w fun e w' => ∃ v, e = .returned (.tuple #[v, .int .i64 0]) ∧ TrsAt w' v [(8, 0, 1), (9, 0, 1), (10, 0, 1), (11, 0, 1), (12, 0, 1), (13, 0, 1), (14, 0, 1), (15, 0, 1)] ∧ Below w.heap.size w w' :=
  moves_ok (f := 1) (t := 2) (by omega) (by omega) (by omega) (by omega) ex_movs w
theorem hash_ex (w : World) : Calls Try.prog 8 #[.string ⟨#[97]⟩] w fun e w' => e = .returned (.int .u32 3826002220) ∧ w = w' := by
  have := hash_any ⟨#[97]⟩ w (by decide)
  rwa [show hs (⟨#[97]⟩ : ByteArray).data.toList = 3826002220 from ex_hash] at this
theorem group_ex (w : World) : Calls Try.prog 10 #[.string ⟨#[]⟩] w fun e w' => e = .returned (.int .i64 5) ∧ w = w' := by
  have := group_any ⟨#[]⟩ w (by decide)
  rwa [show hs (⟨#[]⟩ : ByteArray).data.toList % 16 = 5 from ex_group] at this
set_option maxRecDepth 20000 in
set_option maxHeartbeats 4000000 in
theorem awake_any (w : World) : Calls Try.prog 7 #[] w fun e w' => e = .returned (.bool true) ∧ Below w.heap.size w w' := by
  have HB := Lib.hid (Below.refl w.heap.size w)
  go_enter Try.func7, Try.ntmps7
  go_upto_region 5 with (first
    | (go_at_call 12; refine (owner_ex _).mono ?_; rintro e w2 ⟨rfl, rfl⟩)
    | (go_at_call 13; refine (range_ex _).mono ?_; rintro e w2 ⟨rfl, hb2⟩; have HB2 := Lib.hid hb2; clear hb2)
    | (go_at_call 14; refine (parts_ex _).mono ?_; rintro e w3 ⟨v3, rfl, hi3, hb3⟩; obtain ⟨a3, c3, rfl⟩ := hi3.val; have HI3 := Lib.hid hi3; have HB3 := Lib.hid (HB2.out.trans (hb3.mono HB2.out.size)); clear hi3 hb3)
    | (go_at_call 19; refine (moves_ex _).mono ?_; rintro e w4 ⟨v4, rfl, hi4, hb4⟩; obtain ⟨a4, c4, rfl⟩ := hi4.val; have HI4 := Lib.hid hi4; have HJ4 := Lib.hid (HI3.out.grow hb4); have HB4 := Lib.hid (HB3.out.trans (hb4.mono HB3.out.size)); clear hi4 hb4))
  clear HB HB2 HB3 HI3
  obtain ⟨b, o, rfl, hbl, y1⟩ := IntsAt.cell HJ4.out (i := 1) (by decide)
  obtain ⟨b2, o2, rfl, hbl2, z0, z1, z2⟩ := TrsAt.cells HI4.out (i := 0) (by decide)
  replace y1 : w4.cell? ⟨b, o + 1, none⟩ = some (.int .i64 4) := y1
  replace z0 : w4.cell? ⟨b2, o2, none⟩ = some (.int .i64 8) := by simpa using z0
  replace z1 : w4.cell? ⟨b2, o2 + 1, none⟩ = some (.int .i64 0) := by simpa using z1
  replace z2 : w4.cell? ⟨b2, o2 + 2, none⟩ = some (.int .i64 1) := by simpa using z2
  go_wp2_with (first
    | (go_at_call 8; refine (hash_ex _).mono ?_; rintro e w5 ⟨rfl, rfl⟩)
    | (go_at_call 10; refine (group_ex _).mono ?_; rintro e w5 ⟨rfl, rfl⟩))
  go_ret
  exact ⟨rfl, HB4.out⟩
end Go.Proofs.Ytamcocdkhjplfaa.Gp
