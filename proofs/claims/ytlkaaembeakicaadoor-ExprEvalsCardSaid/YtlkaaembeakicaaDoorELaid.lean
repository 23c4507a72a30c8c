/-
  What the listed variables give: the library's table of powers of ten. And a start that meets the list. Conditions: none.
-/
import Derived.Test.YtlkaaembeakicaaDoorEAwake
import Derived.LaidMore
import Derived.MakeChecks
import Derived.Stop.LaidErr
import Derived.Lib.LaidTab
namespace Go.Proofs.YtlkaaembeakicaaDoor.Ex
open Go.RowKit
abbrev laidList : List (String × DataW Unit) := Rows.exprNilRow.laid
theorem door_met (os : Os) (args : Array Value) : laidMetH Tryd.prog laidList ((World.doorLaid Tryd.prog 62 os).forCall (fun _ _ => 0) ⟨#[], args, []⟩).memory :=
  laidMetH_of_parts3 (fuel := 8) (laidMet_of_run' 8 (by kernel_rfl) (by kernel_rfl)) (by kernel_rfl) (by kernel_rfl)
theorem tab_type : (Tryd.prog.globals[3]?).map (·.type) = some 115 := by kernel_rfl
theorem tab_of_laid {W : World} (h : laidMetH Tryd.prog laidList W) : Tab W := by
  rw [MakeChecks.laidMetH_plain _ _ _ (by kernel_rfl)] at h
  have h2 := h.tail.tail
  have ht : Lib.TabIs Tryd.prog W "internal/strconv.uint64pow10" .u64 Lib.pow10Tab :=
    Lib.tabIs_of_head tab_global tab_type Tryd.underlying115 Tryd.underlying98 (by kernel_rfl) (by kernel_rfl) h2
  exact ⟨ht, World.block_lt_of_cell? W _ (ht.cell tab_global 0 (by decide))⟩
end Go.Proofs.YtlkaaembeakicaaDoor.Ex
