/- Salt: the program's table, as the card lays it. -/
import Derived.Test.YtffepndeegbdoaaGreatDoorRows
import Derived.Test.YtffepndeegbdoaaGreatDoorPdg
import Derived.Lib.LaidU8
set_option linter.unusedVariables false
set_option maxRecDepth 100000
namespace Go.Proofs.YtffepndeegbdoaaGreatDoor.Slt
open Go.RowKit Go.Lib Go.Proofs.YtffepndeegbdoaaGreatDoor.Bx

def rootsTab : List Int := K0.map fun x : Nat => (x : Int)
theorem laid_is : (Rows.laid_chancel_salt_roots : DataW Unit) = tabData .u32 rootsTab := by kernel_rfl
theorem roots_of {w : World} (h : VarReads Tryz.prog w "chancel/salt.roots" Rows.laid_chancel_salt_roots) : Roots w := by
  rw [laid_is] at h
  obtain ⟨g, t, cs, fuel, p, hg, hty, hvar, hd⟩ := h
  obtain rfl := Option.some.inj ((show Tryz.prog.globalNamed "chancel/salt.roots" = some 0 by kernel_rfl).symm.trans hg)
  obtain rfl := Option.some.inj ((show (Tryz.prog.globals[0]?).map (·.type) = some 153 by kernel_rfl).symm.trans hty)
  have hcs := cells_of_tab Tryz.underlying153 Tryz.underlying72 (by kernel_rfl) (by kernel_rfl) hd
  intro t ht
  have := World.var?_cell hg hvar t
  rw [this, ← Array.getElem?_toList, hcs]
  have hl : K0.length = 64 := rfl
  unfold rootsTab
  rw [List.map_map, List.getElem?_map, List.getD_eq_getElem?_getD, List.getElem?_eq_getElem (by omega)]
  rfl
end Go.Proofs.YtffepndeegbdoaaGreatDoor.Slt
