/- Words: what writes, of the plain text: number, text, flag, Count. -/
import Derived.Test.YtffejfpbeimngaaDoorGa
import Derived.Test.YtffejfpbeimngaaDoorRw
import Derived.OpenShut
import Derived.Lib.Strings
import Derived.BigQuiet
import Derived.Deep.DeepCutAuto
import Derived.Deep.CutBlock
import Derived.Deep.LoopGhost
import Derived.Deep.RegionHeld3
import Derived.Laws.Strings3
set_option linter.unusedVariables false
set_option linter.unusedSimpArgs false
set_option maxRecDepth 100000
namespace Go.Proofs.YtffejfpbeimngaaDoor.Wds
open Go.RowKit Go.Lib Go.Proofs.YtffejfpbeimngaaDoor.Bx Go.Proofs.YtffejfpbeimngaaDoor.Frm

theorem d_drews {B : Nat} {a w : World} (h : Below B a w) (n : Nat) : Below B a (w.drewN n) := ⟨h.os, h.tape, h.output, h.size, h.block⟩
theorem infoU8 : (Tryd.prog.info? 5).map (fun i => (i.zero, i.size, i.bytes)) = some (some (.int .u8 0), 1, 1) := by kernel_rfl
def cellsB (l : List UInt8) : List (List Value) := l.map fun x => [Value.int .u8 (x.toNat : Nat)]
theorem cellsB_len (l : List UInt8) : (cellsB l).length = l.length := List.length_map _
theorem cellsB_app (X Y : List UInt8) : cellsB (X ++ Y) = cellsB X ++ cellsB Y := List.map_append
theorem cellsB_one (X : List UInt8) : ∀ z ∈ cellsB X, ∀ q ∈ z, q.oneCell' = true := fun z hz q hq => by
  obtain ⟨x, _, rfl⟩ := List.mem_map.1 hz
  simp only [List.mem_singleton] at hq
  subst hq
  rfl
theorem addr_add (b j : Nat) : (⟨b, 0, none⟩ : Addr).add j = ⟨b, j, none⟩ := by unfold Addr.add; split <;> simp_all
/-- The bytes of a row as a text. -/
theorem row_text {w : World} {a : Option Addr} {n cap : Nat} {l : List UInt8} (h : Rk.RowK 1 w (.slice a n cap) (cellsB l)) (h0 : l ≠ []) : (convert 59 9 (.slice a n cap)).run Tryd.prog w = .ok (.string (mkB l)) w := by
  obtain ⟨_, a', cap', e, h1, h2, h3⟩ := h
  injection e with e1 e2 e3
  subst e1 e2 e3
  rcases h3 with h3 | ⟨b, off, rfl, hb, hc⟩
  · have : l.length = 0 := by rw [← cellsB_len, h3]; rfl
    exact absurd (List.eq_nil_of_length_eq_zero this) h0
  · have h := run_convert_bytes_back (P := Tryd.prog) w 59 9 5 ⟨b, off, none⟩ cap l Tryd.underlying59 Tryd.underlying5 Tryd.underlying9 (fun j hj => by
      have hc' := hc j (by rw [cellsB_len]; exact hj) 0
      unfold cellsB at hc'
      simp only [List.getElem_map, Nat.mul_one, Nat.add_zero] at hc'
      rw [show (⟨b, off, none⟩ : Addr).add j = ⟨b, off + j, none⟩ from by unfold Addr.add; split <;> simp_all]
      exact hc' _ rfl)
    rw [cellsB_len]
    exact h
theorem wrap_u64 (n : Int) : IntKind.u64.wrap n = (u64 n : Nat) := by
  rw [u64_int]
  rfl
theorem num_next {n : Int} {j : Nat} (h : j < 8) : (numL n).take (j + 1) = (numL n).take j ++ [byteN n j] := by
  rw [List.take_succ_eq_append_getElem (by rw [num_len]; exact h)]
  congr
  unfold numL
  rw [List.getElem_map, List.getElem_range]
end Go.Proofs.YtffejfpbeimngaaDoor.Wds
