/- Frame: arguments that are rows of texts and of ints. -/
import Derived.Test.YtffejfpbeimngaaDoorFh
import Derived.Test.YtffejfpbeimngaaDoorRo
set_option linter.unusedVariables false
set_option maxRecDepth 100000
set_option linter.unusedSimpArgs false
namespace Go.Proofs.YtffejfpbeimngaaDoor.Frm
open Go.RowKit Go.Lib Go.Proofs.YtffejfpbeimngaaDoor.Bx

section
open Go.ChangeShapes Go.WideShapes Go.Deep
variable {H : Type} {enc : TypeId × Value → H}
theorem cellsOf_string : Tryd.prog.cellsOf 9 = 1 := by kernel_rfl
theorem cellsOf_int : Tryd.prog.cellsOf 3 = 1 := by kernel_rfl
theorem open_strs {W : World} {v : Value} {d : DataW H} {p : List MemPlace} {base : Nat} (hv : Value.okWide Tryd.prog W .any base 22 v) (h : DataW.Trod enc Tryd.prog W 0 (fun _ => true) true 22 v d p) : ∃ X : List (List UInt8), Strs W v X ∧ ∀ x ∈ X, x.length ≤ maxLen := by
  obtain ⟨A, q, hA, hr, hR⟩ := Rk.open_rows (R := fun _ cs (t : List UInt8) => cs = [.string (mkB t)] ∧ t.length ≤ maxLen) Tryd.underlying22 cellsOf_string (by decide) hv h fun m cs x hl ht => by
    obtain ⟨s, e, _, hs⟩ := DataW.trod_string Tryd.underlying9 ht
    exact ⟨s.data.toList, by rw [e, mkB_self], by rw [Array.length_toList]; exact hs⟩
  subst hA
  refine ⟨q.map Prod.snd, ?_, fun x hx => ?_⟩
  · have e : cellsT (q.map Prod.snd) = q.map Prod.fst := by
      unfold cellsT
      rw [List.map_map]
      exact List.map_congr_left fun x hx => (hR x hx).1.symm
    show Rk.RowK 1 W v _
    rw [e]
    exact hr
  · obtain ⟨y, hy, rfl⟩ := List.mem_map.1 hx
    exact (hR y hy).2
theorem open_ints {W : World} {v : Value} {d : DataW H} {p : List MemPlace} {base : Nat} (hv : Value.okWide Tryd.prog W .any base 42 v) (h : DataW.Trod enc Tryd.prog W 0 (fun _ => true) true 42 v d p) : ∃ X : List Int, IntR W v X := by
  obtain ⟨A, q, hA, hr, hR⟩ := Rk.open_rows (R := fun _ cs (t : Int) => cs = [.int .i64 t] ∧ in64 t) Tryd.underlying42 cellsOf_int (by decide) hv h fun m cs x hl ht => by
    obtain ⟨s, e, _, hs⟩ := DataW.trod_int Tryd.underlying3 ht
    exact ⟨s, e, by simpa [in64, Lit.wf, IntKind.min, IntKind.max, IntKind.signed, IntKind.bits] using hs⟩
  subst hA
  refine ⟨q.map Prod.snd, ?_, fun x hx => ?_⟩
  · have e : cellsI (q.map Prod.snd) = q.map Prod.fst := by
      unfold cellsI
      rw [List.map_map]
      exact List.map_congr_left fun x hx => (hR x hx).1.symm
    rw [e]
    exact hr
  · obtain ⟨y, hy, rfl⟩ := List.mem_map.1 hx
    exact (hR y hy).2
end
end Go.Proofs.YtffejfpbeimngaaDoor.Frm
