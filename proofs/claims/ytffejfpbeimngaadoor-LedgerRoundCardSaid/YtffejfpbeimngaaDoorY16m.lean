/- Maps as functions of their keys, whatever their values are. -/
import Derived.Test.YtffejfpbeimngaaDoorY16i
import Derived.Maps.OwnSet
import Derived.Maps.Views
import Derived.StringKeys
import Derived.Lib.MapLaws
set_option linter.unusedVariables false
set_option linter.unusedSimpArgs false
set_option maxRecDepth 100000
namespace Go.Proofs.YtffejfpbeimngaaDoor.Plt
open Go.RowKit Go.Lib Go.Proofs.YtffejfpbeimngaaDoor.Bx
open Go.Maps (Keyed)

def rawR (v : Value) : Option (DataW Value × List MemPlace) := some (.held v, [])
/-- Block b is a map of n entries at most, which has at each key what f says. -/
def MapF (P : Program) (k : TypeId) (w : World) (b n : Nat) (f : Lit → Option Value) : Prop :=
  ∃ D : DataW Value, w.ownsMap P k rawR b n D ∧ Maps.IsMap D ∧ ∀ kl, WideAt.IsKeyLit kl → Maps.has D kl = (f kl).isSome ∧ ∀ z, D.atKey kl (.held z) = .held ((f kl).getD z)
section
variable {P : Program} {k t e : TypeId} {w w' : World} {b n : Nat} {f : Lit → Option Value}
theorem MapF.made (P : Program) (k : TypeId) (w : World) : MapF P k (w.alloc (.map #[] 0)) w.heap.size 0 (fun _ => none) :=
  ⟨.map [], World.ownsMap_made _ _ _ _, ⟨[], rfl⟩, fun kl _ => ⟨rfl, fun z => rfl⟩⟩
theorem MapF.same (h : MapF P k w b n f) (hs : w'.heap[b]? = w.heap[b]?) : MapF P k w' b n f := by
  obtain ⟨D, ⟨es, clock, h1, h2⟩, h3⟩ := h
  exact ⟨D, ⟨es, clock, by rw [hs]; exact h1, h2⟩, h3⟩
theorem MapF.lt (h : MapF P k w b n f) : b < w.heap.size := by
  obtain ⟨D, h1, _⟩ := h
  exact h1.lt
theorem MapF.mono (h : MapF P k w b n f) {n' : Nat} (hn : n ≤ n') : MapF P k w b n' f := by
  obtain ⟨D, h1, h2⟩ := h
  exact ⟨D, h1.mono hn, h2⟩
theorem MapF.look (h : MapF P k w b n f) (K : Keyed P k) (ht : P.underlying t = some (.map k e)) {z : Value} (hz : (zeroValue e).run P w = .ok z w) {key : Value} {kl : Lit} (hkey : keyOf P k key = some kl) (hkl : WideAt.IsKeyLit kl) : (Instr.lookup t (.map (some b)) key false).run P w = .ok ((f kl).getD z) w := by
  obtain ⟨D, h1, h2, h3⟩ := h
  obtain ⟨v, ps, hrun, hv⟩ := h1.lookup K ht hz (zd := .held z) (zp := []) rfl hkey
  have := (h3 kl hkl).2 z
  unfold rawR at hv
  injection hv with hv
  injection hv with hv _
  rw [this] at hv
  injection hv with hv
  rw [hrun, hv]
theorem MapF.look_ok (h : MapF P k w b n f) (K : Keyed P k) (ht : P.underlying t = some (.map k e)) {z : Value} (hz : (zeroValue e).run P w = .ok z w) {key : Value} {kl : Lit} (hkey : keyOf P k key = some kl) (hkl : WideAt.IsKeyLit kl) : (Instr.lookup t (.map (some b)) key true).run P w = .ok (.tuple #[(f kl).getD z, .bool (f kl).isSome]) w := by
  obtain ⟨D, h1, h2, h3⟩ := h
  obtain ⟨v, ps, hrun, hv⟩ := h1.look_ok K ht hz (zd := .held z) (zp := []) rfl hkey
  have := (h3 kl hkl).2 z
  unfold rawR at hv
  injection hv with hv
  injection hv with hv _
  rw [this] at hv
  injection hv with hv
  rw [hrun, hv, (h3 kl hkl).1]
open Classical in
noncomputable def putO (f : Lit → Option Value) (kl : Lit) (v : Value) : Lit → Option Value := fun q => if q = kl then some v else f q
theorem putO_same (f : Lit → Option Value) (kl : Lit) (v : Value) : putO f kl v kl = some v := by simp [putO]
theorem putO_other (f : Lit → Option Value) {kl q : Lit} (v : Value) (h : q ≠ kl) : putO f kl v q = f q := by simp [putO, h]
theorem MapF.put (h : MapF P k w b n f) (K : Keyed P k) (ht : P.underlying t = some (.map k e)) (hn : n < maxLen) {key : Value} {kl : Lit} (v : Value) (hkey : keyOf P k key = some kl) (hkl : WideAt.IsKeyLit kl) : ∃ w', (Instr.mapUpdate t (.map (some b)) key v).run P w = .ok () w' ∧ MapF P k w' b (n + 1) (putO f kl v) ∧ w.grownBy w' (some b) ∧ w'.heap.size = w.heap.size := by
  obtain ⟨D, h1, h2, h3⟩ := h
  obtain ⟨w', hr, q1, q2⟩ := h1.store K ht hn hkey (val := v) (d := .held v) (ps := []) rfl
  refine ⟨w', hr, ⟨_, q1, q1.isMap, fun q hq => ?_⟩, q2.grown, by obtain ⟨_, _, _, _, _, rfl⟩ := q2; simp [ChangeMaps.setBlock]⟩
  by_cases e : q = kl
  · subst e
    rw [putO_same]
    exact ⟨Maps.has_put_same h2 hq _, fun z => Maps.atKey_put_same h2 hq _ _⟩
  · rw [putO_other _ _ e]
    exact ⟨(Maps.has_put_other e _).trans (h3 q hq).1, fun z => (Maps.atKey_put_other e _ _).trans ((h3 q hq).2 z)⟩
theorem wpList_mapset {ops : Array Oper} {rest : List Oper} {o : Oper} {a : Act} {Q : Exit → Act → World → Prop} (hg : o.guard = none) (m x v : Operand) (t : TypeId) (hop : o.op = Op.mapUpdate t m x v ∨ o.op = Op.insert t m x v)
    (mv xv vv : Value) (hm : a.eval m = mv) (hx : a.eval x = xv) (hv : a.eval v = vv) (hr : (Instr.mapUpdate t mv xv vv).run P w = .ok () w') (h : wpList P ops Q rest (a.put o.dst undef) w') : wpList P ops Q (o :: rest) a w := by
  refine wpList_plain hg fun K' hK' => ?_
  unfold Oper.wp
  rcases hop with hop | hop
  all_goals (
    simp [execOp, hop, hm, hx, hv, hr, Result.andThen]
    exact hK' _ _ h)
end
theorem keyS {s : ByteArray} (h : s.size ≤ maxLen) : keyOf Tryd.prog 9 (.string s) = some (.string s.data.toList) := WideMaps.keyOf_string_mk Tryd.underlying9 h
theorem klawS : Keyed Tryd.prog 9 := Maps.string_keyed Tryd.underlying9
theorem klawI : Keyed Tryd.prog 3 := Maps.int_keyed Tryd.underlying3
theorem keyI (i : Nat) (h : i ≤ 16384) : keyOf Tryd.prog 3 (.int .i64 (i : Nat)) = some (.int .i64 (i : Nat)) := Maps.keyOf_int_mk Tryd.underlying3 (by
  simp [Lit.wf, IntKind.min, IntKind.max, IntKind.signed, IntKind.bits]
  omega)
theorem isKeyS (l : List UInt8) : WideAt.IsKeyLit (.string l) := by first | trivial | (unfold WideAt.IsKeyLit; trivial)
theorem isKeyI (i : Int) : WideAt.IsKeyLit (.int .i64 i) := by first | trivial | (unfold WideAt.IsKeyLit; trivial)
theorem zeroB (w : World) : (zeroValue 4).run Tryd.prog w = .ok (.bool false) w := by kernel_rfl
theorem zeroS (w : World) : (zeroValue 9).run Tryd.prog w = .ok (.string ByteArray.empty) w := by kernel_rfl
theorem zeroSS (w : World) : (zeroValue 22).run Tryd.prog w = .ok (.slice none 0 0) w := by kernel_rfl
end Go.Proofs.YtffejfpbeimngaaDoor.Plt
