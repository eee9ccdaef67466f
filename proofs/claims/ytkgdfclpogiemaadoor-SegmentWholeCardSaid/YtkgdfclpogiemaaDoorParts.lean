/- An array of three numbers that came in; two parts that meet are the whole. -/
import Derived.Test.YtkgdfclpogiemaaDoorLift
import Derived.Test.YtkgdfclpogiemaaDoorQL2
import Derived.WideKeyArr2
set_option linter.unusedVariables false
namespace Go.Proofs.YtkgdfclpogiemaaDoor.Lift
open Go.ChangeShapes Go.WideShapes Go.ChangeAt Go.RowKit Go.Proofs.YtkgdfclpogiemaaDoor.Let
section
variable {H : Type} {enc : TypeId × Value → H} {P : Program} {w : World} {base : Nat} {spare : Nat → Bool} {held : Bool}

theorem open_int3 {t e : TypeId} (ht : P.underlying t = some (.array 3 e)) (he : P.underlying e = some (.int .i64)) (hce : P.cellsOf e = 1) (hct : P.cellsOf t = 3) {r : Reach} {b0 : Nat} {v : Value} {d : DataW H} {p : List MemPlace}
    (hv : Value.okWide P w r b0 t v) (h : DataW.Trod enc P w base spare held t v d p) :
    ∃ a b c : Int, v = .agg #[.int .i64 a, .int .i64 b, .int .i64 c] ∧ (-9223372036854775808 ≤ a ∧ a ≤ 9223372036854775807) ∧ (-9223372036854775808 ≤ b ∧ b ≤ 9223372036854775807) ∧ (-9223372036854775808 ≤ c ∧ c ≤ 9223372036854775807) := by
  simp only [Value.okWide, ht] at hv
  obtain ⟨cs, rfl, hsz, _⟩ := hv
  rw [hct] at hsz
  obtain ⟨c0, c1, c2, rfl⟩ : ∃ c0 c1 c2, cs = #[c0, c1, c2] := by
    obtain ⟨l⟩ := cs
    match l, hsz with
    | [a, b, c], _ => exact ⟨a, b, c, rfl⟩
  obtain ⟨fuel, hf⟩ := h
  obtain ⟨ys, m, _, hx, _, hl, hg⟩ := DataW.trod_array ht hf
  have g0 := hg 0 (by omega)
  have g1 := hg 1 (by omega)
  have g2 := hg 2 (by omega)
  simp only [hce, Value.cells] at g0 g1 g2
  match ys, hl with
  | [y0, y1, y2], _ =>
    obtain ⟨a, e0, _, wa⟩ := DataW.trod_int he g0
    obtain ⟨b, e1, _, wb⟩ := DataW.trod_int he g1
    obtain ⟨c, e2, _, wc⟩ := DataW.trod_int he g2
    simp at e0 e1 e2
    subst e0 e1 e2
    exact ⟨a, b, c, rfl, by simpa [Lit.wf, IntKind.min, IntKind.max, IntKind.signed, IntKind.bits] using wa, by simpa [Lit.wf, IntKind.min, IntKind.max, IntKind.signed, IntKind.bits] using wb, by simpa [Lit.wf, IntKind.min, IntKind.max, IntKind.signed, IntKind.bits] using wc⟩
end

theorem cut_len (l : List UInt8) (a b : Int) : (cut l a b).length ≤ l.length := by
  unfold cut
  rw [List.length_drop, List.length_take]
  omega

theorem cut_meet (l : List UInt8) {a b c : Int} (h1 : a ≤ b) (h2 : b ≤ c) : cut l a b ++ cut l b c = cut l a c := by
  have m1 := byt_mono (show a.toNat ≤ b.toNat by omega) l
  have m2 := byt_mono (show b.toNat ≤ c.toNat by omega) l
  have m3 := byt_le c.toNat l
  unfold cut
  generalize byt a.toNat l = x at *
  generalize byt b.toNat l = y at *
  generalize byt c.toNat l = z at *
  have e : (l.take y).drop x = ((l.take z).drop x).take (y - x) := by
    rw [← List.drop_take, List.take_take, Nat.min_eq_left m2]
  have e2 : (l.take z).drop y = ((l.take z).drop x).drop (y - x) := by
    rw [List.drop_drop]
    congr 1
    omega
  rw [e, e2, List.take_append_drop]

theorem cut_whole (l : List UInt8) (b : Int) (n : Int) (hn : n = l.length) : cut l 0 b ++ cut l b n = l := by
  have hc := cnt_len l
  have hz : byt n.toNat l = l.length := byt_all (by omega)
  have h0 : byt (0 : Int).toNat l = 0 := rfl
  unfold cut
  rw [hz, h0, List.take_length, List.drop_zero, List.take_append_drop]
end Go.Proofs.YtkgdfclpogiemaaDoor.Lift
