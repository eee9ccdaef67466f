/- View: a letter made a text; an array of two numbers that came in. -/
import Derived.Test.YtcpdoicbekcpeaaDoorVr
import Derived.Laws.Cover4
import Derived.Deep.RegionLaw
set_option linter.unusedVariables false
set_option linter.unusedSimpArgs false
set_option maxRecDepth 100000
namespace Go.Proofs.YtcpdoicbekcpeaaDoor.Vi
open Go.RowKit Go.Lib Go.Proofs.YtcpdoicbekcpeaaDoor.Rk

section
open Go.ChangeShapes Go.WideShapes Go.ChangeAt
variable {H : Type} {enc : TypeId × Value → H} {P : Program} {w : World} {base : Nat} {spare : Nat → Bool} {held : Bool}
theorem open_int2 {t e : TypeId} (ht : P.underlying t = some (.array 2 e)) (he : P.underlying e = some (.int .i64)) (hce : P.cellsOf e = 1) (hct : P.cellsOf t = 2) {r : Reach} {b0 : Nat} {v : Value} {d : DataW H} {p : List MemPlace}
    (hv : Value.okWide P w r b0 t v) (h : DataW.Trod enc P w base spare held t v d p) :
    ∃ a b : Int, v = .agg #[.int .i64 a, .int .i64 b] ∧ (-9223372036854775808 ≤ a ∧ a ≤ 9223372036854775807) ∧ (-9223372036854775808 ≤ b ∧ b ≤ 9223372036854775807) := by
  simp only [Value.okWide, ht] at hv
  obtain ⟨cs, rfl, hsz, _⟩ := hv
  rw [hct] at hsz
  obtain ⟨c0, c1, rfl⟩ : ∃ c0 c1, cs = #[c0, c1] := by
    obtain ⟨l⟩ := cs
    match l, hsz with
    | [a, b], _ => exact ⟨a, b, rfl⟩
  obtain ⟨fuel, hf⟩ := h
  obtain ⟨ys, m, _, hx, _, hl, hg⟩ := DataW.trod_array ht hf
  have g0 := hg 0 (by omega)
  have g1 := hg 1 (by omega)
  simp only [hce, Value.cells] at g0 g1
  match ys, hl with
  | [y0, y1], _ =>
    obtain ⟨a, e0, _, wa⟩ := DataW.trod_int he g0
    obtain ⟨b, e1, _, wb⟩ := DataW.trod_int he g1
    simp at e0 e1
    subst e0 e1
    exact ⟨a, b, rfl, by simpa [Lit.wf, IntKind.min, IntKind.max, IntKind.signed, IntKind.bits] using wa, by simpa [Lit.wf, IntKind.min, IntKind.max, IntKind.signed, IntKind.bits] using wb⟩
end
theorem runes_one (r : Nat) : runesBytes [(r : Int)] = Let.mk (encodeRune (r : Int)) := by
  unfold runesBytes
  simp only [List.foldl_cons, List.foldl_nil]
  rw [← enc_eq, Let.mk_self]
  simp
theorem letter_str {w : World} {a : Addr} {cap : Nat} {L : List UInt8} (hr : Let.right L = true) {k : Nat} (hk : k < Let.cnt L) (hc : w.cell? a = some (.int .i32 (((Let.lets L)[k]'hk : Nat) : Int))) :
    (convert 127 9 (.slice (some a) 1 cap)).run Tryd.prog w = .ok (.string (Let.mk (Let.cut L k (k + 1)))) w := by
  rw [run_convert_runes w 127 9 21 a 1 cap [(((Let.lets L)[k]'hk : Nat) : Int)] (by simp) Tryd.underlying127 Tryd.underlying21 Tryd.underlying9 (fun j hj => by
    obtain rfl : j = 0 := by simpa using hj
    simpa [Addr.add] using hc)]
  rw [List.take_succ_cons, List.take_zero, runes_one, letter_cut hr hk]
theorem add_run {s t : List UInt8} (h : s.length + t.length ≤ 1000000) (w : World) : (Op.stringOp .add (Let.mk s) (Let.mk t)).run Tryd.prog w = .ok (.string (Let.mk (s ++ t))) w := by
  rw [run_string_add_sum w _ _ (by rw [Let.mk_size, Let.mk_size]; omega), Let.mk_append, Let.mk_data, Let.mk_data]
/-- append of a row's element as a step of a drawn region. -/
theorem step_append_rowk {P : Program} {w : World} {ops : Array Oper} {o : Oper} {a : Act} {K : Act → World → Prop} {Q : Exit → Act → World → Prop} {E : Prop} (hgd : o.guard = none) (s x : Operand) (tS e : TypeId) (k bytes : Nat) (z : Value)
    (ht : P.underlying tS = some (.slice e)) (hinfo : (P.info? e).map (fun i => (i.zero, i.size, i.bytes)) = some (some z, k, bytes)) (hzs : z.cells.size = k) (hk : 0 < k) (hby : bytes ≤ 1000)
    (ho : o.op = .call { callee := .builtin .append, args := #[s, x], argTypes := #[tS, tS] }) (base : Nat) (v u : Value) (xs ys : List (List Value)) (hs : a.eval s = v) (hx : a.eval x = u) (hown : Rk.OwnK e k base w v xs) (hy : Rk.RowK k w u ys) (hyo : ∀ y ∈ ys, ∀ q ∈ y, q.oneCell' = true) (hn : xs.length + ys.length ≤ 100000) (hbase : base ≤ w.heap.size)
    (h : ∀ v' w', Rk.OwnK e k base w' v' (xs ++ ys) → w.grownBy w' v.ownBlock → K (a.put o.dst v') w') : if Region.wanted o (yielded ops a.tmps) = true then Oper.wp P o a w K Q else E := by
  have hw : Region.wanted o (yielded ops a.tmps) = true := by simp [Region.wanted, hgd]
  rw [if_pos hw]
  obtain ⟨v', w', hr, h2, h3, h5⟩ := Rk.run_append_rowk (P := P) w base tS o.type e k bytes z ht hinfo hzs hk hby v u xs ys hown hy hyo hn hbase
  unfold Oper.wp execOp
  simp only [ho, resolve, invoke, builtin, Sem.run_bind, Sem.run_pure, Result.andThen_ok, List.map_toArray, List.map_cons, List.map_nil, hs, hx, hr]
  exact h _ _ h2 h3
end Go.Proofs.YtcpdoicbekcpeaaDoor.Vi
