/- Desk: a case opened; what the program's calls owe; DeskOpens' walk. -/
import Derived.Test.YtkbjbmhplocdnaaDg
import Derived.Test.YtkbjbmhplocdnaaRo
set_option linter.unusedVariables false
set_option linter.unusedSimpArgs false
set_option maxRecDepth 100000
namespace Go.Proofs.Ytkbjbmhplocdnaa.Dsk
open Go.RowKit Go.Lib Go.Proofs.Ytkbjbmhplocdnaa.Bx

section
open Go.ChangeShapes Go.WideShapes Go.Deep
variable {H : Type} {enc : TypeId × Value → H}
theorem cellsOf_seat : Try.prog.cellsOf 28 = 5 := by kernel_rfl
theorem cellsOf_str : Try.prog.cellsOf 9 = 1 := by kernel_rfl
theorem cellsOf_i : Try.prog.cellsOf 3 = 1 := by kernel_rfl
theorem cellsOf_seats : Try.prog.cellsOf 22 = 1 := by kernel_rfl
theorem cellsOf_dcase : Try.prog.cellsOf 24 = 8 := by kernel_rfl
theorem i64_wf {a : Int} (h : (Lit.int .i64 a).wf = true) : i64 a := by
  unfold i64
  simpa [Lit.wf, IntKind.min, IntKind.max, IntKind.signed, IntKind.bits] using h
theorem se_of {W : World} {m : Nat} {x : DataW H × List MemPlace} {cs : List Value} (hl : cs.length = 5) (ht : DataW.trod enc Try.prog W 0 (fun _ => true) true m 28 cs = some x) : ∃ y : Se, cs = cellsS y ∧ good y := by
  obtain ⟨xs, m, _, hx, _, hxl, hg⟩ := DataW.trod_struct Try.underlying28 ht
  match cs, hl with
  | [c0, c1, c2, c3, c4], _ =>
    have hxs : xs.length = 5 := hxl
    match xs, hxs with
    | [x0, x1, x2, x3, x4], _ =>
      have g0 : DataW.trod enc Try.prog W 0 (fun _ => true) true m 9 (([c0, c1, c2, c3, c4].drop 0).take (Try.prog.cellsOf 9)) = some x0 := hg 0 _ rfl
      have g1 : DataW.trod enc Try.prog W 0 (fun _ => true) true m 3 (([c0, c1, c2, c3, c4].drop 1).take (Try.prog.cellsOf 3)) = some x1 := hg 1 _ rfl
      have g2 : DataW.trod enc Try.prog W 0 (fun _ => true) true m 3 (([c0, c1, c2, c3, c4].drop 2).take (Try.prog.cellsOf 3)) = some x2 := hg 2 _ rfl
      have g3 : DataW.trod enc Try.prog W 0 (fun _ => true) true m 3 (([c0, c1, c2, c3, c4].drop 3).take (Try.prog.cellsOf 3)) = some x3 := hg 3 _ rfl
      have g4 : DataW.trod enc Try.prog W 0 (fun _ => true) true m 9 (([c0, c1, c2, c3, c4].drop 4).take (Try.prog.cellsOf 9)) = some x4 := hg 4 _ rfl
      rw [cellsOf_str] at g0 g4
      rw [cellsOf_i] at g1 g2 g3
      obtain ⟨a0, e0, -, -⟩ := DataW.trod_string Try.underlying9 g0
      obtain ⟨a1, e1, -, w1⟩ := DataW.trod_int Try.underlying3 g1
      obtain ⟨a2, e2, -, w2⟩ := DataW.trod_int Try.underlying3 g2
      obtain ⟨a3, e3, -, w3⟩ := DataW.trod_int Try.underlying3 g3
      obtain ⟨a4, e4, -, -⟩ := DataW.trod_string Try.underlying9 g4
      simp at e0 e1 e2 e3 e4
      subst e0 e1 e2 e3 e4
      exact ⟨⟨a0, a1, a2, a3, a4⟩, rfl, i64_wf w1, i64_wf w2, i64_wf w3⟩
theorem seats_of {W : World} {v : Value} {A : List Se} (h : Rk.Rows 5 (fun _ cs y => cs = cellsS y ∧ good y) W v A) : Seats W v A := by
  obtain ⟨p, rfl, h1, h2⟩ := h
  have e : p.map Prod.fst = (p.map Prod.snd).map cellsS := by
    rw [List.map_map]
    exact List.map_congr_left fun x hx => (h2 x hx).1
  rw [e] at h1
  refine ⟨h1, fun y hy => ?_⟩
  obtain ⟨x, hx, rfl⟩ := List.mem_map.1 hy
  exact (h2 x hx).2
theorem open_dcase {W : World} {v : Value} {d : DataW H} {p : List MemPlace} {base : Nat} (hv : Value.okWide Try.prog W .any base 24 v) (h : DataW.Trod enc Try.prog W 0 (fun _ => true) true 24 v d p) :
    ∃ (lv : Value) (A : List Se) (tok : ByteArray) (u q now ttl most : Int) (ans : ByteArray), v = .agg #[lv, .string tok, .int .i64 u, .int .i64 q, .int .i64 now, .int .i64 ttl, .int .i64 most, .string ans] ∧ Seats W lv A ∧ i64 u ∧ i64 q ∧ i64 now ∧ i64 ttl ∧ i64 most := by
  obtain ⟨cs, rfl, hsz⟩ := okWide_struct Try.underlying24 hv
  obtain ⟨fuel, hf⟩ := h
  obtain ⟨l⟩ := cs
  match l, hsz.trans cellsOf_dcase with
  | [c0, c1, c2, c3, c4, c5, c6, c7], _ =>
    obtain ⟨xs, m, _, hx, _, hxl, hg⟩ := DataW.trod_struct Try.underlying24 hf
    have hxs : xs.length = 8 := hxl
    match xs, hxs with
    | [x0, x1, x2, x3, x4, x5, x6, x7], _ =>
      have g0 : DataW.trod enc Try.prog W 0 (fun _ => true) true m 22 (([c0, c1, c2, c3, c4, c5, c6, c7].drop 0).take (Try.prog.cellsOf 22)) = some x0 := hg 0 _ rfl
      have g1 : DataW.trod enc Try.prog W 0 (fun _ => true) true m 9 (([c0, c1, c2, c3, c4, c5, c6, c7].drop 1).take (Try.prog.cellsOf 9)) = some x1 := hg 1 _ rfl
      have g2 : DataW.trod enc Try.prog W 0 (fun _ => true) true m 3 (([c0, c1, c2, c3, c4, c5, c6, c7].drop 2).take (Try.prog.cellsOf 3)) = some x2 := hg 2 _ rfl
      have g3 : DataW.trod enc Try.prog W 0 (fun _ => true) true m 3 (([c0, c1, c2, c3, c4, c5, c6, c7].drop 3).take (Try.prog.cellsOf 3)) = some x3 := hg 3 _ rfl
      have g4 : DataW.trod enc Try.prog W 0 (fun _ => true) true m 3 (([c0, c1, c2, c3, c4, c5, c6, c7].drop 4).take (Try.prog.cellsOf 3)) = some x4 := hg 4 _ rfl
      have g5 : DataW.trod enc Try.prog W 0 (fun _ => true) true m 3 (([c0, c1, c2, c3, c4, c5, c6, c7].drop 5).take (Try.prog.cellsOf 3)) = some x5 := hg 5 _ rfl
      have g6 : DataW.trod enc Try.prog W 0 (fun _ => true) true m 3 (([c0, c1, c2, c3, c4, c5, c6, c7].drop 6).take (Try.prog.cellsOf 3)) = some x6 := hg 6 _ rfl
      have g7 : DataW.trod enc Try.prog W 0 (fun _ => true) true m 9 (([c0, c1, c2, c3, c4, c5, c6, c7].drop 7).take (Try.prog.cellsOf 9)) = some x7 := hg 7 _ rfl
      rw [cellsOf_seats] at g0
      rw [cellsOf_str] at g1 g7
      rw [cellsOf_i] at g2 g3 g4 g5 g6
      obtain ⟨a1, e1, -, -⟩ := DataW.trod_string Try.underlying9 g1
      obtain ⟨a2, e2, -, w2⟩ := DataW.trod_int Try.underlying3 g2
      obtain ⟨a3, e3, -, w3⟩ := DataW.trod_int Try.underlying3 g3
      obtain ⟨a4, e4, -, w4⟩ := DataW.trod_int Try.underlying3 g4
      obtain ⟨a5, e5, -, w5⟩ := DataW.trod_int Try.underlying3 g5
      obtain ⟨a6, e6, -, w6⟩ := DataW.trod_int Try.underlying3 g6
      obtain ⟨a7, e7, -, -⟩ := DataW.trod_string Try.underlying9 g7
      simp at e1 e2 e3 e4 e5 e6 e7
      subst e1 e2 e3 e4 e5 e6 e7
      obtain ⟨A, hA⟩ := Rk.rows_at (R := fun _ cs y => cs = cellsS y ∧ good y) Try.underlying22 cellsOf_seat (by decide) (by simpa using g0) fun m cs x hl ht => se_of hl ht
      exact ⟨c0, A, a1, a2, a3, a4, a5, a6, a7, rfl, seats_of hA, i64_wf w2, i64_wf w3, i64_wf w4, i64_wf w5, i64_wf w6⟩
end

def OpenOk : Prop := ∀ (v : Value) (A : List Se) (tok : ByteArray) (u now ttl most : Int) (w : World), Seats w v A → rightC A now ttl = true → i64 u → i64 most → Calls Try.prog 7 #[v, .string tok, .int .i64 u, .int .i64 now, .int .i64 ttl, .int .i64 most] w fun e w' => ∃ v', e = .returned (.tuple #[v', .int .i64 (openE A tok u now ttl most).2]) ∧ Seats w' v' (openE A tok u now ttl most).1 ∧ Below w.heap.size w w'
def WhoOk : Prop := ∀ (v : Value) (A : List Se) (tok : ByteArray) (now ttl : Int) (w : World), Seats w v A → rightC A now ttl = true → Calls Try.prog 11 #[v, .string tok, .int .i64 now, .int .i64 ttl] w fun e w' => e = .returned (.tuple #[.int .i64 (whoE A tok now ttl).1, .bool (whoE A tok now ttl).2]) ∧ Below w.heap.size w w'
def BeginOk : Prop := ∀ (v : Value) (A : List Se) (tok : ByteArray) (q now ttl : Int) (w : World), Seats w v A → rightC A now ttl = true → i64 q → Calls Try.prog 13 #[v, .string tok, .int .i64 q, .int .i64 now, .int .i64 ttl] w fun e w' => e = .returned (.tuple #[.string (beginE A tok q now ttl).1, .int .i64 (beginE A tok q now ttl).2]) ∧ Below w.heap.size w w'
def DoneOk : Prop := ∀ (v : Value) (A : List Se) (tok : ByteArray) (q now ttl : Int) (ans : ByteArray) (w : World), Seats w v A → rightC A now ttl = true → i64 q → Calls Try.prog 15 #[v, .string tok, .int .i64 q, .int .i64 now, .string ans] w fun e w' => ∃ v', e = .returned v' ∧ Seats w' v' (doneE A tok q now ans) ∧ Below w.heap.size w w'
def CloseOk : Prop := ∀ (v : Value) (A : List Se) (tok : ByteArray) (now ttl : Int) (w : World), Seats w v A → rightC A now ttl = true → Calls Try.prog 16 #[v, .string tok] w fun e w' => ∃ v', e = .returned v' ∧ Seats w' v' (closeE A tok) ∧ Below w.heap.size w w'
theorem same_any {v u : Value} {A B : List Se} (w : World) (h : Seats w v A) (h' : Seats w u B) : Calls Try.prog 10 #[v, u] w fun e w' => e = .returned (.bool (sameB A B)) ∧ Below w.heap.size w w' := by
  obtain ⟨a, cap, rfl, hn, hm⟩ := h.is_slice
  obtain ⟨b, cap', rfl, hn', hm'⟩ := h'.is_slice
  exact rSame_any w h.cells hn hm h'.cells hn' hm'
theorem one_seat {w : World} {v : Value} {y : Se} (h : Seats w v [y]) : ∃ b off cap, v = .slice (some ⟨b, off, none⟩) 1 cap ∧ 1 ≤ cap ∧ cap ≤ maxLen ∧ w.cell? ⟨b, off + 1, none⟩ = some (.int .i64 y.u) ∧ w.cell? ⟨b, off + 4, none⟩ = some (.string y.a) := by
  obtain ⟨a, cap, rfl, hn, hm⟩ := h.is_slice
  obtain ⟨b, off, rfl, _, _, c1, _, _, c4, _⟩ := h.get (j := 0) (by show 0 < 1; decide)
  rw [Nat.zero_mul, Nat.add_zero] at c1 c4
  exact ⟨b, off, cap, rfl, hn, hm, c1, c4⟩
end Go.Proofs.Ytkbjbmhplocdnaa.Dsk
