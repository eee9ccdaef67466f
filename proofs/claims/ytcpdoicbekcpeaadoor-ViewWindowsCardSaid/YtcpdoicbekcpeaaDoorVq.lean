/- View: runs compared; lists of bools and of texts that came in. -/
import Derived.Test.YtcpdoicbekcpeaaDoorVp
import Derived.Laws.StructEq
set_option linter.unusedVariables false
set_option linter.unusedSimpArgs false
set_option maxRecDepth 100000
namespace Go.Proofs.YtcpdoicbekcpeaaDoor.Vi
open Go.RowKit Go.Lib Go.Proofs.YtcpdoicbekcpeaaDoor.Rk Go.Proofs.YtcpdoicbekcpeaaDoor.Rig

theorem hS_run : Tryd.prog.underlying 97 = some (.struct (Tryd.prog.fieldsOf 97)) := by kernel_rfl
theorem hS_piece : Tryd.prog.underlying 89 = some (.struct (Tryd.prog.fieldsOf 89)) := by kernel_rfl
theorem guard_run (op : BinOp) (x y : Operand) (xs ys : Array Value) (w : World) : (eqGuard op 97 x y (.agg xs) (.agg ys)).run Tryd.prog w = .ok () w := run_eqGuard_agg w op _ x y xs ys (by kernel_rfl)
theorem guard_piece (op : BinOp) (x y : Operand) (xs ys : Array Value) (w : World) : (eqGuard op 89 x y (.agg xs) (.agg ys)).run Tryd.prog w = .ok () w := run_eqGuard_agg w op _ x y xs ys (by kernel_rfl)
theorem neq_run (a b : Int) (o : Bool) (s : ByteArray) (w : World) : (binOp .neq 97 (.agg #[.int .i64 a, .int .i64 b, .bool o, .string s]) (.agg #[.int .i64 a, .int .i64 b, .bool o, .string s])).run Tryd.prog w = .ok (.bool false) w := by
  have u3 := Tryd.underlying3
  have a3 := Tryd.isAgg3
  have z3 := Tryd.sizeOf3
  have u4 := Tryd.underlying4
  have a4 := Tryd.isAgg4
  have z4 := Tryd.sizeOf4
  have u9 := Tryd.underlying9
  have a9 := Tryd.isAgg9
  have z9 := Tryd.sizeOf9
  have hp : Tryd.prog.stoodInHeld 97 = false := by kernel_rfl
  rw [run_neq_struct, show (10000 : Nat) = 9999 + 1 from rfl, run_equalIn_agg w 9999 97 _ _ hS_run hp]
  simp only [Program.fieldsOf, Tryd.underlying97]
  go_simp
theorem neq_piece (a b c : Int) (o : Bool) (w : World) : (binOp .neq 89 (.agg #[.int .i64 a, .int .i64 b, .int .i64 c, .bool o]) (.agg #[.int .i64 a, .int .i64 b, .int .i64 c, .bool o])).run Tryd.prog w = .ok (.bool false) w := by
  have u3 := Tryd.underlying3
  have a3 := Tryd.isAgg3
  have z3 := Tryd.sizeOf3
  have u4 := Tryd.underlying4
  have a4 := Tryd.isAgg4
  have z4 := Tryd.sizeOf4
  have hp : Tryd.prog.stoodInHeld 89 = false := by kernel_rfl
  rw [run_neq_struct, show (10000 : Nat) = 9999 + 1 from rfl, run_equalIn_agg w 9999 89 _ _ hS_piece hp]
  simp only [Program.fieldsOf, Tryd.underlying89]
  go_simp
theorem Rns.open_ {w : World} {v : Value} {A : List Rn} (h : Rns w v A) : ∃ a cap, v = .slice a A.length cap ∧ A.length ≤ cap ∧ cap ≤ maxLen ∧ ∀ j (hj : j < A.length), ∃ b off, a = some ⟨b, off, none⟩ ∧ b < w.heap.size ∧
    w.cell? ⟨b, off + j * 4, none⟩ = some (.int .i64 A[j].i) ∧ w.cell? ⟨b, off + j * 4 + 1, none⟩ = some (.int .i64 A[j].l) ∧ w.cell? ⟨b, off + j * 4 + 2, none⟩ = some (.bool A[j].o) ∧ w.cell? ⟨b, off + j * 4 + 3, none⟩ = some (.string (Let.mk A[j].t)) := by
  obtain ⟨_, a, cap, e, h1, h2, h3⟩ := h
  rw [List.length_map] at e h1
  refine ⟨a, cap, e, h1, h2, fun j hj => ?_⟩
  rcases h3 with h3 | ⟨b, off, rfl, hb, hc⟩
  · have : A.length = 0 := by rw [← List.length_map (f := Rn.cells), h3]; rfl
    omega
  · have hc' := hc j (by rw [List.length_map]; exact hj)
    simp only [List.getElem_map] at hc'
    exact ⟨b, off, rfl, hb, hc' 0 _ rfl, hc' 1 _ rfl, hc' 2 _ rfl, hc' 3 _ rfl⟩
set_option maxHeartbeats 4000000 in
theorem same_any {u v : Value} {R : List Rn} (w : World) (h1 : Rns w u R) (h2 : Rns w v R) : Calls Tryd.prog 53 #[u, v] w fun e w' => e = .returned (.bool true) ∧ Below w.heap.size w w' := by
  obtain ⟨a1, c1, rfl, hl1, hm1, q1⟩ := h1.open_
  obtain ⟨a2, c2, rfl, hl2, hm2, q2⟩ := h2.open_
  obtain ⟨n, hn⟩ : ∃ n, n = R.length := ⟨_, rfl⟩
  rw [← hn] at hl1 hl2 ⊢
  have HN := Lib.hid hn
  have H1 := Lib.hid q1
  have H2 := Lib.hid q2
  have GS := guard_run
  unfold maxLen at hm1 hm2
  clear q1 q2 h1 h2 hn
  go_enter Tryd.func53, Tryd.ntmps53
  go_wp2_with fail
  go_loopg [5] n (fun g i wr => ∃ k : Nat, k ≤ n ∧ n - k ≤ g ∧ i = .int .i64 k ∧ Below w.heap.size w wr)
  case atStart => exact ⟨0, Nat.zero_le _, by omega, rfl, Below.refl _ _⟩
  case round =>
    obtain ⟨k, hk, hg, rfl, hbel⟩ := hrel
    have HB := Lib.hid hbel
    by_cases hlt : k < n
    · have hkl : k < R.length := by rw [← HN.out]; exact hlt
      obtain ⟨b1, o1, rfl, lt1, c0, c1, c2, c3⟩ := H1.out k hkl
      obtain ⟨b2, o2, rfl, lt2, d0, d1, d2, d3⟩ := H2.out k hkl
      generalize R[k] = y at *
      obtain ⟨yi, yl, yo, yt⟩ := y
      simp only at c0 c1 c2 c3 d0 d1 d2 d3
      replace c0 := vcell hbel lt1 c0
      replace c1 := vcell hbel lt1 c1
      replace c2 := vcell hbel lt1 c2
      replace c3 := vcell hbel lt1 c3
      replace d0 := vcell hbel lt2 d0
      replace d1 := vcell hbel lt2 d1
      replace d2 := vcell hbel lt2 d2
      replace d3 := vcell hbel lt2 d3
      have NE := fun w => neq_run yi yl yo (Let.mk yt) w
      have i0 : (0 : Int) ≤ (k : Int) := by omega
      have i1 : (k : Int) < (n : Int) := by omega
      clear hbel H1 H2
      go_upto_region 6 with fail
      go_quiet (fail)
      go_wp2_with fail
      go_roundg (n - (k + 1))
      case measure => omega
      case rel => exact ⟨k + 1, by omega, Nat.le_refl _, by go_num, by first | exact HB.out | exact HB.out.drew | exact below_drews HB.out _⟩
    · obtain rfl : k = n := by omega
      have i1 : ¬ ((k : Int) < (k : Int)) := by omega
      clear hbel H1 H2
      go_wp2_with fail
      go_ret
      exact ⟨by simp, HB.out⟩

/-! lists of one cell each -/
theorem ones {α : Type} {W : World} {a : Addr} {len cap : Nat} {en : α → Value} {Q : α → Prop} (hl : len ≤ cap) (hm : cap ≤ maxLen) (hall : ∀ i, i < len → ∃ y : α, Q y ∧ W.cell? (a.add i) = some (en y)) :
    ∃ A : List α, Rk.RowK 1 W (.slice (some a) len cap) (A.map fun y => [en y]) ∧ ∀ y ∈ A, Q y := by
  by_cases h0 : len = 0
  · subst h0
    exact ⟨[], ⟨fun _ h => by simp at h, some a, cap, rfl, Nat.zero_le _, hm, .inl rfl⟩, fun _ h => by simp at h⟩
  · obtain ⟨b, o, sp⟩ := a
    have hsp : sp = none := by
      obtain ⟨y, _, h1⟩ := hall 0 (by omega)
      simpa [Addr.add] using World.cell?_spot h1
    subst hsp
    have hall' : ∀ i, i < len → ∃ y : α, Q y ∧ W.cell? ⟨b, o + i, none⟩ = some (en y) := by
      intro i hi
      obtain ⟨y, q, c⟩ := hall i hi
      rw [kadd] at c
      exact ⟨y, q, c⟩
    have hch := fun i : Fin len => hall' i.1 i.2
    let A : List α := List.ofFn fun i : Fin len => (hch i).choose
    have hA : A.length = len := List.length_ofFn
    have hAi : ∀ i (hi : i < A.length), A[i] = (hch ⟨i, by omega⟩).choose := fun i hi => by simp [A]
    obtain ⟨y0, _, hc0⟩ := hall' 0 (by omega)
    refine ⟨A, ⟨fun x hx => ?_, some ⟨b, o, none⟩, cap, by rw [List.length_map, hA], by rw [List.length_map]; omega, hm, .inr ⟨b, o, rfl, World.block_lt_of_cell? _ _ hc0, fun j hj q u hu => ?_⟩⟩, fun y hy => ?_⟩
    · obtain ⟨y, _, rfl⟩ := List.mem_map.1 hx
      rfl
    · rw [List.length_map] at hj
      rw [List.getElem_map, hAi j hj] at hu
      match q, hu with
      | 0, hu =>
        injection hu with hu
        subst hu
        rw [Nat.mul_one, Nat.add_zero]
        exact (hch ⟨j, by omega⟩).choose_spec.2
      | q + 1, hu => simp at hu
    · obtain ⟨j, hj, rfl⟩ := List.getElem_of_mem hy
      rw [hAi j hj]
      exact (hch ⟨j, by omega⟩).choose_spec.1
section
open Go.ChangeShapes Go.WideShapes Go.Deep
variable {H : Type} {enc : TypeId × Value → H}
theorem open_bools {W : World} {v : Value} {d : DataW H} {p : List MemPlace} {base : Nat} (hv : Value.okWide Tryd.prog W .any base 81 v) (h : DataW.Trod enc Tryd.prog W 0 (fun _ => true) true 81 v d p) : ∃ B : List Bool, Bls W v B := by
  obtain ⟨a0, len, cap, rfl⟩ := okWide_slice Tryd.underlying81 hv
  obtain ⟨fuel, hf⟩ := h
  rcases open_slice1 Tryd.underlying81 vcellsOf_bool hf with ⟨hcs, _⟩ | ⟨a, len', cap', m, n, V, D, Pl, hcs, _, hl, hm, hmm, hd, hel⟩
  · simp [Value.cells] at hcs
    obtain ⟨rfl, rfl, rfl⟩ := hcs
    exact ⟨[], Rk.RowK.nil_ _ _⟩
  · simp [Value.cells] at hcs
    obtain ⟨rfl, rfl, rfl⟩ := hcs
    simp only [if_true] at hmm
    obtain ⟨A, hA, _⟩ := ones (en := Value.bool) (Q := fun _ => True) hl hm (fun i hi => by
      obtain ⟨h1, h2⟩ := hel i (by omega)
      obtain ⟨b, e, _⟩ := DataW.trod_bool Tryd.underlying4 h2
      simp at e
      exact ⟨b, trivial, by rw [h1, e]⟩)
    exact ⟨A, hA⟩
end
/-- A list of texts that is read. -/
def Sts (w : World) (v : Value) (X : List (List UInt8)) : Prop := Rk.RowK 1 w v (X.map fun t => [.string (Let.mk t)]) ∧ ∀ t ∈ X, t.length ≤ maxLen
theorem Sts.below {w w' : World} {v : Value} {X : List (List UInt8)} (h : Sts w v X) (hb : Below w.heap.size w w') : Sts w' v X := ⟨Rk.RowK.below h.1 hb (Nat.le_refl _), h.2⟩
theorem Sts.open_ {w : World} {v : Value} {B : List (List UInt8)} (h : Sts w v B) : ∃ a cap, v = .slice a B.length cap ∧ B.length ≤ cap ∧ cap ≤ maxLen ∧ ∀ j (hj : j < B.length), ∃ b off, a = some ⟨b, off, none⟩ ∧ b < w.heap.size ∧ w.cell? ⟨b, off + j, none⟩ = some (.string (Let.mk B[j])) ∧ B[j].length ≤ maxLen := by
  obtain ⟨⟨_, a, cap, e, h1, h2, h3⟩, hq⟩ := h
  rw [List.length_map] at e h1
  refine ⟨a, cap, e, h1, h2, fun j hj => ?_⟩
  rcases h3 with h3 | ⟨b, off, rfl, hb, hc⟩
  · have : B.length = 0 := by rw [← List.length_map (f := fun t => [Value.string (Let.mk t)]), h3]; rfl
    omega
  · have hc' := hc j (by rw [List.length_map]; exact hj) 0
    simp only [List.getElem_map, Nat.mul_one, Nat.add_zero] at hc'
    exact ⟨b, off, rfl, hb, hc' _ rfl, hq _ (List.getElem_mem hj)⟩
section
open Go.ChangeShapes Go.WideShapes Go.Deep
variable {H : Type} {enc : TypeId × Value → H}
theorem vcellsOf_string : Tryd.prog.cellsOf 9 = 1 := by kernel_rfl
theorem open_strs {W : World} {v : Value} {d : DataW H} {p : List MemPlace} {base : Nat} (hv : Value.okWide Tryd.prog W .any base 93 v) (h : DataW.Trod enc Tryd.prog W 0 (fun _ => true) true 93 v d p) : ∃ X : List (List UInt8), Sts W v X := by
  obtain ⟨a0, len, cap, rfl⟩ := okWide_slice Tryd.underlying93 hv
  obtain ⟨fuel, hf⟩ := h
  rcases open_slice1 Tryd.underlying93 vcellsOf_string hf with ⟨hcs, _⟩ | ⟨a, len', cap', m, n, V, D, Pl, hcs, _, hl, hm, hmm, hd, hel⟩
  · simp [Value.cells] at hcs
    obtain ⟨rfl, rfl, rfl⟩ := hcs
    exact ⟨[], Rk.RowK.nil_ _ _, fun _ h => by cases h⟩
  · simp [Value.cells] at hcs
    obtain ⟨rfl, rfl, rfl⟩ := hcs
    simp only [if_true] at hmm
    obtain ⟨A, hA, hQ⟩ := ones (en := fun t : List UInt8 => Value.string (Let.mk t)) (Q := fun t => t.length ≤ maxLen) hl hm (fun i hi => by
      obtain ⟨h1, h2⟩ := hel i (by omega)
      obtain ⟨s, e, _, hs⟩ := DataW.trod_string Tryd.underlying9 h2
      simp at e
      refine ⟨s.data.toList, ?_, by rw [h1, e]; rfl⟩
      show s.data.toList.length ≤ maxLen
      rw [Array.length_toList]
      exact hs)
    exact ⟨A, hA, hQ⟩
end
end Go.Proofs.YtcpdoicbekcpeaaDoor.Vi
