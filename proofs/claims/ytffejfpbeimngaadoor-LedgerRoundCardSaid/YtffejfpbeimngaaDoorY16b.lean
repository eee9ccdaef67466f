/- Plate: the program's small functions: filled, has, On, Size, last, held, settle, step. -/
import Derived.Test.YtffejfpbeimngaaDoorY16a
import Derived.OwnWalk
import Derived.Lib.BufferWrite
import Derived.Laws.IdiomStrings
set_option linter.unusedVariables false
set_option linter.unusedSimpArgs false
set_option maxRecDepth 100000
namespace Go.Proofs.YtffejfpbeimngaaDoor.Plt
open Go.RowKit Go.Lib Go.Proofs.YtffejfpbeimngaaDoor.Bx

section
variable {P : Program}
/-- copy of a text that fits, over a row known whole. -/
theorem wpList_copy_str {w : World} {ops : Array Oper} {rest : List Oper} {o : Oper} {a : Act} {Q : Exit → Act → World → Prop} (hgd : o.guard = none) (d x : Operand) (dT sT : TypeId)
    (ho : o.op = .call { callee := .builtin .copy, args := #[d, x], argTypes := #[dT, sT] }) (elem : TypeId) (hu : P.underlying dT = some (.slice elem)) (hsz : (P.info? elem).map (·.size) = some 1)
    (g off dLen dCap : Nat) (s : ByteArray) (cur : Array Value) (t : TypeId) (hd : a.eval d = .slice (some ⟨g, off, none⟩) dLen dCap) (hs : a.eval x = .string s) (hg : w.heap[g]? = some (.cells cur t (0, 0))) (hle : s.size ≤ dLen) (hfit : off + s.size ≤ cur.size)
    (w' : World) (he : w' = w.setRow g (cur.toList.take off ++ byteCells s.data.toList ++ cur.toList.drop (off + s.size)).toArray) (h : wpList P ops Q rest (a.put o.dst (goInt s.size)) w') : wpList P ops Q (o :: rest) a w := by
  subst he
  refine wpList_plain hgd fun K hK => ?_
  have hr := run_copy_row_string (P := P) w dT sT o.type elem g off dLen dCap s cur t hu hsz hg hle hfit
  unfold Oper.wp execOp
  simp only [ho, resolve, invoke, builtin, Sem.run_bind, Sem.run_pure, Result.andThen_ok, List.map_toArray, List.map_cons, List.map_nil, hd, hs, hr]
  exact hK _ _ h
end
theorem infoU8 : (Tryd.prog.info? 5).map (fun i => (i.zero, i.size, i.bytes)) = some (some (.int .u8 0), 1, 1) := by kernel_rfl
theorem made128 : (madeCells #[Value.int IntKind.u8 0] (128 * 1)).toList = List.replicate 128 (Value.int .u8 0) := by kernel_rfl
theorem size_dl (s : ByteArray) : s.data.toList.length = s.size := rfl
theorem full_len {s : ByteArray} (h : s.size ≤ 128) : (fullL s).length = 128 := by
  unfold fullL
  rw [List.length_append, List.length_replicate, size_dl]
  omega
theorem full_size {s : ByteArray} (h : s.size ≤ 128) : (fullB s).size = 128 := full_len h
theorem full_cells {s : ByteArray} (h : s.size ≤ 128) : byteCells s.data.toList ++ (List.replicate 128 (Value.int .u8 0)).drop s.size = (fullL s).map fun b => Value.int .u8 (b.toNat : Int) := by
  unfold fullL byteCells
  rw [List.map_append, List.drop_replicate, List.map_replicate]
  rfl
set_option maxHeartbeats 1000000 in
theorem filled_any (s : ByteArray) (w : World) (hs : s.size ≤ 128) : Calls Tryd.prog 17 #[.string s] w fun e w' => e = .returned (.string (fullB s)) ∧ Below w.heap.size w w' := by
  obtain ⟨i0, hi, hz0, hz1, hz2⟩ := Rk.kparts infoU8
  have A2 : Hid (i0.bytes * 128 ≤ 281474976710656) := by show _ ≤ _; rw [hz2]; decide
  have A3 : Hid (128 ≤ maxLen) := by show _ ≤ _; unfold maxLen; omega
  have A4 : Hid (w.heap.size ≤ w.heap.size) := Nat.le_refl _
  have HI := Lib.hid hi
  have HZ0 := Lib.hid hz0
  have HZ1 := Lib.hid hz1
  have HS := Lib.hid hs
  clear hi hz0 hz1 hz2 hs
  go_enter Tryd.func17, Tryd.ntmps17
  go_wp2_with (at_make; refine wpList_make_full _ rfl _ _ 59 rfl w.heap.size 5 i0 (.int .u8 0) 1 Tryd.underlying59 HI.out HZ0.out HZ1.out .i64 .i64 _ _ 128 rfl rfl rfl rfl A2.out A3.out A4.out ?_)
  intro w2 r2 g2
  obtain ⟨cur, hc, hcs⟩ : ∃ cur, w2.heap[w.heap.size]? = some (.cells cur 5 (0, 0)) ∧ cur.toList = List.replicate 128 (Value.int .u8 0) := by
    rcases r2.2 with ⟨e, _⟩ | ⟨g, cap, cur, e, _, hg, _, _, hsz, htk⟩
    · cases e
    · injection e with e1 e2 e3
      injection e1 with e1
      injection e1 with e1
      subst e1 e3
      refine ⟨cur, hg, ?_⟩
      rw [List.take_of_length_le (by rw [Array.length_toList, hsz]; exact Nat.le_refl _)] at htk
      rw [htk]
      exact made128
  have hcz : cur.size = 128 := by rw [← Array.length_toList, hcs]; rfl
  have HC := Lib.hid hc
  have HG2 : Hid (Below w.heap.size w w2) := (Below.refl _ _).grown g2 (Nat.le_refl _) (fun k e => by cases e)
  have H1 : Hid (0 + s.size ≤ cur.size) := by show _ ≤ _; rw [hcz]; have := HS.out; omega
  have HR : Hid (cur.toList.take 0 ++ byteCells s.data.toList ++ cur.toList.drop (0 + s.size) = (fullL s).map fun b => Value.int .u8 (b.toNat : Int)) := by
    show _ = _
    rw [hcs, List.take_zero, List.nil_append, Nat.zero_add]
    exact full_cells HS.out
  clear r2 g2 hc hcs hcz
  obtain ⟨w3, hw3⟩ : ∃ w3, w3 = w2.setRow w.heap.size (cur.toList.take 0 ++ byteCells s.data.toList ++ cur.toList.drop (0 + s.size)).toArray := ⟨_, rfl⟩
  have HW3 := Lib.hid hw3
  rw [HR.out] at hw3
  have h3 : w3.heap[w.heap.size]? = some (.cells ((fullL s).map fun b => Value.int .u8 (b.toNat : Int)).toArray 5 (0, 0)) := by rw [hw3]; exact setRow_heap _ _ _ _ _ _ HC.out
  have HB3 : Hid (Below w.heap.size w w3) := by rw [hw3]; exact ⟨HG2.out.os, HG2.out.tape, HG2.out.output, by rw [size_setRow]; exact HG2.out.size, fun k hk => (setRow_other _ _ _ _ (by omega)).trans (HG2.out.block k hk)⟩
  have hl := full_len HS.out
  have CV : (convert 59 9 (.slice (some ⟨w.heap.size, 0, none⟩) 128 128)).run Tryd.prog w3 = .ok (.string (fullB s)) w3 := by
    have := run_convert_bytes_back (P := Tryd.prog) w3 59 9 5 ⟨w.heap.size, 0, none⟩ 128 (fullL s) Tryd.underlying59 Tryd.underlying5 Tryd.underlying9 (fun j hj => by
      rw [Rk.kadd, Nat.zero_add, cell_of_row _ _ _ _ _ _ h3, List.getElem?_toArray, List.getElem?_map, List.getElem?_eq_getElem hj]
      rfl)
    rw [hl] at this
    exact this
  clear hw3 h3 hl HG2 HR
  go_wp2_with (with_reducible refine wpList_copy_str rfl _ _ 59 9 rfl 5 Tryd.underlying59 (by kernel_rfl) w.heap.size 0 128 128 s cur 5 rfl rfl HC.out HS.out H1.out w3 HW3.out ?_)
  go_ret
  exact ⟨rfl, HB3.out⟩

def inB (i : Int) (n : Nat) : Bool := decide (0 ≤ i) && decide (i < (n : Int))
set_option maxHeartbeats 1000000 in
theorem has_any {B : Nat} {a : Option Addr} {n : Nat} (i : Int) (w : World) (h : w.cell? ⟨B, 0, none⟩ = some (.slice a n n)) (hn : n ≤ 16384) : Calls Tryd.prog 19 #[.pointer (some ⟨B, 0, none⟩), .int .i64 i] w fun e w' => e = .returned (.bool (inB i n)) ∧ w = w' := by
  have HV : Hid (inB i n = (decide (0 ≤ i) && decide (i < (n : Int)))) := rfl
  generalize inB i n = r at *
  by_cases h0 : 0 ≤ i
  · rw [decide_eq_true h0, Bool.true_and] at HV
    go_enter Tryd.func19, Tryd.ntmps19
    go_wp2_with fail
    go_ret
    exact ⟨by rw [HV.out]; first | rfl | (simp; done), rfl⟩
  · rw [decide_eq_false h0, Bool.false_and] at HV
    go_enter Tryd.func19, Tryd.ntmps19
    go_wp2_with fail
    go_ret
    exact ⟨by rw [HV.out]; first | rfl | (simp; done), rfl⟩
theorem on_any {B : Nat} {off : Bool} (w : World) (h : w.cell? ⟨B, 2, none⟩ = some (.bool off)) : Calls Tryd.prog 18 #[.pointer (some ⟨B, 0, none⟩)] w fun e w' => e = .returned (.bool (!off)) ∧ w = w' := by
  go_enter Tryd.func18, Tryd.ntmps18
  go_wp2_with fail
  go_ret
  exact ⟨rfl, rfl⟩
theorem on_nil (w : World) : Calls Tryd.prog 18 #[.pointer none] w fun e w' => e = .returned (.bool false) ∧ w = w' := by
  go_enter Tryd.func18, Tryd.ntmps18
  go_wp2_with fail
  go_ret
  exact ⟨rfl, rfl⟩
theorem size_any {B : Nat} {a : Option Addr} {n : Nat} (w : World) (h : w.cell? ⟨B, 0, none⟩ = some (.slice a n n)) : Calls Tryd.prog 23 #[.pointer (some ⟨B, 0, none⟩)] w fun e w' => e = .returned (.int .i64 (n : Nat)) ∧ w = w' := by
  go_enter Tryd.func23, Tryd.ntmps23
  go_wp2_with fail
  go_ret
  exact ⟨rfl, rfl⟩
theorem size_nil (w : World) : Calls Tryd.prog 23 #[.pointer none] w fun e w' => e = .returned (.int .i64 0) ∧ w = w' := by
  go_enter Tryd.func23, Tryd.ntmps23
  go_wp2_with fail
  go_ret
  exact ⟨rfl, rfl⟩
/-- A row of texts: its last. -/
theorem row_at {base : Nat} {w : World} {v : Value} {X : List ByteArray} (h : Rk.OwnK 9 1 base w v (cellsT X)) : ∃ a c, v = .slice a X.length c ∧ X.length ≤ c ∧ c ≤ 9223372036854775807 ∧ ∀ j, j < X.length → ∃ b off, a = some ⟨b, off, none⟩ ∧ w.cell? ⟨b, off + j, none⟩ = some (.string (X.getD j ByteArray.empty)) := by
  obtain ⟨_, a, c, e, h1, h2, h3⟩ := h.row
  rw [cellsT_len] at e h1
  unfold maxLen at h2
  refine ⟨a, c, e, h1, h2, fun j hj => ?_⟩
  rcases h3 with h3 | ⟨b, off, rfl, _, hc⟩
  · have := cellsT_len X
    rw [h3] at this
    simp at this
    omega
  · refine ⟨b, off, rfl, ?_⟩
    have := hc j (by rw [cellsT_len]; exact hj) 0
    unfold cellsT at this
    simp only [List.getElem_map, Nat.mul_one, Nat.add_zero] at this
    rw [List.getD_eq_getElem?_getD, List.getElem?_eq_getElem hj]
    exact this _ rfl
set_option maxHeartbeats 1000000 in
theorem last_any {base G i : Nat} {p : PL} {v : Value} (w : World) (h0 : w.cell? ⟨G, i * 2, none⟩ = some (.string p.f)) (h1 : w.cell? ⟨G, i * 2 + 1, none⟩ = some v) (h : Rk.OwnK 9 1 base w v (cellsT p.l)) : Calls Tryd.prog 21 #[.pointer (some ⟨G, i * 2, none⟩)] w fun e w' => e = .returned (.string p.last) ∧ w = w' := by
  obtain ⟨a, c, rfl, hc, hm, hx⟩ := row_at h
  obtain ⟨f, l⟩ := p
  simp only at h0 h1 hc hx
  by_cases hl : l.length = 0
  · have e : PL.last ⟨f, l⟩ = f := by
      rw [List.eq_nil_of_length_eq_zero hl]
      rfl
    rw [e]
    rw [hl] at h1 hc
    clear h hx hl e
    go_enter Tryd.func21, Tryd.ntmps21
    go_wp2_with fail
    go_ret
    exact ⟨rfl, rfl⟩
  · obtain ⟨b, off, rfl, hb⟩ := hx (l.length - 1) (by omega)
    have HV : Hid (PL.last ⟨f, l⟩ = l.getD (l.length - 1) ByteArray.empty) := by
      show l.getD (l.length - 1) f = _
      rw [List.getD_eq_getElem?_getD, List.getD_eq_getElem?_getD, List.getElem?_eq_getElem (by omega)]
      rfl
    rw [← HV.out] at hb
    obtain ⟨m, hm'⟩ : ∃ m, l.length = m + 1 := ⟨l.length - 1, by omega⟩
    rw [hm', Nat.add_sub_cancel] at hb
    rw [hm'] at h1 hc
    generalize PL.last ⟨f, l⟩ = r at *
    have n1 : (0 : Int) < (m + 1 : Nat) := by omega
    have n2 : ((m + 1 : Nat) : Int) - 1 = (m : Nat) := by omega
    have n3 : (m : Int) < (m + 1 : Nat) := by omega
    have n4 : (0 : Int) ≤ (m : Nat) := by omega
    clear h hx hl hm' HV
    go_enter Tryd.func21, Tryd.ntmps21
    go_wp2_with fail
    go_ret
    exact ⟨rfl, rfl⟩
theorem settle_any {G i : Nat} {s : ByteArray} {x0 x1 : Value} (w : World) (h0 : w.cell? ⟨G, i * 2, none⟩ = some x0) (h1 : w.cell? ⟨G, i * 2 + 1, none⟩ = some x1) (f0 : w.frozen? ⟨G, i * 2, none⟩ = false) (f1 : w.frozen? ⟨G, i * 2 + 1, none⟩ = false) : Calls Tryd.prog 29 #[.pointer (some ⟨G, i * 2, none⟩), .string s] w fun e w' => e = .returned (.tuple #[]) ∧ w' = (w.setCell ⟨G, i * 2, none⟩ (.string s)).setCell ⟨G, i * 2 + 1, none⟩ (.slice none 0 0) := by
  go_enter Tryd.func29, Tryd.ntmps29
  go_wp2_with fail
  exact bodyPost_end (v := .tuple #[]) (by simp [results, Tryd.results29, go_sem]) rfl ⟨rfl, rfl⟩
theorem step_no {B : Nat} {off : Bool} (w : World) (h : w.cell? ⟨B, 3, none⟩ = some (.int .i64 0)) (h2 : w.cell? ⟨B, 2, none⟩ = some (.bool off)) (f2 : w.frozen? ⟨B, 2, none⟩ = false) (c0 : Value) (h0 : w.cell? ⟨B, 0, none⟩ = some c0) : Calls Tryd.prog 20 #[.pointer (some ⟨B, 0, none⟩)] w fun e w' => e = .returned (.bool false) ∧ w' = w.setCell ⟨B, 2, none⟩ (.bool true) := by
  go_enter Tryd.func20, Tryd.ntmps20
  go_wp2_with fail
  go_ret
  exact ⟨rfl, rfl⟩
theorem step_free {B : Nat} {x : Int} (w : World) (h : w.cell? ⟨B, 3, none⟩ = some (.int .i64 x)) (hx : x < 0) (c0 : Value) (h0 : w.cell? ⟨B, 0, none⟩ = some c0) : Calls Tryd.prog 20 #[.pointer (some ⟨B, 0, none⟩)] w fun e w' => e = .returned (.bool true) ∧ w' = w := by
  have h1 : ¬ x = 0 := by omega
  have h2 : ¬ 0 < x := by omega
  go_enter Tryd.func20, Tryd.ntmps20
  go_wp2_with fail
  go_ret
  exact ⟨rfl, rfl⟩
theorem step_dec {B : Nat} {x : Int} (w : World) (h : w.cell? ⟨B, 3, none⟩ = some (.int .i64 x)) (hx : 0 < x) (hx2 : x ≤ 9223372036854775807) (f3 : w.frozen? ⟨B, 3, none⟩ = false) (c0 : Value) (h0 : w.cell? ⟨B, 0, none⟩ = some c0) : Calls Tryd.prog 20 #[.pointer (some ⟨B, 0, none⟩)] w fun e w' => e = .returned (.bool true) ∧ w' = w.setCell ⟨B, 3, none⟩ (.int .i64 (x - 1)) := by
  have h1 : ¬ x = 0 := by omega
  go_enter Tryd.func20, Tryd.ntmps20
  go_wp2_with fail
  go_ret
  exact ⟨rfl, rfl⟩
theorem mod_twice (n : Int) {m : Int} (h : 0 < m) : (n.tmod m + m).tmod m = n % m := by
  have h1 := Int.lt_tmod_of_pos n h
  rw [Int.tmod_eq_emod_of_nonneg (by omega), Int.add_emod_right]
  rw [Int.tmod_def, Int.sub_mul_emod_self_left]
set_option maxHeartbeats 1000000 in
theorem held_any {base G i : Nat} {p : PL} {v : Value} (n : Int) (hn1 : -9223372036854775808 ≤ n) (hn2 : n ≤ 9223372036854775807) (w : World) (h0 : w.cell? ⟨G, i * 2, none⟩ = some (.string p.f)) (h1 : w.cell? ⟨G, i * 2 + 1, none⟩ = some v) (h : Rk.OwnK 9 1 base w v (cellsT p.l)) (hl : p.l.length ≤ 100000) : Calls Tryd.prog 30 #[.pointer (some ⟨G, i * 2, none⟩), .int .i64 n] w fun e w' => e = .returned (.string (p.held n)) ∧ w = w' := by
  obtain ⟨a, c, rfl, hc, hm, hx⟩ := row_at h
  obtain ⟨f, l⟩ := p
  simp only at h0 h1 hc hx hl
  obtain ⟨m, hm'⟩ : ∃ m, m = l.length := ⟨_, rfl⟩
  have hmp : (0 : Int) < (m : Int) + 1 := by omega
  have hml : m ≤ 100000 := by omega
  have hmt := mod_twice n hmp
  have hb1 := Int.lt_tmod_of_pos n hmp
  have hb2 := Int.tmod_lt_of_pos n hmp
  have hw1 : IntKind.i64.wrap (n.tmod ((m : Int) + 1) + ((m : Int) + 1)) = n.tmod ((m : Int) + 1) + ((m : Int) + 1) := IntWalk.i64_in _ (by omega)
  have hk1 := Int.emod_nonneg n (show (m : Int) + 1 ≠ 0 by omega)
  have hk2 := Int.emod_lt_of_pos n hmp
  obtain ⟨k, hk⟩ : ∃ k : Nat, n % ((m : Int) + 1) = (k : Int) := ⟨(n % ((m : Int) + 1)).toNat, by omega⟩
  have hH : PL.held ⟨f, l⟩ n = PL.pick ⟨f, l⟩ k := by
    show PL.pick ⟨f, l⟩ (n % ((l.length + 1 : Nat) : Int)).toNat = _
    rw [← hm', Int.natCast_add, Int.natCast_one, hk]
    rfl
  rw [hk] at hmt
  have hkm : k < m + 1 := by omega
  have hq : ¬ ((m : Int) + 1 = 0) := by omega
  rw [hH]
  rw [← hm'] at h1 hc hx
  by_cases hk0 : k = 0
  · have e : PL.pick ⟨f, l⟩ k = f := if_pos hk0
    rw [e]
    subst hk0
    clear h hx hH hm' hk hk1 hk2 hkm e hl
    go_enter Tryd.func30, Tryd.ntmps30
    go_wp2_with fail
    go_ret
    exact ⟨rfl, rfl⟩
  · obtain ⟨b, off, rfl, hb⟩ := hx (k - 1) (by omega)
    have e : PL.pick ⟨f, l⟩ k = l.getD (k - 1) ByteArray.empty := by
      unfold PL.pick
      rw [if_neg hk0]
      show l.getD (k - 1) f = _
      rw [List.getD_eq_getElem?_getD, List.getD_eq_getElem?_getD, List.getElem?_eq_getElem (by omega)]
      rfl
    rw [e]
    obtain ⟨j, rfl⟩ : ∃ j, k = j + 1 := ⟨k - 1, by omega⟩
    rw [Nat.add_sub_cancel] at hb ⊢
    generalize l.getD j ByteArray.empty = r at *
    have n1 : ¬ (((j + 1 : Nat) : Int) = 0) := by omega
    have n2 : ((j + 1 : Nat) : Int) - 1 = (j : Nat) := by omega
    have n3 : (j : Int) < (m : Nat) := by omega
    have n4 : (0 : Int) ≤ (j : Nat) := by omega
    clear h hx hH hm' hk hk1 hk2 hkm e hl hk0
    go_enter Tryd.func30, Tryd.ntmps30
    go_wp2_with fail
    go_ret
    exact ⟨rfl, rfl⟩
end Go.Proofs.YtffejfpbeimngaaDoor.Plt
