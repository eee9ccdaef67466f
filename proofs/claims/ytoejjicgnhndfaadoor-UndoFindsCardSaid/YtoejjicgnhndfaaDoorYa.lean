/- Undo: Drop of the program. -/
import Derived.Test.YtoejjicgnhndfaaDoorUz
import Derived.Test.YtoejjicgnhndfaaDoorUh
set_option linter.unusedVariables false
set_option linter.unusedSimpArgs false
set_option maxRecDepth 100000
namespace Go.Proofs.YtoejjicgnhndfaaDoor.Und
open Go.RowKit Go.Lib Go.Proofs.YtoejjicgnhndfaaDoor.Rk Go.Proofs.YtoejjicgnhndfaaDoor.Rig

/-- Those of another mark. -/
def dropA (A : List U) (mark : Int) : List U := A.filter (fun y => !(y.m == mark))
theorem dropA_eq (A : List U) {mark : Int} {k : Nat} (hk : k < A.length) (h : A[k].m = mark) : dropA (A.take (k + 1)) mark = dropA (A.take k) mark := by
  unfold dropA
  rw [List.take_succ_eq_append_getElem hk, List.filter_append, List.filter_cons_of_neg (by simp [h])]
  simp
theorem dropA_ne (A : List U) {mark : Int} {k : Nat} (hk : k < A.length) (h : A[k].m ≠ mark) : dropA (A.take (k + 1)) mark = dropA (A.take k) mark ++ [A[k]] := by
  unfold dropA
  rw [List.take_succ_eq_append_getElem hk, List.filter_append, List.filter_cons_of_pos (by simp [h])]
  simp
theorem dropA_len (A : List U) (mark : Int) (k : Nat) : (dropA (A.take k) mark).length ≤ k :=
  Nat.le_trans (List.length_filter_le _ _) (by rw [List.length_take]; omega)

set_option maxHeartbeats 4000000 in
theorem sdrop_any {s : Value} {A : List U} (mark : Int) (w : World) (h : Stk w s A) (hn : A.length ≤ 10000) : Calls Tryd.prog 61 #[.agg #[s], .int .i64 mark] w fun e w' => ∃ s', e = .returned (.agg #[s']) ∧ Stk w' s' (dropA A mark) ∧ Below w.heap.size w w' := by
  obtain ⟨sa, sc, rfl⟩ := Rk.Rows.is_slice h
  obtain ⟨_, hcap, hmax⟩ := Rk.Rows.len h
  obtain ⟨n, hnA⟩ : ∃ n, n = A.length := ⟨_, rfl⟩
  have HR : Hid (∀ w', Below w.heap.size w w' → Stk w' (.slice sa n sc) A) := fun w' hb => by rw [hnA]; exact h.below hb
  rw [← hnA] at hcap hn ⊢
  unfold maxLen at hmax
  have HN := Lib.hid hnA
  obtain ⟨W0, hW0⟩ : ∃ W0, W0 = (w.alloc (.cells #[.slice sa n sc] 84)).alloc (.cells #[.slice none 0 0] 84) := ⟨_, rfl⟩
  have B0 : Below w.heap.size w W0 := by rw [hW0]; exact ((Below.refl _ _).alloc (Nat.le_refl _) _).alloc (by simp) _
  have R0 : W0.heap[w.heap.size]? = some (.cells #[.slice sa n sc] 84 (0, 0)) := by
    rw [hW0, Below.heap_alloc _ _ _ (by simp)]
    exact heap_alloc_new _ _
  have R4 : W0.heap[w.heap.size + 1]? = some (.cells #[.slice none 0 0] 84 (0, 0)) := by
    rw [hW0]
    have := heap_alloc_new (w.alloc (.cells #[.slice sa n sc] 84)) (.cells #[.slice none 0 0] 84)
    rwa [World.size_alloc] at this
  have c0 := u1cell R0
  have HB0 := Lib.hid B0
  have HW0 := Lib.hid hW0
  have HR4 := Lib.hid R4
  clear h hnA hW0 B0 R0 R4
  go_enter Tryd.func61, Tryd.ntmps61
  go_upto_region 1 with fail
  rw [← HW0.out]
  go_wp2_with fail
  go_loopg [5, 13] n (fun g t i wr => ∃ (k : Nat) (a' : Option Addr) (m' c' : Nat), k ≤ n ∧ n - k ≤ g ∧ i = .int .i64 k ∧ t = .slice a' m' c' ∧ Hid (OStk W0.heap.size wr (.slice a' m' c') (dropA (A.take k) mark)) ∧ Below W0.heap.size W0 wr)
  case atStart => exact ⟨0, none, 0, 0, Nat.zero_le _, by omega, rfl, rfl, OStk.nil_ _ _, Below.refl _ _⟩
  case round =>
    obtain ⟨k, ao, mo, co, hk, hg, rfl, rfl, HO, hbel⟩ := hrel
    have HB := Lib.hid hbel
    have HBw := Lib.hid (below_more HB0.out hbel)
    by_cases hlt : k < n
    · have hkl : k < A.length := by rw [← HN.out]; exact hlt
      obtain ⟨b, off, v, rfl, hb, hv, q0⟩ := (HR.out _ HBw.out).get hkl
      have HV := Lib.hid hv
      have CN := Lib.hid (hv.nums).c
      obtain ⟨tt, tq, hif⟩ := hv.iface
      subst hif
      have i1 : (k : Int) < (n : Int) := by omega
      have hlen := dropA_len A mark k
      clear hbel hv c0
      by_cases hm : A[k].m = mark
      · have EQ := Lib.hid (dropA_eq A hkl hm)
        have e1 : (A[k].m != mark) = false := by simp [hm]
        generalize A[k] = y at *
        generalize y.m = ym at *
        generalize y.d = yd at *
        generalize y.l = yl at *
        clear hm
        go_wp2_with fail
        refine (CN.out _).mono ?_
        rintro e w1 ⟨rfl, b1⟩
        have A1 : Hid (∀ o, OStk W0.heap.size (w1.alloc o) (.slice ao mo co) (dropA (A.take (k + 1)) mark)) := fun o => by rw [EQ.out]; exact (HO.out.below b1).below ((Below.refl _ _).alloc (Nat.le_refl _) _)
        have HBY : Hid (∀ o, Below W0.heap.size W0 (w1.alloc o)) := fun o => (below_more HB.out b1).alloc (Nat.le_trans HB.out.size b1.size) _
        clear b1 q0 HO EQ HV
        go_wp2_with fail
        go_roundg (n - (k + 1))
        case measure => omega
        case rel => exact ⟨k + 1, ao, mo, co, by omega, Nat.le_refl _, by go_num, rfl, A1.out _, HBY.out _⟩
      · have EQ := Lib.hid (dropA_ne A hkl hm)
        have e1 : (A[k].m != mark) = true := by simp [hm]
        generalize A[k] = y at *
        generalize y.m = ym at *
        generalize y.d = yd at *
        generalize y.l = yl at *
        clear hm
        go_wp2_with fail
        refine (CN.out _).mono ?_
        rintro e w1 ⟨rfl, b1⟩
        obtain ⟨W2, hW2⟩ : ∃ W2, W2 = (w1.alloc (.cells #[.int .i64 yd, .int .i64 ym, .int .i64 yl] 95)).alloc (.cells #[.iface tt tq] 20) := ⟨_, rfl⟩
        have b2 : Below w1.heap.size w1 W2 := by rw [hW2]; exact ((Below.refl _ _).alloc (Nat.le_refl _) _).alloc (by simp) _
        have R2 : W2.heap[w1.heap.size + 1]? = some (.cells #[.iface tt tq] 20 (0, 0)) := by
          rw [hW2]
          have := heap_alloc_new (w1.alloc (.cells #[.int .i64 yd, .int .i64 ym, .int .i64 yl] 95)) (.cells #[.iface tt tq] 20)
          rwa [World.size_alloc] at this
        have V2 := Lib.hid (HV.out.below (below_more b1 b2) (Nat.le_refl _))
        have A2 : Hid (RowK 1 W2 (.slice (some ⟨w1.heap.size + 1, 0, none⟩) 1 1) [[.iface tt tq]]) := row_one (e := 20) R2 rfl
        have HYO : Hid (∀ x ∈ [[Value.iface tt tq]], ∀ q ∈ x, q.oneCell' = true) := thing_one V2.out
        have HBY : Hid (Below W0.heap.size W0 W2) := below_more HB.out (below_more b1 b2)
        have A4 : Hid (W0.heap.size ≤ W2.heap.size) := HBY.out.size
        obtain ⟨xs, hxl, A1, K0⟩ := (HO.out.below (below_more b1 b2)).row
        replace A1 := Lib.hid A1
        have K := Lib.hid K0
        have A3 : Hid (xs.length + 1 ≤ 100000) := by show _ ≤ _; rw [hxl]; omega
        have HW2 := Lib.hid hW2
        clear K0 hxl hlen b1 b2 R2 hW2 q0 HO HV
        go_wp2_with (at_builtin; rw [← HW2.out]; refine wpList_append_rowk rfl _ _ 82 20 1 16 _ Tryd.underlying82 infoAny rfl (by decide) (by decide) rfl W0.heap.size _ _ xs _ rfl rfl A1.out A2.out HYO.out A3.out A4.out ?_)
        intro v6 w6 h5 g5 _
        have K6 : Hid (OStk W0.heap.size w6 v6 (dropA (A.take (k + 1)) mark)) := by show OStk _ _ _ _; rw [EQ.out]; exact K.out _ _ _ _ h5 g5 V2.out
        obtain ⟨a6, c6, rfl⟩ := K6.out.is_slice
        have HB6 := Lib.hid (A1.out.belowOf HBY.out (Nat.le_refl _) A4.out g5)
        clear h5 g5 A1 A2 A3 A4 HBY EQ K HYO
        go_wp2_with fail
        go_roundg (n - (k + 1))
        case measure => omega
        case rel => exact ⟨k + 1, a6, _, c6, by omega, Nat.le_refl _, by go_num, rfl, K6, HB6.out⟩
    · obtain rfl : k = n := by omega
      have i1 : ¬ ((k : Int) < (k : Int)) := by omega
      have Z := ukeep HB.out (urow_lt HR4.out) HR4.out
      have HU : Hid (Stk (wr.setCell ⟨w.heap.size + 1, 0, none⟩ (.slice ao mo co)) (.slice ao mo co) (dropA A mark)) := by
        have := (HO.out.put (u := .slice ao mo co) (j := 0) (urow_lt HR4.out) Z (by decide)).stk
        rwa [show A.take k = A by rw [HN.out, List.take_length]] at this
      have c4 : wr.cell? ⟨w.heap.size + 1, 0, none⟩ = some (.slice none 0 0) := u1cell Z
      have f4 : wr.frozen? ⟨w.heap.size + 1, 0, none⟩ = false := ublock_frozen Z
      have y4 := u1cell (uset_block (i := 0) (u := .slice ao mo co) Z)
      have FIN : Hid (Below w.heap.size w (wr.setCell ⟨w.heap.size + 1, 0, none⟩ (.slice ao mo co))) := HBw.out.setCell (p := ⟨w.heap.size + 1, 0, none⟩) (Nat.le_succ _) _
      clear hbel HO Z c0
      go_wp2_with fail
      exact bodyPost_ret (v := .agg #[.slice ao mo co]) (by simp [results, Tryd.results61, go_sem, y4]) rfl ⟨_, rfl, HU.out, FIN.out⟩
end Go.Proofs.YtoejjicgnhndfaaDoor.Und
