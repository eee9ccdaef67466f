/- State: is a mark late? -/
import Derived.Test.YtccaiippoephbaaGreatDoorWk
import Derived.BigQuiet
set_option linter.unusedVariables false
set_option linter.unusedSimpArgs false
set_option maxRecDepth 100000
namespace Go.Proofs.YtccaiippoephbaaGreatDoor.Sta
open Go.RowKit Go.Lib Go.Proofs.YtccaiippoephbaaGreatDoor.Bx Go.Proofs.YtccaiippoephbaaGreatDoor.Frm Go.Proofs.YtccaiippoephbaaGreatDoor.Wds

def LateE (FB SB : Nat) (x0 x2 : Int) (w : World) : Prop := w.cell? ⟨FB, 0, none⟩ = some (.func (.func 55) #[] #[.pointer (some ⟨SB, 0, none⟩)]) ∧ w.cell? ⟨SB, 0, none⟩ = some (.int .i64 x0) ∧ w.cell? ⟨SB, 2, none⟩ = some (.int .i64 x2) ∧ FB < w.heap.size ∧ SB < w.heap.size
theorem LateE.below {FB SB : Nat} {x0 x2 : Int} {w w' : World} (h : LateE FB SB x0 x2 w) (b : Below w.heap.size w w') : LateE FB SB x0 x2 w' :=
  ⟨vcell b h.2.2.2.1 h.1, vcell b h.2.2.2.2 h.2.1, vcell b h.2.2.2.2 h.2.2.1, Nat.lt_of_lt_of_le h.2.2.2.1 b.size, Nat.lt_of_lt_of_le h.2.2.2.2 b.size⟩
set_option maxHeartbeats 4000000 in
theorem late_any (n x0 x2 : Int) (SB : Nat) (w : World) (h0 : w.cell? ⟨SB, 0, none⟩ = some (.int .i64 x0)) (h2 : w.cell? ⟨SB, 2, none⟩ = some (.int .i64 x2)) : Calls Tryz.prog 55 #[.int .i64 n, .pointer (some ⟨SB, 0, none⟩)] w fun e w' => e = .returned (.bool (decide (x2 ≤ n))) ∧ w' = w := by
  go_enter Tryz.func55, Tryz.ntmps55
  by_cases k : x2 ≤ n
  · have kd : decide (x2 ≤ n) = true := decide_eq_true k
    go_wp2_with fail
    go_ret
    exact ⟨by first | rfl | (rw [kd]; rfl), rfl⟩
  · have kd : decide (x2 ≤ n) = false := decide_eq_false k
    go_wp2_with fail
    go_ret
    exact ⟨by first | rfl | (rw [kd]; rfl), rfl⟩
set_option maxHeartbeats 4000000 in
theorem spanclo_any (z0 z1 z2 : Int) (FB SB : Nat) (x0 x2 : Int) (w : World) (h : LateE FB SB x0 x2 w) : Calls Tryz.prog 57 #[.agg #[.int .i64 z0, .int .i64 z1, .int .i64 z2], .pointer (some ⟨FB, 0, none⟩)] w fun e w' => e = .returned (.bool (decide (x2 ≤ z0))) ∧ Below w.heap.size w w' := by
  obtain ⟨B0, P0, L0⟩ := box1 w #[.int .i64 z0, .int .i64 z1, .int .i64 z2] 108
  obtain ⟨W0, hW0⟩ : ∃ W0, W0 = w.alloc (.cells #[.int .i64 z0, .int .i64 z1, .int .i64 z2] 108) := ⟨_, rfl⟩
  rw [← hW0] at B0 P0 L0
  obtain ⟨c0, c1, c2, _, _⟩ := h.below B0
  obtain ⟨R, hR⟩ : ∃ R, R = w.heap.size := ⟨_, rfl⟩
  rw [← hR] at P0
  have HB : Hid (Below w.heap.size w W0) := B0
  have HW := Lib.hid hW0
  have HR : Hid (w.heap.size = R) := hR.symm
  obtain ⟨e0, e1, e2⟩ := three_cells P0
  have C := Lib.hid (late_any z0 x0 x2 SB W0 c1 c2)
  clear B0 P0 L0 hW0 hR h c1 c2
  go_enter Tryz.func57, Tryz.ntmps57
  go_upto_region 1 with fail
  rw [← HW.out, HR.out]
  go_wp2_with fail
  refine C.out.mono ?_
  rintro e wt ⟨rfl, hwt⟩
  rw [hwt]
  clear hwt wt
  go_wp2_with fail
  go_ret
  exact ⟨rfl, HB.out⟩
def HasSpan (T : List Spn) (x2 : Int) : Prop := ∃ y ∈ T, x2 ≤ y.1
set_option maxHeartbeats 8000000 in
theorem spanidx_any {P : Nat → Prop} {v : Value} (T : List Spn) (FB SB : Nat) (x0 x2 : Int) (w : World) (h : RowP spnM P w v T) (hE : LateE FB SB x0 x2 w) : Calls Tryz.prog 81 #[v, .func (.func 57) #[] #[.pointer (some ⟨FB, 0, none⟩)]] w fun e w' => IdxR (HasSpan T x2) e ∧ Below w.heap.size w w' := by
  obtain ⟨u, c, rfl⟩ := h.is_slice
  obtain ⟨n, hn⟩ : ∃ n, n = T.length := ⟨_, rfl⟩
  rw [← hn] at h ⊢
  have hmn : n ≤ 9223372036854775807 := by have q := h.len; simp only [maxLen] at q; omega
  have HN := Lib.hid hn
  have HD : Hid (∀ w', Below w.heap.size w w' → RowP spnM P w' (.slice u n c) T) := fun w' b => h.keep spnM_ok (Keep.below b)
  have HCL := Lib.hid (fun w' (b : Below w.heap.size w w') (z0 z1 z2 : Int) => spanclo_any z0 z1 z2 FB SB x0 x2 w' (hE.below b))
  have HX : Hid (Below w.heap.size w w) := Below.refl _ _
  clear h hn hE
  go_enter Tryz.func81, Tryz.ntmps81
  go_wp2_with fail
  go_loopg [8] n (fun g i_ wr => ∃ (i : Nat), i ≤ n ∧ n - i ≤ g ∧ i_ = .int .i64 (i : Nat) ∧ Hid (∀ x ∈ T.take i, NoP (x2 ≤ x.1)) ∧ Hid (Below w.heap.size w wr))
  case atStart => exact ⟨0, by omega, by omega, rfl, take_zero, HX⟩
  case round =>
    clear HX
    obtain ⟨i, hi, hg, rfl, HV, HX⟩ := hrel
    by_cases hin : i < n
    · have iw : ((i : Nat) : Int) < (n : Int) := by omega
      have n0i : (0 : Int) ≤ ((i : Nat) : Int) := by omega
      have hixi : i < T.length := by rw [← HN.out]; exact hin
      obtain ⟨b1, f1, s1_, rfl, hlt1, _, hR1, hc1⟩ := (HD.out wr HX.out).get hixi
      obtain ⟨x, hx⟩ : ∃ z, z = T[i] := ⟨_, rfl⟩
      have HMX : Hid (x ∈ T) := hx ▸ List.getElem_mem hixi
      rw [← hx] at hR1
      have HXI : Hid (T[i] = x) := hx.symm
      obtain rfl := spnM_cells hR1
      obtain ⟨z0, hz0⟩ : ∃ q, q = x.1 := ⟨_, rfl⟩
      obtain ⟨z1, hz1⟩ : ∃ q, q = x.2.1 := ⟨_, rfl⟩
      obtain ⟨z2, hz2⟩ : ∃ q, q = x.2.2 := ⟨_, rfl⟩
      rw [← hz0, ← hz1, ← hz2] at hc1
      have CC := Lib.hid (HCL.out wr HX.out z0 z1 z2)
      have e0 : wr.cell? ⟨b1, f1 + i * 3, none⟩ = some (.int .i64 z0) := hc1 0 _ rfl
      have e1 : wr.cell? ⟨b1, f1 + i * 3 + 1, none⟩ = some (.int .i64 z1) := hc1 1 _ rfl
      have e2 : wr.cell? ⟨b1, f1 + i * 3 + 2, none⟩ = some (.int .i64 z2) := hc1 2 _ rfl
      have HZ0 := Lib.hid hz0
      clear hc1 hR1 hx hlt1 hz0 hz1 hz2
      go_wp2_with fail
      refine CC.out.mono ?_
      rintro e w1 ⟨rfl, bb⟩
      have HX1 : Hid (Below w.heap.size w w1) := below_on HX.out bb
      clear bb CC e0 e1 e2
      by_cases hq : x2 ≤ z0
      · rw [decide_eq_true hq]
        have HT : Hid (IdxR (HasSpan T x2) (.returned (.int .i64 (i : Nat)))) := ⟨_, rfl, fun _ => ⟨x, HMX.out, by rw [← HZ0.out]; exact hq⟩, fun _ => by omega⟩
        clear hq
        go_wp2_with fail
        go_ret
        exact ⟨HT.out, HX1.out⟩
      · rw [decide_eq_false hq]
        have HV2 : Hid (∀ x ∈ T.take (i + 1), NoP (x2 ≤ x.1)) := all_step hixi HV.out (by rw [HXI.out, ← HZ0.out]; exact hq)
        clear hq HV HXI HMX
        go_wp2_with fail
        go_roundg (n - (i + 1))
        case measure => omega
        case rel => exact ⟨i + 1, by omega, Nat.le_refl _, by go_num, HV2, HX1⟩
    · obtain rfl : n = i := by omega
      have iw : ¬ ((n : Nat) : Int) < ((n : Nat) : Int) := by omega
      have HT : Hid (IdxR (HasSpan T x2) (.returned (.int .i64 (-1)))) := ⟨_, rfl, fun h => absurd h (by decide), fun ⟨y, hy, e⟩ => absurd e (take_whole HN.out HV.out y hy)⟩
      clear HV
      go_wp2_with fail
      go_ret
      exact ⟨HT.out, HX.out⟩
set_option maxHeartbeats 4000000 in
theorem spancont_any {P : Nat → Prop} {v : Value} (T : List Spn) (FB SB : Nat) (x0 x2 : Int) (w : World) (h : RowP spnM P w v T) (hE : LateE FB SB x0 x2 w) : Calls Tryz.prog 56 #[v, .func (.func 57) #[] #[.pointer (some ⟨FB, 0, none⟩)]] w fun e w' => IffB (HasSpan T x2) e ∧ Below w.heap.size w w' := by
  have C := Lib.hid (spanidx_any T FB SB x0 x2 w h hE)
  clear h hE
  go_enter Tryz.func56, Tryz.ntmps56
  go_wp2_with fail
  refine C.out.mono ?_
  rintro e w1 ⟨⟨r, rfl, hr⟩, b1⟩
  have HB := Lib.hid b1
  clear b1 C
  by_cases k : (0 : Int) ≤ r
  · have kd : decide ((0 : Int) ≤ r) = true := decide_eq_true k
    have HT := Lib.hid (hr.1 k)
    clear hr
    go_wp2_with fail
    go_ret
    exact ⟨iff_t HT.out, HB.out⟩
  · have kd : decide ((0 : Int) ≤ r) = false := decide_eq_false k
    have HF : Hid (NoP (HasSpan T x2)) := fun h => k (hr.2 h)
    clear hr
    go_wp2_with fail
    go_ret
    exact ⟨iff_f HF.out, HB.out⟩
set_option maxHeartbeats 4000000 in
theorem siteclo_any (z0 z1 : Int) (FB SB : Nat) (x0 x2 : Int) (w : World) (h : LateE FB SB x0 x2 w) : Calls Tryz.prog 59 #[.agg #[.int .i64 z0, .int .i64 z1], .pointer (some ⟨FB, 0, none⟩)] w fun e w' => e = .returned (.bool (decide (x2 ≤ z0))) ∧ Below w.heap.size w w' := by
  obtain ⟨B0, P0, L0⟩ := box1 w #[.int .i64 z0, .int .i64 z1] 112
  obtain ⟨W0, hW0⟩ : ∃ W0, W0 = w.alloc (.cells #[.int .i64 z0, .int .i64 z1] 112) := ⟨_, rfl⟩
  rw [← hW0] at B0 P0 L0
  obtain ⟨c0, c1, c2, _, _⟩ := h.below B0
  obtain ⟨R, hR⟩ : ∃ R, R = w.heap.size := ⟨_, rfl⟩
  rw [← hR] at P0
  have HB : Hid (Below w.heap.size w W0) := B0
  have HW := Lib.hid hW0
  have HR : Hid (w.heap.size = R) := hR.symm
  obtain ⟨e0, e1⟩ := two_cells P0
  have C := Lib.hid (late_any z0 x0 x2 SB W0 c1 c2)
  clear B0 P0 L0 hW0 hR h c1 c2
  go_enter Tryz.func59, Tryz.ntmps59
  go_upto_region 1 with fail
  rw [← HW.out, HR.out]
  go_wp2_with fail
  refine C.out.mono ?_
  rintro e wt ⟨rfl, hwt⟩
  rw [hwt]
  clear hwt wt
  go_wp2_with fail
  go_ret
  exact ⟨rfl, HB.out⟩
def HasSite (T : List Sit) (x2 : Int) : Prop := ∃ y ∈ T, x2 ≤ y.1
set_option maxHeartbeats 8000000 in
theorem siteidx_any {P : Nat → Prop} {v : Value} (T : List Sit) (FB SB : Nat) (x0 x2 : Int) (w : World) (h : RowP sitM P w v T) (hE : LateE FB SB x0 x2 w) : Calls Tryz.prog 82 #[v, .func (.func 59) #[] #[.pointer (some ⟨FB, 0, none⟩)]] w fun e w' => IdxR (HasSite T x2) e ∧ Below w.heap.size w w' := by
  obtain ⟨u, c, rfl⟩ := h.is_slice
  obtain ⟨n, hn⟩ : ∃ n, n = T.length := ⟨_, rfl⟩
  rw [← hn] at h ⊢
  have hmn : n ≤ 9223372036854775807 := by have q := h.len; simp only [maxLen] at q; omega
  have HN := Lib.hid hn
  have HD : Hid (∀ w', Below w.heap.size w w' → RowP sitM P w' (.slice u n c) T) := fun w' b => h.keep sitM_ok (Keep.below b)
  have HCL := Lib.hid (fun w' (b : Below w.heap.size w w') (z0 z1 : Int) => siteclo_any z0 z1 FB SB x0 x2 w' (hE.below b))
  have HX : Hid (Below w.heap.size w w) := Below.refl _ _
  clear h hn hE
  go_enter Tryz.func82, Tryz.ntmps82
  go_wp2_with fail
  go_loopg [8] n (fun g i_ wr => ∃ (i : Nat), i ≤ n ∧ n - i ≤ g ∧ i_ = .int .i64 (i : Nat) ∧ Hid (∀ x ∈ T.take i, NoP (x2 ≤ x.1)) ∧ Hid (Below w.heap.size w wr))
  case atStart => exact ⟨0, by omega, by omega, rfl, take_zero, HX⟩
  case round =>
    clear HX
    obtain ⟨i, hi, hg, rfl, HV, HX⟩ := hrel
    by_cases hin : i < n
    · have iw : ((i : Nat) : Int) < (n : Int) := by omega
      have n0i : (0 : Int) ≤ ((i : Nat) : Int) := by omega
      have hixi : i < T.length := by rw [← HN.out]; exact hin
      obtain ⟨b1, f1, s1_, rfl, hlt1, _, hR1, hc1⟩ := (HD.out wr HX.out).get hixi
      obtain ⟨x, hx⟩ : ∃ z, z = T[i] := ⟨_, rfl⟩
      have HMX : Hid (x ∈ T) := hx ▸ List.getElem_mem hixi
      rw [← hx] at hR1
      have HXI : Hid (T[i] = x) := hx.symm
      obtain rfl := sitM_cells hR1
      obtain ⟨z0, hz0⟩ : ∃ q, q = x.1 := ⟨_, rfl⟩
      obtain ⟨z1, hz1⟩ : ∃ q, q = x.2 := ⟨_, rfl⟩
      rw [← hz0, ← hz1] at hc1
      have CC := Lib.hid (HCL.out wr HX.out z0 z1)
      have e0 : wr.cell? ⟨b1, f1 + i * 2, none⟩ = some (.int .i64 z0) := hc1 0 _ rfl
      have e1 : wr.cell? ⟨b1, f1 + i * 2 + 1, none⟩ = some (.int .i64 z1) := hc1 1 _ rfl
      have HZ0 := Lib.hid hz0
      clear hc1 hR1 hx hlt1 hz0 hz1
      go_wp2_with fail
      refine CC.out.mono ?_
      rintro e w1 ⟨rfl, bb⟩
      have HX1 : Hid (Below w.heap.size w w1) := below_on HX.out bb
      clear bb CC e0 e1
      by_cases hq : x2 ≤ z0
      · rw [decide_eq_true hq]
        have HT : Hid (IdxR (HasSite T x2) (.returned (.int .i64 (i : Nat)))) := ⟨_, rfl, fun _ => ⟨x, HMX.out, by rw [← HZ0.out]; exact hq⟩, fun _ => by omega⟩
        clear hq
        go_wp2_with fail
        go_ret
        exact ⟨HT.out, HX1.out⟩
      · rw [decide_eq_false hq]
        have HV2 : Hid (∀ x ∈ T.take (i + 1), NoP (x2 ≤ x.1)) := all_step hixi HV.out (by rw [HXI.out, ← HZ0.out]; exact hq)
        clear hq HV HXI HMX
        go_wp2_with fail
        go_roundg (n - (i + 1))
        case measure => omega
        case rel => exact ⟨i + 1, by omega, Nat.le_refl _, by go_num, HV2, HX1⟩
    · obtain rfl : n = i := by omega
      have iw : ¬ ((n : Nat) : Int) < ((n : Nat) : Int) := by omega
      have HT : Hid (IdxR (HasSite T x2) (.returned (.int .i64 (-1)))) := ⟨_, rfl, fun h => absurd h (by decide), fun ⟨y, hy, e⟩ => absurd e (take_whole HN.out HV.out y hy)⟩
      clear HV
      go_wp2_with fail
      go_ret
      exact ⟨HT.out, HX.out⟩
set_option maxHeartbeats 4000000 in
theorem sitecont_any {P : Nat → Prop} {v : Value} (T : List Sit) (FB SB : Nat) (x0 x2 : Int) (w : World) (h : RowP sitM P w v T) (hE : LateE FB SB x0 x2 w) : Calls Tryz.prog 58 #[v, .func (.func 59) #[] #[.pointer (some ⟨FB, 0, none⟩)]] w fun e w' => IffB (HasSite T x2) e ∧ Below w.heap.size w w' := by
  have C := Lib.hid (siteidx_any T FB SB x0 x2 w h hE)
  clear h hE
  go_enter Tryz.func58, Tryz.ntmps58
  go_wp2_with fail
  refine C.out.mono ?_
  rintro e w1 ⟨⟨r, rfl, hr⟩, b1⟩
  have HB := Lib.hid b1
  clear b1 C
  by_cases k : (0 : Int) ≤ r
  · have kd : decide ((0 : Int) ≤ r) = true := decide_eq_true k
    have HT := Lib.hid (hr.1 k)
    clear hr
    go_wp2_with fail
    go_ret
    exact ⟨iff_t HT.out, HB.out⟩
  · have kd : decide ((0 : Int) ≤ r) = false := decide_eq_false k
    have HF : Hid (NoP (HasSite T x2)) := fun h => k (hr.2 h)
    clear hr
    go_wp2_with fail
    go_ret
    exact ⟨iff_f HF.out, HB.out⟩
end Go.Proofs.YtccaiippoephbaaGreatDoor.Sta
/- State: a segment right for a config, as far as its sheet doesn't tell. -/
set_option linter.unusedVariables false
set_option linter.unusedSimpArgs false
set_option maxRecDepth 100000
namespace Go.Proofs.YtccaiippoephbaaGreatDoor.Sta
open Go.RowKit Go.Lib Go.Proofs.YtccaiippoephbaaGreatDoor.Bx Go.Proofs.YtccaiippoephbaaGreatDoor.Frm Go.Proofs.YtccaiippoephbaaGreatDoor.Wds

theorem store_func (w : World) (f : Fn) (a b : Array Value) (ty : TypeId) : Sem.run Tryz.prog (store ⟨w.heap.size, 0, none⟩ (.func f a b)) (w.alloc (.cells #[.nilFunc] ty)) = .ok () (w.alloc (.cells #[.func f a b] ty)) := by
  have z := heap_alloc_new w (.cells #[Value.nilFunc] ty)
  have c2 : (w.alloc (.cells #[.nilFunc] ty)).cell? ⟨w.heap.size, 0, none⟩ = some .nilFunc := by rw [cell_of_row _ _ _ _ _ _ z]; rfl
  have f2 : (w.alloc (.cells #[.nilFunc] ty)).frozen? ⟨w.heap.size, 0, none⟩ = false := free_at z
  have e : (w.alloc (.cells #[.nilFunc] ty)).setCell ⟨w.heap.size, 0, none⟩ (.func f a b) = w.alloc (.cells #[.func f a b] ty) := by
    rw [World.setCell_alloc_at _ _ _ _ _ rfl]
    rfl
  rw [← e, run_store _ _ _ _ _ rfl]
  simp [go_sem, c2, f2]
def segR (q2 x1 x2 : Int) (m3 : Nat) (y : Seg) : Prop := (y.2.2.1.length : Int) ≤ q2 ∧ (0 ≤ y.2.1 ∧ y.2.1 ≤ (m3 : Int) - 1) ∧ (0 ≤ y.1 ∧ y.1 ≤ x1 - 1) ∧ NoP (HasSpan y.2.2.2.1 x2) ∧ NoP (HasSite y.2.2.2.2 x2)
set_option maxHeartbeats 8000000 in
theorem seg_any {P : Nat → Prop} {u0 u1 y3 y4 y5 y6 y7 : Option Addr} {n0 k0 n1 k1 m3 d3 m4 d4 m5 d5 m6 d6 m7 d7 : Nat} {q2 q3 q4 q5 q6 q7 q8 x0 x1 x2 : Int} {p3 p4 : Option Addr} {l3 g3 l4 g4 : Nat} (i0 i1 : Int) (tl : List UInt8) (Sp : List Spn) (Si : List Sit) (w : World) (hSp : RowP spnM P w (.slice p3 l3 g3) Sp) (hSi : RowP sitM P w (.slice p4 l4 g4) Si) (hx1 : 0 ≤ x1 ∧ x1 ≤ 1099511627776) (h3 : m3 ≤ 9223372036854775807) (ht : tl.length ≤ 9223372036854775807) : Calls Tryz.prog 32 #[.agg #[.slice u0 n0 k0, .slice u1 n1 k1, .int .i64 q2, .int .i64 q3, .int .i64 q4, .int .i64 q5, .int .i64 q6, .int .i64 q7, .int .i64 q8], .agg #[.int .i64 x0, .int .i64 x1, .int .i64 x2, .slice y3 m3 d3, .slice y4 m4 d4, .slice y5 m5 d5, .slice y6 m6 d6, .slice y7 m7 d7], .agg #[.int .i64 i0, .int .i64 i1, .string (mkB tl), .slice p3 l3 g3, .slice p4 l4 g4]] w fun e w' => IffB (segR q2 x1 x2 m3 (i0, i1, tl, Sp, Si)) e ∧ Below w.heap.size w w' := by
  have hS : Hid (∀ w', Below w.heap.size w w' → RowP spnM P w' (.slice p3 l3 g3) Sp) := fun w' b => hSp.keep spnM_ok (Keep.below b)
  have hT : Hid (∀ w', Below w.heap.size w w' → RowP sitM P w' (.slice p4 l4 g4) Si) := fun w' b => hSi.keep sitM_ok (Keep.below b)
  obtain ⟨ts, htt⟩ : ∃ q, q = mkB tl := ⟨_, rfl⟩
  obtain ⟨mt, hmt⟩ : ∃ q, q = tl.length := ⟨_, rfl⟩
  have zt : ts.size = mt := by rw [htt, mkB_size, hmt]
  have HMT := Lib.hid hmt
  rw [← htt]
  rw [← hmt] at ht
  clear htt hmt hSp hSi
  obtain ⟨B0, P0, L0⟩ := box1 w #[.slice u0 n0 k0, .slice u1 n1 k1, .int .i64 q2, .int .i64 q3, .int .i64 q4, .int .i64 q5, .int .i64 q6, .int .i64 q7, .int .i64 q8] 25
  obtain ⟨W0, hW0⟩ : ∃ W0, W0 = w.alloc (.cells #[.slice u0 n0 k0, .slice u1 n1 k1, .int .i64 q2, .int .i64 q3, .int .i64 q4, .int .i64 q5, .int .i64 q6, .int .i64 q7, .int .i64 q8] 25) := ⟨_, rfl⟩
  rw [← hW0] at B0 P0 L0
  obtain ⟨B1, P1, L1⟩ := box1 W0 #[.int .i64 x0, .int .i64 x1, .int .i64 x2, .slice y3 m3 d3, .slice y4 m4 d4, .slice y5 m5 d5, .slice y6 m6 d6, .slice y7 m7 d7] 31
  obtain ⟨W1, hW1⟩ : ∃ W1, W1 = W0.alloc (.cells #[.int .i64 x0, .int .i64 x1, .int .i64 x2, .slice y3 m3 d3, .slice y4 m4 d4, .slice y5 m5 d5, .slice y6 m6 d6, .slice y7 m7 d7] 31) := ⟨_, rfl⟩
  rw [← hW1] at B1 P1 L1
  obtain ⟨B2, P2, L2⟩ := box1 W1 #[.int .i64 i0, .int .i64 i1, .string ts, .slice p3 l3 g3, .slice p4 l4 g4] 67
  obtain ⟨W2, hW2⟩ : ∃ W2, W2 = W1.alloc (.cells #[.int .i64 i0, .int .i64 i1, .string ts, .slice p3 l3 g3, .slice p4 l4 g4] 67) := ⟨_, rfl⟩
  rw [← hW2] at B2 P2 L2
  have r0 : W2.heap[w.heap.size]? = some (.cells #[.slice u0 n0 k0, .slice u1 n1 k1, .int .i64 q2, .int .i64 q3, .int .i64 q4, .int .i64 q5, .int .i64 q6, .int .i64 q7, .int .i64 q8] 25 (0, 0)) := (B2.block _ (by omega)).trans ((B1.block _ (by omega)).trans P0)
  have r1 : W2.heap[W0.heap.size]? = some (.cells #[.int .i64 x0, .int .i64 x1, .int .i64 x2, .slice y3 m3 d3, .slice y4 m4 d4, .slice y5 m5 d5, .slice y6 m6 d6, .slice y7 m7 d7] 31 (0, 0)) := (B2.block _ (by omega)).trans P1
  rw [L0] at r1 L1
  rw [L1] at P2 L2
  have HB : Hid (Below w.heap.size w W2) := below_on (below_on B0 B1) B2
  obtain ⟨R, hR⟩ : ∃ R, R = w.heap.size := ⟨_, rfl⟩
  rw [← hR] at r0 r1 P2 L2
  obtain ⟨a0, a1, a2, a3, a4, a5, a6, a7, a8⟩ := nine_cells' r0
  obtain ⟨b0, b1, b2, b3, b4, b5, b6, b7⟩ := eight_cells r1
  obtain ⟨e0, e1, e2, e3, e4⟩ := five_cells' P2
  have HW : Hid (W2 = ((w.alloc (.cells #[.slice u0 n0 k0, .slice u1 n1 k1, .int .i64 q2, .int .i64 q3, .int .i64 q4, .int .i64 q5, .int .i64 q6, .int .i64 q7, .int .i64 q8] 25)).alloc (.cells #[.int .i64 x0, .int .i64 x1, .int .i64 x2, .slice y3 m3 d3, .slice y4 m4 d4, .slice y5 m5 d5, .slice y6 m6 d6, .slice y7 m7 d7] 31)).alloc (.cells #[.int .i64 i0, .int .i64 i1, .string ts, .slice p3 l3 g3, .slice p4 l4 g4] 67)) := by show _ = _; rw [hW2, hW1, hW0]
  have HR : Hid (w.heap.size = R) := hR.symm
  have HGG := Lib.hid (And.intro r0 (And.intro r1 (And.intro P2 L2)))
  clear hR B0 P0 L0 B1 P1 L1 B2 P2 L2 hW0 hW1 hW2 r0 r1
  go_enter Tryz.func32, Tryz.ntmps32
  go_upto_region 1 with fail
  rw [← HW.out, HR.out]
  have HI := Lib.hid (fun (n lo hi : Int) (w' : World) => within_any n lo hi w')
  by_cases g : q2 < (mt : Int)
  · have gd : decide (q2 < (mt : Int)) = true := decide_eq_true g
    have HGT := Lib.hid g
    have HF : Hid (NoP (segR q2 x1 x2 m3 (i0, i1, tl, Sp, Si))) := fun h => (by have h2 : (tl.length : Int) ≤ q2 := h.1; rw [← HMT.out] at h2; have := HGT.out; omega)
    go_wp2_with fail
    go_ret
    exact ⟨iff_f HF.out, HB.out⟩
  · have gd : decide (q2 < (mt : Int)) = false := decide_eq_false g
    have HQ : Hid ((mt : Int) ≤ q2) := by show _ ≤ _; omega
    clear g
    go_wp2_with fail
    refine (HI.out (i1) (0) ((m3 : Int) - 1) _).mono ?_
    rintro e wt ⟨rfl, hwt⟩
    rw [hwt]
    clear hwt wt
    by_cases jA : (0 : Int) ≤ i1 ∧ (i1 : Int) ≤ (m3 : Int) - 1
    · rw [decide_eq_true jA]
      go_wp2_with fail
      refine (HI.out (i0) (0) (x1 - 1) _).mono ?_
      rintro e wt ⟨rfl, hwt⟩
      rw [hwt]
      clear hwt wt
      by_cases jB : (0 : Int) ≤ i0 ∧ (i0 : Int) ≤ x1 - 1
      · rw [decide_eq_true jB]
        have ST := store_func W2 (.func 55) #[] #[.pointer (some ⟨R + 1, 0, none⟩)] 105
        obtain ⟨bX, pX, lX⟩ := box1 W2 #[.func (.func 55) #[] #[.pointer (some ⟨R + 1, 0, none⟩)]] 105
        obtain ⟨W3, hW3⟩ : ∃ W3, W3 = W2.alloc (.cells #[.func (.func 55) #[] #[.pointer (some ⟨R + 1, 0, none⟩)]] 105) := ⟨_, rfl⟩
        rw [← hW3] at bX pX lX
        have HL2 : Hid (W2.heap.size = R + 3) := HGG.out.2.2.2
        rw [HL2.out] at pX lX
        have HW3 := Lib.hid hW3
        have HL3 : Hid (W3.heap.size = R + 4) := by show _ = _; omega
        have HB3 : Hid (Below w.heap.size w W3) := below_on HB.out bX
        have c0 : W3.cell? ⟨R + 3, 0, none⟩ = some (.func (.func 55) #[] #[.pointer (some ⟨R + 1, 0, none⟩)]) := by rw [cell_of_row _ _ _ _ _ _ pX]; rfl
        have s0 := vcell bX (by have := HL2.out; omega) b0
        have s2 := vcell bX (by have := HL2.out; omega) b2
        have LE : Hid (LateE (R + 3) (R + 1) x0 x2 W3) := ⟨c0, s0, s2, by omega, by omega⟩
        obtain ⟨f0, f1, f2, f3, f4⟩ := five_cells' ((bX.block (R + 2) (by have := HL2.out; omega)).trans HGG.out.2.2.1)
        have CS := Lib.hid (spancont_any Sp (R + 3) (R + 1) x0 x2 W3 (hS.out W3 HB3.out) LE.out)
        clear hW3 bX pX lX c0 s0 s2
        go_upto_region 4 with fail
        rw [← HW3.out, HL2.out]
        clear ST
        clear a0 a1 a2 a3 a4 a5 a6 a7 a8 b0 b1 b2 b3 b4 b5 b6 b7 e0 e1 e2 e3 e4
        go_wp2_with fail
        refine CS.out.mono ?_
        rintro e w4 ⟨hq, b4_⟩
        have HB4 : Hid (Below w.heap.size w w4) := below_on HB3.out b4_
        have LE4 := Lib.hid (LE.out.below b4_)
        have h4c : w4.cell? ⟨R + 2, 4, none⟩ = some (.slice p4 l4 g4) := vcell b4_ (by have h3 := HL3.out; omega) f4
        have h40 : w4.cell? ⟨R + 2, 0, none⟩ = some (.int .i64 i0) := vcell b4_ (by have h3 := HL3.out; omega) f0
        clear b4_ CS f0 f1 f2 f3 f4
        rcases hq.det with ⟨ht, rfl⟩ | ⟨hf, rfl⟩
        · have HHS := Lib.hid ht
          have HF : Hid (NoP (segR q2 x1 x2 m3 (i0, i1, tl, Sp, Si))) := fun h => h.2.2.2.1 HHS.out
          go_wp2_with fail
          go_ret
          exact ⟨iff_f HF.out, HB4.out⟩
        · have HNS : Hid (NoP (HasSpan Sp x2)) := hf
          have CT := Lib.hid (sitecont_any Si (R + 3) (R + 1) x0 x2 w4 (hT.out w4 HB4.out) LE4.out)
          go_wp2_with fail
          refine CT.out.mono ?_
          rintro e w5 ⟨hr, b5_⟩
          have HB5 : Hid (Below w.heap.size w w5) := below_on HB4.out b5_
          clear b5_ CT
          rcases hr.det with ⟨ht, rfl⟩ | ⟨hf2, rfl⟩
          · have HHT := Lib.hid ht
            have HF : Hid (NoP (segR q2 x1 x2 m3 (i0, i1, tl, Sp, Si))) := fun h => h.2.2.2.2 HHT.out
            go_wp2_with fail
            go_ret
            exact ⟨iff_f HF.out, HB5.out⟩
          · have HT : Hid (segR q2 x1 x2 m3 (i0, i1, tl, Sp, Si)) := ⟨by show (tl.length : Int) ≤ q2; rw [← HMT.out]; exact HQ.out, jA, jB, HNS.out, hf2⟩
            go_wp2_with fail
            go_ret
            exact ⟨iff_t HT.out, HB5.out⟩
      · rw [decide_eq_false jB]
        have HF : Hid (NoP (segR q2 x1 x2 m3 (i0, i1, tl, Sp, Si))) := fun h => jB h.2.2.1
        go_wp2_with fail
        go_ret
        exact ⟨iff_f HF.out, HB.out⟩
    · rw [decide_eq_false jA]
      have HF : Hid (NoP (segR q2 x1 x2 m3 (i0, i1, tl, Sp, Si))) := fun h => jA h.2.1
      go_wp2_with fail
      go_ret
      exact ⟨iff_f HF.out, HB.out⟩
end Go.Proofs.YtccaiippoephbaaGreatDoor.Sta
/- State: the plain text's labels of a state. -/
set_option linter.unusedVariables false
set_option linter.unusedSimpArgs false
set_option maxRecDepth 100000
namespace Go.Proofs.YtccaiippoephbaaGreatDoor.Sta
open Go.RowKit Go.Lib Go.Proofs.YtccaiippoephbaaGreatDoor.Bx Go.Proofs.YtccaiippoephbaaGreatDoor.Frm Go.Proofs.YtccaiippoephbaaGreatDoor.Wds

set_option maxHeartbeats 8000000 in
theorem rlabels_ok {P P' : Nat → Prop} {cs : List Value} {v : Value} (C : Cfg) (M : List Lab) (w : World) (h : cfgM.R P w cs C) (h' : RowP labM P' w v M) (hg : ∀ x ∈ M, labG x) : Calls Tryz.prog 24 #[.agg cs.toArray, v] w fun e w' => IffB (alikeP M C.2.1 ∧ Rt.rightB (M.map lbL) C.1.length = true) e ∧ Below w.heap.size w w' := by
  obtain ⟨mv, mc, rfl⟩ := h'.is_slice
  obtain ⟨n, hn⟩ : ∃ n, n = M.length := ⟨_, rfl⟩
  rw [← hn] at h' ⊢
  have hmn : n ≤ 9223372036854775807 := by have q := h'.len; simp only [maxLen] at q; omega
  have HNM := Lib.hid hn
  have HGM := Lib.hid hg
  have HD2 : Hid (∀ w', Below w.heap.size w w' → RowP labM P' w' (.slice mv n mc) M) := fun w' b => h'.keep labM_ok (Keep.below b)
  clear hg h' hn
  obtain ⟨u0, k0, u1, k1, rfl, p0, p1⟩ := cfgM_cells h
  clear h
  obtain ⟨U, L, q2, q3, q4, q5, q6, q7, q8⟩ := C
  simp only at p0 p1 ⊢
  obtain ⟨n0, hn0⟩ : ∃ n, n = U.length := ⟨_, rfl⟩
  have HN0 := Lib.hid hn0
  obtain ⟨n1, hn1⟩ : ∃ n, n = L.length := ⟨_, rfl⟩
  have HN1 := Lib.hid hn1
  rw [← hn0, ← hn1]
  rw [← hn0] at p0
  rw [← hn1] at p1
  have hm0 : n0 ≤ 9223372036854775807 := by have q := p0.len; simp only [maxLen] at q; omega
  have hm1 : n1 ≤ 9223372036854775807 := by have q := p1.len; simp only [maxLen] at q; omega
  clear hn0 hn1
  show Calls _ _ #[.agg #[.slice u0 n0 k0, .slice u1 n1 k1, .int .i64 q2, .int .i64 q3, .int .i64 q4, .int .i64 q5, .int .i64 q6, .int .i64 q7, .int .i64 q8], .slice mv n mc] _ _
  obtain ⟨B0, P0, L0⟩ := box1 w #[.slice u0 n0 k0, .slice u1 n1 k1, .int .i64 q2, .int .i64 q3, .int .i64 q4, .int .i64 q5, .int .i64 q6, .int .i64 q7, .int .i64 q8] 25
  obtain ⟨W0, hW0⟩ : ∃ W0, W0 = w.alloc (.cells #[.slice u0 n0 k0, .slice u1 n1 k1, .int .i64 q2, .int .i64 q3, .int .i64 q4, .int .i64 q5, .int .i64 q6, .int .i64 q7, .int .i64 q8] 25) := ⟨_, rfl⟩
  rw [← hW0] at B0 P0 L0
  obtain ⟨R, hR⟩ : ∃ R, R = w.heap.size := ⟨_, rfl⟩
  rw [← hR] at P0 L0
  have HB : Hid (Below w.heap.size w W0) := B0
  have HP := Lib.hid P0
  have HL : Hid (W0.heap.size = R + 1) := L0
  have HW := Lib.hid hW0
  have HR : Hid (w.heap.size = R) := hR.symm
  have HX : Hid (Below W0.heap.size W0 W0) := Below.refl _ _
  have HD0 : Hid (∀ w', Below W0.heap.size W0 w' → RowP usrM P w' (.slice u0 n0 k0) U) := fun w' b => p0.keep usrM_ok (Keep.below (HB.out.trans (b.mono HB.out.size)))
  have HD1 : Hid (∀ w', Below W0.heap.size W0 w' → RowP labM P w' (.slice u1 n1 k1) L) := fun w' b => p1.keep labM_ok (Keep.below (HB.out.trans (b.mono HB.out.size)))
  clear hR B0 P0 L0 hW0 p0 p1
  go_enter Tryz.func24, Tryz.ntmps24
  go_upto_region 1 with fail
  rw [← HW.out, HR.out]
  obtain ⟨a0, a1, a2, a3, a4, a5, a6, a7, a8⟩ := nine_cells' ((HX.out.block R (by have := HL.out; omega)).trans HP.out)
  by_cases hnn : n = n1
  · subst hnn
    have C2 := Lib.hid (Rig.rright_any (n0 : Int) W0 (labs_of (HD2.out W0 HB.out) HGM.out) (by constructor <;> omega))
    go_wp2_with fail
    refine C2.out.mono ?_
    rintro e w2 ⟨rfl, bb2⟩
    have HX2 : Hid (Below W0.heap.size W0 w2) := bb2
    clear bb2 C2 HX a0 a1 a2 a3 a4 a5 a6 a7 a8
    have HX := HX2
    clear HX2
    by_cases hq : Rt.rightB (M.map lbL) n0 = true
    · rw [hq]
      have HQ := Lib.hid hq
      clear hq
      go_wp2_with fail
      go_loopg [5] n (fun g i_ wr => ∃ (i : Nat), i ≤ n ∧ n - i ≤ g ∧ i_ = .int .i64 (i : Nat) ∧ Hid (∀ j, j < i → ∀ (h : j < M.length) (h' : j < L.length), M[j].1 = L[j].1 ∧ M[j].2.1 = L[j].2.1) ∧ Hid (Below W0.heap.size W0 wr))
      case atStart => exact ⟨0, by omega, by omega, rfl, fun j hj => absurd hj (Nat.not_lt_zero _), HX⟩
      case round =>
        clear HX
        obtain ⟨i, hi, hg, rfl, HV, HX⟩ := hrel
        by_cases hin : i < n
        · have iw : ((i : Nat) : Int) < (n : Int) := by omega
          have n0i : (0 : Int) ≤ ((i : Nat) : Int) := by omega
          have hixi : i < M.length := by rw [← HNM.out]; exact hin
          have hixl : i < L.length := by rw [← HN1.out]; exact hin
          obtain ⟨b1, f1, s1_, rfl, hlt1, _, hR1, hc1⟩ := (HD2.out wr (HB.out.trans (HX.out.mono HB.out.size))).get hixi
          obtain ⟨b2, f2, s2_, rfl, hlt2, _, hR2, hc2⟩ := (HD1.out wr HX.out).get hixl
          obtain ⟨x, hx⟩ : ∃ z, z = M[i] := ⟨_, rfl⟩
          obtain ⟨y, hy⟩ : ∃ z, z = L[i] := ⟨_, rfl⟩
          rw [← hx] at hR1
          rw [← hy] at hR2
          have HXI : Hid (M[i] = x ∧ L[i] = y) := ⟨hx.symm, hy.symm⟩
          obtain ⟨r2, d2, r3, d3, rfl, _, _⟩ := labM_cells hR1
          obtain ⟨t2, l2, t3, l3, rfl, _, _⟩ := labM_cells hR2
          obtain ⟨p, hp⟩ : ∃ q, q = x.1 := ⟨_, rfl⟩
          obtain ⟨o, ho⟩ : ∃ q, q = x.2.1 := ⟨_, rfl⟩
          obtain ⟨p', hp'⟩ : ∃ q, q = y.1 := ⟨_, rfl⟩
          obtain ⟨o', ho'⟩ : ∃ q, q = y.2.1 := ⟨_, rfl⟩
          rw [← hp, ← ho] at hc1
          rw [← hp', ← ho'] at hc2
          have HPO : Hid ((p = x.1 ∧ o = x.2.1) ∧ p' = y.1 ∧ o' = y.2.1) := ⟨⟨hp, ho⟩, hp', ho'⟩
          have e0 : wr.cell? ⟨b1, f1 + i * 4, none⟩ = some (.int .i64 p) := hc1 0 _ rfl
          have e1 : wr.cell? ⟨b1, f1 + i * 4 + 1, none⟩ = some (.int .i64 o) := hc1 1 _ rfl
          have g0 : wr.cell? ⟨b2, f2 + i * 4, none⟩ = some (.int .i64 p') := hc2 0 _ rfl
          have g1 : wr.cell? ⟨b2, f2 + i * 4 + 1, none⟩ = some (.int .i64 o') := hc2 1 _ rfl
          obtain ⟨a0, a1, a2, a3, a4, a5, a6, a7, a8⟩ := nine_cells' ((HX.out.block R (by have := HL.out; omega)).trans HP.out)
          clear hc1 hc2 hR1 hR2 hx hy hp ho hp' ho' hlt1 hlt2
          by_cases hpp : p = p'
          · have kp : (p != p') = false := by simp [hpp]
            by_cases hoo : o = o'
            · have ko : (o != o') = false := by simp [hoo]
              have HV2 : Hid (∀ j, j < i + 1 → ∀ (h : j < M.length) (h' : j < L.length), M[j].1 = L[j].1 ∧ M[j].2.1 = L[j].2.1) := fun j hj h h' => by
                by_cases e : j = i
                · subst e
                  rw [HXI.out.1, HXI.out.2, ← HPO.out.1.1, ← HPO.out.1.2, ← HPO.out.2.1, ← HPO.out.2.2]
                  exact ⟨hpp, hoo⟩
                · exact HV.out j (by omega) h h'
              clear hpp hoo HV HXI HPO
              go_upto_region 6 with fail
              go_quiet (fail)
              have HX5 : Hid (Below W0.heap.size W0 (wr.drewN nq)) := d_drews HX.out _
              clear a0 a1 a2 a3 a4 a5 a6 a7 a8 e0 e1 g0 g1
              go_wp2_with fail
              go_roundg (n - (i + 1))
              case measure => omega
              case rel => exact ⟨i + 1, by omega, Nat.le_refl _, by go_num, HV2, HX5⟩
            · have ko : (o != o') = true := by simp [hoo]
              have HOO : Hid (NoP (o = o')) := hoo
              clear hpp hoo
              go_upto_region 6 with fail
              go_quiet (fail)
              have HX5 : Hid (Below W0.heap.size W0 (wr.drewN nq)) := d_drews HX.out _
              have HXE := HX5
              have HE9 : Hid (Below w.heap.size w (wr.drewN nq)) := HB.out.trans (HXE.out.mono HB.out.size)
              have HF : Hid (NoP (alikeP M L ∧ Rt.rightB (M.map lbL) n0 = true)) := fun h => HOO.out (by have h2 := h.1.2 i hixi hixl; rw [HXI.out.1, HXI.out.2, ← HPO.out.1.2, ← HPO.out.2.2] at h2; exact h2.2)
              go_wp2_with fail
              go_ret
              exact ⟨iff_f HF.out, HE9.out⟩
          · have kp : (p != p') = true := by simp [hpp]
            have HPP : Hid (NoP (p = p')) := hpp
            clear hpp
            go_upto_region 6 with fail
            go_quiet (fail)
            have HX5 : Hid (Below W0.heap.size W0 (wr.drewN nq)) := d_drews HX.out _
            have HXE := HX5
            have HE9 : Hid (Below w.heap.size w (wr.drewN nq)) := HB.out.trans (HXE.out.mono HB.out.size)
            have HF : Hid (NoP (alikeP M L ∧ Rt.rightB (M.map lbL) n0 = true)) := fun h => HPP.out (by have h2 := h.1.2 i hixi hixl; rw [HXI.out.1, HXI.out.2, ← HPO.out.1.1, ← HPO.out.2.1] at h2; exact h2.1)
            go_wp2_with fail
            go_ret
            exact ⟨iff_f HF.out, HE9.out⟩
        · obtain rfl : n = i := by omega
          have iw : ¬ ((n : Nat) : Int) < ((n : Nat) : Int) := by omega
          have HE9 : Hid (Below w.heap.size w wr) := HB.out.trans (HX.out.mono HB.out.size)
          have HT : Hid (alikeP M L ∧ Rt.rightB (M.map lbL) n0 = true) := ⟨⟨by rw [← HNM.out, ← HN1.out], fun j h h' => HV.out j (by rw [HNM.out]; exact h) h h'⟩, HQ.out⟩
          clear HV
          go_wp2_with fail
          go_ret
          exact ⟨iff_t HT.out, HE9.out⟩
    · rw [Bool.eq_false_iff.2 hq]
      have HNQ : Hid (NoP (Rt.rightB (M.map lbL) n0 = true)) := hq
      clear hq
      have HXE := HX
      have HE9 : Hid (Below w.heap.size w w2) := HB.out.trans (HXE.out.mono HB.out.size)
      have HF : Hid (NoP (alikeP M L ∧ Rt.rightB (M.map lbL) n0 = true)) := fun h => HNQ.out h.2
      go_wp2_with fail
      go_ret
      exact ⟨iff_f HF.out, HE9.out⟩
  · have k1 : ((n : Int) != (n1 : Int)) = true := by simp; omega
    have k2 : ¬ ((n : Nat) : Int) = (n1 : Nat) := by omega
    have HXE := HX
    have HE9 : Hid (Below w.heap.size w W0) := HB.out.trans (HXE.out.mono HB.out.size)
    have HF : Hid (NoP (alikeP M L ∧ Rt.rightB (M.map lbL) n0 = true)) := fun h => hnn (by rw [HNM.out, HN1.out]; exact h.1.1)
    go_wp2_with fail
    go_ret
    exact ⟨iff_f HF.out, HE9.out⟩
end Go.Proofs.YtccaiippoephbaaGreatDoor.Sta
