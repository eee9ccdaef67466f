/- State: configs: may one be given, is it of few parts, how many bytes a state has at most. -/
import Derived.Test.YtccaiippoephbaaGreatDoorSma
import Derived.Test.YtccaiippoephbaaGreatDoorWf
import Derived.Test.YtccaiippoephbaaGreatDoorWi
import Derived.IntWalk
import Derived.Test.YtccaiippoephbaaGreatDoorZq
import Derived.Test.YtccaiippoephbaaGreatDoorWj
import Derived.Test.YtccaiippoephbaaGreatDoorZp
set_option linter.unusedVariables false
set_option linter.unusedSimpArgs false
set_option maxRecDepth 100000
namespace Go.Proofs.YtccaiippoephbaaGreatDoor.Sta
open Go.RowKit Go.Lib Go.Proofs.YtccaiippoephbaaGreatDoor.Bx Go.Proofs.YtccaiippoephbaaGreatDoor.Frm Go.Proofs.YtccaiippoephbaaGreatDoor.Wds

theorem cfgM_cells {P : Nat → Prop} {w : World} {cs : List Value} {x : Cfg} (h : cfgM.R P w cs x) : ∃ u0 k0 u1 k1, cs = [.slice u0 x.1.length k0, .slice u1 x.2.1.length k1, .int .i64 x.2.2.1, .int .i64 x.2.2.2.1, .int .i64 x.2.2.2.2.1, .int .i64 x.2.2.2.2.2.1, .int .i64 x.2.2.2.2.2.2.1, .int .i64 x.2.2.2.2.2.2.2.1, .int .i64 x.2.2.2.2.2.2.2.2] ∧ RowP usrM P w (.slice u0 x.1.length k0) x.1 ∧ RowP labM P w (.slice u1 x.2.1.length k1) x.2.1 := by
  obtain ⟨_, _, rfl, ⟨v0, e0, h0⟩, _, _, rfl, ⟨v1, e1, h1⟩, _, _, rfl, e2, _, _, rfl, e3, _, _, rfl, e4, _, _, rfl, e5, _, _, rfl, e6, _, _, rfl, e7, e8⟩ := h
  obtain ⟨u0, k0, rfl⟩ := h0.is_slice
  obtain ⟨u1, k1, rfl⟩ := h1.is_slice
  exact ⟨u0, k0, u1, k1, by rw [e0, e1, show _ = _ from e2, show _ = _ from e3, show _ = _ from e4, show _ = _ from e5, show _ = _ from e6, show _ = _ from e7, show _ = _ from e8]; rfl, h0, h1⟩
theorem nine_cells' {w : World} {B : Nat} {x0 x1 x2 x3 x4 x5 x6 x7 x8 : Value} {ty : TypeId} (z : w.heap[B]? = some (.cells #[x0, x1, x2, x3, x4, x5, x6, x7, x8] ty (0, 0))) : w.cell? ⟨B, 0, none⟩ = some x0 ∧ w.cell? ⟨B, 1, none⟩ = some x1 ∧ w.cell? ⟨B, 2, none⟩ = some x2 ∧ w.cell? ⟨B, 3, none⟩ = some x3 ∧ w.cell? ⟨B, 4, none⟩ = some x4 ∧ w.cell? ⟨B, 5, none⟩ = some x5 ∧ w.cell? ⟨B, 6, none⟩ = some x6 ∧ w.cell? ⟨B, 7, none⟩ = some x7 ∧ w.cell? ⟨B, 8, none⟩ = some x8 := by
  refine ⟨?_, ?_, ?_, ?_, ?_, ?_, ?_, ?_, ?_⟩ <;> (rw [cell_of_row _ _ _ _ _ _ z]; rfl)
/-! users and labels, as the elder texts tell them -/
def usU (x : Usr) : Slt.Us := ⟨mkB x.1, mkB x.2.1, mkB x.2.2⟩
def lbL (x : Lab) : Rt.Lb := ⟨x.1, x.2.1, x.2.2.1, x.2.2.2⟩
theorem usrM_cells {P : Nat → Prop} {w : World} {cs : List Value} {x : Usr} (h : usrM.R P w cs x) : cs = [.string (mkB x.1), .string (mkB x.2.1), .string (mkB x.2.2)] := by
  obtain ⟨_, _, rfl, e0, _, _, rfl, e1, e2⟩ := h
  rw [show _ = _ from e0, show _ = _ from e1, show _ = _ from e2]
  rfl
theorem users_of {P : Nat → Prop} {w : World} {v : Value} {U : List Usr} (h : RowP usrM P w v U) (hb : ∀ x ∈ U, x.1.length ≤ 140737488355328 ∧ x.2.1.length ≤ 140737488355328 ∧ x.2.2.length ≤ 140737488355328) : Slt.Users w v (U.map usU) := by
  obtain ⟨p, h1, h2, _, h4⟩ := h
  refine ⟨p.map fun z => (z.1, usU z.2), ?_, ?_, ?_⟩
  · rw [← h1, List.map_map, List.map_map]; rfl
  · rw [List.map_map]; exact h2
  · intro z hz
    obtain ⟨y, hy, rfl⟩ := List.mem_map.1 hz
    have hm : y.2 ∈ U := by rw [← h1]; exact List.mem_map_of_mem hy
    obtain ⟨b1, b2, b3⟩ := hb _ hm
    exact ⟨usrM_cells (h4 y hy), by show (mkB _).size ≤ _; rw [mkB_size]; exact b1, by show (mkB _).size ≤ _; rw [mkB_size]; exact b2, by show (mkB _).size ≤ _; rw [mkB_size]; exact b3⟩
set_option maxHeartbeats 4000000 in
theorem within_any (n lo hi : Int) (w : World) : Calls Tryz.prog 11 #[.int .i64 n, .int .i64 lo, .int .i64 hi] w fun e w' => e = .returned (.bool (decide (lo ≤ n ∧ n ≤ hi))) ∧ w' = w := by
  go_enter Tryz.func11, Tryz.ntmps11
  by_cases h1 : lo ≤ n
  · have d1 : decide (lo ≤ n) = true := decide_eq_true h1
    by_cases h2 : n ≤ hi
    · have d2 : decide (n ≤ hi) = true := decide_eq_true h2
      go_wp2_with fail
      go_ret
      exact ⟨by rw [decide_eq_true (show lo ≤ n ∧ n ≤ hi from ⟨h1, h2⟩)]; rfl, rfl⟩
    · have d2 : decide (n ≤ hi) = false := decide_eq_false h2
      go_wp2_with fail
      go_ret
      exact ⟨rfl, rfl⟩
  · have d1 : decide (lo ≤ n) = false := decide_eq_false h1
    go_wp2_with fail
    go_ret
    exact ⟨rfl, rfl⟩
set_option maxHeartbeats 4000000 in
theorem in_any (n lo hi : Int) (w : World) : Calls Tryz.prog 23 #[.int .i64 n, .int .i64 lo, .int .i64 hi] w fun e w' => e = .returned (.bool (decide (lo ≤ n ∧ n ≤ hi))) ∧ w' = w := by
  go_enter Tryz.func23, Tryz.ntmps23
  by_cases h1 : lo ≤ n
  · have d1 : decide (lo ≤ n) = true := decide_eq_true h1
    by_cases h2 : n ≤ hi
    · have d2 : decide (n ≤ hi) = true := decide_eq_true h2
      go_wp2_with fail
      go_ret
      exact ⟨by rw [decide_eq_true (show lo ≤ n ∧ n ≤ hi from ⟨h1, h2⟩)]; rfl, rfl⟩
    · have d2 : decide (n ≤ hi) = false := decide_eq_false h2
      go_wp2_with fail
      go_ret
      exact ⟨rfl, rfl⟩
  · have d1 : decide (lo ≤ n) = false := decide_eq_false h1
    go_wp2_with fail
    go_ret
    exact ⟨rfl, rfl⟩
def rngB (x2 x3 x4 x5 x6 x7 x8 : Int) : Prop := (1 ≤ x2 ∧ x2 ≤ 1000) ∧ (1 ≤ x3 ∧ x3 ≤ 24) ∧ (1 ≤ x4 ∧ x4 ≤ 8) ∧ (1 ≤ x5 ∧ x5 ≤ 4) ∧ (1 ≤ x6 ∧ x6 ≤ 8) ∧ (1 ≤ x7 ∧ x7 ≤ 100) ∧ (0 ≤ x8 ∧ x8 ≤ 1000000)
def mayB (C : Cfg) : Prop := Slt.rightU (C.1.map usU) = true ∧ Rt.rightB (C.2.1.map lbL) C.1.length = true ∧ rngB C.2.2.1 C.2.2.2.1 C.2.2.2.2.1 C.2.2.2.2.2.1 C.2.2.2.2.2.2.1 C.2.2.2.2.2.2.2.1 C.2.2.2.2.2.2.2.2
def usrS (x : Usr) : Prop := x.1.length ≤ 2000 ∧ x.2.1.length ≤ 2000 ∧ x.2.2.length ≤ 2000
def fewS (C : Cfg) : Prop := (C.1.length ≤ 20 ∧ ∀ x ∈ C.1, usrS x) ∧ labsS C.2.1
def NoP (p : Prop) : Prop := ¬ p
def IffB (p : Prop) (e : Ending) : Prop := ∃ b : Bool, e = .returned (.bool b) ∧ (b = true ↔ p)
theorem iff_t {p : Prop} (h : p) : IffB p (.returned (.bool true)) := ⟨true, rfl, fun _ => h, fun _ => rfl⟩
theorem iff_f {p : Prop} (h : ¬ p) : IffB p (.returned (.bool false)) := ⟨false, rfl, fun h1 => Bool.noConfusion h1, fun h1 => absurd h1 h⟩
theorem IffB.det {p : Prop} {e : Ending} (h : IffB p e) : (p ∧ e = .returned (.bool true)) ∨ (¬ p ∧ e = .returned (.bool false)) := by
  obtain ⟨b, rfl, h1, h2⟩ := h
  cases b with
  | true => exact .inl ⟨h1 rfl, rfl⟩
  | false => exact .inr ⟨fun h => Bool.noConfusion (h2 h), rfl⟩
theorem ints_of_row {P : Nat → Prop} {w : World} {v : Value} {xs : List Int} (h : RowP numM P w v xs) (hn : ∀ x ∈ xs, n64 x) : Rig.Ints w v xs := by
  obtain ⟨ad, cap, rfl⟩ := h.is_slice
  obtain ⟨_, hc, hm⟩ := h.len
  refine ⟨hn, ad, cap, rfl, hc, hm, ?_⟩
  cases xs with
  | nil => exact .inl rfl
  | cons x xs =>
    obtain ⟨b, off, y, rfl, hlt, _⟩ := h.get (j := 0) (Nat.zero_lt_succ _)
    refine .inr ⟨b, off, rfl, hlt, fun j hj => ?_⟩
    obtain ⟨b', off', y', e, _, hl, hR, hcell⟩ := h.get hj
    injection e with e
    simp only [Addr.mk.injEq] at e
    obtain ⟨rfl, rfl, _⟩ := e
    have hy : y' = [.int .i64 (x :: xs)[j]] := hR
    have := hcell 0 _ (by rw [hy]; rfl)
    rw [show off + j * numM.k + 0 = off + j from by show off + j * 1 + 0 = _; omega] at this
    rw [this]
    unfold Rt.at_
    rw [List.getD_eq_getElem?_getD, List.getElem?_eq_getElem hj]
    rfl
theorem labs_of {P : Nat → Prop} {w : World} {v : Value} {L : List Lab} (h : RowP labM P w v L) (hg : ∀ x ∈ L, labG x) : Rig.Labs w v (L.map lbL) := by
  obtain ⟨ad, cap, rfl⟩ := h.is_slice
  obtain ⟨_, hc, hm⟩ := h.len
  refine ⟨ad, cap, by rw [List.length_map], by rw [List.length_map]; exact hc, hm, ?_⟩
  cases hL : L with
  | nil => exact .inl rfl
  | cons x xs =>
    rw [← hL]
    obtain ⟨b, off, y, rfl, hlt, _⟩ := h.get (j := 0) (by rw [hL]; exact Nat.zero_lt_succ _)
    refine .inr ⟨b, off, rfl, hlt, fun j hj => ?_⟩
    rw [List.length_map] at hj
    obtain ⟨b', off', y', e, _, hl, hR, hcell⟩ := h.get hj
    injection e with e
    simp only [Addr.mk.injEq] at e
    obtain ⟨rfl, rfl, _⟩ := e
    have hgx := hg _ (List.getElem_mem hj)
    rw [show Rt.lb (L.map lbL) j = lbL L[j] from by unfold Rt.lb; rw [List.getD_eq_getElem?_getD, List.getElem?_map, List.getElem?_eq_getElem hj]; rfl]
    obtain ⟨r2, d2, r3, d3, rfl, q2, q3⟩ := labM_cells hR
    exact ⟨_, _, hgx.1, hgx.2.1, hcell 0 _ rfl, hcell 1 _ rfl, hcell 2 _ rfl, hcell 3 _ rfl, ints_of_row q2 hgx.2.2.1.2, ints_of_row q3 hgx.2.2.2.2⟩
set_option maxHeartbeats 16000000 in
theorem may_ok {P : Nat → Prop} {cs : List Value} (C : Cfg) (w : World) (h : cfgM.R P w cs C) (hb : ∀ x ∈ C.1, x.1.length ≤ 140737488355328 ∧ x.2.1.length ≤ 140737488355328 ∧ x.2.2.length ≤ 140737488355328) (hl : ∀ x ∈ C.2.1, labG x) : Calls Tryz.prog 10 #[.agg cs.toArray] w fun e w' => IffB (mayB C) e ∧ Below w.heap.size w w' := by
  obtain ⟨u0, k0, u1, k1, rfl, p0, p1⟩ := cfgM_cells h
  clear h
  obtain ⟨U, L, q2, q3, q4, q5, q6, q7, q8⟩ := C
  simp only at p0 p1 hb hl ⊢
  obtain ⟨n0, hn0⟩ : ∃ n, n = U.length := ⟨_, rfl⟩
  have HN0 := Lib.hid hn0
  obtain ⟨n1, hn1⟩ : ∃ n, n = L.length := ⟨_, rfl⟩
  have HN1 := Lib.hid hn1
  have HG : Hid (Slt.rightU (U.map usU) = true ∧ Rt.rightB (L.map lbL) n0 = true ∧ rngB q2 q3 q4 q5 q6 q7 q8 → mayB (U, L, q2, q3, q4, q5, q6, q7, q8)) := fun h => by unfold mayB; simp only; rw [← hn0]; exact h
  have HG2 : Hid (mayB (U, L, q2, q3, q4, q5, q6, q7, q8) → Slt.rightU (U.map usU) = true ∧ Rt.rightB (L.map lbL) n0 = true ∧ rngB q2 q3 q4 q5 q6 q7 q8) := fun h => by unfold mayB at h; simp only at h; rw [← hn0] at h; exact h
  have HBU := Lib.hid hb
  have HBL := Lib.hid hl
  clear hb hl
  rw [← hn0, ← hn1]
  rw [← hn0] at p0
  rw [← hn1] at p1
  have hm0 : n0 ≤ 9223372036854775807 := by have q := p0.len; simp only [maxLen] at q; omega
  have hm1 : n1 ≤ 9223372036854775807 := by have q := p1.len; simp only [maxLen] at q; omega
  clear hn0 hn1
  show Calls _ _ #[.agg #[.slice u0 n0 k0, .slice u1 n1 k1, .int .i64 q2, .int .i64 q3, .int .i64 q4, .int .i64 q5, .int .i64 q6, .int .i64 q7, .int .i64 q8]] _ _
  obtain ⟨B0, P0, L0⟩ := box1 w #[.slice u0 n0 k0, .slice u1 n1 k1, .int .i64 q2, .int .i64 q3, .int .i64 q4, .int .i64 q5, .int .i64 q6, .int .i64 q7, .int .i64 q8] 25
  obtain ⟨W0, hW0⟩ : ∃ W0, W0 = w.alloc (.cells #[.slice u0 n0 k0, .slice u1 n1 k1, .int .i64 q2, .int .i64 q3, .int .i64 q4, .int .i64 q5, .int .i64 q6, .int .i64 q7, .int .i64 q8] 25) := ⟨_, rfl⟩
  rw [← hW0] at B0 P0 L0
  obtain ⟨R, hR⟩ : ∃ R, R = w.heap.size := ⟨_, rfl⟩
  rw [← hR] at P0 L0
  have HB : Hid (Below w.heap.size w W0) := B0
  have HP := Lib.hid P0
  have HL : Hid (W0.heap.size = R + 1) := L0
  have HW := Lib.hid hW0
  have HR : Hid (w.heap.size = R) := hR.symm
  have HX : Hid (Below W0.heap.size W0 W0) := Below.refl _ _
  have HD0 : Hid (∀ w', Below W0.heap.size W0 w' → RowP usrM P w' (.slice u0 n0 k0) U) := fun w' b => p0.keep usrM_ok (Keep.below (HB.out.trans (b.mono HB.out.size)))
  have HD1 : Hid (∀ w', Below W0.heap.size W0 w' → RowP labM P w' (.slice u1 n1 k1) L) := fun w' b => p1.keep labM_ok (Keep.below (HB.out.trans (b.mono HB.out.size)))
  clear hR B0 P0 L0 hW0 p0 p1
  go_enter Tryz.func10, Tryz.ntmps10
  have HI := Lib.hid (fun (n lo hi : Int) (w' : World) => within_any n lo hi w')
  go_upto_region 1 with fail
  rw [← HW.out, HR.out]
  obtain ⟨a0, a1, a2, a3, a4, a5, a6, a7, a8⟩ := nine_cells' ((HX.out.block R (by have := HL.out; omega)).trans HP.out)
  have C0 := Lib.hid (Slt.pright_any W0 (users_of (HD0.out W0 HX.out) HBU.out))
  go_wp2_with fail
  refine C0.out.mono ?_
  rintro e w1 ⟨rfl, b1⟩
  have HX1 : Hid (Below W0.heap.size W0 w1) := b1
  clear b1 C0 HX a0 a1 a2 a3 a4 a5 a6 a7 a8
  have HX := HX1
  clear HX1
  obtain ⟨a0, a1, a2, a3, a4, a5, a6, a7, a8⟩ := nine_cells' ((HX.out.block R (by have := HL.out; omega)).trans HP.out)
  by_cases hu : Slt.rightU (U.map usU) = true
  · rw [hu]
    have HU := Lib.hid hu
    clear hu
    have C1 := Lib.hid (Rig.right_any (n0 : Int) w1 (labs_of (HD1.out w1 HX.out) HBL.out) (by constructor <;> omega))
    go_wp2_with fail
    refine C1.out.mono ?_
    rintro e w2 ⟨rfl, b2⟩
    have HX1 : Hid (Below W0.heap.size W0 w2) := below_on HX.out b2
    clear b2 C1 HX a0 a1 a2 a3 a4 a5 a6 a7 a8
    have HX := HX1
    clear HX1
    obtain ⟨a0, a1, a2, a3, a4, a5, a6, a7, a8⟩ := nine_cells' ((HX.out.block R (by have := HL.out; omega)).trans HP.out)
    by_cases hlb : Rt.rightB (L.map lbL) n0 = true
    · rw [hlb]
      have HLb := Lib.hid hlb
      clear hlb
      go_wp2_with fail
      refine (HI.out q2 1 1000 _).mono ?_
      rintro e wt ⟨rfl, hwt⟩
      rw [hwt]
      clear hwt wt
      by_cases j2 : 1 ≤ q2 ∧ q2 ≤ 1000
      · rw [decide_eq_true j2]
        go_wp2_with fail
        refine (HI.out q3 1 24 _).mono ?_
        rintro e wt ⟨rfl, hwt⟩
        rw [hwt]
        clear hwt wt
        by_cases j3 : 1 ≤ q3 ∧ q3 ≤ 24
        · rw [decide_eq_true j3]
          go_wp2_with fail
          refine (HI.out q4 1 8 _).mono ?_
          rintro e wt ⟨rfl, hwt⟩
          rw [hwt]
          clear hwt wt
          by_cases j4 : 1 ≤ q4 ∧ q4 ≤ 8
          · rw [decide_eq_true j4]
            go_wp2_with fail
            refine (HI.out q5 1 4 _).mono ?_
            rintro e wt ⟨rfl, hwt⟩
            rw [hwt]
            clear hwt wt
            by_cases j5 : 1 ≤ q5 ∧ q5 ≤ 4
            · rw [decide_eq_true j5]
              go_wp2_with fail
              refine (HI.out q6 1 8 _).mono ?_
              rintro e wt ⟨rfl, hwt⟩
              rw [hwt]
              clear hwt wt
              by_cases j6 : 1 ≤ q6 ∧ q6 ≤ 8
              · rw [decide_eq_true j6]
                go_wp2_with fail
                refine (HI.out q7 1 100 _).mono ?_
                rintro e wt ⟨rfl, hwt⟩
                rw [hwt]
                clear hwt wt
                by_cases j7 : 1 ≤ q7 ∧ q7 ≤ 100
                · rw [decide_eq_true j7]
                  go_wp2_with fail
                  refine (HI.out q8 0 1000000 _).mono ?_
                  rintro e wt ⟨rfl, hwt⟩
                  rw [hwt]
                  clear hwt wt
                  by_cases j8 : 0 ≤ q8 ∧ q8 ≤ 1000000
                  · rw [decide_eq_true j8]
                    have HE : Hid (Below w.heap.size w w2) := HB.out.trans (HX.out.mono HB.out.size)
                    have HT : Hid (mayB (U, L, q2, q3, q4, q5, q6, q7, q8)) := HG.out ⟨HU.out, HLb.out, j2, j3, j4, j5, j6, j7, j8⟩
                    go_wp2_with fail
                    go_ret
                    exact ⟨iff_t HT.out, HE.out⟩
                  · rw [decide_eq_false j8]
                    have HE : Hid (Below w.heap.size w w2) := HB.out.trans (HX.out.mono HB.out.size)
                    have HF : Hid (NoP (mayB (U, L, q2, q3, q4, q5, q6, q7, q8))) := fun h => j8 (HG2.out h).2.2.2.2.2.2.2.2
                    go_wp2_with fail
                    go_ret
                    exact ⟨iff_f HF.out, HE.out⟩
                · rw [decide_eq_false j7]
                  have HE : Hid (Below w.heap.size w w2) := HB.out.trans (HX.out.mono HB.out.size)
                  have HF : Hid (NoP (mayB (U, L, q2, q3, q4, q5, q6, q7, q8))) := fun h => j7 (HG2.out h).2.2.2.2.2.2.2.1
                  go_wp2_with fail
                  go_ret
                  exact ⟨iff_f HF.out, HE.out⟩
              · rw [decide_eq_false j6]
                have HE : Hid (Below w.heap.size w w2) := HB.out.trans (HX.out.mono HB.out.size)
                have HF : Hid (NoP (mayB (U, L, q2, q3, q4, q5, q6, q7, q8))) := fun h => j6 (HG2.out h).2.2.2.2.2.2.1
                go_wp2_with fail
                go_ret
                exact ⟨iff_f HF.out, HE.out⟩
            · rw [decide_eq_false j5]
              have HE : Hid (Below w.heap.size w w2) := HB.out.trans (HX.out.mono HB.out.size)
              have HF : Hid (NoP (mayB (U, L, q2, q3, q4, q5, q6, q7, q8))) := fun h => j5 (HG2.out h).2.2.2.2.2.1
              go_wp2_with fail
              go_ret
              exact ⟨iff_f HF.out, HE.out⟩
          · rw [decide_eq_false j4]
            have HE : Hid (Below w.heap.size w w2) := HB.out.trans (HX.out.mono HB.out.size)
            have HF : Hid (NoP (mayB (U, L, q2, q3, q4, q5, q6, q7, q8))) := fun h => j4 (HG2.out h).2.2.2.2.1
            go_wp2_with fail
            go_ret
            exact ⟨iff_f HF.out, HE.out⟩
        · rw [decide_eq_false j3]
          have HE : Hid (Below w.heap.size w w2) := HB.out.trans (HX.out.mono HB.out.size)
          have HF : Hid (NoP (mayB (U, L, q2, q3, q4, q5, q6, q7, q8))) := fun h => j3 (HG2.out h).2.2.2.1
          go_wp2_with fail
          go_ret
          exact ⟨iff_f HF.out, HE.out⟩
      · rw [decide_eq_false j2]
        have HE : Hid (Below w.heap.size w w2) := HB.out.trans (HX.out.mono HB.out.size)
        have HF : Hid (NoP (mayB (U, L, q2, q3, q4, q5, q6, q7, q8))) := fun h => j2 (HG2.out h).2.2.1
        go_wp2_with fail
        go_ret
        exact ⟨iff_f HF.out, HE.out⟩
    · rw [Bool.eq_false_iff.2 hlb]
      have HFF : Hid (NoP (Rt.rightB (L.map lbL) n0 = true)) := hlb
      clear hlb
      have HE : Hid (Below w.heap.size w w2) := HB.out.trans (HX.out.mono HB.out.size)
      have HF : Hid (NoP (mayB (U, L, q2, q3, q4, q5, q6, q7, q8))) := fun h => HFF.out (HG2.out h).2.1
      go_wp2_with fail
      go_ret
      exact ⟨iff_f HF.out, HE.out⟩
  · rw [Bool.eq_false_iff.2 hu]
    have HFF : Hid (NoP (Slt.rightU (U.map usU) = true)) := hu
    clear hu
    have HE : Hid (Below w.heap.size w w1) := HB.out.trans (HX.out.mono HB.out.size)
    have HF : Hid (NoP (mayB (U, L, q2, q3, q4, q5, q6, q7, q8))) := fun h => HFF.out (HG2.out h).1
    go_wp2_with fail
    go_ret
    exact ⟨iff_f HF.out, HE.out⟩
set_option maxHeartbeats 16000000 in
theorem rmay_ok {P : Nat → Prop} {cs : List Value} (C : Cfg) (w : World) (h : cfgM.R P w cs C) (hb : ∀ x ∈ C.1, x.1.length ≤ 140737488355328 ∧ x.2.1.length ≤ 140737488355328 ∧ x.2.2.length ≤ 140737488355328) (hl : ∀ x ∈ C.2.1, labG x) (hs : ∀ x ∈ C.1, x.2.2.length ≤ 100000) : Calls Tryz.prog 22 #[.agg cs.toArray] w fun e w' => IffB (mayB C) e ∧ Below w.heap.size w w' := by
  obtain ⟨u0, k0, u1, k1, rfl, p0, p1⟩ := cfgM_cells h
  clear h
  obtain ⟨U, L, q2, q3, q4, q5, q6, q7, q8⟩ := C
  simp only at p0 p1 hb hl hs ⊢
  obtain ⟨n0, hn0⟩ : ∃ n, n = U.length := ⟨_, rfl⟩
  have HN0 := Lib.hid hn0
  obtain ⟨n1, hn1⟩ : ∃ n, n = L.length := ⟨_, rfl⟩
  have HN1 := Lib.hid hn1
  have HG : Hid (Slt.rightU (U.map usU) = true ∧ Rt.rightB (L.map lbL) n0 = true ∧ rngB q2 q3 q4 q5 q6 q7 q8 → mayB (U, L, q2, q3, q4, q5, q6, q7, q8)) := fun h => by unfold mayB; simp only; rw [← hn0]; exact h
  have HG2 : Hid (mayB (U, L, q2, q3, q4, q5, q6, q7, q8) → Slt.rightU (U.map usU) = true ∧ Rt.rightB (L.map lbL) n0 = true ∧ rngB q2 q3 q4 q5 q6 q7 q8) := fun h => by unfold mayB at h; simp only at h; rw [← hn0] at h; exact h
  have HBU := Lib.hid hb
  have HBL := Lib.hid hl
  have HBS := Lib.hid hs
  clear hb hl hs
  rw [← hn0, ← hn1]
  rw [← hn0] at p0
  rw [← hn1] at p1
  have hm0 : n0 ≤ 9223372036854775807 := by have q := p0.len; simp only [maxLen] at q; omega
  have hm1 : n1 ≤ 9223372036854775807 := by have q := p1.len; simp only [maxLen] at q; omega
  clear hn0 hn1
  show Calls _ _ #[.agg #[.slice u0 n0 k0, .slice u1 n1 k1, .int .i64 q2, .int .i64 q3, .int .i64 q4, .int .i64 q5, .int .i64 q6, .int .i64 q7, .int .i64 q8]] _ _
  obtain ⟨B0, P0, L0⟩ := box1 w #[.slice u0 n0 k0, .slice u1 n1 k1, .int .i64 q2, .int .i64 q3, .int .i64 q4, .int .i64 q5, .int .i64 q6, .int .i64 q7, .int .i64 q8] 25
  obtain ⟨W0, hW0⟩ : ∃ W0, W0 = w.alloc (.cells #[.slice u0 n0 k0, .slice u1 n1 k1, .int .i64 q2, .int .i64 q3, .int .i64 q4, .int .i64 q5, .int .i64 q6, .int .i64 q7, .int .i64 q8] 25) := ⟨_, rfl⟩
  rw [← hW0] at B0 P0 L0
  obtain ⟨R, hR⟩ : ∃ R, R = w.heap.size := ⟨_, rfl⟩
  rw [← hR] at P0 L0
  have HB : Hid (Below w.heap.size w W0) := B0
  have HP := Lib.hid P0
  have HL : Hid (W0.heap.size = R + 1) := L0
  have HW := Lib.hid hW0
  have HR : Hid (w.heap.size = R) := hR.symm
  have HX : Hid (Below W0.heap.size W0 W0) := Below.refl _ _
  have HD0 : Hid (∀ w', Below W0.heap.size W0 w' → RowP usrM P w' (.slice u0 n0 k0) U) := fun w' b => p0.keep usrM_ok (Keep.below (HB.out.trans (b.mono HB.out.size)))
  have HD1 : Hid (∀ w', Below W0.heap.size W0 w' → RowP labM P w' (.slice u1 n1 k1) L) := fun w' b => p1.keep labM_ok (Keep.below (HB.out.trans (b.mono HB.out.size)))
  clear hR B0 P0 L0 hW0 p0 p1
  go_enter Tryz.func22, Tryz.ntmps22
  have HI := Lib.hid (fun (n lo hi : Int) (w' : World) => in_any n lo hi w')
  go_upto_region 1 with fail
  rw [← HW.out, HR.out]
  obtain ⟨a0, a1, a2, a3, a4, a5, a6, a7, a8⟩ := nine_cells' ((HX.out.block R (by have := HL.out; omega)).trans HP.out)
  have C0 := Lib.hid (Slt.rright_any W0 (users_of (HD0.out W0 HX.out) HBU.out) (fun i hi => by rw [List.length_map] at hi; rw [show Slt.us (U.map usU) i = usU U[i] from by unfold Slt.us; rw [List.getD_eq_getElem?_getD, List.getElem?_map, List.getElem?_eq_getElem hi]; rfl]; show (mkB _).size ≤ _; rw [mkB_size]; exact HBS.out _ (List.getElem_mem hi)))
  go_wp2_with fail
  refine C0.out.mono ?_
  rintro e w1 ⟨rfl, b1⟩
  have HX1 : Hid (Below W0.heap.size W0 w1) := b1
  clear b1 C0 HX a0 a1 a2 a3 a4 a5 a6 a7 a8
  have HX := HX1
  clear HX1
  obtain ⟨a0, a1, a2, a3, a4, a5, a6, a7, a8⟩ := nine_cells' ((HX.out.block R (by have := HL.out; omega)).trans HP.out)
  by_cases hu : Slt.rightU (U.map usU) = true
  · rw [hu]
    have HU := Lib.hid hu
    clear hu
    have C1 := Lib.hid (Rig.rright_any (n0 : Int) w1 (labs_of (HD1.out w1 HX.out) HBL.out) (by constructor <;> omega))
    go_wp2_with fail
    refine C1.out.mono ?_
    rintro e w2 ⟨rfl, b2⟩
    have HX1 : Hid (Below W0.heap.size W0 w2) := below_on HX.out b2
    clear b2 C1 HX a0 a1 a2 a3 a4 a5 a6 a7 a8
    have HX := HX1
    clear HX1
    obtain ⟨a0, a1, a2, a3, a4, a5, a6, a7, a8⟩ := nine_cells' ((HX.out.block R (by have := HL.out; omega)).trans HP.out)
    by_cases hlb : Rt.rightB (L.map lbL) n0 = true
    · rw [hlb]
      have HLb := Lib.hid hlb
      clear hlb
      go_wp2_with fail
      refine (HI.out q2 1 1000 _).mono ?_
      rintro e wt ⟨rfl, hwt⟩
      rw [hwt]
      clear hwt wt
      by_cases j2 : 1 ≤ q2 ∧ q2 ≤ 1000
      · rw [decide_eq_true j2]
        go_wp2_with fail
        refine (HI.out q3 1 24 _).mono ?_
        rintro e wt ⟨rfl, hwt⟩
        rw [hwt]
        clear hwt wt
        by_cases j3 : 1 ≤ q3 ∧ q3 ≤ 24
        · rw [decide_eq_true j3]
          go_wp2_with fail
          refine (HI.out q4 1 8 _).mono ?_
          rintro e wt ⟨rfl, hwt⟩
          rw [hwt]
          clear hwt wt
          by_cases j4 : 1 ≤ q4 ∧ q4 ≤ 8
          · rw [decide_eq_true j4]
            go_wp2_with fail
            refine (HI.out q5 1 4 _).mono ?_
            rintro e wt ⟨rfl, hwt⟩
            rw [hwt]
            clear hwt wt
            by_cases j5 : 1 ≤ q5 ∧ q5 ≤ 4
            · rw [decide_eq_true j5]
              go_wp2_with fail
              refine (HI.out q6 1 8 _).mono ?_
              rintro e wt ⟨rfl, hwt⟩
              rw [hwt]
              clear hwt wt
              by_cases j6 : 1 ≤ q6 ∧ q6 ≤ 8
              · rw [decide_eq_true j6]
                go_wp2_with fail
                refine (HI.out q7 1 100 _).mono ?_
                rintro e wt ⟨rfl, hwt⟩
                rw [hwt]
                clear hwt wt
                by_cases j7 : 1 ≤ q7 ∧ q7 ≤ 100
                · rw [decide_eq_true j7]
                  go_wp2_with fail
                  refine (HI.out q8 0 1000000 _).mono ?_
                  rintro e wt ⟨rfl, hwt⟩
                  rw [hwt]
                  clear hwt wt
                  by_cases j8 : 0 ≤ q8 ∧ q8 ≤ 1000000
                  · rw [decide_eq_true j8]
                    have HE : Hid (Below w.heap.size w w2) := HB.out.trans (HX.out.mono HB.out.size)
                    have HT : Hid (mayB (U, L, q2, q3, q4, q5, q6, q7, q8)) := HG.out ⟨HU.out, HLb.out, j2, j3, j4, j5, j6, j7, j8⟩
                    go_wp2_with fail
                    go_ret
                    exact ⟨iff_t HT.out, HE.out⟩
                  · rw [decide_eq_false j8]
                    have HE : Hid (Below w.heap.size w w2) := HB.out.trans (HX.out.mono HB.out.size)
                    have HF : Hid (NoP (mayB (U, L, q2, q3, q4, q5, q6, q7, q8))) := fun h => j8 (HG2.out h).2.2.2.2.2.2.2.2
                    go_wp2_with fail
                    go_ret
                    exact ⟨iff_f HF.out, HE.out⟩
                · rw [decide_eq_false j7]
                  have HE : Hid (Below w.heap.size w w2) := HB.out.trans (HX.out.mono HB.out.size)
                  have HF : Hid (NoP (mayB (U, L, q2, q3, q4, q5, q6, q7, q8))) := fun h => j7 (HG2.out h).2.2.2.2.2.2.2.1
                  go_wp2_with fail
                  go_ret
                  exact ⟨iff_f HF.out, HE.out⟩
              · rw [decide_eq_false j6]
                have HE : Hid (Below w.heap.size w w2) := HB.out.trans (HX.out.mono HB.out.size)
                have HF : Hid (NoP (mayB (U, L, q2, q3, q4, q5, q6, q7, q8))) := fun h => j6 (HG2.out h).2.2.2.2.2.2.1
                go_wp2_with fail
                go_ret
                exact ⟨iff_f HF.out, HE.out⟩
            · rw [decide_eq_false j5]
              have HE : Hid (Below w.heap.size w w2) := HB.out.trans (HX.out.mono HB.out.size)
              have HF : Hid (NoP (mayB (U, L, q2, q3, q4, q5, q6, q7, q8))) := fun h => j5 (HG2.out h).2.2.2.2.2.1
              go_wp2_with fail
              go_ret
              exact ⟨iff_f HF.out, HE.out⟩
          · rw [decide_eq_false j4]
            have HE : Hid (Below w.heap.size w w2) := HB.out.trans (HX.out.mono HB.out.size)
            have HF : Hid (NoP (mayB (U, L, q2, q3, q4, q5, q6, q7, q8))) := fun h => j4 (HG2.out h).2.2.2.2.1
            go_wp2_with fail
            go_ret
            exact ⟨iff_f HF.out, HE.out⟩
        · rw [decide_eq_false j3]
          have HE : Hid (Below w.heap.size w w2) := HB.out.trans (HX.out.mono HB.out.size)
          have HF : Hid (NoP (mayB (U, L, q2, q3, q4, q5, q6, q7, q8))) := fun h => j3 (HG2.out h).2.2.2.1
          go_wp2_with fail
          go_ret
          exact ⟨iff_f HF.out, HE.out⟩
      · rw [decide_eq_false j2]
        have HE : Hid (Below w.heap.size w w2) := HB.out.trans (HX.out.mono HB.out.size)
        have HF : Hid (NoP (mayB (U, L, q2, q3, q4, q5, q6, q7, q8))) := fun h => j2 (HG2.out h).2.2.1
        go_wp2_with fail
        go_ret
        exact ⟨iff_f HF.out, HE.out⟩
    · rw [Bool.eq_false_iff.2 hlb]
      have HFF : Hid (NoP (Rt.rightB (L.map lbL) n0 = true)) := hlb
      clear hlb
      have HE : Hid (Below w.heap.size w w2) := HB.out.trans (HX.out.mono HB.out.size)
      have HF : Hid (NoP (mayB (U, L, q2, q3, q4, q5, q6, q7, q8))) := fun h => HFF.out (HG2.out h).2.1
      go_wp2_with fail
      go_ret
      exact ⟨iff_f HF.out, HE.out⟩
  · rw [Bool.eq_false_iff.2 hu]
    have HFF : Hid (NoP (Slt.rightU (U.map usU) = true)) := hu
    clear hu
    have HE : Hid (Below w.heap.size w w1) := HB.out.trans (HX.out.mono HB.out.size)
    have HF : Hid (NoP (mayB (U, L, q2, q3, q4, q5, q6, q7, q8))) := fun h => HFF.out (HG2.out h).1
    go_wp2_with fail
    go_ret
    exact ⟨iff_f HF.out, HE.out⟩
set_option maxHeartbeats 16000000 in
theorem few_ok {P : Nat → Prop} {cs : List Value} (C : Cfg) (w : World) (h : cfgM.R P w cs C) (hb : ∀ x ∈ C.1, x.1.length ≤ 140737488355328 ∧ x.2.1.length ≤ 140737488355328 ∧ x.2.2.length ≤ 140737488355328) : Calls Tryz.prog 7 #[.agg cs.toArray] w fun e w' => AnyS (fewS C) e ∧ Below w.heap.size w w' := by
  obtain ⟨u0, k0, u1, k1, rfl, p0, p1⟩ := cfgM_cells h
  clear h
  obtain ⟨U, L, q2, q3, q4, q5, q6, q7, q8⟩ := C
  simp only at p0 p1 hb ⊢
  obtain ⟨n0, hn0⟩ : ∃ n, n = U.length := ⟨_, rfl⟩
  have HN0 := Lib.hid hn0
  obtain ⟨n1, hn1⟩ : ∃ n, n = L.length := ⟨_, rfl⟩
  have HN1 := Lib.hid hn1
  have HG : Hid ((n0 ≤ 20 ∧ ∀ x ∈ U, usrS x) ∧ labsS L → fewS (U, L, q2, q3, q4, q5, q6, q7, q8)) := fun h => by unfold fewS; simp only; rw [← hn0]; exact h
  have HBU := Lib.hid hb
  clear hb
  rw [← hn0, ← hn1]
  rw [← hn0] at p0
  rw [← hn1] at p1
  have hm0 : n0 ≤ 9223372036854775807 := by have q := p0.len; simp only [maxLen] at q; omega
  have hm1 : n1 ≤ 9223372036854775807 := by have q := p1.len; simp only [maxLen] at q; omega
  clear hn0 hn1
  show Calls _ _ #[.agg #[.slice u0 n0 k0, .slice u1 n1 k1, .int .i64 q2, .int .i64 q3, .int .i64 q4, .int .i64 q5, .int .i64 q6, .int .i64 q7, .int .i64 q8]] _ _
  obtain ⟨B0, P0, L0⟩ := box1 w #[.slice u0 n0 k0, .slice u1 n1 k1, .int .i64 q2, .int .i64 q3, .int .i64 q4, .int .i64 q5, .int .i64 q6, .int .i64 q7, .int .i64 q8] 25
  obtain ⟨W0, hW0⟩ : ∃ W0, W0 = w.alloc (.cells #[.slice u0 n0 k0, .slice u1 n1 k1, .int .i64 q2, .int .i64 q3, .int .i64 q4, .int .i64 q5, .int .i64 q6, .int .i64 q7, .int .i64 q8] 25) := ⟨_, rfl⟩
  rw [← hW0] at B0 P0 L0
  obtain ⟨R, hR⟩ : ∃ R, R = w.heap.size := ⟨_, rfl⟩
  rw [← hR] at P0 L0
  have HB : Hid (Below w.heap.size w W0) := B0
  have HP := Lib.hid P0
  have HL : Hid (W0.heap.size = R + 1) := L0
  have HW := Lib.hid hW0
  have HR : Hid (w.heap.size = R) := hR.symm
  have HX : Hid (Below W0.heap.size W0 W0) := Below.refl _ _
  have HD0 : Hid (∀ w', Below W0.heap.size W0 w' → RowP usrM P w' (.slice u0 n0 k0) U) := fun w' b => p0.keep usrM_ok (Keep.below (HB.out.trans (b.mono HB.out.size)))
  have HD1 : Hid (∀ w', Below W0.heap.size W0 w' → RowP labM P w' (.slice u1 n1 k1) L) := fun w' b => p1.keep labM_ok (Keep.below (HB.out.trans (b.mono HB.out.size)))
  clear hR B0 P0 L0 hW0 p0 p1
  go_enter Tryz.func7, Tryz.ntmps7
  go_upto_region 2 with fail
  rw [← HW.out, HR.out]
  obtain ⟨a0, a1, a2, a3, a4, a5, a6, a7, a8⟩ := nine_cells' ((HX.out.block R (by have := HL.out; omega)).trans HP.out)
  go_wp2_with fail
  clear a0 a1 a2 a3 a4 a5 a6 a7 a8
  go_loopg [3, 9] n0 (fun g a_ i_ wr => ∃ (i : Nat) (a : Int), i ≤ n0 ∧ n0 - i ≤ g ∧ i_ = .int .i64 (i : Nat) ∧ a_ = .int .i64 a ∧ Hid (n0 ≤ 20 → 0 ≤ a ∧ a ≤ i * 422212465065984 ∧ ∀ x ∈ U.take i, (x.1.length : Int) ≤ a ∧ (x.2.1.length : Int) ≤ a ∧ (x.2.2.length : Int) ≤ a) ∧ Hid (Below W0.heap.size W0 wr))
  case atStart => exact ⟨0, 0, by omega, by omega, rfl, rfl, fun _ => ⟨by omega, by omega, fun x h => by simp at h⟩, HX⟩
  case round =>
    clear HX
    obtain ⟨i, a, hi, hg, rfl, rfl, HV, HX⟩ := hrel
    by_cases hin : i < n0
    · have iw : ((i : Nat) : Int) < (n0 : Int) := by omega
      have n0i : (0 : Int) ≤ ((i : Nat) : Int) := by omega
      have hix : i < U.length := by rw [← HN0.out]; exact hin
      obtain ⟨b1, f1, s1_, rfl, hlt1, _, hR1, hc1⟩ := (HD0.out wr HX.out).get hix
      obtain ⟨x, hx⟩ : ∃ z, z = U[i] := ⟨_, rfl⟩
      have hmem : x ∈ U := hx ▸ List.getElem_mem hix
      rw [← hx] at hR1
      have HXI : Hid (U[i] = x) := hx.symm
      obtain rfl := usrM_cells hR1
      obtain ⟨hb0, hb1, hb2⟩ := HBU.out x hmem
      obtain ⟨m0, hm0'⟩ : ∃ q, q = x.1.length := ⟨_, rfl⟩
      obtain ⟨m1, hm1'⟩ : ∃ q, q = x.2.1.length := ⟨_, rfl⟩
      obtain ⟨m2, hm2'⟩ : ∃ q, q = x.2.2.length := ⟨_, rfl⟩
      obtain ⟨t0, ht0⟩ : ∃ q, q = mkB x.1 := ⟨_, rfl⟩
      obtain ⟨t1, ht1⟩ : ∃ q, q = mkB x.2.1 := ⟨_, rfl⟩
      obtain ⟨t2, ht2⟩ : ∃ q, q = mkB x.2.2 := ⟨_, rfl⟩
      have y0 : t0.size = m0 := by rw [ht0, mkB_size, hm0']
      have y1 : t1.size = m1 := by rw [ht1, mkB_size, hm1']
      have y2 : t2.size = m2 := by rw [ht2, mkB_size, hm2']
      rw [← ht0, ← ht1, ← ht2] at hc1
      rw [← hm0'] at hb0
      rw [← hm1'] at hb1
      rw [← hm2'] at hb2
      have HMM := Lib.hid (And.intro hm0' (And.intro hm1' hm2'))
      have e0 : wr.cell? ⟨b1, f1 + i * 3, none⟩ = some (.string t0) := hc1 0 _ rfl
      have e1 : wr.cell? ⟨b1, f1 + i * 3 + 1, none⟩ = some (.string t1) := hc1 1 _ rfl
      have e2 : wr.cell? ⟨b1, f1 + i * 3 + 2, none⟩ = some (.string t2) := hc1 2 _ rfl
      obtain ⟨bX, pX, lX⟩ := box1 wr #[.string t0, .string t1, .string t2] 42
      obtain ⟨W5, hW5⟩ : ∃ W5, W5 = wr.alloc (.cells #[.string t0, .string t1, .string t2] 42) := ⟨_, rfl⟩
      rw [← hW5] at bX pX lX
      obtain ⟨X, hX⟩ : ∃ X, X = wr.heap.size := ⟨_, rfl⟩
      rw [← hX] at pX lX
      have HW5 := Lib.hid hW5
      have HXX : Hid (wr.heap.size = X) := hX.symm
      have HX5 : Hid (Below W0.heap.size W0 W5) := below_on HX.out bX
      obtain ⟨g0, g1, g2⟩ := three_cells pX
      obtain ⟨a2, ha2⟩ : ∃ q, q = IntKind.i64.wrap (a + (((m0 : Nat) : Int) + (m1 : Nat) + (m2 : Nat))) := ⟨_, rfl⟩
      have z_0 : IntKind.i64.wrap (((m0 : Nat) : Int) + (m1 : Nat)) = ((m0 : Nat) : Int) + (m1 : Nat) := IntWalk.i64_in _ (by omega)
      have z_1 : IntKind.i64.wrap (((m0 : Nat) : Int) + (m1 : Nat) + (m2 : Nat)) = ((m0 : Nat) : Int) + (m1 : Nat) + (m2 : Nat) := IntWalk.i64_in _ (by omega)
      have z_2 : IntKind.i64.wrap (a + (((m0 : Nat) : Int) + (m1 : Nat) + (m2 : Nat))) = a2 := ha2.symm
      have HV2 : Hid (n0 ≤ 20 → 0 ≤ a2 ∧ a2 ≤ (i + 1 : Nat) * 422212465065984 ∧ ∀ x ∈ U.take (i + 1), (x.1.length : Int) ≤ a2 ∧ (x.2.1.length : Int) ≤ a2 ∧ (x.2.2.length : Int) ≤ a2) := fun h20 => by
        obtain ⟨v1, v2, v3⟩ := HV.out h20
        have e : a2 = a + (((m0 : Nat) : Int) + (m1 : Nat) + (m2 : Nat)) := by rw [ha2]; exact IntWalk.i64_in _ (by omega)
        refine ⟨by omega, by omega, fun z hz => ?_⟩
        rw [List.take_succ_eq_append_getElem hix] at hz
        rcases List.mem_append.1 hz with hz | hz
        · obtain ⟨c1, c2, c3⟩ := v3 z hz
          omega
        · simp only [List.mem_singleton] at hz
          subst hz
          rw [HXI.out, ← HMM.out.1, ← HMM.out.2.1, ← HMM.out.2.2]
          omega
      clear hc1 hR1 hx hlt1 hX hW5 bX pX lX hmem ht0 ht1 ht2 hm0' hm1' hm2' HV HXI HMM ha2
      go_upto_region 5 with fail
      rw [← HW5.out, HXX.out]
      clear e0 e1 e2
      go_wp2_with fail
      go_roundg (n0 - (i + 1))
      case measure => omega
      case rel => exact ⟨i + 1, a2, by omega, Nat.le_refl _, by go_num, rfl, HV2, HX5⟩
    · obtain rfl : n0 = i := by omega
      have iw : ¬ ((n0 : Nat) : Int) < ((n0 : Nat) : Int) := by omega
      obtain ⟨a0, a1, a2, a3, a4, a5, a6, a7, a8⟩ := nine_cells' ((HX.out.block R (by have := HL.out; omega)).trans HP.out)
      have HE : Hid (Below w.heap.size w wr) := HB.out.trans (HX.out.mono HB.out.size)
      by_cases c1 : n0 ≤ 20
      · have w1 : (n0 : Int) ≤ 20 := by omega
        have d1 : decide ((n0 : Int) ≤ 20) = true := decide_eq_true w1
        by_cases c2 : a ≤ 2000
        · have d2 : decide (a ≤ 2000) = true := decide_eq_true c2
          have HUS : Hid (n0 ≤ 20 ∧ ∀ x ∈ U, usrS x) := ⟨c1, fun x hx => by
            obtain ⟨v1, v2, v3⟩ := HV.out c1
            rw [List.take_of_length_le (by rw [← HN0.out]; exact Nat.le_refl _)] at v3
            obtain ⟨c1, c2, c3⟩ := v3 x hx
            exact ⟨by omega, by omega, by omega⟩⟩
          clear HV
          by_cases c3 : n1 ≤ 20
          · have w3 : (n1 : Int) ≤ 20 := by omega
            have d3 : decide ((n1 : Int) ≤ 20) = true := decide_eq_true w3
            have C3 := Lib.hid (sm03 L wr (HD1.out wr HX.out))
            go_wp2_with fail
            refine C3.out.mono ?_
            rintro e w4 ⟨⟨b, rfl, hb⟩, b4⟩
            have HE4 : Hid (Below w.heap.size w w4) := below_on HE.out b4
            clear b4 C3 HE a0 a1 a2 a3 a4 a5 a6 a7 a8
            cases b with
            | false =>
              go_wp2_with fail
              go_ret
              exact ⟨any_no, HE4.out⟩
            | true =>
              have HF9 : Hid (fewS (U, L, q2, q3, q4, q5, q6, q7, q8)) := HG.out ⟨HUS.out, hb rfl⟩
              clear hb
              go_wp2_with fail
              go_ret
              exact ⟨any_yes HF9.out, HE4.out⟩
          · have w3 : ¬ (n1 : Int) ≤ 20 := by omega
            have d3 : decide ((n1 : Int) ≤ 20) = false := decide_eq_false w3
            go_wp2_with fail
            go_ret
            exact ⟨any_no, HE.out⟩
        · have d2 : decide (a ≤ 2000) = false := decide_eq_false c2
          go_wp2_with fail
          go_ret
          exact ⟨any_no, HE.out⟩
      · have w1 : ¬ (n0 : Int) ≤ 20 := by omega
        have d1 : decide ((n0 : Int) ≤ 20) = false := decide_eq_false w1
        go_wp2_with fail
        go_ret
        exact ⟨any_no, HE.out⟩
end Go.Proofs.YtccaiippoephbaaGreatDoor.Sta
/- State: the labels of a state right for a config. -/
set_option linter.unusedVariables false
set_option linter.unusedSimpArgs false
set_option maxRecDepth 100000
namespace Go.Proofs.YtccaiippoephbaaGreatDoor.Sta
open Go.RowKit Go.Lib Go.Proofs.YtccaiippoephbaaGreatDoor.Bx Go.Proofs.YtccaiippoephbaaGreatDoor.Frm Go.Proofs.YtccaiippoephbaaGreatDoor.Wds

set_option maxHeartbeats 4000000 in
theorem alike_any (p o p' o' : Int) (v2 v3 v2' v3' : Value) (w : World) : Calls Tryz.prog 30 #[.agg #[.int .i64 p, .int .i64 o, v2, v3], .agg #[.int .i64 p', .int .i64 o', v2', v3']] w fun e w' => e = .returned (.bool (decide (p = p' ∧ o = o'))) ∧ Below w.heap.size w w' := by
  obtain ⟨B0, P0, L0⟩ := box1 w #[.int .i64 p, .int .i64 o, v2, v3] 45
  obtain ⟨W0, hW0⟩ : ∃ W0, W0 = w.alloc (.cells #[.int .i64 p, .int .i64 o, v2, v3] 45) := ⟨_, rfl⟩
  rw [← hW0] at B0 P0 L0
  obtain ⟨B1, P1, L1⟩ := box1 W0 #[.int .i64 p', .int .i64 o', v2', v3'] 45
  obtain ⟨W1, hW1⟩ : ∃ W1, W1 = W0.alloc (.cells #[.int .i64 p', .int .i64 o', v2', v3'] 45) := ⟨_, rfl⟩
  rw [← hW1] at B1 P1 L1
  have q0 : W1.heap[w.heap.size]? = some (.cells #[.int .i64 p, .int .i64 o, v2, v3] 45 (0, 0)) := (B1.block _ (by omega)).trans P0
  rw [L0] at P1
  have HB : Hid (Below w.heap.size w W1) := below_on B0 B1
  obtain ⟨R, hR⟩ : ∃ R, R = w.heap.size := ⟨_, rfl⟩
  rw [← hR] at q0 P1
  obtain ⟨d0, d1, d2, d3⟩ := four_cells q0
  obtain ⟨e0, e1, e2, e3⟩ := four_cells P1
  have HW : Hid (W1 = (w.alloc (.cells #[.int .i64 p, .int .i64 o, v2, v3] 45)).alloc (.cells #[.int .i64 p', .int .i64 o', v2', v3'] 45)) := by show _ = _; rw [hW1, hW0]
  have HR : Hid (w.heap.size = R) := hR.symm
  clear hR B0 P0 L0 B1 P1 L1 hW0 hW1 q0
  go_enter Tryz.func30, Tryz.ntmps30
  go_upto_region 1 with fail
  rw [← HW.out, HR.out]
  by_cases h1 : p = p'
  · have k1 : (p == p') = true := by simp [h1]
    by_cases h2 : o = o'
    · have k2 : (o == o') = true := by simp [h2]
      have HD : Hid (decide (p = p' ∧ o = o') = true) := decide_eq_true ⟨h1, h2⟩
      clear h1 h2
      go_wp2_with fail
      go_ret
      exact ⟨by rw [HD.out]; rfl, HB.out⟩
    · have k2 : (o == o') = false := by simp [h2]
      have HD : Hid (decide (p = p' ∧ o = o') = false) := decide_eq_false (fun h => h2 h.2)
      clear h1 h2
      go_wp2_with fail
      go_ret
      exact ⟨by rw [HD.out]; rfl, HB.out⟩
  · have k1 : (p == p') = false := by simp [h1]
    have HD : Hid (decide (p = p' ∧ o = o') = false) := decide_eq_false (fun h => h1 h.1)
    clear h1
    go_wp2_with fail
    go_ret
    exact ⟨by rw [HD.out]; rfl, HB.out⟩
def alikeP (L M : List Lab) : Prop := L.length = M.length ∧ ∀ i (h : i < L.length) (h' : i < M.length), L[i].1 = M[i].1 ∧ L[i].2.1 = M[i].2.1
set_option maxHeartbeats 8000000 in
theorem equal_any {P P' : Nat → Prop} {v v' : Value} (L M : List Lab) (w : World) (h : RowP labM P w v L) (h' : RowP labM P' w v' M) : Calls Tryz.prog 31 #[v, v', .func (.func 30) #[] #[]] w fun e w' => IffB (alikeP L M) e ∧ Below w.heap.size w w' := by
  obtain ⟨u, c, rfl⟩ := h.is_slice
  obtain ⟨u', c', rfl⟩ := h'.is_slice
  obtain ⟨n, hn⟩ : ∃ n, n = L.length := ⟨_, rfl⟩
  obtain ⟨m, hm⟩ : ∃ n, n = M.length := ⟨_, rfl⟩
  rw [← hn] at h ⊢
  rw [← hm] at h' ⊢
  have HN := Lib.hid hn
  have HM := Lib.hid hm
  have hmn : n ≤ 9223372036854775807 := by have q := h.len; simp only [maxLen] at q; omega
  have hmm : m ≤ 9223372036854775807 := by have q := h'.len; simp only [maxLen] at q; omega
  have HD : Hid (∀ w', Below w.heap.size w w' → RowP labM P w' (.slice u n c) L) := fun w' b => h.keep labM_ok (Keep.below b)
  have HE : Hid (∀ w', Below w.heap.size w w' → RowP labM P' w' (.slice u' m c') M) := fun w' b => h'.keep labM_ok (Keep.below b)
  have HX : Hid (Below w.heap.size w w) := Below.refl _ _
  clear h h' hn hm
  go_enter Tryz.func31, Tryz.ntmps31
  by_cases hnm : n = m
  · obtain rfl : n = m := hnm
    go_wp2_with fail
    go_loopg [17] n (fun g i_ wr => ∃ (i : Nat), i ≤ n ∧ n - i ≤ g ∧ i_ = .int .i64 (i : Nat) ∧ Hid (∀ j, j < i → ∀ (h : j < L.length) (h' : j < M.length), L[j].1 = M[j].1 ∧ L[j].2.1 = M[j].2.1) ∧ Hid (Below w.heap.size w wr))
    case atStart => exact ⟨0, by omega, by omega, rfl, fun j hj => absurd hj (by omega), HX⟩
    case round =>
      clear HX
      obtain ⟨i, hi, hg, rfl, HV, HX⟩ := hrel
      by_cases hin : i < n
      · have iw : ((i : Nat) : Int) < (n : Int) := by omega
        have n0 : (0 : Int) ≤ ((i : Nat) : Int) := by omega
        have hix : i < L.length := by rw [← HN.out]; exact hin
        have hix' : i < M.length := by rw [← HM.out]; exact hin
        obtain ⟨b1, f1, s1, rfl, hlt1, _, hR1, hc1⟩ := (HD.out wr HX.out).get hix
        obtain ⟨b2, f2, s2, rfl, hlt2, _, hR2, hc2⟩ := (HE.out wr HX.out).get hix'
        obtain ⟨x, hx⟩ : ∃ z, z = L[i] := ⟨_, rfl⟩
        obtain ⟨y, hy⟩ : ∃ z, z = M[i] := ⟨_, rfl⟩
        rw [← hx] at hR1
        rw [← hy] at hR2
        have HXI : Hid (L[i] = x ∧ M[i] = y) := ⟨hx.symm, hy.symm⟩
        obtain ⟨r2, d2, r3, d3, rfl, _, _⟩ := labM_cells hR1
        obtain ⟨t2, k2, t3, k3, rfl, _, _⟩ := labM_cells hR2
        obtain ⟨p, hp⟩ : ∃ q, q = x.1 := ⟨_, rfl⟩
        obtain ⟨o, ho⟩ : ∃ q, q = x.2.1 := ⟨_, rfl⟩
        obtain ⟨p', hp'⟩ : ∃ q, q = y.1 := ⟨_, rfl⟩
        obtain ⟨o', ho'⟩ : ∃ q, q = y.2.1 := ⟨_, rfl⟩
        obtain ⟨A2, hA2⟩ : ∃ q, q = x.2.2.1.length := ⟨_, rfl⟩
        obtain ⟨A3, hA3⟩ : ∃ q, q = x.2.2.2.length := ⟨_, rfl⟩
        obtain ⟨B2, hB2⟩ : ∃ q, q = y.2.2.1.length := ⟨_, rfl⟩
        obtain ⟨B3, hB3⟩ : ∃ q, q = y.2.2.2.length := ⟨_, rfl⟩
        rw [← hp, ← ho, ← hA2, ← hA3] at hc1
        rw [← hp', ← ho', ← hB2, ← hB3] at hc2
        have HPO : Hid ((p = x.1 ∧ o = x.2.1) ∧ p' = y.1 ∧ o' = y.2.1) := ⟨⟨hp, ho⟩, hp', ho'⟩
        have e0 : wr.cell? ⟨b1, f1 + i * 4, none⟩ = some (.int .i64 p) := hc1 0 _ rfl
        have e1 : wr.cell? ⟨b1, f1 + i * 4 + 1, none⟩ = some (.int .i64 o) := hc1 1 _ rfl
        have e2 : wr.cell? ⟨b1, f1 + i * 4 + 2, none⟩ = some (.slice r2 A2 d2) := hc1 2 _ rfl
        have e3 : wr.cell? ⟨b1, f1 + i * 4 + 3, none⟩ = some (.slice r3 A3 d3) := hc1 3 _ rfl
        obtain ⟨bX, pX, lX⟩ := box1 wr #[.int .i64 p, .int .i64 o, .slice r2 A2 d2, .slice r3 A3 d3] 45
        obtain ⟨W5, hW5⟩ : ∃ W5, W5 = wr.alloc (.cells #[.int .i64 p, .int .i64 o, .slice r2 A2 d2, .slice r3 A3 d3] 45) := ⟨_, rfl⟩
        rw [← hW5] at bX pX lX
        obtain ⟨X, hX⟩ : ∃ X, X = wr.heap.size := ⟨_, rfl⟩
        rw [← hX] at pX lX
        have g0 : W5.cell? ⟨b2, f2 + i * 4, none⟩ = some (.int .i64 p') := vcell bX hlt2 (hc2 0 _ rfl)
        have g1 : W5.cell? ⟨b2, f2 + i * 4 + 1, none⟩ = some (.int .i64 o') := vcell bX hlt2 (hc2 1 _ rfl)
        have g2 : W5.cell? ⟨b2, f2 + i * 4 + 2, none⟩ = some (.slice t2 B2 k2) := vcell bX hlt2 (hc2 2 _ rfl)
        have g3 : W5.cell? ⟨b2, f2 + i * 4 + 3, none⟩ = some (.slice t3 B3 k3) := vcell bX hlt2 (hc2 3 _ rfl)
        obtain ⟨bY, pY, lY⟩ := box1 W5 #[.int .i64 p', .int .i64 o', .slice t2 B2 k2, .slice t3 B3 k3] 45
        obtain ⟨W6, hW6⟩ : ∃ W6, W6 = W5.alloc (.cells #[.int .i64 p', .int .i64 o', .slice t2 B2 k2, .slice t3 B3 k3] 45) := ⟨_, rfl⟩
        rw [← hW6] at bY pY lY
        have pX6 : W6.heap[X]? = some (.cells #[.int .i64 p, .int .i64 o, .slice r2 A2 d2, .slice r3 A3 d3] 45 (0, 0)) := (bY.block _ (by omega)).trans pX
        rw [lX] at pY lY
        have HW5 := Lib.hid hW5
        have HW6 := Lib.hid hW6
        have HXX : Hid (wr.heap.size = X) := hX.symm
        have HXY : Hid (W5.heap.size = X + 1) := lX
        have HX6 : Hid (Below w.heap.size w W6) := below_on (below_on HX.out bX) bY
        obtain ⟨i0, i1, i2, i3⟩ := four_cells pX6
        obtain ⟨j0, j1, j2, j3⟩ := four_cells pY
        have CC := Lib.hid (alike_any p o p' o' (.slice r2 A2 d2) (.slice r3 A3 d3) (.slice t2 B2 k2) (.slice t3 B3 k3) W6)
        clear hc1 hc2 hR1 hR2 hx hy hp ho hp' ho' hA2 hA3 hB2 hB3 hlt1 hlt2 hX hW5 hW6 bX pX lX bY pY lY pX6
        go_upto_region 6 with fail
        rw [← HW5.out, HXX.out]
        clear e0 e1 e2 e3
        go_upto_region 7 with fail
        rw [← HW6.out, HXY.out]
        clear g0 g1 g2 g3
        go_wp2_with fail
        refine CC.out.mono ?_
        rintro e w7 ⟨rfl, b7⟩
        have HX7 : Hid (Below w.heap.size w w7) := below_on HX6.out b7
        clear b7 CC i0 i1 i2 i3 j0 j1 j2 j3
        by_cases hq : p = p' ∧ o = o'
        · rw [decide_eq_true hq]
          have HV2 : Hid (∀ j, j < i + 1 → ∀ (h : j < L.length) (h' : j < M.length), L[j].1 = M[j].1 ∧ L[j].2.1 = M[j].2.1) := fun j hj h h' => by
            by_cases e : j = i
            · subst e
              rw [HXI.out.1, HXI.out.2, ← HPO.out.1.1, ← HPO.out.1.2, ← HPO.out.2.1, ← HPO.out.2.2]
              exact hq
            · exact HV.out j (by omega) h h'
          clear HV HXI HPO hq
          go_wp2_with fail
          go_roundg (n - (i + 1))
          case measure => omega
          case rel => exact ⟨i + 1, by omega, Nat.le_refl _, by go_num, HV2, HX7⟩
        · rw [decide_eq_false hq]
          have HF : Hid (NoP (alikeP L M)) := fun h => hq (by
            have h2 := h.2 i hix hix'
            rw [HXI.out.1, HXI.out.2, ← HPO.out.1.1, ← HPO.out.1.2, ← HPO.out.2.1, ← HPO.out.2.2] at h2
            exact h2)
          clear hq
          go_wp2_with fail
          go_ret
          exact ⟨iff_f HF.out, HX7.out⟩
      · obtain rfl : n = i := by omega
        have iw : ¬ ((n : Nat) : Int) < ((n : Nat) : Int) := by omega
        have HT : Hid (alikeP L M) := ⟨by rw [← HN.out, ← HM.out], fun j h h' => HV.out j (by rw [HN.out]; exact h) h h'⟩
        clear HV
        go_wp2_with fail
        go_ret
        exact ⟨iff_t HT.out, HX.out⟩
  · have k1 : ((n : Int) != (m : Int)) = true := by simp; omega
    have k2 : ¬ ((n : Int) = (m : Int)) := by omega
    have k3 : decide ((n : Int) = (m : Int)) = false := decide_eq_false k2
    have HF : Hid (NoP (alikeP L M)) := fun h => hnm (by rw [HN.out, HM.out]; exact h.1)
    clear hnm
    go_wp2_with fail
    go_ret
    exact ⟨iff_f HF.out, HX.out⟩
set_option maxHeartbeats 8000000 in
theorem labels_ok {P P' : Nat → Prop} {cs : List Value} {v : Value} (C : Cfg) (M : List Lab) (w : World) (h : cfgM.R P w cs C) (h' : RowP labM P' w v M) (hg : ∀ x ∈ M, labG x) : Calls Tryz.prog 12 #[.agg cs.toArray, v] w fun e w' => IffB (alikeP M C.2.1 ∧ Rt.rightB (M.map lbL) C.1.length = true) e ∧ Below w.heap.size w w' := by
  obtain ⟨u0, k0, u1, k1, rfl, p0, p1⟩ := cfgM_cells h
  clear h
  obtain ⟨U, L, q2, q3, q4, q5, q6, q7, q8⟩ := C
  simp only at p0 p1 ⊢
  obtain ⟨n0, hn0⟩ : ∃ n, n = U.length := ⟨_, rfl⟩
  have HN0 := Lib.hid hn0
  obtain ⟨n1, hn1⟩ : ∃ n, n = L.length := ⟨_, rfl⟩
  have HN1 := Lib.hid hn1
  have HGM := Lib.hid hg
  have HD2 : Hid (∀ w', Below w.heap.size w w' → RowP labM P' w' v M) := fun w' b => h'.keep labM_ok (Keep.below b)
  clear hg h'
  rw [← hn0, ← hn1]
  rw [← hn0] at p0
  rw [← hn1] at p1
  have hm0 : n0 ≤ 9223372036854775807 := by have q := p0.len; simp only [maxLen] at q; omega
  have hm1 : n1 ≤ 9223372036854775807 := by have q := p1.len; simp only [maxLen] at q; omega
  clear hn0 hn1
  show Calls _ _ #[.agg #[.slice u0 n0 k0, .slice u1 n1 k1, .int .i64 q2, .int .i64 q3, .int .i64 q4, .int .i64 q5, .int .i64 q6, .int .i64 q7, .int .i64 q8], v] _ _
  obtain ⟨B0, P0, L0⟩ := box1 w #[.slice u0 n0 k0, .slice u1 n1 k1, .int .i64 q2, .int .i64 q3, .int .i64 q4, .int .i64 q5, .int .i64 q6, .int .i64 q7, .int .i64 q8] 25
  obtain ⟨W0, hW0⟩ : ∃ W0, W0 = w.alloc (.cells #[.slice u0 n0 k0, .slice u1 n1 k1, .int .i64 q2, .int .i64 q3, .int .i64 q4, .int .i64 q5, .int .i64 q6, .int .i64 q7, .int .i64 q8] 25) := ⟨_, rfl⟩
  rw [← hW0] at B0 P0 L0
  obtain ⟨R, hR⟩ : ∃ R, R = w.heap.size := ⟨_, rfl⟩
  rw [← hR] at P0 L0
  have HB : Hid (Below w.heap.size w W0) := B0
  have HP := Lib.hid P0
  have HL : Hid (W0.heap.size = R + 1) := L0
  have HW := Lib.hid hW0
  have HR : Hid (w.heap.size = R) := hR.symm
  have HX : Hid (Below W0.heap.size W0 W0) := Below.refl _ _
  have HD0 : Hid (∀ w', Below W0.heap.size W0 w' → RowP usrM P w' (.slice u0 n0 k0) U) := fun w' b => p0.keep usrM_ok (Keep.below (HB.out.trans (b.mono HB.out.size)))
  have HD1 : Hid (∀ w', Below W0.heap.size W0 w' → RowP labM P w' (.slice u1 n1 k1) L) := fun w' b => p1.keep labM_ok (Keep.below (HB.out.trans (b.mono HB.out.size)))
  clear hR B0 P0 L0 hW0 p0 p1
  go_enter Tryz.func12, Tryz.ntmps12
  go_upto_region 2 with fail
  rw [← HW.out, HR.out]
  obtain ⟨a0, a1, a2, a3, a4, a5, a6, a7, a8⟩ := nine_cells' ((HX.out.block R (by have := HL.out; omega)).trans HP.out)
  have C1 := Lib.hid (equal_any M L W0 (HD2.out W0 HB.out) (HD1.out W0 HX.out))
  obtain ⟨mv, mc, hmv⟩ := (HD2.out W0 HB.out).is_slice
  have HMV := Lib.hid hmv
  subst hmv
  go_wp2_with fail
  refine C1.out.mono ?_
  rintro e w1 ⟨hi, b1⟩
  have HX1 : Hid (Below W0.heap.size W0 w1) := b1
  clear b1 C1 HX a0 a1 a2 a3 a4 a5 a6 a7 a8
  have HX := HX1
  clear HX1
  obtain ⟨a0, a1, a2, a3, a4, a5, a6, a7, a8⟩ := nine_cells' ((HX.out.block R (by have := HL.out; omega)).trans HP.out)
  have HE : Hid (Below w.heap.size w w1) := HB.out.trans (HX.out.mono HB.out.size)
  rcases hi.det with ⟨ht, rfl⟩ | ⟨hf, rfl⟩
  · have HT := Lib.hid ht
    clear hi ht
    have C2 := Lib.hid (Rig.right_any (n0 : Int) w1 (labs_of (HD2.out w1 HE.out) HGM.out) (by constructor <;> omega))
    go_wp2_with fail
    refine C2.out.mono ?_
    rintro e w2 ⟨rfl, b2⟩
    have HE2 : Hid (Below w.heap.size w w2) := below_on HE.out b2
    clear b2 C2
    by_cases hq : Rt.rightB (M.map lbL) n0 = true
    · rw [hq]
      have HQ : Hid (IffB (alikeP M L ∧ Rt.rightB (M.map lbL) n0 = true) (.returned (.bool true))) := (iff_t ⟨HT.out, hq⟩)
      clear hq
      go_wp2_with fail
      go_ret
      exact ⟨HQ.out, HE2.out⟩
    · rw [Bool.eq_false_iff.2 hq]
      have HQ : Hid (IffB (alikeP M L ∧ Rt.rightB (M.map lbL) n0 = true) (.returned (.bool false))) := (iff_f (fun h => hq h.2))
      clear hq
      go_wp2_with fail
      go_ret
      exact ⟨HQ.out, HE2.out⟩
  · have HQ : Hid (IffB (alikeP M L ∧ Rt.rightB (M.map lbL) n0 = true) (.returned (.bool false))) := (iff_f (fun h => hf h.1))
    clear hi hf
    go_wp2_with fail
    go_ret
    exact ⟨HQ.out, HE.out⟩
end Go.Proofs.YtccaiippoephbaaGreatDoor.Sta
/- State: a fresh state is right. -/
set_option linter.unusedVariables false
set_option linter.unusedSimpArgs false
set_option maxRecDepth 100000
namespace Go.Proofs.YtccaiippoephbaaGreatDoor.Sta
open Go.RowKit Go.Lib Go.Proofs.YtccaiippoephbaaGreatDoor.Bx Go.Proofs.YtccaiippoephbaaGreatDoor.Frm Go.Proofs.YtccaiippoephbaaGreatDoor.Wds

set_option maxHeartbeats 4000000 in
theorem docs_nil {u0 u1 y3 y4 y5 y6 y7 : Option Addr} {n0 k0 n1 k1 m3 d3 m4 d4 m5 d5 m6 d6 m7 d7 : Nat} {q2 q3 q4 q5 q6 q7 q8 x0 x1 x2 : Int} (w : World) (hq : 0 ≤ q4) : Calls Tryz.prog 13 #[.agg #[.slice u0 n0 k0, .slice u1 n1 k1, .int .i64 q2, .int .i64 q3, .int .i64 q4, .int .i64 q5, .int .i64 q6, .int .i64 q7, .int .i64 q8], .agg #[.int .i64 x0, .int .i64 x1, .int .i64 x2, .slice y3 m3 d3, .slice y4 0 d4, .slice y5 m5 d5, .slice y6 m6 d6, .slice y7 m7 d7]] w fun e w' => e = .returned (.bool true) ∧ Below w.heap.size w w' := by
  obtain ⟨B0, P0, L0⟩ := box1 w #[.slice u0 n0 k0, .slice u1 n1 k1, .int .i64 q2, .int .i64 q3, .int .i64 q4, .int .i64 q5, .int .i64 q6, .int .i64 q7, .int .i64 q8] 25
  obtain ⟨W0, hW0⟩ : ∃ W0, W0 = w.alloc (.cells #[.slice u0 n0 k0, .slice u1 n1 k1, .int .i64 q2, .int .i64 q3, .int .i64 q4, .int .i64 q5, .int .i64 q6, .int .i64 q7, .int .i64 q8] 25) := ⟨_, rfl⟩
  rw [← hW0] at B0 P0 L0
  obtain ⟨B1, P1, L1⟩ := box1 W0 #[.int .i64 x0, .int .i64 x1, .int .i64 x2, .slice y3 m3 d3, .slice y4 0 d4, .slice y5 m5 d5, .slice y6 m6 d6, .slice y7 m7 d7] 31
  obtain ⟨W1, hW1⟩ : ∃ W1, W1 = W0.alloc (.cells #[.int .i64 x0, .int .i64 x1, .int .i64 x2, .slice y3 m3 d3, .slice y4 0 d4, .slice y5 m5 d5, .slice y6 m6 d6, .slice y7 m7 d7] 31) := ⟨_, rfl⟩
  rw [← hW1] at B1 P1 L1
  have q0 : W1.heap[w.heap.size]? = some (.cells #[.slice u0 n0 k0, .slice u1 n1 k1, .int .i64 q2, .int .i64 q3, .int .i64 q4, .int .i64 q5, .int .i64 q6, .int .i64 q7, .int .i64 q8] 25 (0, 0)) := (B1.block _ (by omega)).trans P0
  rw [L0] at P1 L1
  have HB : Hid (Below w.heap.size w W1) := below_on B0 B1
  obtain ⟨R, hR⟩ : ∃ R, R = w.heap.size := ⟨_, rfl⟩
  rw [← hR] at q0 P1 L1
  have HG : Hid (∀ w', Below W1.heap.size W1 w' → w'.heap[R]? = some (.cells #[.slice u0 n0 k0, .slice u1 n1 k1, .int .i64 q2, .int .i64 q3, .int .i64 q4, .int .i64 q5, .int .i64 q6, .int .i64 q7, .int .i64 q8] 25 (0, 0)) ∧ w'.heap[R + 1]? = some (.cells #[.int .i64 x0, .int .i64 x1, .int .i64 x2, .slice y3 m3 d3, .slice y4 0 d4, .slice y5 m5 d5, .slice y6 m6 d6, .slice y7 m7 d7] 31 (0, 0))) := fun w' b => ⟨(b.block R (by omega)).trans q0, (b.block (R + 1) (by omega)).trans P1⟩
  have HX : Hid (Below W1.heap.size W1 W1) := Below.refl _ _
  have HW : Hid (W1 = (w.alloc (.cells #[.slice u0 n0 k0, .slice u1 n1 k1, .int .i64 q2, .int .i64 q3, .int .i64 q4, .int .i64 q5, .int .i64 q6, .int .i64 q7, .int .i64 q8] 25)).alloc (.cells #[.int .i64 x0, .int .i64 x1, .int .i64 x2, .slice y3 m3 d3, .slice y4 0 d4, .slice y5 m5 d5, .slice y6 m6 d6, .slice y7 m7 d7] 31)) := by show _ = _; rw [hW1, hW0]
  have HR : Hid (w.heap.size = R) := hR.symm
  clear hR B0 P0 L0 B1 P1 L1 hW0 hW1 q0
  go_enter Tryz.func13, Tryz.ntmps13
  have g1 : ¬ q4 < 0 := by omega
  have g2 : decide (q4 < 0) = false := decide_eq_false g1
  go_upto_region 1 with fail
  rw [← HW.out, HR.out]
  obtain ⟨a0, a1, a2, a3, a4, a5, a6, a7, a8⟩ := nine_cells' (HG.out _ HX.out).1
  obtain ⟨b0, b1, b2, b3, b4, b5, b6, b7⟩ := eight_cells (HG.out _ HX.out).2
  go_wp2_with fail
  go_loopg [21] 0 (fun gg i_ wr => i_ = .int .i64 0 ∧ Hid (Below W1.heap.size W1 wr))
  case atStart => exact ⟨rfl, HX⟩
  case round =>
    clear HX
    obtain ⟨rfl, HX⟩ := hrel
    have HE : Hid (Below w.heap.size w wr) := HB.out.trans (HX.out.mono HB.out.size)
    go_wp2_with fail
    go_ret
    exact ⟨rfl, HE.out⟩
set_option maxHeartbeats 4000000 in
theorem seats_nil {u0 u1 y3 y4 y5 y6 y7 : Option Addr} {n0 k0 n1 k1 m3 d3 m4 d4 m5 d5 m6 d6 m7 d7 : Nat} {q2 q3 q4 q5 q6 q7 q8 x0 x1 x2 : Int} (w : World) (hq : 0 ≤ q6) : Calls Tryz.prog 15 #[.agg #[.slice u0 n0 k0, .slice u1 n1 k1, .int .i64 q2, .int .i64 q3, .int .i64 q4, .int .i64 q5, .int .i64 q6, .int .i64 q7, .int .i64 q8], .agg #[.int .i64 x0, .int .i64 x1, .int .i64 x2, .slice y3 m3 d3, .slice y4 m4 d4, .slice y5 m5 d5, .slice y6 0 d6, .slice y7 m7 d7]] w fun e w' => e = .returned (.bool true) ∧ Below w.heap.size w w' := by
  obtain ⟨B0, P0, L0⟩ := box1 w #[.slice u0 n0 k0, .slice u1 n1 k1, .int .i64 q2, .int .i64 q3, .int .i64 q4, .int .i64 q5, .int .i64 q6, .int .i64 q7, .int .i64 q8] 25
  obtain ⟨W0, hW0⟩ : ∃ W0, W0 = w.alloc (.cells #[.slice u0 n0 k0, .slice u1 n1 k1, .int .i64 q2, .int .i64 q3, .int .i64 q4, .int .i64 q5, .int .i64 q6, .int .i64 q7, .int .i64 q8] 25) := ⟨_, rfl⟩
  rw [← hW0] at B0 P0 L0
  obtain ⟨B1, P1, L1⟩ := box1 W0 #[.int .i64 x0, .int .i64 x1, .int .i64 x2, .slice y3 m3 d3, .slice y4 m4 d4, .slice y5 m5 d5, .slice y6 0 d6, .slice y7 m7 d7] 31
  obtain ⟨W1, hW1⟩ : ∃ W1, W1 = W0.alloc (.cells #[.int .i64 x0, .int .i64 x1, .int .i64 x2, .slice y3 m3 d3, .slice y4 m4 d4, .slice y5 m5 d5, .slice y6 0 d6, .slice y7 m7 d7] 31) := ⟨_, rfl⟩
  rw [← hW1] at B1 P1 L1
  have q0 : W1.heap[w.heap.size]? = some (.cells #[.slice u0 n0 k0, .slice u1 n1 k1, .int .i64 q2, .int .i64 q3, .int .i64 q4, .int .i64 q5, .int .i64 q6, .int .i64 q7, .int .i64 q8] 25 (0, 0)) := (B1.block _ (by omega)).trans P0
  rw [L0] at P1 L1
  have HB : Hid (Below w.heap.size w W1) := below_on B0 B1
  obtain ⟨R, hR⟩ : ∃ R, R = w.heap.size := ⟨_, rfl⟩
  rw [← hR] at q0 P1 L1
  have HG : Hid (∀ w', Below W1.heap.size W1 w' → w'.heap[R]? = some (.cells #[.slice u0 n0 k0, .slice u1 n1 k1, .int .i64 q2, .int .i64 q3, .int .i64 q4, .int .i64 q5, .int .i64 q6, .int .i64 q7, .int .i64 q8] 25 (0, 0)) ∧ w'.heap[R + 1]? = some (.cells #[.int .i64 x0, .int .i64 x1, .int .i64 x2, .slice y3 m3 d3, .slice y4 m4 d4, .slice y5 m5 d5, .slice y6 0 d6, .slice y7 m7 d7] 31 (0, 0))) := fun w' b => ⟨(b.block R (by omega)).trans q0, (b.block (R + 1) (by omega)).trans P1⟩
  have HX : Hid (Below W1.heap.size W1 W1) := Below.refl _ _
  have HW : Hid (W1 = (w.alloc (.cells #[.slice u0 n0 k0, .slice u1 n1 k1, .int .i64 q2, .int .i64 q3, .int .i64 q4, .int .i64 q5, .int .i64 q6, .int .i64 q7, .int .i64 q8] 25)).alloc (.cells #[.int .i64 x0, .int .i64 x1, .int .i64 x2, .slice y3 m3 d3, .slice y4 m4 d4, .slice y5 m5 d5, .slice y6 0 d6, .slice y7 m7 d7] 31)) := by show _ = _; rw [hW1, hW0]
  have HR : Hid (w.heap.size = R) := hR.symm
  clear hR B0 P0 L0 B1 P1 L1 hW0 hW1 q0
  go_enter Tryz.func15, Tryz.ntmps15
  have g1 : ¬ q6 < 0 := by omega
  have g2 : decide (q6 < 0) = false := decide_eq_false g1
  go_upto_region 1 with fail
  rw [← HW.out, HR.out]
  obtain ⟨a0, a1, a2, a3, a4, a5, a6, a7, a8⟩ := nine_cells' (HG.out _ HX.out).1
  obtain ⟨b0, b1, b2, b3, b4, b5, b6, b7⟩ := eight_cells (HG.out _ HX.out).2
  go_wp2_with fail
  go_loopg [17] 0 (fun gg i_ wr => i_ = .int .i64 0 ∧ Hid (Below W1.heap.size W1 wr))
  case atStart => exact ⟨rfl, HX⟩
  case round =>
    clear HX
    obtain ⟨rfl, HX⟩ := hrel
    have HE : Hid (Below w.heap.size w wr) := HB.out.trans (HX.out.mono HB.out.size)
    go_wp2_with fail
    go_ret
    exact ⟨rfl, HE.out⟩
set_option maxHeartbeats 4000000 in
theorem audit_nil {u0 u1 y3 y4 y5 y6 y7 : Option Addr} {n0 k0 n1 k1 m3 d3 m4 d4 m5 d5 m6 d6 m7 d7 : Nat} {q2 q3 q4 q5 q6 q7 q8 x0 x1 x2 : Int} (w : World) (hq : 0 ≤ q7) : Calls Tryz.prog 16 #[.agg #[.slice u0 n0 k0, .slice u1 n1 k1, .int .i64 q2, .int .i64 q3, .int .i64 q4, .int .i64 q5, .int .i64 q6, .int .i64 q7, .int .i64 q8], .slice y7 0 d7] w fun e w' => e = .returned (.bool true) ∧ Below w.heap.size w w' := by
  obtain ⟨B0, P0, L0⟩ := box1 w #[.slice u0 n0 k0, .slice u1 n1 k1, .int .i64 q2, .int .i64 q3, .int .i64 q4, .int .i64 q5, .int .i64 q6, .int .i64 q7, .int .i64 q8] 25
  obtain ⟨W1, hW1⟩ : ∃ W1, W1 = w.alloc (.cells #[.slice u0 n0 k0, .slice u1 n1 k1, .int .i64 q2, .int .i64 q3, .int .i64 q4, .int .i64 q5, .int .i64 q6, .int .i64 q7, .int .i64 q8] 25) := ⟨_, rfl⟩
  rw [← hW1] at B0 P0 L0
  have HB : Hid (Below w.heap.size w W1) := B0
  obtain ⟨R, hR⟩ : ∃ R, R = w.heap.size := ⟨_, rfl⟩
  rw [← hR] at P0 L0
  have HG : Hid (∀ w', Below W1.heap.size W1 w' → w'.heap[R]? = some (.cells #[.slice u0 n0 k0, .slice u1 n1 k1, .int .i64 q2, .int .i64 q3, .int .i64 q4, .int .i64 q5, .int .i64 q6, .int .i64 q7, .int .i64 q8] 25 (0, 0))) := fun w' b => (b.block R (by omega)).trans P0
  have HX : Hid (Below W1.heap.size W1 W1) := Below.refl _ _
  have HW : Hid (W1 = w.alloc (.cells #[.slice u0 n0 k0, .slice u1 n1 k1, .int .i64 q2, .int .i64 q3, .int .i64 q4, .int .i64 q5, .int .i64 q6, .int .i64 q7, .int .i64 q8] 25)) := hW1
  have HR : Hid (w.heap.size = R) := hR.symm
  clear hR B0 P0 L0 hW1
  go_enter Tryz.func16, Tryz.ntmps16
  have g1 : ¬ q7 < 0 := by omega
  have g2 : decide (q7 < 0) = false := decide_eq_false g1
  go_upto_region 1 with fail
  rw [← HW.out, HR.out]
  obtain ⟨a0, a1, a2, a3, a4, a5, a6, a7, a8⟩ := nine_cells' (HG.out _ HX.out)
  go_wp2_with fail
  go_loopg [14] 0 (fun gg i_ wr => i_ = .int .i64 0 ∧ Hid (Below W1.heap.size W1 wr))
  case atStart => exact ⟨rfl, HX⟩
  case round =>
    clear HX
    obtain ⟨rfl, HX⟩ := hrel
    have HE : Hid (Below w.heap.size w wr) := HB.out.trans (HX.out.mono HB.out.size)
    go_wp2_with fail
    go_ret
    exact ⟨rfl, HE.out⟩
set_option maxHeartbeats 4000000 in
theorem undo_nil (y : Option Addr) (d : Nat) (w : World) : Calls Tryz.prog 36 #[.slice y 0 d] w fun e w' => e = .returned (.tuple #[.agg #[.slice none 0 0], .bool true]) ∧ Below w.heap.size w w' := by
  obtain ⟨B0, P0, L0⟩ := box1 w #[Value.slice none 0 0] 78
  obtain ⟨W0, hW0⟩ : ∃ W0, W0 = w.alloc (.cells #[Value.slice none 0 0] 78) := ⟨_, rfl⟩
  rw [← hW0] at B0 P0 L0
  obtain ⟨R, hR⟩ : ∃ R, R = w.heap.size := ⟨_, rfl⟩
  rw [← hR] at P0 L0
  have HB : Hid (Below w.heap.size w W0) := B0
  have HP := Lib.hid P0
  have HL : Hid (W0.heap.size = R + 1) := L0
  have HW := Lib.hid hW0
  have HR : Hid (w.heap.size = R) := hR.symm
  have HX : Hid (Below W0.heap.size W0 W0) := Below.refl _ _
  clear hR B0 P0 L0 hW0
  go_enter Tryz.func36, Tryz.ntmps36
  go_upto_region 1 with fail
  rw [← HW.out, HR.out]
  go_wp2_with fail
  go_loopg [4, 11] 0 (fun gg t_ i_ wr => t_ = .slice none 0 0 ∧ i_ = .int .i64 0 ∧ Hid (Below W0.heap.size W0 wr))
  case atStart => exact ⟨rfl, rfl, HX⟩
  case round =>
    clear HX
    obtain ⟨rfl, rfl, HX⟩ := hrel
    have zz : wr.heap[R]? = some (.cells #[Value.slice none 0 0] 78 (0, 0)) := (HX.out.block R (by have := HL.out; omega)).trans HP.out
    have c0 : wr.cell? ⟨R, 0, none⟩ = some (.slice none 0 0) := by rw [cell_of_row _ _ _ _ _ _ zz]; rfl
    have f0 : wr.frozen? ⟨R, 0, none⟩ = false := free_at zz
    have HE : Hid (Below w.heap.size w (wr.setCell ⟨R, 0, none⟩ (.slice none 0 0))) := below_put (HB.out.trans (HX.out.mono HB.out.size)) (Nat.le_of_eq HR.out) _
    have c1 : (wr.setCell ⟨R, 0, none⟩ (.slice none 0 0)).cell? ⟨R, 0, none⟩ = some (.slice none 0 0) := by
      have := set_block (i := 0) (u := .slice none 0 0) zz
      rw [cell_of_row _ _ _ _ _ _ this]
      rfl
    clear zz
    go_wp2_with fail
    exact bodyPost_ret (v := .tuple #[.agg #[.slice none 0 0], .bool true]) (by simp [results, Tryz.results36, go_sem, c1]) rfl ⟨rfl, HE.out⟩
set_option maxHeartbeats 4000000 in
theorem stacks_fresh {P : Nat → Prop} {u0 u1 y3 y4 y5 y6 y7 : Option Addr} {n0 k0 n1 k1 m3 d3 m4 d4 m5 d5 m6 d6 m7 d7 : Nat} {q2 q3 q4 q5 q6 q7 q8 x0 x1 x2 : Int} (w : World) (hq : 0 ≤ q5) (h : RowP stkM P w (.slice y5 n0 d5) (List.replicate n0 [])) : Calls Tryz.prog 14 #[.agg #[.slice u0 n0 k0, .slice u1 n1 k1, .int .i64 q2, .int .i64 q3, .int .i64 q4, .int .i64 q5, .int .i64 q6, .int .i64 q7, .int .i64 q8], .agg #[.int .i64 x0, .int .i64 x1, .int .i64 x2, .slice y3 m3 d3, .slice y4 m4 d4, .slice y5 n0 d5, .slice y6 m6 d6, .slice y7 m7 d7]] w fun e w' => e = .returned (.bool true) ∧ Below w.heap.size w w' := by
  have HK : Hid (∀ w', Below w.heap.size w w' → RowP stkM P w' (.slice y5 n0 d5) (List.replicate n0 [])) := fun w' b => h.keep stkM_ok (Keep.below b)
  have hm0 : n0 ≤ 9223372036854775807 := by have q := h.len; simp only [maxLen] at q; rw [List.length_replicate] at q; omega
  clear h
  obtain ⟨B0, P0, L0⟩ := box1 w #[.slice u0 n0 k0, .slice u1 n1 k1, .int .i64 q2, .int .i64 q3, .int .i64 q4, .int .i64 q5, .int .i64 q6, .int .i64 q7, .int .i64 q8] 25
  obtain ⟨W0, hW0⟩ : ∃ W0, W0 = w.alloc (.cells #[.slice u0 n0 k0, .slice u1 n1 k1, .int .i64 q2, .int .i64 q3, .int .i64 q4, .int .i64 q5, .int .i64 q6, .int .i64 q7, .int .i64 q8] 25) := ⟨_, rfl⟩
  rw [← hW0] at B0 P0 L0
  obtain ⟨B1, P1, L1⟩ := box1 W0 #[.int .i64 x0, .int .i64 x1, .int .i64 x2, .slice y3 m3 d3, .slice y4 m4 d4, .slice y5 n0 d5, .slice y6 m6 d6, .slice y7 m7 d7] 31
  obtain ⟨W1, hW1⟩ : ∃ W1, W1 = W0.alloc (.cells #[.int .i64 x0, .int .i64 x1, .int .i64 x2, .slice y3 m3 d3, .slice y4 m4 d4, .slice y5 n0 d5, .slice y6 m6 d6, .slice y7 m7 d7] 31) := ⟨_, rfl⟩
  rw [← hW1] at B1 P1 L1
  have q0 : W1.heap[w.heap.size]? = some (.cells #[.slice u0 n0 k0, .slice u1 n1 k1, .int .i64 q2, .int .i64 q3, .int .i64 q4, .int .i64 q5, .int .i64 q6, .int .i64 q7, .int .i64 q8] 25 (0, 0)) := (B1.block _ (by omega)).trans P0
  rw [L0] at P1 L1
  have HB : Hid (Below w.heap.size w W1) := below_on B0 B1
  obtain ⟨R, hR⟩ : ∃ R, R = w.heap.size := ⟨_, rfl⟩
  rw [← hR] at q0 P1 L1
  have HG : Hid (∀ w', Below W1.heap.size W1 w' → w'.heap[R]? = some (.cells #[.slice u0 n0 k0, .slice u1 n1 k1, .int .i64 q2, .int .i64 q3, .int .i64 q4, .int .i64 q5, .int .i64 q6, .int .i64 q7, .int .i64 q8] 25 (0, 0)) ∧ w'.heap[R + 1]? = some (.cells #[.int .i64 x0, .int .i64 x1, .int .i64 x2, .slice y3 m3 d3, .slice y4 m4 d4, .slice y5 n0 d5, .slice y6 m6 d6, .slice y7 m7 d7] 31 (0, 0))) := fun w' b => ⟨(b.block R (by omega)).trans q0, (b.block (R + 1) (by omega)).trans P1⟩
  have HX : Hid (Below W1.heap.size W1 W1) := Below.refl _ _
  have HW : Hid (W1 = (w.alloc (.cells #[.slice u0 n0 k0, .slice u1 n1 k1, .int .i64 q2, .int .i64 q3, .int .i64 q4, .int .i64 q5, .int .i64 q6, .int .i64 q7, .int .i64 q8] 25)).alloc (.cells #[.int .i64 x0, .int .i64 x1, .int .i64 x2, .slice y3 m3 d3, .slice y4 m4 d4, .slice y5 n0 d5, .slice y6 m6 d6, .slice y7 m7 d7] 31)) := by show _ = _; rw [hW1, hW0]
  have HR : Hid (w.heap.size = R) := hR.symm
  clear hR B0 P0 L0 B1 P1 L1 hW0 hW1 q0
  go_enter Tryz.func14, Tryz.ntmps14
  have g1 : ¬ q5 < 0 := by omega
  have g2 : decide (q5 < 0) = false := decide_eq_false g1
  go_upto_region 1 with fail
  rw [← HW.out, HR.out]
  obtain ⟨a0, a1, a2, a3, a4, a5, a6, a7, a8⟩ := nine_cells' (HG.out _ HX.out).1
  obtain ⟨b0, b1, b2, b3, b4, b5, b6, b7⟩ := eight_cells (HG.out _ HX.out).2
  go_wp2_with fail
  clear a0 a1 a2 a3 a4 a5 a6 a7 a8 b0 b1 b2 b3 b4 b5 b6 b7
  go_loopg [21] n0 (fun g i_ wr => ∃ (i : Nat), i ≤ n0 ∧ n0 - i ≤ g ∧ i_ = .int .i64 (i : Nat) ∧ Hid (Below W1.heap.size W1 wr))
  case atStart => exact ⟨0, by omega, by omega, rfl, HX⟩
  case round =>
    clear HX
    obtain ⟨i, hi, hg, rfl, HX⟩ := hrel
    have HE : Hid (Below w.heap.size w wr) := HB.out.trans (HX.out.mono HB.out.size)
    by_cases hin : i < n0
    · have iw : ((i : Nat) : Int) < (n0 : Int) := by omega
      have n0i : (0 : Int) ≤ ((i : Nat) : Int) := by omega
      obtain ⟨b1, f1, s1, rfl, hlt1, _, hR1, hc1⟩ := (HK.out wr HE.out).get (j := i) (by rw [List.length_replicate]; exact hin)
      rw [List.getElem_replicate] at hR1
      obtain ⟨g, l, rfl, _⟩ := stkM_cells hR1
      have m0 : wr.cell? ⟨b1, f1 + i, none⟩ = some (.slice g 0 l) := by have q := hc1 0 _ rfl; rw [show f1 + i * stkM.k + 0 = f1 + i from by show f1 + i * 1 + 0 = _; omega] at q; exact q
      clear hR1 hc1 hlt1
      obtain ⟨a0, a1, a2, a3, a4, a5, a6, a7, a8⟩ := nine_cells' (HG.out _ HX.out).1
      obtain ⟨b0, b1, b2, b3, b4, b5, b6, b7⟩ := eight_cells (HG.out _ HX.out).2
      go_wp2_with fail
      clear m0 a0 a1 a2 a3 a4 a5 a6 a7 a8 b0 b1 b2 b3 b4 b5 b6 b7
      obtain ⟨WI, hWI⟩ : ∃ WI : World, WI = wr := ⟨_, rfl⟩
      subst hWI
      go_loopg [32] 0 (fun gg i_ wr => i_ = .int .i64 0 ∧ wr = WI)
      case atStart => exact ⟨rfl, rfl⟩
      case round =>
        obtain ⟨rfl, rfl⟩ := hrel
        have C1 := Lib.hid (undo_nil g l wr)
        go_wp2_with fail
        refine C1.out.mono ?_
        rintro e w7 ⟨rfl, b7⟩
        have HX8 : Hid (Below W1.heap.size W1 (w7.alloc (.cells #[Value.slice none 0 0] 78))) := below_on (below_on HX.out b7) (box1 w7 #[Value.slice none 0 0] 78).1
        clear b7 C1 HE
        go_wp2_with fail
        go_roundg (n0 - (i + 1))
        case measure => omega
        case rel => exact ⟨i + 1, by omega, Nat.le_refl _, by go_num, HX8⟩
    · obtain rfl : n0 = i := by omega
      have iw : ¬ ((n0 : Nat) : Int) < ((n0 : Nat) : Int) := by omega
      go_wp2_with fail
      go_ret
      exact ⟨rfl, HE.out⟩
theorem alike_refl (L : List Lab) : alikeP L L := ⟨rfl, fun _ _ _ => ⟨rfl, rfl⟩⟩
set_option maxHeartbeats 16000000 in
theorem right_fresh {P P' : Nat → Prop} {cs cs' : List Value} (C : Cfg) (w : World) (h : cfgM.R P w cs C) (h' : staM.R P' w cs' (freshS C.2.1 C.1.length)) (hm : mayB C) (hb : ∀ x ∈ C.1, x.1.length ≤ 140737488355328 ∧ x.2.1.length ≤ 140737488355328 ∧ x.2.2.length ≤ 140737488355328) (hl : ∀ x ∈ C.2.1, labG x) : Calls Tryz.prog 4 #[.agg cs.toArray, .agg cs'.toArray] w fun e w' => e = .returned (.bool true) ∧ Below w.heap.size w w' := by
  have CM0 := Lib.hid (fun w' (b : Below w.heap.size w w') => (may_ok C w' (cfgM_ok.keep h (Keep.below b)) hb hl).mono (fun e w'' (q : IffB (mayB C) e ∧ Below w'.heap.size w' w'') => (show e = .returned (.bool true) ∧ Below w'.heap.size w' w'' from ⟨by rcases q.1.det with ⟨_, e⟩ | ⟨hn, _⟩; exact e; exact absurd hm hn, q.2⟩)))
  have CLB0 := Lib.hid (fun w' (b : Below w.heap.size w w') (v : Value) (hv : RowP labM P' w' v C.2.1) => (labels_ok C C.2.1 w' (cfgM_ok.keep h (Keep.below b)) hv hl).mono (fun e w'' (q : IffB (alikeP C.2.1 C.2.1 ∧ Rt.rightB (C.2.1.map lbL) C.1.length = true) e ∧ Below w'.heap.size w' w'') => (show e = .returned (.bool true) ∧ Below w'.heap.size w' w'' from ⟨by rcases q.1.det with ⟨_, e⟩ | ⟨hn, _⟩; exact e; exact absurd ⟨alike_refl _, hm.2.1⟩ hn, q.2⟩)))
  have hr := hm.2.2
  obtain ⟨u0, k0, u1, k1, rfl, p0, p1⟩ := cfgM_cells h
  obtain ⟨y3, d3, y4, d4, y5, d5, y6, d6, y7, d7, rfl, r3, r4, r5, r6, r7⟩ := staM_cells h'
  have HK0 := Lib.hid (fun w' (b : Below w.heap.size w w') => r5.keep stkM_ok (Keep.below b))
  have HL0 := Lib.hid (fun w' (b : Below w.heap.size w w') => r3.keep labM_ok (Keep.below b))
  clear h h' hm p0 p1 r3 r4 r5 r6 r7 hb hl
  obtain ⟨U, L, q2, q3, q4, q5, q6, q7, q8⟩ := C
  simp only [freshS, List.length_replicate, List.length_nil] at CM0 CLB0 HK0 HL0 hr ⊢
  obtain ⟨n0, hn0⟩ : ∃ n, n = U.length := ⟨_, rfl⟩
  obtain ⟨n1, hn1⟩ : ∃ n, n = L.length := ⟨_, rfl⟩
  simp only [← hn0, ← hn1] at CM0 CLB0 HK0 HL0 ⊢
  obtain ⟨_, _, ⟨g4, _⟩, ⟨g5, _⟩, ⟨g6, _⟩, ⟨g7, _⟩, _⟩ := hr
  clear hn0 hn1
  show Calls _ _ #[.agg #[.slice u0 n0 k0, .slice u1 n1 k1, .int .i64 q2, .int .i64 q3, .int .i64 q4, .int .i64 q5, .int .i64 q6, .int .i64 q7, .int .i64 q8], .agg #[.int .i64 0, .int .i64 0, .int .i64 1, .slice y3 n1 d3, .slice y4 0 d4, .slice y5 n0 d5, .slice y6 0 d6, .slice y7 0 d7]] _ _
  obtain ⟨B0, P0, L0⟩ := box1 w #[.slice u0 n0 k0, .slice u1 n1 k1, .int .i64 q2, .int .i64 q3, .int .i64 q4, .int .i64 q5, .int .i64 q6, .int .i64 q7, .int .i64 q8] 25
  obtain ⟨W0, hW0⟩ : ∃ W0, W0 = w.alloc (.cells #[.slice u0 n0 k0, .slice u1 n1 k1, .int .i64 q2, .int .i64 q3, .int .i64 q4, .int .i64 q5, .int .i64 q6, .int .i64 q7, .int .i64 q8] 25) := ⟨_, rfl⟩
  rw [← hW0] at B0 P0 L0
  obtain ⟨B1, P1, L1⟩ := box1 W0 #[.int .i64 0, .int .i64 0, .int .i64 1, .slice y3 n1 d3, .slice y4 0 d4, .slice y5 n0 d5, .slice y6 0 d6, .slice y7 0 d7] 31
  obtain ⟨W1, hW1⟩ : ∃ W1, W1 = W0.alloc (.cells #[.int .i64 0, .int .i64 0, .int .i64 1, .slice y3 n1 d3, .slice y4 0 d4, .slice y5 n0 d5, .slice y6 0 d6, .slice y7 0 d7] 31) := ⟨_, rfl⟩
  rw [← hW1] at B1 P1 L1
  have q0 : W1.heap[w.heap.size]? = some (.cells #[.slice u0 n0 k0, .slice u1 n1 k1, .int .i64 q2, .int .i64 q3, .int .i64 q4, .int .i64 q5, .int .i64 q6, .int .i64 q7, .int .i64 q8] 25 (0, 0)) := (B1.block _ (by omega)).trans P0
  rw [L0] at P1 L1
  have HB : Hid (Below w.heap.size w W1) := below_on B0 B1
  obtain ⟨R, hR⟩ : ∃ R, R = w.heap.size := ⟨_, rfl⟩
  rw [← hR] at q0 P1 L1
  have HG : Hid (∀ w', Below W1.heap.size W1 w' → w'.heap[R]? = some (.cells #[.slice u0 n0 k0, .slice u1 n1 k1, .int .i64 q2, .int .i64 q3, .int .i64 q4, .int .i64 q5, .int .i64 q6, .int .i64 q7, .int .i64 q8] 25 (0, 0)) ∧ w'.heap[R + 1]? = some (.cells #[.int .i64 0, .int .i64 0, .int .i64 1, .slice y3 n1 d3, .slice y4 0 d4, .slice y5 n0 d5, .slice y6 0 d6, .slice y7 0 d7] 31 (0, 0))) := fun w' b => ⟨(b.block R (by omega)).trans q0, (b.block (R + 1) (by omega)).trans P1⟩
  have HX : Hid (Below W1.heap.size W1 W1) := Below.refl _ _
  have HW : Hid (W1 = (w.alloc (.cells #[.slice u0 n0 k0, .slice u1 n1 k1, .int .i64 q2, .int .i64 q3, .int .i64 q4, .int .i64 q5, .int .i64 q6, .int .i64 q7, .int .i64 q8] 25)).alloc (.cells #[.int .i64 0, .int .i64 0, .int .i64 1, .slice y3 n1 d3, .slice y4 0 d4, .slice y5 n0 d5, .slice y6 0 d6, .slice y7 0 d7] 31)) := by show _ = _; rw [hW1, hW0]
  have HR : Hid (w.heap.size = R) := hR.symm
  clear hR B0 P0 L0 B1 P1 L1 hW0 hW1 q0
  go_enter Tryz.func4, Tryz.ntmps4
  go_upto_region 1 with fail
  rw [← HW.out, HR.out]
  obtain ⟨a0, a1, a2, a3, a4, a5, a6, a7, a8⟩ := nine_cells' (HG.out _ HX.out).1
  obtain ⟨b0, b1, b2, b3, b4, b5, b6, b7⟩ := eight_cells (HG.out _ HX.out).2
  have C1 : Hid (Calls Tryz.prog 10 #[.agg #[.slice u0 n0 k0, .slice u1 n1 k1, .int .i64 q2, .int .i64 q3, .int .i64 q4, .int .i64 q5, .int .i64 q6, .int .i64 q7, .int .i64 q8]] W1 fun e w'' => e = .returned (.bool true) ∧ Below W1.heap.size W1 w'') := CM0.out W1 HB.out
  go_wp2_with fail
  refine C1.out.mono ?_
  rintro e w1 ⟨rfl, b_⟩
  have HX2 : Hid (Below W1.heap.size W1 w1) := below_on HX.out b_
  clear b_ HX a0 a1 a2 a3 a4 a5 a6 a7 a8 b0 b1 b2 b3 b4 b5 b6 b7
  have HX := HX2
  clear HX2
  clear C1 CM0
  obtain ⟨a0, a1, a2, a3, a4, a5, a6, a7, a8⟩ := nine_cells' (HG.out _ HX.out).1
  obtain ⟨b0, b1, b2, b3, b4, b5, b6, b7⟩ := eight_cells (HG.out _ HX.out).2
  have dw : decide ((0 : Int) ≤ 0 ∧ (0 : Int) ≤ 1099511627776) = true := by decide
  have CW := Lib.hid (within_any 0 0 1099511627776 w1)
  rw [dw] at CW
  go_wp2_with fail
  refine CW.out.mono ?_
  rintro e wt ⟨rfl, hwt⟩
  rw [hwt]
  clear hwt wt CW dw a0 a1 a2 a3 a4 a5 a6 a7 a8 b0 b1 b2 b3 b4 b5 b6 b7
  obtain ⟨a0, a1, a2, a3, a4, a5, a6, a7, a8⟩ := nine_cells' (HG.out _ HX.out).1
  obtain ⟨b0, b1, b2, b3, b4, b5, b6, b7⟩ := eight_cells (HG.out _ HX.out).2
  have dw : decide ((0 : Int) ≤ 0 ∧ (0 : Int) ≤ 1099511627776) = true := by decide
  have CW := Lib.hid (within_any 0 0 1099511627776 w1)
  rw [dw] at CW
  go_wp2_with fail
  refine CW.out.mono ?_
  rintro e wt ⟨rfl, hwt⟩
  rw [hwt]
  clear hwt wt CW dw a0 a1 a2 a3 a4 a5 a6 a7 a8 b0 b1 b2 b3 b4 b5 b6 b7
  obtain ⟨a0, a1, a2, a3, a4, a5, a6, a7, a8⟩ := nine_cells' (HG.out _ HX.out).1
  obtain ⟨b0, b1, b2, b3, b4, b5, b6, b7⟩ := eight_cells (HG.out _ HX.out).2
  have dw : decide ((1 : Int) ≤ 1 ∧ (1 : Int) ≤ 1099511627776) = true := by decide
  have CW := Lib.hid (within_any 1 1 1099511627776 w1)
  rw [dw] at CW
  go_wp2_with fail
  refine CW.out.mono ?_
  rintro e wt ⟨rfl, hwt⟩
  rw [hwt]
  clear hwt wt CW dw a0 a1 a2 a3 a4 a5 a6 a7 a8 b0 b1 b2 b3 b4 b5 b6 b7
  obtain ⟨a0, a1, a2, a3, a4, a5, a6, a7, a8⟩ := nine_cells' (HG.out _ HX.out).1
  obtain ⟨b0, b1, b2, b3, b4, b5, b6, b7⟩ := eight_cells (HG.out _ HX.out).2
  have C2 : Hid (Calls Tryz.prog 12 #[.agg #[.slice u0 n0 k0, .slice u1 n1 k1, .int .i64 q2, .int .i64 q3, .int .i64 q4, .int .i64 q5, .int .i64 q6, .int .i64 q7, .int .i64 q8], .slice y3 n1 d3] w1 fun e w'' => e = .returned (.bool true) ∧ Below w1.heap.size w1 w'') := CLB0.out w1 (HB.out.trans (HX.out.mono HB.out.size) : Below w.heap.size w w1) _ (HL0.out w1 (HB.out.trans (HX.out.mono HB.out.size) : Below w.heap.size w w1))
  go_wp2_with fail
  refine C2.out.mono ?_
  rintro e w2 ⟨rfl, b_⟩
  have HX2 : Hid (Below W1.heap.size W1 w2) := below_on HX.out b_
  clear b_ HX a0 a1 a2 a3 a4 a5 a6 a7 a8 b0 b1 b2 b3 b4 b5 b6 b7
  have HX := HX2
  clear HX2
  clear C2
  obtain ⟨a0, a1, a2, a3, a4, a5, a6, a7, a8⟩ := nine_cells' (HG.out _ HX.out).1
  obtain ⟨b0, b1, b2, b3, b4, b5, b6, b7⟩ := eight_cells (HG.out _ HX.out).2
  have C3 : Hid (Calls Tryz.prog 13 #[.agg #[.slice u0 n0 k0, .slice u1 n1 k1, .int .i64 q2, .int .i64 q3, .int .i64 q4, .int .i64 q5, .int .i64 q6, .int .i64 q7, .int .i64 q8], .agg #[.int .i64 0, .int .i64 0, .int .i64 1, .slice y3 n1 d3, .slice y4 0 d4, .slice y5 n0 d5, .slice y6 0 d6, .slice y7 0 d7]] w2 fun e w'' => e = .returned (.bool true) ∧ Below w2.heap.size w2 w'') := docs_nil (m4 := 0) w2 (by omega)
  go_wp2_with fail
  refine C3.out.mono ?_
  rintro e w3 ⟨rfl, b_⟩
  have HX2 : Hid (Below W1.heap.size W1 w3) := below_on HX.out b_
  clear b_ HX a0 a1 a2 a3 a4 a5 a6 a7 a8 b0 b1 b2 b3 b4 b5 b6 b7
  have HX := HX2
  clear HX2
  clear C3
  obtain ⟨a0, a1, a2, a3, a4, a5, a6, a7, a8⟩ := nine_cells' (HG.out _ HX.out).1
  obtain ⟨b0, b1, b2, b3, b4, b5, b6, b7⟩ := eight_cells (HG.out _ HX.out).2
  have C4 : Hid (Calls Tryz.prog 14 #[.agg #[.slice u0 n0 k0, .slice u1 n1 k1, .int .i64 q2, .int .i64 q3, .int .i64 q4, .int .i64 q5, .int .i64 q6, .int .i64 q7, .int .i64 q8], .agg #[.int .i64 0, .int .i64 0, .int .i64 1, .slice y3 n1 d3, .slice y4 0 d4, .slice y5 n0 d5, .slice y6 0 d6, .slice y7 0 d7]] w3 fun e w'' => e = .returned (.bool true) ∧ Below w3.heap.size w3 w'') := stacks_fresh (m5 := 0) w3 (by omega) (HK0.out w3 (HB.out.trans (HX.out.mono HB.out.size) : Below w.heap.size w w3))
  go_wp2_with fail
  refine C4.out.mono ?_
  rintro e w4 ⟨rfl, b_⟩
  have HX2 : Hid (Below W1.heap.size W1 w4) := below_on HX.out b_
  clear b_ HX a0 a1 a2 a3 a4 a5 a6 a7 a8 b0 b1 b2 b3 b4 b5 b6 b7
  have HX := HX2
  clear HX2
  clear C4
  obtain ⟨a0, a1, a2, a3, a4, a5, a6, a7, a8⟩ := nine_cells' (HG.out _ HX.out).1
  obtain ⟨b0, b1, b2, b3, b4, b5, b6, b7⟩ := eight_cells (HG.out _ HX.out).2
  have C5 : Hid (Calls Tryz.prog 15 #[.agg #[.slice u0 n0 k0, .slice u1 n1 k1, .int .i64 q2, .int .i64 q3, .int .i64 q4, .int .i64 q5, .int .i64 q6, .int .i64 q7, .int .i64 q8], .agg #[.int .i64 0, .int .i64 0, .int .i64 1, .slice y3 n1 d3, .slice y4 0 d4, .slice y5 n0 d5, .slice y6 0 d6, .slice y7 0 d7]] w4 fun e w'' => e = .returned (.bool true) ∧ Below w4.heap.size w4 w'') := seats_nil (m6 := 0) w4 (by omega)
  go_wp2_with fail
  refine C5.out.mono ?_
  rintro e w5 ⟨rfl, b_⟩
  have HX2 : Hid (Below W1.heap.size W1 w5) := below_on HX.out b_
  clear b_ HX a0 a1 a2 a3 a4 a5 a6 a7 a8 b0 b1 b2 b3 b4 b5 b6 b7
  have HX := HX2
  clear HX2
  clear C5
  obtain ⟨a0, a1, a2, a3, a4, a5, a6, a7, a8⟩ := nine_cells' (HG.out _ HX.out).1
  obtain ⟨b0, b1, b2, b3, b4, b5, b6, b7⟩ := eight_cells (HG.out _ HX.out).2
  have C6 : Hid (Calls Tryz.prog 16 #[.agg #[.slice u0 n0 k0, .slice u1 n1 k1, .int .i64 q2, .int .i64 q3, .int .i64 q4, .int .i64 q5, .int .i64 q6, .int .i64 q7, .int .i64 q8], .slice y7 0 d7] w5 fun e w'' => e = .returned (.bool true) ∧ Below w5.heap.size w5 w'') := audit_nil (u0 := u0) (u1 := u1) (y3 := y3) (y4 := y4) (y5 := y5) (y6 := y6) (m3 := n1) (d3 := d3) (m4 := 0) (d4 := d4) (m5 := n0) (d5 := d5) (m6 := 0) (d6 := d6) (m7 := 0) (x0 := 0) (x1 := 0) (x2 := 1) w5 (by omega)
  go_wp2_with fail
  refine C6.out.mono ?_
  rintro e w6 ⟨rfl, b_⟩
  have HX2 : Hid (Below W1.heap.size W1 w6) := below_on HX.out b_
  clear b_ HX a0 a1 a2 a3 a4 a5 a6 a7 a8 b0 b1 b2 b3 b4 b5 b6 b7
  have HX := HX2
  clear HX2
  clear C6
  have HE : Hid (Below w.heap.size w w6) := HB.out.trans (HX.out.mono HB.out.size)
  go_wp2_with fail
  go_ret
  exact ⟨rfl, HE.out⟩
end Go.Proofs.YtccaiippoephbaaGreatDoor.Sta
/- State: the plain text's Fresh. -/
set_option linter.unusedVariables false
set_option linter.unusedSimpArgs false
set_option maxRecDepth 100000
namespace Go.Proofs.YtccaiippoephbaaGreatDoor.Sta
open Go.RowKit Go.Lib Go.Proofs.YtccaiippoephbaaGreatDoor.Bx Go.Proofs.YtccaiippoephbaaGreatDoor.Frm Go.Proofs.YtccaiippoephbaaGreatDoor.Wds

theorem rowP_mk {α : Type} {a : Rep α} {P : Nat → Prop} {w : World} {b off n cap : Nat} {xs : List α} (hn : n = xs.length) (hc : n ≤ cap) (hm : cap ≤ maxLen) (hb : b < w.heap.size) (hp : P b) (h : ∀ j (hj : j < xs.length), ∃ cs, cs.length = a.k ∧ a.R P w cs xs[j] ∧ ∀ i u, cs[i]? = some u → w.cell? ⟨b, off + j * a.k + i, none⟩ = some u) : RowP a P w (.slice (some ⟨b, off, none⟩) n cap) xs := by
  have hch := fun i : Fin xs.length => h i.1 i.2
  let A : List (List Value × α) := List.ofFn fun i : Fin xs.length => ((hch i).choose, xs[i])
  have hA : A.length = xs.length := List.length_ofFn
  have hAi : ∀ i (hi : i < A.length), A[i] = ((hch ⟨i, by omega⟩).choose, xs[i]'(by omega)) := fun i hi => by simp [A]
  refine ⟨A, ?_, ⟨fun x hx => ?_, some ⟨b, off, none⟩, cap, by rw [List.length_map, hA, hn], by rw [List.length_map]; omega, hm, .inr ⟨b, off, rfl, hb, fun j hj q u hu => ?_⟩⟩, .inr ⟨b, off, n, cap, rfl, hb, hp⟩, fun x hx => ?_⟩
  · apply List.ext_getElem
    · rw [List.length_map, hA]
    · intro i h1 h2
      rw [List.getElem_map, hAi]
  · obtain ⟨y, hy, rfl⟩ := List.mem_map.1 hx
    obtain ⟨j, hj, rfl⟩ := List.getElem_of_mem hy
    rw [hAi j hj]
    exact (hch ⟨j, by omega⟩).choose_spec.1
  · rw [List.length_map] at hj
    rw [List.getElem_map, hAi j hj] at hu
    exact (hch ⟨j, by omega⟩).choose_spec.2.2 q u hu
  · obtain ⟨j, hj, rfl⟩ := List.getElem_of_mem hx
    rw [hAi j hj]
    exact (hch ⟨j, by omega⟩).choose_spec.2.1
end Go.Proofs.YtccaiippoephbaaGreatDoor.Sta
/- State: the walk of StateConfigs. -/
set_option linter.unusedVariables false
set_option linter.unusedSimpArgs false
set_option maxRecDepth 100000
namespace Go.Proofs.YtccaiippoephbaaGreatDoor.Sta
open Go.RowKit Go.Lib Go.Proofs.YtccaiippoephbaaGreatDoor.Bx Go.Proofs.YtccaiippoephbaaGreatDoor.Frm Go.Proofs.YtccaiippoephbaaGreatDoor.Wds

theorem seal_one : Slt.sealB (Slt.sealL (Slt.bytesN ⟨#[]⟩) (Slt.bytesN ⟨#[]⟩)) = true := by
  rw [show Slt.bytesN ⟨#[]⟩ = [] from rfl, Slt.seal_none]
  decide
def oneC (t : ByteArray) : Cfg := ([([97], [], t.data.toList)], [(-1, 0, [0], [0])], 9, 2, 2, 1, 1, 5, 0)
theorem one_cfg {U : Nat} {t : ByteArray} {v1 : Value} {w : World} (hU : w.heap[U]? = some (.cells #[.string ⟨#[97]⟩, .string ⟨#[]⟩, .string t] 42 (0, 0))) (hrow : RowP labM (fun _ => True) w v1 [(-1, 0, [0], [0])]) : cfgM.R (fun _ => True) w [.slice (some ⟨U, 0, none⟩) 1 1, v1, .int .i64 9, .int .i64 2, .int .i64 2, .int .i64 1, .int .i64 1, .int .i64 5, .int .i64 0] (oneC t) := by
  have hr : RowP usrM (fun _ => True) w (.slice (some ⟨U, 0, none⟩) 1 1) [([97], [], t.data.toList)] := rowP_mk rfl (Nat.le_refl _) (by unfold maxLen; omega) (Array.getElem?_eq_some_iff.1 hU).1 trivial fun j hj => by
    have hj0 : j = 0 := by simp only [List.length_singleton] at hj; omega
    subst hj0
    refine ⟨[.string ⟨#[97]⟩, .string ⟨#[]⟩, .string t], rfl, ⟨[.string ⟨#[97]⟩], _, rfl, rfl, [.string ⟨#[]⟩], [.string t], rfl, rfl, ?_⟩, fun i u hu => ?_⟩
    · show [Value.string t] = [Value.string (mkB t.data.toList)]
      rw [mk_data]
    · rw [cell_of_row _ _ _ _ _ _ hU, show 0 + 0 * usrM.k + i = i from by omega]
      simpa using hu
  exact ⟨[_], _, rfl, ⟨_, rfl, hr⟩, [_], _, rfl, ⟨_, rfl, hrow⟩, [_], _, rfl, rfl, [_], _, rfl, rfl, [_], _, rfl, rfl, [_], _, rfl, rfl, [_], _, rfl, rfl, [_], _, rfl, rfl, rfl⟩
theorem one_may {t : ByteArray} (ht : Slt.bytesN t = Slt.sealL (Slt.bytesN ⟨#[]⟩) (Slt.bytesN ⟨#[]⟩)) : mayB (oneC t) := by
  refine ⟨?_, (by show Rt.rightB [lbL (-1, 0, [0], [0])] ((1 : Nat) : Int) = true; decide +kernel), by unfold rngB oneC; simp only; omega⟩
  refine Slt.right_yes (by show 1 ≤ 1; decide) (by show 1 ≤ 8; decide) fun i hi => ?_
  have hi0 : i = 0 := by have : i < 1 := hi; omega
  subst hi0
  refine Slt.ok_yes ?_ (fun k hk => absurd hk (Nat.not_lt_zero _))
  show (decide ((mkB [97]).size = 0) || decide (20 < (mkB [97]).size) || decide (20 < (mkB []).size) || !Slt.sealB (Slt.bytesN (mkB t.data.toList))) = false
  rw [mk_data, ht, seal_one]
  decide
theorem one_bound {t : ByteArray} (ht : Slt.bytesN t = Slt.sealL (Slt.bytesN ⟨#[]⟩) (Slt.bytesN ⟨#[]⟩)) : ∀ x ∈ (oneC t).1, x.1.length ≤ 140737488355328 ∧ x.2.1.length ≤ 140737488355328 ∧ x.2.2.length ≤ 140737488355328 := by
  intro x hx
  simp only [oneC, List.mem_singleton] at hx
  subst hx
  refine ⟨by simp, by simp, ?_⟩
  have h := congrArg List.length ht
  rw [show Slt.bytesN ⟨#[]⟩ = [] from rfl, Slt.seal_none] at h
  have h2 : t.data.toList.length = 64 := by rw [← List.length_map (f := UInt8.toNat)]; exact h
  show t.data.toList.length ≤ _
  omega
theorem one_labs {t : ByteArray} : ∀ x ∈ (oneC t).2.1, labG x := by
  intro x hx
  simp only [oneC, List.mem_singleton] at hx
  subst hx
  exact ⟨by show n64 (-1); unfold n64; omega, by show n64 0; unfold n64; omega, ⟨by decide, fun y hy => by simp only [List.mem_singleton] at hy; subst hy; unfold n64; omega⟩, by decide, fun y hy => by simp only [List.mem_singleton] at hy; subst hy; unfold n64; omega⟩
def MadeS (C : Cfg) (w : World) (e : Ending) (w' : World) : Prop := ∃ a3 c3 a4 c4 a5 c5 a6 c6 a7 c7, e = .returned (.agg #[.int .i64 0, .int .i64 0, .int .i64 1, .slice a3 C.2.1.length c3, .slice a4 0 c4, .slice a5 C.1.length c5, .slice a6 0 c6, .slice a7 0 c7]) ∧ staM.R (fun _ => True) w' [.int .i64 0, .int .i64 0, .int .i64 1, .slice a3 C.2.1.length c3, .slice a4 0 c4, .slice a5 C.1.length c5, .slice a6 0 c6, .slice a7 0 c7] (freshS C.2.1 C.1.length) ∧ Below w.heap.size w w'
theorem made_of {C : Cfg} {w w' : World} {v : Value} {base : Nat} (h : StO base w' v (freshS C.2.1 C.1.length)) (b : Below w.heap.size w w') : MadeS C w (.returned v) w' := by
  obtain ⟨cs, rfl, hs⟩ := h
  obtain ⟨a3, c3, a4, c4, a5, c5, a6, c6, a7, c7, rfl, _⟩ := staM_cells hs
  have h5 : (freshS C.2.1 C.1.length).2.2.2.2.2.1.length = C.1.length := List.length_replicate
  have hs2 := staM_ok.mono hs (P' := fun _ => True) fun _ _ _ => trivial
  rw [h5] at hs2 ⊢
  exact ⟨a3, c3, a4, c4, a5, c5, a6, c6, a7, c7, rfl, hs2, b⟩
theorem fresh_made {cs : List Value} (C : Cfg) (w : World) (h : cfgM.R (fun _ => True) w cs C) (hL : C.2.1.length ≤ 90000) (hLr : ∀ x ∈ C.2.1, x.2.2.1.length ≤ 90000 ∧ x.2.2.2.length ≤ 90000) (hnu : C.1.length ≤ 90000) : Calls Tryz.prog 6 #[.agg cs.toArray] w (MadeS C w) := by
  obtain ⟨u0, k0, u1, k1, rfl, p0, p1⟩ := cfgM_cells h
  refine (fresh_ok w u0 C.1.length k0 _ C.2.1 _ _ _ _ _ _ _ p1 hL hLr hnu).mono ?_
  rintro e w' ⟨v, rfl, ho, b⟩
  exact made_of ho b
end Go.Proofs.YtccaiippoephbaaGreatDoor.Sta
