/- State: the program's Read: a state of bytes. -/
import Derived.Test.YtmdgjcikekojdaaGreatDoorZd
set_option linter.unusedVariables false
set_option linter.unusedSimpArgs false
set_option maxRecDepth 100000
namespace Go.Proofs.YtmdgjcikekojdaaGreatDoor.Sta
open Go.RowKit Go.Lib Go.Proofs.YtmdgjcikekojdaaGreatDoor.Bx Go.Proofs.YtmdgjcikekojdaaGreatDoor.Frm Go.Proofs.YtmdgjcikekojdaaGreatDoor.Wds

theorem isU (v : Value) (w : World) : (Instr.typeAssert (.iface 119 v) 20 119 true).run Tryz.prog w = .ok (.tuple #[v, .bool true]) w := by
  simp [Instr.typeAssert, run_underlying Tryz.underlying119]
theorem noU (w : World) : (Instr.typeAssert .nilIface 20 119 true).run Tryz.prog w = .ok (.tuple #[.agg #[], .bool false]) w := by
  simp [Instr.typeAssert, run_underlying Tryz.underlying119, Tryz.zeroValue119]
set_option maxHeartbeats 2000000 in
theorem catch_state (older : List PanicEntry) (w : World) :
    CallsD Tryz.prog 49 #[] (.panicking ({ v := unr, recovered := false } :: older)) w fun e u' w' =>
      e = .returned (.tuple #[]) ∧ u' = .panicking ({ v := unr, recovered := true } :: older) ∧ Below w.heap.size w w' := by
  have yes := isU (.agg #[])
  unfold unr
  refine callsD_of_wpS Tryz.func49 rfl fun c₀ cs hu => ?_
  apply wpS_seq
  apply wpS_region
  simp [wpOpsS, go_sem, recoverD, hu, Tryz.ntmps49, Exit.thenS]
  refine wpS_of_wp ?_
  rw [show ((Array.replicate 16 undef).setIfInBounds 3 (Value.iface 119 (.agg #[]))).setIfInBounds 0 (Value.iface 119 (.agg #[])) = #[Value.iface 119 (.agg #[]), undef, undef, Value.iface 119 (.agg #[]), undef, undef, undef, undef, undef, undef, undef, undef, undef, undef, undef, undef] from rfl]
  generalize hQ : (fun (e : Exit) (a' : Act) (w' : World) => bodyPostS _ _ _ _ _ e a' _ w') = Q
  clear hu
  have FB := (box1 w #[] 119).1
  go_wp2_with fail
  subst hQ
  simp_all [bodyPostS, results, Tryz.results49]
set_option maxHeartbeats 2000000 in
theorem idle_state (w : World) :
    CallsD Tryz.prog 49 #[] .returning w fun e u' w' => e = .returned (.tuple #[]) ∧ u' = .returning ∧ Below w.heap.size w w' := by
  have no := noU
  refine callsD_of_wpS Tryz.func49 rfl fun c₀ cs hu => ?_
  apply wpS_seq
  apply wpS_region
  simp [wpOpsS, go_sem, recoverD, hu, Tryz.ntmps49, Exit.thenS]
  refine wpS_of_wp ?_
  rw [show ((Array.replicate 16 undef).setIfInBounds 3 Value.nilIface).setIfInBounds 0 Value.nilIface = #[Value.nilIface, undef, undef, Value.nilIface, undef, undef, undef, undef, undef, undef, undef, undef, undef, undef, undef, undef] from rfl]
  generalize hQ : (fun (e : Exit) (a' : Act) (w' : World) => bodyPostS _ _ _ _ _ e a' _ w') = Q
  have FB := (box1 w #[] 119).1
  have HU := Lib.hid hu
  clear hu
  go_wp2_with fail
  have hu := HU.out
  subst hQ
  simp_all [bodyPostS, results, Tryz.results49]
  rw [← hu]
theorem empty_yes : (mkB []).toList.isEmpty = true := by rw [Lib.toList_data]; rfl
theorem empty_no {l : List UInt8} (h : l ≠ []) : (mkB l).toList.isEmpty = false := by
  rw [Lib.toList_data, mkB_data]
  cases l with
  | nil => exact absurd rfl h
  | cons x l => rfl
/-- A state in blocks from base on. -/
def StO (base : Nat) (w : World) (v : Value) (S : Sta) : Prop := ∃ cs, v = .agg cs.toArray ∧ staM.R (fun b => base ≤ b) w cs S
theorem StO.kept {base C : Nat} {w w' : World} {v : Value} {S : Sta} (h : StO base w v S) (hg : w.grownBy w' (some C)) (hC : C < base) : StO base w' v S := by
  obtain ⟨cs, e, h⟩ := h
  exact ⟨cs, e, staM_ok.keep h ⟨hg.size, fun b hb hp => hg.block b hb (fun e => by injection e with e; omega)⟩⟩
theorem StO.below {base : Nat} {w w' : World} {v : Value} {S : Sta} (h : StO base w v S) (hb : Below w.heap.size w w') : StO base w' v S := by
  obtain ⟨cs, e, h⟩ := h
  exact ⟨cs, e, staM_ok.keep h (Keep.below hb)⟩
theorem StO.base {base base' : Nat} {w : World} {v : Value} {S : Sta} (h : StO base w v S) (hb : base' ≤ base) : StO base' w v S := by
  obtain ⟨cs, e, h⟩ := h
  exact ⟨cs, e, staM_ok.mono h fun b _ hp => Nat.le_trans hb hp⟩
theorem sto_zero (base : Nat) (w : World) : StO base w (.agg #[.int .i64 0, .int .i64 0, .int .i64 0, .slice none 0 0, .slice none 0 0, .slice none 0 0, .slice none 0 0, .slice none 0 0]) zeroS := ⟨[.int .i64 0, .int .i64 0, .int .i64 0, .slice none 0 0, .slice none 0 0, .slice none 0 0, .slice none 0 0, .slice none 0 0], rfl, staM_mk 0 0 0 (RowP.nil_ _ _ _) (RowP.nil_ _ _ _) (RowP.nil_ _ _ _) (RowP.nil_ _ _ _) (RowP.nil_ _ _ _)⟩
theorem StO.form {base : Nat} {w : World} {v : Value} {a : Sta} (h : StO base w v a) : ∃ a3 c3 a4 c4 a5 c5 a6 c6 a7 c7, v = .agg #[.int .i64 a.1, .int .i64 a.2.1, .int .i64 a.2.2.1, .slice a3 a.2.2.2.1.length c3, .slice a4 a.2.2.2.2.1.length c4, .slice a5 a.2.2.2.2.2.1.length c5, .slice a6 a.2.2.2.2.2.2.1.length c6, .slice a7 a.2.2.2.2.2.2.2.length c7] := by
  obtain ⟨cs, rfl, h⟩ := h
  obtain ⟨u3, c3, u4, c4, u5, c5, u6, c6, u7, c7, rfl, _, _, _, _, _⟩ := staM_cells h
  exact ⟨u3, c3, u4, c4, u5, c5, u6, c6, u7, c7, rfl⟩
set_option maxHeartbeats 8000000 in
theorem whole_state {B : Nat} {w : World} {l : List UInt8} (h : At1 w B l) (a : Sta) (r : Rd) (f : Value) (hf : f = .func (.func 26) #[.pointer (some ⟨B, 0, none⟩)] #[])
    (C : ∀ w', At1 w' B l → Calls Tryz.prog 26 #[.pointer (some ⟨B, 0, none⟩)] w' (GotP w' B (fun w'' v => StO w'.heap.size w'' v a) r)) :
    Calls Tryz.prog 25 #[.pointer (some ⟨B, 0, none⟩), f] w fun e w' => (∃ v, e = .returned (.tuple #[v, .bool (wholeB r)]) ∧ StO w.heap.size w' v (if wholeB r = true then a else zeroS)) ∧ w.grownBy w' (some B) := by
  subst hf
  obtain ⟨B0, P0, L0⟩ := box1 w #[.int .i64 0, .int .i64 0, .int .i64 0, .slice none 0 0, .slice none 0 0, .slice none 0 0, .slice none 0 0, .slice none 0 0] 28
  obtain ⟨W0, hW0⟩ : ∃ W0, W0 = w.alloc (.cells #[.int .i64 0, .int .i64 0, .int .i64 0, .slice none 0 0, .slice none 0 0, .slice none 0 0, .slice none 0 0, .slice none 0 0] 28) := ⟨_, rfl⟩
  rw [← hW0] at B0 P0 L0
  obtain ⟨R, hR⟩ : ∃ R, R = w.heap.size := ⟨_, rfl⟩
  rw [← hR] at P0 L0
  have hRB : R ≠ B := by have := h.cell.2.1; omega
  have HW0 := Lib.hid hW0
  have HR := Lib.hid hR
  have CC := Lib.hid (C W0 (h.below B0))
  rw [L0] at CC
  have HG : Hid (∀ w', W0.grownBy w' (some B) → w.grownBy w' (some B) ∧ w'.heap[R]? = some (.cells #[.int .i64 0, .int .i64 0, .int .i64 0, .slice none 0 0, .slice none 0 0, .slice none 0 0, .slice none 0 0, .slice none 0 0] 28 (0, 0)) ∧ R < w'.heap.size) := fun w' g => ⟨grown_trans (grown_of _ _ B0 _) g, (g.block R (by omega) (by simpa using hRB)).trans P0, by have := g.size; omega⟩
  have HRs : Hid (w.heap.size ≤ R) := by rw [← hR]; exact Nat.le_refl _
  have hmf : ∀ (fn : Fn) (first cap : Array Value) (w : World), (Instr.makeFunc fn first cap).run Tryz.prog w = .ok (.func fn first cap) w := fun _ _ _ _ => rfl
  have hmi := hmi
  clear hR hRB hW0 B0 P0 L0 h C
  obtain ⟨q, hq⟩ : ∃ q, q = (if wholeB r = true then a else zeroS) := ⟨_, rfl⟩
  obtain ⟨bb, hbb⟩ : ∃ bb, bb = wholeB r := ⟨_, rfl⟩
  have HQ := Lib.hid hq
  have HB := Lib.hid hbb
  rw [← hq, ← hbb]
  clear hq hbb
  go_enter_defers Tryz.func25, Tryz.ntmps25
  go_wp2_with fail
  rw [← HW0.out]
  refine CC.out.mono ?_
  rintro e w1 ⟨G, (⟨hb, v, rfl, hv, K⟩ | ⟨hb, rfl⟩)⟩
  · obtain ⟨a3, c3, a4, c4, a5, c5, a6, c6, a7, c7, rfl⟩ := hv.form
    have HV := Lib.hid hv
    clear hv
    have HA := Lib.hid HQ
    obtain ⟨x0, hx0⟩ : ∃ x, x = a.1 := ⟨_, rfl⟩
    obtain ⟨x1, hx1⟩ : ∃ x, x = a.2.1 := ⟨_, rfl⟩
    obtain ⟨x2, hx2⟩ : ∃ x, x = a.2.2.1 := ⟨_, rfl⟩
    obtain ⟨n3, hn3⟩ : ∃ n, n = a.2.2.2.1.length := ⟨_, rfl⟩
    obtain ⟨n4, hn4⟩ : ∃ n, n = a.2.2.2.2.1.length := ⟨_, rfl⟩
    obtain ⟨n5, hn5⟩ : ∃ n, n = a.2.2.2.2.2.1.length := ⟨_, rfl⟩
    obtain ⟨n6, hn6⟩ : ∃ n, n = a.2.2.2.2.2.2.1.length := ⟨_, rfl⟩
    obtain ⟨n7, hn7⟩ : ∃ n, n = a.2.2.2.2.2.2.2.length := ⟨_, rfl⟩
    rw [← hx0, ← hx1, ← hx2, ← hn3, ← hn4, ← hn5, ← hn6, ← hn7] at HV ⊢
    clear hx0 hx1 hx2 hn3 hn4 hn5 hn6 hn7 HA
    obtain ⟨g1, z1, s1⟩ := HG.out _ G
    obtain ⟨B2, P2, L2⟩ := box1 w1 #[.int .i64 x0, .int .i64 x1, .int .i64 x2, .slice a3 n3 c3, .slice a4 n4 c4, .slice a5 n5 c5, .slice a6 n6 c6, .slice a7 n7 c7] 28
    obtain ⟨W2, hW2⟩ : ∃ W2, W2 = w1.alloc (.cells #[.int .i64 x0, .int .i64 x1, .int .i64 x2, .slice a3 n3 c3, .slice a4 n4 c4, .slice a5 n5 c5, .slice a6 n6 c6, .slice a7 n7 c7] 28) := ⟨_, rfl⟩
    rw [← hW2] at B2 P2 L2
    have z2 : W2.heap[R]? = some (.cells #[.int .i64 0, .int .i64 0, .int .i64 0, .slice none 0 0, .slice none 0 0, .slice none 0 0, .slice none 0 0, .slice none 0 0] 28 (0, 0)) := (B2.block R s1).trans z1
    obtain ⟨d0, d1, d2, d3, d4, d5, d6, d7⟩ := eight_cells P2
    obtain ⟨c0, hB, f0⟩ := (K.below B2).cell
    obtain ⟨r0, r1, r2, r3, r4, r5, r6, r7⟩ := eight_cells z2
    have fr0 := free_at (i := 0) z2
    have fr1 := free_at (i := 1) z2
    have fr2 := free_at (i := 2) z2
    have fr3 := free_at (i := 3) z2
    have fr4 := free_at (i := 4) z2
    have fr5 := free_at (i := 5) z2
    have fr6 := free_at (i := 6) z2
    have fr7 := free_at (i := 7) z2
    have HS1 : Hid (w.heap.size ≤ w1.heap.size ∧ R ≠ w1.heap.size) := ⟨Nat.le_trans HRs.out (Nat.le_of_lt s1), by omega⟩
    have HV2 : Hid (StO (R + 1) W2 (.agg #[.int .i64 x0, .int .i64 x1, .int .i64 x2, .slice a3 n3 c3, .slice a4 n4 c4, .slice a5 n5 c5, .slice a6 n6 c6, .slice a7 n7 c7]) a) := HV.out.below B2
    have HW2 := Lib.hid hW2
    have HZ2 := Lib.hid z2
    have HP2 := Lib.hid P2
    have G2 : Hid (w.grownBy W2 (some B)) := grown_below g1 B2
    have HRR : Hid (w.heap.size = R) := HR.out.symm
    by_cases hs : r.s = []
    · have hE := empty_yes
      rw [hs] at c0
      have hw : wholeB r = true := decide_eq_true ⟨hb, hs⟩
      have HQ1 : Hid (q = a) := HQ.out.trans (by rw [hw]; rfl)
      have HQ2 := Lib.hid (HB.out.trans hw)
      obtain ⟨WN, hWN⟩ : ∃ WN, WN = (((((((W2.setCell ⟨R, 0, none⟩ (.int .i64 x0)).setCell ⟨R, 1, none⟩ (.int .i64 x1)).setCell ⟨R, 2, none⟩ (.int .i64 x2)).setCell ⟨R, 3, none⟩ (.slice a3 n3 c3)).setCell ⟨R, 4, none⟩ (.slice a4 n4 c4)).setCell ⟨R, 5, none⟩ (.slice a5 n5 c5)).setCell ⟨R, 6, none⟩ (.slice a6 n6 c6)).setCell ⟨R, 7, none⟩ (.slice a7 n7 c7) := ⟨_, rfl⟩
      have zz : WN.heap[R]? = some (.cells #[.int .i64 x0, .int .i64 x1, .int .i64 x2, .slice a3 n3 c3, .slice a4 n4 c4, .slice a5 n5 c5, .slice a6 n6 c6, .slice a7 n7 c7] 28 (0, 0)) := by
        rw [hWN]
        exact set_block (set_block (set_block (set_block (set_block (set_block (set_block (set_block HZ2.out)))))))
      have GN : Hid (w.grownBy WN (some B)) := by
        rw [hWN]
        exact grown_new (grown_new (grown_new (grown_new (grown_new (grown_new (grown_new (grown_new G2.out HRs.out _) HRs.out _) HRs.out _) HRs.out _) HRs.out _) HRs.out _) HRs.out _) HRs.out _
      have HVN : Hid (StO (R + 1) WN (.agg #[.int .i64 x0, .int .i64 x1, .int .i64 x2, .slice a3 n3 c3, .slice a4 n4 c4, .slice a5 n5 c5, .slice a6 n6 c6, .slice a7 n7 c7]) a) := HV2.out.kept (C := R) (by rw [hWN]; exact grown_put (grown_put (grown_put (grown_put (grown_put (grown_put (grown_put (grown_put (grown_refl _ _))))))))) (Nat.lt_succ_self R)
      have HWN := Lib.hid hWN
      have HZZ := Lib.hid zz
      clear G g1 z1 B2 P2 L2 hW2 z2 hb K hs hw hWN zz HG CC HZ2 HV HV2
      go_upto_region 3 with fail
      rw [← HW2.out, HRR.out]
      go_wp2_with fail
      rw [← HWN.out]
      refine leaves_cons (f := 49) (args := #[]) (by simp) (by simp [go_sem]) ?_
      refine (idle_state _).mono ?_
      rintro e u' w'' ⟨rfl, rfl, b3⟩
      have z3 := (b3.block R (Array.getElem?_eq_some_iff.1 HZZ.out).1).trans HZZ.out
      obtain ⟨y0, y1, y2, y3, y4, y5, y6, y7⟩ := eight_cells z3
      have GF := grown_below GN.out b3
      have VF : StO R w'' (.agg #[.int .i64 x0, .int .i64 x1, .int .i64 x2, .slice a3 n3 c3, .slice a4 n4 c4, .slice a5 n5 c5, .slice a6 n6 c6, .slice a7 n7 c7]) q := by rw [HQ1.out]; exact (HVN.out.below b3).base (Nat.le_succ R)
      simp [Leaves, settle, results, Tryz.results25, go_sem, HQ2.out, y0, y1, y2, y3, y4, y5, y6, y7, Tryz.isAgg28, Tryz.sizeOf28]
      exact ⟨by rw [HRR.out]; exact VF, GF⟩
    · have hE := empty_no hs
      have hw : wholeB r = false := decide_eq_false (fun h => hs h.2)
      have HQ1 : Hid (q = zeroS) := HQ.out.trans (by rw [hw]; rfl)
      have HQ2 := Lib.hid (HB.out.trans hw)
      generalize mkB r.s = u at *
      clear G g1 z1 B2 P2 L2 hW2 z2 hb K hs hw HG CC
      go_upto_region 3 with fail
      rw [← HW2.out, HRR.out]
      go_wp2_with fail
      refine (giveup_any B _).mono ?_
      rintro e wg ⟨rfl, rfl⟩
      go_wp2_with fail
      refine leaves_cons (f := 49) (args := #[]) (by simp) (by simp [go_sem]) ?_
      refine (catch_state [] _).mono ?_
      rintro e u' w'' ⟨rfl, rfl, b3⟩
      have z3 := (b3.block R (Array.getElem?_eq_some_iff.1 HZ2.out).1).trans HZ2.out
      obtain ⟨y0, y1, y2, y3, y4, y5, y6, y7⟩ := eight_cells z3
      have GF := grown_below G2.out b3
      have VF := sto_zero R w''
      rw [← HQ1.out] at VF
      simp [Leaves, settle, results, Tryz.results25, go_sem, HQ2.out, y0, y1, y2, y3, y4, y5, y6, y7, Tryz.isAgg28, Tryz.sizeOf28]
      exact ⟨by rw [HRR.out]; exact VF, GF⟩
  · obtain ⟨g1, z1, s1⟩ := HG.out _ G
    have hw : wholeB r = false := decide_eq_false (fun h => by rw [hb] at h; cases h.1)
    have HQ1 : Hid (q = zeroS) := HQ.out.trans (by rw [hw]; rfl)
    have HQ2 := Lib.hid (HB.out.trans hw)
    have HZ1 := Lib.hid z1
    have G1 := Lib.hid g1
    have HRR : Hid (w.heap.size = R) := HR.out.symm
    clear G g1 z1 hb hw HG CC
    go_wp2_with fail
    rw [HRR.out]
    refine leaves_cons (f := 49) (args := #[]) (by simp) (by simp [go_sem]) ?_
    refine (catch_state [] _).mono ?_
    rintro e u' w'' ⟨rfl, rfl, b3⟩
    have z3 := (b3.block R (Array.getElem?_eq_some_iff.1 HZ1.out).1).trans HZ1.out
    obtain ⟨y0, y1, y2, y3, y4, y5, y6, y7⟩ := eight_cells z3
    have GF := grown_below G1.out b3
    have VF := sto_zero R w''
    rw [← HQ1.out] at VF
    simp [Leaves, settle, results, Tryz.results25, go_sem, HQ2.out, y0, y1, y2, y3, y4, y5, y6, y7, Tryz.isAgg28, Tryz.sizeOf28]
    exact ⟨VF, GF⟩
set_option maxHeartbeats 2000000 in
theorem of_rd (s : ByteArray) (w : World) : Calls Tryz.prog 24 #[.string s] w fun e w' => e = .returned (.agg #[.string s]) ∧ Below w.heap.size w w' := by
  obtain ⟨B0, P0, L0⟩ := box1 w #[.string s] 74
  have d0 := Bx.one_cell P0
  have FE := Lib.hid B0
  clear P0 B0 L0
  go_enter Tryz.func24, Tryz.ntmps24
  go_wp2_with fail
  exact bodyPost_ret (v := .agg #[.string s]) (by simp [results, Tryz.results24, go_sem, d0, Tryz.isAgg74, Tryz.sizeOf74]) rfl ⟨rfl, FE.out⟩
theorem read_whole (s : List UInt8) : (readE s).2 = wholeB (staC.rd ⟨s, false⟩).2 ∧ (readE s).1 = if wholeB (staC.rd ⟨s, false⟩).2 = true then (staC.rd ⟨s, false⟩).1 else zeroS := by
  unfold readE readA
  cases h : wholeB (staC.rd ⟨s, false⟩).2 with
  | true => exact ⟨rfl, rfl⟩
  | false => exact ⟨rfl, rfl⟩
set_option maxHeartbeats 8000000 in
theorem read_ok (s : List UInt8) (w : World) (hs : s.length ≤ 9223372036854775807) : Calls Tryz.prog 9 #[.string (mkB s)] w fun e w' => ∃ v, e = .returned (.tuple #[v, .bool (readE s).2]) ∧ StO w.heap.size w' v (readE s).1 ∧ Below w.heap.size w w' := by
  obtain ⟨t1, t2⟩ := read_whole s
  obtain ⟨B0, P0, L0⟩ := box1 w #[.int .i64 0, .int .i64 0, .int .i64 0, .slice none 0 0, .slice none 0 0, .slice none 0 0, .slice none 0 0, .slice none 0 0] 28
  obtain ⟨W0, hW0⟩ : ∃ W0, W0 = w.alloc (.cells #[.int .i64 0, .int .i64 0, .int .i64 0, .slice none 0 0, .slice none 0 0, .slice none 0 0, .slice none 0 0, .slice none 0 0] 28) := ⟨_, rfl⟩
  rw [← hW0] at B0 P0 L0
  obtain ⟨R, hR⟩ : ∃ R, R = w.heap.size := ⟨_, rfl⟩
  rw [← hR] at L0 P0
  have CO := Lib.hid (fun w => of_rd (mkB s) w)
  have HX : Hid (∀ w1, Below W0.heap.size W0 w1 → ∃ W1 B, W1 = w1.alloc (.cells #[.string (mkB s)] 77) ∧ B = w1.heap.size ∧ R < B ∧ Below R w W1 ∧ W1.heap.size = B + 1 ∧ Calls Tryz.prog 25 #[.pointer (some ⟨B, 0, none⟩), .func (.func 26) #[.pointer (some ⟨B, 0, none⟩)] #[]] W1 (fun e w' => (∃ v, e = .returned (.tuple #[v, .bool (readE s).2]) ∧ StO W1.heap.size w' v (readE s).1) ∧ W1.grownBy w' (some B)) ∧ ∀ w', W1.grownBy w' (some B) → w'.heap[R]? = some (.cells #[.int .i64 0, .int .i64 0, .int .i64 0, .slice none 0 0, .slice none 0 0, .slice none 0 0, .slice none 0 0, .slice none 0 0] 28 (0, 0))) := fun w1 b1 => by
    obtain ⟨B1, P1, L1⟩ := box1 w1 #[.string (mkB s)] 77
    refine ⟨_, _, rfl, rfl, by have := b1.size; omega, by rw [hR]; exact below_on (below_on B0 b1) B1, L1, ?_, fun w' g => ?_⟩
    · obtain ⟨S, hS⟩ : ∃ S, S = (staC.rd ⟨s, false⟩).1 := ⟨_, rfl⟩
      obtain ⟨r, hr⟩ : ∃ r, r = (staC.rd ⟨s, false⟩).2 := ⟨_, rfl⟩
      have CC := whole_state (w := w1.alloc (.cells #[.string (mkB s)] 77)) (B := w1.heap.size) P1 S r _ rfl (fun w' h => take_State (w := w') ⟨s, false⟩ (by rw [hS, hr]) rfl hs h)
      rw [← hS, ← hr] at t2
      rw [← hr] at t1
      rw [← t2, ← t1] at CC
      exact CC
    · have h1 : R < w1.heap.size := by have := b1.size; omega
      exact (g.block R (by rw [L1]; omega) (by simp; omega)).trans ((B1.block R h1).trans ((b1.block R (by omega)).trans P0))
  have HS0 : Hid (w.heap.size = R) := hR.symm
  have HW0 := Lib.hid hW0
  have hmf : ∀ (fn : Fn) (first cap : Array Value) (w : World), (Instr.makeFunc fn first cap).run Tryz.prog w = .ok (.func fn first cap) w := fun _ _ _ _ => rfl
  generalize (readE s).2 = b at *
  generalize (readE s).1 = a at *
  generalize mkB s = u at *
  clear t1 t2 B0 P0 L0 hW0 hR hs
  go_enter Tryz.func9, Tryz.ntmps9
  go_wp2_with fail
  rw [← HW0.out]
  refine (CO.out _).mono ?_
  rintro e w1 ⟨rfl, b1⟩
  obtain ⟨W1, B, hW1, hB, hRB, hBl, hL, hCC, hHG⟩ := HX.out w1 b1
  have HW1 := Lib.hid hW1
  have HBB := Lib.hid hB
  have HRB := Lib.hid hRB
  have HB := Lib.hid hBl
  have HL := Lib.hid hL
  have CC := Lib.hid hCC
  have HG := Lib.hid hHG
  clear hW1 hB hRB hBl hL hCC hHG b1 HX CO
  go_wp2_with fail
  rw [← HW1.out, ← HBB.out, HS0.out]
  refine CC.out.mono ?_
  rintro e w2 ⟨⟨v, rfl, hv⟩, g2⟩
  obtain ⟨a3, c3, a4, c4, a5, c5, a6, c6, a7, c7, rfl⟩ := hv.form
  have HV := Lib.hid hv
  clear hv
  obtain ⟨x0, hx0⟩ : ∃ x, x = a.1 := ⟨_, rfl⟩
  obtain ⟨x1, hx1⟩ : ∃ x, x = a.2.1 := ⟨_, rfl⟩
  obtain ⟨x2, hx2⟩ : ∃ x, x = a.2.2.1 := ⟨_, rfl⟩
  obtain ⟨n3, hn3⟩ : ∃ n, n = a.2.2.2.1.length := ⟨_, rfl⟩
  obtain ⟨n4, hn4⟩ : ∃ n, n = a.2.2.2.2.1.length := ⟨_, rfl⟩
  obtain ⟨n5, hn5⟩ : ∃ n, n = a.2.2.2.2.2.1.length := ⟨_, rfl⟩
  obtain ⟨n6, hn6⟩ : ∃ n, n = a.2.2.2.2.2.2.1.length := ⟨_, rfl⟩
  obtain ⟨n7, hn7⟩ : ∃ n, n = a.2.2.2.2.2.2.2.length := ⟨_, rfl⟩
  rw [← hx0, ← hx1, ← hx2, ← hn3, ← hn4, ← hn5, ← hn6, ← hn7] at HV ⊢
  clear hx0 hx1 hx2 hn3 hn4 hn5 hn6 hn7
  have z2 := HG.out _ g2
  obtain ⟨c0_, c1_, c2_, c3_, c4_, c5_, c6_, c7_⟩ := eight_cells z2
  have fr0 := free_at (i := 0) z2
  have fr1 := free_at (i := 1) z2
  have fr2 := free_at (i := 2) z2
  have fr3 := free_at (i := 3) z2
  have fr4 := free_at (i := 4) z2
  have fr5 := free_at (i := 5) z2
  have fr6 := free_at (i := 6) z2
  have fr7 := free_at (i := 7) z2
  obtain ⟨WN, hWN⟩ : ∃ WN, WN = (((((((w2.setCell ⟨R, 0, none⟩ (.int .i64 x0)).setCell ⟨R, 1, none⟩ (.int .i64 x1)).setCell ⟨R, 2, none⟩ (.int .i64 x2)).setCell ⟨R, 3, none⟩ (.slice a3 n3 c3)).setCell ⟨R, 4, none⟩ (.slice a4 n4 c4)).setCell ⟨R, 5, none⟩ (.slice a5 n5 c5)).setCell ⟨R, 6, none⟩ (.slice a6 n6 c6)).setCell ⟨R, 7, none⟩ (.slice a7 n7 c7) := ⟨_, rfl⟩
  have zz : WN.heap[R]? = some (.cells #[.int .i64 x0, .int .i64 x1, .int .i64 x2, .slice a3 n3 c3, .slice a4 n4 c4, .slice a5 n5 c5, .slice a6 n6 c6, .slice a7 n7 c7] 28 (0, 0)) := by
    rw [hWN]
    exact set_block (set_block (set_block (set_block (set_block (set_block (set_block (set_block z2)))))))
  have GN : Below R w WN := by
    have b : Below R w w2 := grown_to HB.out g2 (Nat.le_of_lt HRB.out) (by have := HL.out; have := HRB.out; omega)
    rw [hWN]
    exact below_put (below_put (below_put (below_put (below_put (below_put (below_put (below_put b (Nat.le_refl R) _) (Nat.le_refl R) _) (Nat.le_refl R) _) (Nat.le_refl R) _) (Nat.le_refl R) _) (Nat.le_refl R) _) (Nat.le_refl R) _) (Nat.le_refl R) _
  have HVN : Hid (StO R WN (.agg #[.int .i64 x0, .int .i64 x1, .int .i64 x2, .slice a3 n3 c3, .slice a4 n4 c4, .slice a5 n5 c5, .slice a6 n6 c6, .slice a7 n7 c7]) a) := (HV.out.kept (C := R) (by rw [hWN]; exact grown_put (grown_put (grown_put (grown_put (grown_put (grown_put (grown_put (grown_put (grown_refl _ _))))))))) (by have := HL.out; have := HRB.out; omega)).base (by have := HL.out; have := HRB.out; omega)
  obtain ⟨d0, d1, d2, d3, d4, d5, d6, d7⟩ := eight_cells zz
  have HWN := Lib.hid hWN
  have GF := Lib.hid GN
  clear hWN zz GN g2 z2 CC HG HV
  go_wp2_with fail
  rw [← HWN.out]
  exact bodyPost_ret (v := .tuple #[.agg #[.int .i64 x0, .int .i64 x1, .int .i64 x2, .slice a3 n3 c3, .slice a4 n4 c4, .slice a5 n5 c5, .slice a6 n6 c6, .slice a7 n7 c7], .bool b]) (by simp [results, Tryz.results9, go_sem, d0, d1, d2, d3, d4, d5, d6, d7, Tryz.isAgg28, Tryz.sizeOf28]) rfl ⟨_, rfl, by rw [HS0.out]; exact HVN.out, by rw [HS0.out]; exact GF.out⟩
end Go.Proofs.YtmdgjcikekojdaaGreatDoor.Sta
