/- Salt: the program's fold. -/
import Derived.Test.YtffepndeegbdoaaGreatDoorPdg
import Derived.Deep.RegionWith
import Derived.Deep.WholeRow
set_option linter.unusedVariables false
set_option linter.unusedSimpArgs false
set_option maxRecDepth 100000
namespace Go.Proofs.YtffepndeegbdoaaGreatDoor.Slt
open Go.RowKit Go.Lib Go.Proofs.YtffepndeegbdoaaGreatDoor.Bx

def Z8 : Array Value := #[.int .u32 0, .int .u32 0, .int .u32 0, .int .u32 0, .int .u32 0, .int .u32 0, .int .u32 0, .int .u32 0]
theorem Dig.load_h {g : Nat} {w : World} {H B : List Nat} {n : Nat} (h : Dig g w H B n) : ∀ j v, (H.map fun x => Value.int .u32 (x : Nat))[j]? = some v → w.cell? ⟨g, 0 + j, none⟩ = some v := fun j v hv => by
  have hj : j < H.length := by
    have := (List.getElem?_eq_some_iff.1 hv).1
    rwa [List.length_map] at this
  rw [Nat.zero_add, h.h (by rw [h.1] at hj; exact hj), ← hv, List.getElem?_map, List.getElem?_eq_getElem hj, List.getD_eq_getElem?_getD, List.getElem?_eq_getElem hj]
  rfl
theorem list8 {V : List Nat} (h : V.length = 8) : ∃ v0 v1 v2 v3 v4 v5 v6 v7, V = [v0, v1, v2, v3, v4, v5, v6, v7] := by
  match V, h with
  | [a0, a1, a2, a3, a4, a5, a6, a7], _ => exact ⟨_, _, _, _, _, _, _, _, rfl⟩
theorem one_split {v0 v1 v2 v3 v4 v5 v6 v7 k w : Nat} : oneN [v0, v1, v2, v3, v4, v5, v6, v7] k w = add32 (add32 (add32 v7 (big1 v4)) ((v4 &&& v5) ||| (not32 v4 &&& v6))) (add32 k w) := by
  show add32 (add32 (add32 (add32 v7 (big1 v4)) ((v4 &&& v5) ||| (not32 v4 &&& v6))) k) w = _
  unfold add32
  omega
theorem Below.trans' {A B : Nat} {w : World} {a b : World} (h : Below a.heap.size a b) (k : Below w.heap.size w a) : Below w.heap.size w b := below_on k h
set_option maxHeartbeats 8000000 in
theorem pfold_any (g : Nat) (H B : List Nat) (n : Nat) (w : World) (h : Dig g w H B n) (h32 : B32 H) (h8 : B8 B) (hR : Roots w) (hg : 0 < g) : Calls Tryz.prog 73 #[.pointer (some ⟨g, 0, none⟩)] w fun e w' => e = .returned (.tuple #[]) ∧ Dig g w' (Slt.block B H 0) B n ∧ w.grownBy w' (some g) := by
  have HD := Lib.hid h
  have HG := Lib.hid hg
  have HR := Lib.hid hR
  have H32 := Lib.hid h32
  have CS : Hid (∀ w', Calls Tryz.prog 96 #[.agg (toC .u8 B)] w' fun e w'' => e = .returned (.agg (toC .u32 (sched B 0 64))) ∧ Below w'.heap.size w' w'') := fun w' => pspread_any B w' h.2.1 h8
  have IB : Hid ((Tryz.prog.info? 74).map (·.size) = some (B.map fun x => Value.int .u8 (x : Nat)).length) := by show _ = _; rw [List.length_map, h.2.1]; exact infoB
  have LB := Lib.hid h.load_b
  clear h h32 h8 hR hg
  go_enter Tryz.func73, Tryz.ntmps73
  go_wp2_with (refine wpList_load_off rfl _ _ rfl g 8 rfl _ _ LB.out Tryz.underlying74 rfl IB.out ?_)
  rw [toC_list]
  refine (CS.out _).mono ?_
  rintro e w1 ⟨rfl, b1⟩
  have HD1 := Lib.hid (HD.out.below b1)
  have HB1 : Hid (Below w.heap.size w w1) := b1
  have HR1 : Hid (Roots w1) := HR.out.below b1 (by have := HD.out.lt; omega)
  obtain ⟨S, hS⟩ : ∃ S, S = sched B 0 64 := ⟨_, rfl⟩
  have HSL : Hid (S.length = 64) := by rw [hS]; exact sched_len _ _ _
  have HSE := Lib.hid hS
  rw [← hS]
  clear b1 hS
  have HZ : Hid ((Tryz.prog.info? 153).map (·.size) = some (toC .u32 S).size) := by show _ = _; rw [toC_size, HSL.out]; exact info64
  have HZ2 : Hid (Z64.size = (toC .u32 S).size) := by show _ = _; rw [toC_size, HSL.out]; rfl
  have HAN := fun w => heap_alloc_new w (.cells Z64 153)
  unfold Z64 at HAN
  replace HAN := Lib.hid HAN
  go_upto_region 1 with (refine wpList_store_row rfl _ _ _ rfl w1.heap.size (toC .u32 S) rfl rfl _ _ (HAN.out _) HZ.out HZ2.out (toC_one _ _) ?_)
  rw [World.setRow_alloc_new]
  obtain ⟨SB, hSB⟩ : ∃ SB, SB = w1.heap.size := ⟨_, rfl⟩
  obtain ⟨W2, hW2⟩ : ∃ W2, W2 = w1.alloc (.cells (toC .u32 S) 153) := ⟨_, rfl⟩
  rw [← hW2, ← hSB]
  have B2 : Hid (Below w1.heap.size w1 W2) := by rw [hW2]; exact below_al (Below.refl _ _) _
  have S2 : Hid (W2.heap.size = SB + 1) := by show _ = _; rw [hW2, hSB]; simp
  have P2 : Hid (W2.heap[SB]? = some (.cells (toC .u32 S) 153 (0, 0))) := by show _ = _; rw [hW2, hSB]; exact heap_alloc_new _ _
  have GS : Hid (g < SB) := by show _ < _; rw [hSB]; exact HD1.out.lt
  have HD2 := Lib.hid (HD1.out.below B2.out)
  have HB2 : Hid (Below w.heap.size w W2) := HB1.out.trans (B2.out.mono HB1.out.size)
  have HR2 : Hid (Roots W2) := HR1.out.below B2.out (by have := GS.out; omega)
  have LH : Hid (∀ j v, (H.map fun x => Value.int .u32 (x : Nat))[j]? = some v → W2.cell? ⟨g, 0 + j, none⟩ = some v) := HD2.out.load_h
  have IH : Hid ((Tryz.prog.info? 73).map (·.size) = some (H.map fun x => Value.int .u32 (x : Nat)).length) := by show _ = _; rw [List.length_map, HD.out.1]; exact info8
  have IH1 : Hid ((Tryz.prog.info? 73).map (·.size) = some (toC .u32 H).size) := by show _ = _; rw [toC_size, HD.out.1]; exact info8
  have IH2 : Hid (Z8.size = (toC .u32 H).size) := by show _ = _; rw [toC_size, HD.out.1]; rfl
  have HA8 := fun w => heap_alloc_new w (.cells Z8 73)
  unfold Z8 at HA8
  replace HA8 := Lib.hid HA8
  clear hSB hW2 HD1 HB1 HR1 B2 HAN HZ HZ2 CS IB LB
  go_upto_region 2 with (first | refine wpList_load_off rfl _ _ rfl g 0 rfl _ _ LH.out Tryz.underlying73 rfl IH.out ?_ | refine wpList_store_row rfl _ _ _ rfl W2.heap.size (toC .u32 H) rfl rfl _ _ (HA8.out _) IH1.out IH2.out (toC_one _ _) ?_)
  rw [World.setRow_alloc_new]
  obtain ⟨VB, hVB⟩ : ∃ VB, VB = W2.heap.size := ⟨_, rfl⟩
  obtain ⟨W3, hW3⟩ : ∃ W3, W3 = W2.alloc (.cells (toC .u32 H) 73) := ⟨_, rfl⟩
  rw [← hW3, ← hVB]
  have B3 : Hid (Below W2.heap.size W2 W3) := by rw [hW3]; exact below_al (Below.refl _ _) _
  have SV : Hid (SB + 1 = VB) := by show _ = _; rw [hVB, S2.out]
  have P3 : Hid (W3.heap[SB]? = some (.cells (toC .u32 S) 153 (0, 0))) := (B3.out.block _ (by rw [S2.out]; omega)).trans P2.out
  have Q3 : Hid (W3.heap[VB]? = some (.cells (toC .u32 (rounds S H 0)) 73 (0, 0))) := by show _ = _; rw [hW3, hVB]; exact heap_alloc_new _ _
  have HD3 := Lib.hid (HD2.out.below B3.out)
  have HB3 : Hid (Below w.heap.size w W3) := HB2.out.trans (B3.out.mono HB2.out.size)
  have HSV : Hid (w.heap.size ≤ VB) := by show _ ≤ _; rw [hVB]; exact HB2.out.size
  have HR3 : Hid (Roots W3) := HR2.out.below B3.out (by have := SV.out; omega)
  clear hVB hW3 HD2 HB2 HR2 B3 LH IH IH1 IH2 HA8 P2 S2
  go_wp2_with fail
  go_loopg [15] 64 (fun g_ i_ wr => ∃ t : Nat, t ≤ 64 ∧ 64 - t ≤ g_ ∧ i_ = .int .i64 t ∧ Hid (wr.heap[VB]? = some (.cells (toC .u32 (rounds S H t)) 73 (0, 0))) ∧ Below VB W3 wr)
  case atStart => exact ⟨0, by omega, by omega, rfl, Q3, Below.refl _ _⟩
  case round =>
    obtain ⟨t, ht, hgh, rfl, HV, hbel⟩ := hrel
    have HBW := Lib.hid hbel
    have HVO : Hid (B32 (rounds S H t)) := rounds_ok S H32.out t
    have HV1 : Hid (rounds S H (t + 1) = stepV (rounds S H t) (oneN (rounds S H t) (K0.getD t 0) (S.getD t 0)) (twoN (rounds S H t))) := rfl
    have HVL : Hid ((rounds S H t).length = 8) := rounds_len S HD.out.1 t
    by_cases ht64 : t < 64
    · have iw : ((t : Nat) : Int) < 64 := by omega
      obtain ⟨wo, hwo⟩ : ∃ wo, wo = wr := ⟨_, rfl⟩
      rw [← hwo] at HV HBW ⊢
      have ck : wo.cell? ⟨0, t, none⟩ = some (.int .u32 (K0.getD t 0 : Nat)) := HR3.out.below HBW.out (by have := SV.out; omega) t ht64
      have cs : wo.cell? ⟨SB, t, none⟩ = some (.int .u32 (S.getD t 0 : Nat)) := by
        have h1 : wo.heap[SB]? = some (.cells (toC .u32 S) 153 (0, 0)) := (HBW.out.block _ (by have := SV.out; omega)).trans P3.out
        rw [toC_cell h1 (by rw [HSL.out]; omega), List.getD_eq_getElem?_getD, List.getElem?_eq_getElem]
        rfl
      generalize K0.getD t 0 = kt at *
      generalize S.getD t 0 = st at *
      generalize rounds S H t = V at *
      clear hbel hwo
      obtain ⟨v0, v1, v2, v3, v4, v5, v6, v7, rfl⟩ := list8 HVL.out
      have c0 : wo.cell? ⟨VB, 0, none⟩ = some (.int .u32 (v0 : Nat)) := toC_cell HV.out (i := 0) (by simp)
      have c1 : wo.cell? ⟨VB, 1, none⟩ = some (.int .u32 (v1 : Nat)) := toC_cell HV.out (i := 1) (by simp)
      have c2 : wo.cell? ⟨VB, 2, none⟩ = some (.int .u32 (v2 : Nat)) := toC_cell HV.out (i := 2) (by simp)
      have c3 : wo.cell? ⟨VB, 3, none⟩ = some (.int .u32 (v3 : Nat)) := toC_cell HV.out (i := 3) (by simp)
      have c4 : wo.cell? ⟨VB, 4, none⟩ = some (.int .u32 (v4 : Nat)) := toC_cell HV.out (i := 4) (by simp)
      have c5 : wo.cell? ⟨VB, 5, none⟩ = some (.int .u32 (v5 : Nat)) := toC_cell HV.out (i := 5) (by simp)
      have c6 : wo.cell? ⟨VB, 6, none⟩ = some (.int .u32 (v6 : Nat)) := toC_cell HV.out (i := 6) (by simp)
      have c7 : wo.cell? ⟨VB, 7, none⟩ = some (.int .u32 (v7 : Nat)) := toC_cell HV.out (i := 7) (by simp)
      have TU : Hid (∀ w', Calls Tryz.prog 97 #[.agg #[.int .u32 (v0 : Nat), .int .u32 (v1 : Nat), .int .u32 (v2 : Nat), .int .u32 (v3 : Nat), .int .u32 (v4 : Nat), .int .u32 (v5 : Nat), .int .u32 (v6 : Nat), .int .u32 (v7 : Nat)], .int .u32 (IntKind.u32.wrap ((kt : Int) + (st : Int)))] w' fun e w'' => e = .returned (.agg (toC .u32 (stepV [v0, v1, v2, v3, v4, v5, v6, v7] (oneN [v0, v1, v2, v3, v4, v5, v6, v7] kt st) (twoN [v0, v1, v2, v3, v4, v5, v6, v7])))) ∧ Below w'.heap.size w' w'') := fun w' => by
        rw [wadd32, one_split]
        exact pturn8 v0 v1 v2 v3 v4 v5 v6 v7 _ w' (HVO.out 0) (HVO.out 1) (HVO.out 2) (HVO.out 4) (HVO.out 5) (HVO.out 6)
      obtain ⟨r0, hr0⟩ : ∃ r0, r0 = add32 (oneN [v0, v1, v2, v3, v4, v5, v6, v7] kt st) (twoN [v0, v1, v2, v3, v4, v5, v6, v7]) := ⟨_, rfl⟩
      obtain ⟨r4, hr4⟩ : ∃ r4, r4 = add32 v3 (oneN [v0, v1, v2, v3, v4, v5, v6, v7] kt st) := ⟨_, rfl⟩
      have EV : stepV [v0, v1, v2, v3, v4, v5, v6, v7] (oneN [v0, v1, v2, v3, v4, v5, v6, v7] kt st) (twoN [v0, v1, v2, v3, v4, v5, v6, v7]) = [r0, v0, v1, v2, r4, v4, v5, v6] := by rw [hr0, hr4]; rfl
      rw [EV] at TU HV1
      replace TU : Hid (∀ w', Calls Tryz.prog 97 #[.agg #[.int .u32 (v0 : Nat), .int .u32 (v1 : Nat), .int .u32 (v2 : Nat), .int .u32 (v3 : Nat), .int .u32 (v4 : Nat), .int .u32 (v5 : Nat), .int .u32 (v6 : Nat), .int .u32 (v7 : Nat)], .int .u32 (IntKind.u32.wrap ((kt : Int) + (st : Int)))] w' fun e w'' => e = .returned (.agg #[.int .u32 (r0 : Nat), .int .u32 (v0 : Nat), .int .u32 (v1 : Nat), .int .u32 (v2 : Nat), .int .u32 (r4 : Nat), .int .u32 (v4 : Nat), .int .u32 (v5 : Nat), .int .u32 (v6 : Nat)]) ∧ Below w'.heap.size w' w'') := TU
      have n7 : (0 : Int) ≤ (t : Int) := by omega
      have HLT : Hid (VB < wo.heap.size) := (Array.getElem?_eq_some_iff.1 HV.out).1
      have HCF : Hid (∀ w', Below wo.heap.size wo w' → ∀ i x, [v0, v1, v2, v3, v4, v5, v6, v7][i]? = some x → w'.cell? ⟨VB, i, none⟩ = some (.int .u32 (x : Nat)) ∧ w'.frozen? ⟨VB, i, none⟩ = false) := fun w' hw i x hx => by
        have hb := (hw.block _ HLT.out).trans HV.out
        obtain ⟨hi, rfl⟩ := List.getElem?_eq_some_iff.1 hx
        exact ⟨toC_cell hb hi, free_at hb⟩
      have KV : Hid (Below wo.heap.size wo wo) := Below.refl _ _
      clear EV hr0 hr4
      have HFIN : Hid (∀ w', Below wo.heap.size wo w' → ((((((((w'.setCell ⟨VB, 0, none⟩ (.int .u32 (r0 : Nat))).setCell ⟨VB, 1, none⟩ (.int .u32 (v0 : Nat))).setCell ⟨VB, 2, none⟩ (.int .u32 (v1 : Nat))).setCell ⟨VB, 3, none⟩ (.int .u32 (v2 : Nat))).setCell ⟨VB, 4, none⟩ (.int .u32 (r4 : Nat))).setCell ⟨VB, 5, none⟩ (.int .u32 (v4 : Nat))).setCell ⟨VB, 6, none⟩ (.int .u32 (v5 : Nat))).setCell ⟨VB, 7, none⟩ (.int .u32 (v6 : Nat))).heap[VB]? = some (.cells (toC .u32 (rounds S H (t + 1))) 73 (0, 0)) ∧ Below VB W3 ((((((((w'.setCell ⟨VB, 0, none⟩ (.int .u32 (r0 : Nat))).setCell ⟨VB, 1, none⟩ (.int .u32 (v0 : Nat))).setCell ⟨VB, 2, none⟩ (.int .u32 (v1 : Nat))).setCell ⟨VB, 3, none⟩ (.int .u32 (v2 : Nat))).setCell ⟨VB, 4, none⟩ (.int .u32 (r4 : Nat))).setCell ⟨VB, 5, none⟩ (.int .u32 (v4 : Nat))).setCell ⟨VB, 6, none⟩ (.int .u32 (v5 : Nat))).setCell ⟨VB, 7, none⟩ (.int .u32 (v6 : Nat)))) := fun w' hw => by
        refine ⟨?_, put8_below _ _ _ _ _ _ _ _ (HBW.out.trans (hw.mono (Nat.le_of_lt HLT.out))) (Nat.le_refl _)⟩
        rw [HV1.out]
        exact put8 _ _ _ _ _ _ _ _ ((hw.block _ HLT.out).trans HV.out)
      go_upto_region 5 with fail
      go_region_with (go_at_call 97; (with_reducible refine (TU.out _).mono ?_); rintro e wt ⟨rfl, bt⟩; have hkt := below_on (B := wo.heap.size) (w := wo) (by (repeat first | with_reducible assumption | with_reducible exact KV.out | with_reducible apply Below.drew | with_reducible apply p_drews)) bt (Nat.le_refl _); have hcf := HCF.out wt hkt; have c0 := (hcf 0 _ rfl).1; have f0 := (hcf 0 _ rfl).2; have c1 := (hcf 1 _ rfl).1; have f1 := (hcf 1 _ rfl).2; have c2 := (hcf 2 _ rfl).1; have f2 := (hcf 2 _ rfl).2; have c3 := (hcf 3 _ rfl).1; have f3 := (hcf 3 _ rfl).2; have c4 := (hcf 4 _ rfl).1; have f4 := (hcf 4 _ rfl).2; have c5 := (hcf 5 _ rfl).1; have f5 := (hcf 5 _ rfl).2; have c6 := (hcf 6 _ rfl).1; have f6 := (hcf 6 _ rfl).2; have c7 := (hcf 7 _ rfl).1; have f7 := (hcf 7 _ rfl).2; clear hcf bt; replace hkt := Lib.hid hkt)
      all_goals clear c0 c1 c2 c3 c4 c5 c6 c7
      all_goals go_wp2_with fail
      all_goals go_roundg (64 - (t + 1))
      all_goals first
        | omega
        | exact ⟨t + 1, by omega, Nat.le_refl _, by go_num, Lib.hid (HFIN.out _ hkt.out).1, (HFIN.out _ hkt.out).2⟩
    · obtain rfl : t = 64 := by omega
      have iw : ¬ (((64 : Nat) : Int) < 64) := by omega
      obtain ⟨V, hV⟩ : ∃ V, V = rounds S H 64 := ⟨_, rfl⟩
      have HBE : Hid (List.zipWith add32 H V = Slt.block B H 0) := by show _ = _; rw [hV, HSE.out]; rfl
      rw [← hV] at HV HVO HVL
      obtain ⟨wo, hwo⟩ : ∃ wo, wo = wr := ⟨_, rfl⟩
      rw [← hwo] at HV HBW ⊢
      have HDO : Hid (Dig g wo (upd8 H V 0) B n) := HD3.out.kept (HBW.out.block _ (by have := GS.out; have := SV.out; omega))
      have HWO : Hid (Below w.heap.size w wo) := HB3.out.trans (HBW.out.mono HSV.out)
      have HLT : Hid (VB < wo.heap.size) := (Array.getElem?_eq_some_iff.1 HV.out).1
      have HVY : Hid (∀ w', wo.grownBy w' (some g) → ∀ i, i < 8 → w'.cell? ⟨VB, i, none⟩ = some (.int .u32 (V.getD i 0 : Nat))) := fun w' hw i hi => by
        refine grown_cell hw HLT.out (by have := GS.out; have := SV.out; omega) ?_
        rw [toC_cell HV.out (by rw [HVL.out]; exact hi), List.getD_eq_getElem?_getD, List.getElem?_eq_getElem]
        rfl
      clear hV hwo hbel HV1 HB3 HD3
      go_wp2_with fail
      go_loopg [28] 8 (fun g_ i_ wr => ∃ i : Nat, i ≤ 8 ∧ 8 - i ≤ g_ ∧ i_ = .int .i64 i ∧ Hid (Dig g wr (upd8 H V i) B n) ∧ wo.grownBy wr (some g))
      case atStart => exact ⟨0, by omega, by omega, rfl, HDO, grown_refl _ _⟩
      case round =>
        obtain ⟨i, hi, hg3, rfl, HRI, hgr⟩ := hrel
        have HGI := Lib.hid hgr
        by_cases hi8 : i < 8
        · have iw : ((i : Nat) : Int) < 8 := by omega
          have n0 : (0 : Int) ≤ (i : Int) := by omega
          have ch := HRI.out.h hi8
          have cf := HRI.out.free i
          have cv := HVY.out _ hgr i hi8
          have HU : Hid (upd8 H V (i + 1) = (upd8 H V i).set i (add32 ((upd8 H V i).getD i 0) (V.getD i 0))) := rfl
          have HRN := Lib.hid (HRI.out.set_h hi8 (add32 ((upd8 H V i).getD i 0) (V.getD i 0)))
          rw [← HU.out] at HRN
          generalize (upd8 H V i).getD i 0 = x at *
          generalize V.getD i 0 = y at *
          clear hgr
          go_upto_region 10 with fail
          go_region
          go_wp2_with fail
          go_roundg (8 - (i + 1))
          case measure => omega
          case rel =>
            rw [madd32]
            exact ⟨i + 1, by omega, Nat.le_refl _, by go_num, HRN, grown_below (grown_put HGI.out) ((Below.refl _ _).drew)⟩
        · obtain rfl : i = 8 := by omega
          have iw : ¬ (((8 : Nat) : Int) < 8) := by omega
          have E8 : Hid (upd8 H V 8 = Slt.block B H 0) := by show _ = _; rw [← HBE.out]; exact upd8_all HD.out.1 HVL.out
          rw [E8.out] at HRI
          have HBF := Lib.hid (grown_trans (grown_below (grown_refl w (some g)) HWO.out) hgr)
          clear hgr
          go_wp2_with fail
          go_end0
          exact ⟨rfl, HRI.out, HBF.out⟩
end Go.Proofs.YtffepndeegbdoaaGreatDoor.Slt
