/- Salt: the program's fold. -/
import Derived.Test.YtccaiippoephbaaGreatDoorWd
import Derived.Deep.RegionWith
import Derived.Deep.WholeRow
import Derived.Test.YtccaiippoephbaaGreatDoorWc
set_option linter.unusedVariables false
set_option linter.unusedSimpArgs false
set_option maxRecDepth 100000
namespace Go.Proofs.YtccaiippoephbaaGreatDoor.Slt
open Go.RowKit Go.Lib Go.Proofs.YtccaiippoephbaaGreatDoor.Bx

def Z8 : Array Value := #[.int .u32 0, .int .u32 0, .int .u32 0, .int .u32 0, .int .u32 0, .int .u32 0, .int .u32 0, .int .u32 0]
theorem Dig.load_h {g : Nat} {w : World} {H B : List Nat} {n : Nat} (h : Dig g w H B n) : ∀ j v, (H.map fun x => Value.int .u32 (x : Nat))[j]? = some v → w.cell? ⟨g, 0 + j, none⟩ = some v := fun j v hv => by
  have hj : j < H.length := by
    have := (List.getElem?_eq_some_iff.1 hv).1
    rwa [List.length_map] at this
  rw [Nat.zero_add, h.h (by rw [h.1] at hj; exact hj), ← hv, List.getElem?_map, List.getElem?_eq_getElem hj, List.getD_eq_getElem?_getD, List.getElem?_eq_getElem hj]
  rfl
theorem list8 {V : List Nat} (h : V.length = 8) : ∃ v0 v1 v2 v3 v4 v5 v6 v7, V = [v0, v1, v2, v3, v4, v5, v6, v7] := by
  match V, h with
  | [a0, a1, a2, a3, a4, a5, a6, a7], _ => exact ⟨_, _, _, _, _, _, _, _, rfl⟩
theorem one_split {v0 v1 v2 v3 v4 v5 v6 v7 k w : Nat} : oneN [v0, v1, v2, v3, v4, v5, v6, v7] k w = add32 (add32 (add32 v7 (big1 v4)) ((v4 &&& v5) ||| (not32 v4 &&& v6))) (add32 k w) := by
  show add32 (add32 (add32 (add32 v7 (big1 v4)) ((v4 &&& v5) ||| (not32 v4 &&& v6))) k) w = _
  unfold add32
  omega
set_option maxHeartbeats 8000000 in
theorem pfold_any (g : Nat) (H B : List Nat) (n : Nat) (w : World) (h : Dig g w H B n) (h32 : B32 H) (h8 : B8 B) (hR : Roots w) (hg : 0 < g) : Calls Tryz.prog 66 #[.pointer (some ⟨g, 0, none⟩)] w fun e w' => e = .returned (.tuple #[]) ∧ Dig g w' (Slt.block B H 0) B n ∧ w.grownBy w' (some g) := by
  have HD := Lib.hid h
  have HG := Lib.hid hg
  have HR := Lib.hid hR
  have H32 := Lib.hid h32
  have CS : Hid (∀ w', Calls Tryz.prog 91 #[.agg (toC .u8 B)] w' fun e w'' => e = .returned (.agg (toC .u32 (sched B 0 64))) ∧ Below w'.heap.size w' w'') := fun w' => pspread_any B w' h.2.1 h8
  have IB : Hid ((Tryz.prog.info? 86).map (·.size) = some (B.map fun x => Value.int .u8 (x : Nat)).length) := by show _ = _; rw [List.length_map, h.2.1]; exact infoB
  have LB := Lib.hid h.load_b
  clear h h32 h8 hR hg
  go_enter Tryz.func66, Tryz.ntmps66
  go_wp2_with (refine wpList_load_off rfl _ _ rfl g 8 rfl _ _ LB.out Tryz.underlying86 rfl IB.out ?_)
  rw [toC_list]
  refine (CS.out _).mono ?_
  rintro e w1 ⟨rfl, b1⟩
  have HD1 := Lib.hid (HD.out.below b1)
  have HB1 : Hid (Below w.heap.size w w1) := b1
  have HR1 : Hid (Roots w1) := HR.out.below b1 (by have := HD.out.lt; omega)
  obtain ⟨S, hS⟩ : ∃ S, S = sched B 0 64 := ⟨_, rfl⟩
  have HSL : Hid (S.length = 64) := by rw [hS]; exact sched_len _ _ _
  have HSE := Lib.hid hS
  rw [← hS]
  clear b1 hS
  have HZ : Hid ((Tryz.prog.info? 153).map (·.size) = some (toC .u32 S).size) := by show _ = _; rw [toC_size, HSL.out]; exact info64
  have HZ2 : Hid (Z64.size = (toC .u32 S).size) := by show _ = _; rw [toC_size, HSL.out]; rfl
  have HAN := fun w => heap_alloc_new w (.cells Z64 153)
  unfold Z64 at HAN
  replace HAN := Lib.hid HAN
  go_upto_region 1 with (refine wpList_store_row rfl _ _ _ rfl w1.heap.size (toC .u32 S) rfl rfl _ _ (HAN.out _) HZ.out HZ2.out (toC_one _ _) ?_)
  rw [World.setRow_alloc_new]
  obtain ⟨SB, hSB⟩ : ∃ SB, SB = w1.heap.size := ⟨_, rfl⟩
  obtain ⟨W2, hW2⟩ : ∃ W2, W2 = w1.alloc (.cells (toC .u32 S) 153) := ⟨_, rfl⟩
  rw [← hW2, ← hSB]
  have B2 : Hid (Below w1.heap.size w1 W2) := by rw [hW2]; exact below_al (Below.refl _ _) _
  have S2 : Hid (W2.heap.size = SB + 1) := by show _ = _; rw [hW2, hSB]; simp
  have P2 : Hid (W2.heap[SB]? = some (.cells (toC .u32 S) 153 (0, 0))) := by show _ = _; rw [hW2, hSB]; exact heap_alloc_new _ _
  have GS : Hid (g < SB) := by show _ < _; rw [hSB]; exact HD1.out.lt
  have HD2 := Lib.hid (HD1.out.below B2.out)
  have HB2 : Hid (Below w.heap.size w W2) := HB1.out.trans (B2.out.mono HB1.out.size)
  have HR2 : Hid (Roots W2) := HR1.out.below B2.out (by have := GS.out; omega)
  have LH : Hid (∀ j v, (H.map fun x => Value.int .u32 (x : Nat))[j]? = some v → W2.cell? ⟨g, 0 + j, none⟩ = some v) := HD2.out.load_h
  have IH : Hid ((Tryz.prog.info? 85).map (·.size) = some (H.map fun x => Value.int .u32 (x : Nat)).length) := by show _ = _; rw [List.length_map, HD.out.1]; exact info8
  have IH1 : Hid ((Tryz.prog.info? 85).map (·.size) = some (toC .u32 H).size) := by show _ = _; rw [toC_size, HD.out.1]; exact info8
  have IH2 : Hid (Z8.size = (toC .u32 H).size) := by show _ = _; rw [toC_size, HD.out.1]; rfl
  have HA8 := fun w => heap_alloc_new w (.cells Z8 85)
  unfold Z8 at HA8
  replace HA8 := Lib.hid HA8
  clear hSB hW2 HD1 HB1 HR1 B2 HAN HZ HZ2 CS IB LB
  go_upto_region 2 with (first | refine wpList_load_off rfl _ _ rfl g 0 rfl _ _ LH.out Tryz.underlying85 rfl IH.out ?_ | refine wpList_store_row rfl _ _ _ rfl W2.heap.size (toC .u32 H) rfl rfl _ _ (HA8.out _) IH1.out IH2.out (toC_one _ _) ?_)
  rw [World.setRow_alloc_new]
  obtain ⟨VB, hVB⟩ : ∃ VB, VB = W2.heap.size := ⟨_, rfl⟩
  obtain ⟨W3, hW3⟩ : ∃ W3, W3 = W2.alloc (.cells (toC .u32 H) 85) := ⟨_, rfl⟩
  rw [← hW3, ← hVB]
  have B3 : Hid (Below W2.heap.size W2 W3) := by rw [hW3]; exact below_al (Below.refl _ _) _
  have SV : Hid (SB + 1 = VB) := by show _ = _; rw [hVB, S2.out]
  have P3 : Hid (W3.heap[SB]? = some (.cells (toC .u32 S) 153 (0, 0))) := (B3.out.block _ (by rw [S2.out]; omega)).trans P2.out
  have Q3 : Hid (W3.heap[VB]? = some (.cells (toC .u32 (rounds S H 0)) 85 (0, 0))) := by show _ = _; rw [hW3, hVB]; exact heap_alloc_new _ _
  have HD3 := Lib.hid (HD2.out.below B3.out)
  have HB3 : Hid (Below w.heap.size w W3) := HB2.out.trans (B3.out.mono HB2.out.size)
  have HSV : Hid (w.heap.size ≤ VB) := by show _ ≤ _; rw [hVB]; exact HB2.out.size
  have HR3 : Hid (Roots W3) := HR2.out.below B3.out (by have := SV.out; omega)
  clear hVB hW3 HD2 HB2 HR2 B3 LH IH IH1 IH2 HA8 P2 S2
  go_wp2_with fail
  go_loopg [15] 64 (fun g_ i_ wr => ∃ t : Nat, t ≤ 64 ∧ 64 - t ≤ g_ ∧ i_ = .int .i64 t ∧ Hid (wr.heap[VB]? = some (.cells (toC .u32 (rounds S H t)) 85 (0, 0))) ∧ Below VB W3 wr)
  case atStart => exact ⟨0, by omega, by omega, rfl, Q3, Below.refl _ _⟩
  case round =>
    obtain ⟨t, ht, hgh, rfl, HV, hbel⟩ := hrel
    have HBW := Lib.hid hbel
    have HVO : Hid (B32 (rounds S H t)) := rounds_ok S H32.out t
    have HV1 : Hid (rounds S H (t + 1) = stepV (rounds S H t) (oneN (rounds S H t) (K0.getD t 0) (S.getD t 0)) (twoN (rounds S H t))) := rfl
    have HVL : Hid ((rounds S H t).length = 8) := rounds_len S HD.out.1 t
    by_cases ht64 : t < 64
    · have iw : ((t : Nat) : Int) < 64 := by omega
      obtain ⟨wo, hwo⟩ : ∃ wo, wo = wr := ⟨_, rfl⟩
      rw [← hwo] at HV HBW ⊢
      have ck : wo.cell? ⟨0, t, none⟩ = some (.int .u32 (K0.getD t 0 : Nat)) := HR3.out.below HBW.out (by have := SV.out; omega) t ht64
      have cs : wo.cell? ⟨SB, t, none⟩ = some (.int .u32 (S.getD t 0 : Nat)) := by
        have h1 : wo.heap[SB]? = some (.cells (toC .u32 S) 153 (0, 0)) := (HBW.out.block _ (by have := SV.out; omega)).trans P3.out
        rw [toC_cell h1 (by rw [HSL.out]; omega), List.getD_eq_getElem?_getD, List.getElem?_eq_getElem]
        rfl
      generalize K0.getD t 0 = kt at *
      generalize S.getD t 0 = st at *
      generalize rounds S H t = V at *
      clear hbel hwo
      obtain ⟨v0, v1, v2, v3, v4, v5, v6, v7, rfl⟩ := list8 HVL.out
      have c0 : wo.cell? ⟨VB, 0, none⟩ = some (.int .u32 (v0 : Nat)) := toC_cell HV.out (i := 0) (by simp)
      have c1 : wo.cell? ⟨VB, 1, none⟩ = some (.int .u32 (v1 : Nat)) := toC_cell HV.out (i := 1) (by simp)
      have c2 : wo.cell? ⟨VB, 2, none⟩ = some (.int .u32 (v2 : Nat)) := toC_cell HV.out (i := 2) (by simp)
      have c3 : wo.cell? ⟨VB, 3, none⟩ = some (.int .u32 (v3 : Nat)) := toC_cell HV.out (i := 3) (by simp)
      have c4 : wo.cell? ⟨VB, 4, none⟩ = some (.int .u32 (v4 : Nat)) := toC_cell HV.out (i := 4) (by simp)
      have c5 : wo.cell? ⟨VB, 5, none⟩ = some (.int .u32 (v5 : Nat)) := toC_cell HV.out (i := 5) (by simp)
      have c6 : wo.cell? ⟨VB, 6, none⟩ = some (.int .u32 (v6 : Nat)) := toC_cell HV.out (i := 6) (by simp)
      have c7 : wo.cell? ⟨VB, 7, none⟩ = some (.int .u32 (v7 : Nat)) := toC_cell HV.out (i := 7) (by simp)
      have TU : Hid (∀ w', Calls Tryz.prog 92 #[.agg #[.int .u32 (v0 : Nat), .int .u32 (v1 : Nat), .int .u32 (v2 : Nat), .int .u32 (v3 : Nat), .int .u32 (v4 : Nat), .int .u32 (v5 : Nat), .int .u32 (v6 : Nat), .int .u32 (v7 : Nat)], .int .u32 (IntKind.u32.wrap ((kt : Int) + (st : Int)))] w' fun e w'' => e = .returned (.agg (toC .u32 (stepV [v0, v1, v2, v3, v4, v5, v6, v7] (oneN [v0, v1, v2, v3, v4, v5, v6, v7] kt st) (twoN [v0, v1, v2, v3, v4, v5, v6, v7])))) ∧ Below w'.heap.size w' w'') := fun w' => by
        rw [wadd32, one_split]
        exact pturn8 v0 v1 v2 v3 v4 v5 v6 v7 _ w' (HVO.out 0) (HVO.out 1) (HVO.out 2) (HVO.out 4) (HVO.out 5) (HVO.out 6)
      obtain ⟨r0, hr0⟩ : ∃ r0, r0 = add32 (oneN [v0, v1, v2, v3, v4, v5, v6, v7] kt st) (twoN [v0, v1, v2, v3, v4, v5, v6, v7]) := ⟨_, rfl⟩
      obtain ⟨r4, hr4⟩ : ∃ r4, r4 = add32 v3 (oneN [v0, v1, v2, v3, v4, v5, v6, v7] kt st) := ⟨_, rfl⟩
      have EV : stepV [v0, v1, v2, v3, v4, v5, v6, v7] (oneN [v0, v1, v2, v3, v4, v5, v6, v7] kt st) (twoN [v0, v1, v2, v3, v4, v5, v6, v7]) = [r0, v0, v1, v2, r4, v4, v5, v6] := by rw [hr0, hr4]; rfl
      rw [EV] at TU HV1
      replace TU : Hid (∀ w', Calls Tryz.prog 92 #[.agg #[.int .u32 (v0 : Nat), .int .u32 (v1 : Nat), .int .u32 (v2 : Nat), .int .u32 (v3 : Nat), .int .u32 (v4 : Nat), .int .u32 (v5 : Nat), .int .u32 (v6 : Nat), .int .u32 (v7 : Nat)], .int .u32 (IntKind.u32.wrap ((kt : Int) + (st : Int)))] w' fun e w'' => e = .returned (.agg #[.int .u32 (r0 : Nat), .int .u32 (v0 : Nat), .int .u32 (v1 : Nat), .int .u32 (v2 : Nat), .int .u32 (r4 : Nat), .int .u32 (v4 : Nat), .int .u32 (v5 : Nat), .int .u32 (v6 : Nat)]) ∧ Below w'.heap.size w' w'') := TU
      have n7 : (0 : Int) ≤ (t : Int) := by omega
      have HLT : Hid (VB < wo.heap.size) := (Array.getElem?_eq_some_iff.1 HV.out).1
      have HCF : Hid (∀ w', Below wo.heap.size wo w' → ∀ i x, [v0, v1, v2, v3, v4, v5, v6, v7][i]? = some x → w'.cell? ⟨VB, i, none⟩ = some (.int .u32 (x : Nat)) ∧ w'.frozen? ⟨VB, i, none⟩ = false) := fun w' hw i x hx => by
        have hb := (hw.block _ HLT.out).trans HV.out
        obtain ⟨hi, rfl⟩ := List.getElem?_eq_some_iff.1 hx
        exact ⟨toC_cell hb hi, free_at hb⟩
      have KV : Hid (Below wo.heap.size wo wo) := Below.refl _ _
      clear EV hr0 hr4
      have HFIN : Hid (∀ w', Below wo.heap.size wo w' → ((((((((w'.setCell ⟨VB, 0, none⟩ (.int .u32 (r0 : Nat))).setCell ⟨VB, 1, none⟩ (.int .u32 (v0 : Nat))).setCell ⟨VB, 2, none⟩ (.int .u32 (v1 : Nat))).setCell ⟨VB, 3, none⟩ (.int .u32 (v2 : Nat))).setCell ⟨VB, 4, none⟩ (.int .u32 (r4 : Nat))).setCell ⟨VB, 5, none⟩ (.int .u32 (v4 : Nat))).setCell ⟨VB, 6, none⟩ (.int .u32 (v5 : Nat))).setCell ⟨VB, 7, none⟩ (.int .u32 (v6 : Nat))).heap[VB]? = some (.cells (toC .u32 (rounds S H (t + 1))) 85 (0, 0)) ∧ Below VB W3 ((((((((w'.setCell ⟨VB, 0, none⟩ (.int .u32 (r0 : Nat))).setCell ⟨VB, 1, none⟩ (.int .u32 (v0 : Nat))).setCell ⟨VB, 2, none⟩ (.int .u32 (v1 : Nat))).setCell ⟨VB, 3, none⟩ (.int .u32 (v2 : Nat))).setCell ⟨VB, 4, none⟩ (.int .u32 (r4 : Nat))).setCell ⟨VB, 5, none⟩ (.int .u32 (v4 : Nat))).setCell ⟨VB, 6, none⟩ (.int .u32 (v5 : Nat))).setCell ⟨VB, 7, none⟩ (.int .u32 (v6 : Nat)))) := fun w' hw => by
        refine ⟨?_, put8_below _ _ _ _ _ _ _ _ (HBW.out.trans (hw.mono (Nat.le_of_lt HLT.out))) (Nat.le_refl _)⟩
        rw [HV1.out]
        exact put8 _ _ _ _ _ _ _ _ ((hw.block _ HLT.out).trans HV.out)
      go_upto_region 5 with fail
      go_region_with (go_at_call 92; (with_reducible refine (TU.out _).mono ?_); rintro e wt ⟨rfl, bt⟩; have hkt := below_on (B := wo.heap.size) (w := wo) (by (repeat first | with_reducible assumption | with_reducible exact KV.out | with_reducible apply Below.drew | with_reducible apply p_drews)) bt (Nat.le_refl _); have hcf := HCF.out wt hkt; have c0 := (hcf 0 _ rfl).1; have f0 := (hcf 0 _ rfl).2; have c1 := (hcf 1 _ rfl).1; have f1 := (hcf 1 _ rfl).2; have c2 := (hcf 2 _ rfl).1; have f2 := (hcf 2 _ rfl).2; have c3 := (hcf 3 _ rfl).1; have f3 := (hcf 3 _ rfl).2; have c4 := (hcf 4 _ rfl).1; have f4 := (hcf 4 _ rfl).2; have c5 := (hcf 5 _ rfl).1; have f5 := (hcf 5 _ rfl).2; have c6 := (hcf 6 _ rfl).1; have f6 := (hcf 6 _ rfl).2; have c7 := (hcf 7 _ rfl).1; have f7 := (hcf 7 _ rfl).2; clear hcf bt; replace hkt := Lib.hid hkt)
      all_goals clear c0 c1 c2 c3 c4 c5 c6 c7
      all_goals go_wp2_with fail
      all_goals go_roundg (64 - (t + 1))
      all_goals first
        | omega
        | exact ⟨t + 1, by omega, Nat.le_refl _, by go_num, Lib.hid (HFIN.out _ hkt.out).1, (HFIN.out _ hkt.out).2⟩
    · obtain rfl : t = 64 := by omega
      have iw : ¬ (((64 : Nat) : Int) < 64) := by omega
      obtain ⟨V, hV⟩ : ∃ V, V = rounds S H 64 := ⟨_, rfl⟩
      have HBE : Hid (List.zipWith add32 H V = Slt.block B H 0) := by show _ = _; rw [hV, HSE.out]; rfl
      rw [← hV] at HV HVO HVL
      obtain ⟨wo, hwo⟩ : ∃ wo, wo = wr := ⟨_, rfl⟩
      rw [← hwo] at HV HBW ⊢
      have HDO : Hid (Dig g wo (upd8 H V 0) B n) := HD3.out.kept (HBW.out.block _ (by have := GS.out; have := SV.out; omega))
      have HWO : Hid (Below w.heap.size w wo) := HB3.out.trans (HBW.out.mono HSV.out)
      have HLT : Hid (VB < wo.heap.size) := (Array.getElem?_eq_some_iff.1 HV.out).1
      have HVY : Hid (∀ w', wo.grownBy w' (some g) → ∀ i, i < 8 → w'.cell? ⟨VB, i, none⟩ = some (.int .u32 (V.getD i 0 : Nat))) := fun w' hw i hi => by
        refine grown_cell hw HLT.out (by have := GS.out; have := SV.out; omega) ?_
        rw [toC_cell HV.out (by rw [HVL.out]; exact hi), List.getD_eq_getElem?_getD, List.getElem?_eq_getElem]
        rfl
      clear hV hwo hbel HV1 HB3 HD3
      go_wp2_with fail
      go_loopg [28] 8 (fun g_ i_ wr => ∃ i : Nat, i ≤ 8 ∧ 8 - i ≤ g_ ∧ i_ = .int .i64 i ∧ Hid (Dig g wr (upd8 H V i) B n) ∧ wo.grownBy wr (some g))
      case atStart => exact ⟨0, by omega, by omega, rfl, HDO, grown_refl _ _⟩
      case round =>
        obtain ⟨i, hi, hg3, rfl, HRI, hgr⟩ := hrel
        have HGI := Lib.hid hgr
        by_cases hi8 : i < 8
        · have iw : ((i : Nat) : Int) < 8 := by omega
          have n0 : (0 : Int) ≤ (i : Int) := by omega
          have ch := HRI.out.h hi8
          have cf := HRI.out.free i
          have cv := HVY.out _ hgr i hi8
          have HU : Hid (upd8 H V (i + 1) = (upd8 H V i).set i (add32 ((upd8 H V i).getD i 0) (V.getD i 0))) := rfl
          have HRN := Lib.hid (HRI.out.set_h hi8 (add32 ((upd8 H V i).getD i 0) (V.getD i 0)))
          rw [← HU.out] at HRN
          generalize (upd8 H V i).getD i 0 = x at *
          generalize V.getD i 0 = y at *
          clear hgr
          go_upto_region 10 with fail
          go_region
          go_wp2_with fail
          go_roundg (8 - (i + 1))
          case measure => omega
          case rel =>
            rw [madd32]
            exact ⟨i + 1, by omega, Nat.le_refl _, by go_num, HRN, grown_below (grown_put HGI.out) ((Below.refl _ _).drew)⟩
        · obtain rfl : i = 8 := by omega
          have iw : ¬ (((8 : Nat) : Int) < 8) := by omega
          have E8 : Hid (upd8 H V 8 = Slt.block B H 0) := by show _ = _; rw [← HBE.out]; exact upd8_all HD.out.1 HVL.out
          rw [E8.out] at HRI
          have HBF := Lib.hid (grown_trans (grown_below (grown_refl w (some g)) HWO.out) hgr)
          clear hgr
          go_wp2_with fail
          go_end0
          exact ⟨rfl, HRI.out, HBF.out⟩
end Go.Proofs.YtccaiippoephbaaGreatDoor.Slt
/- Salt: the program's put. -/
set_option linter.unusedVariables false
set_option linter.unusedSimpArgs false
set_option maxRecDepth 100000
namespace Go.Proofs.YtccaiippoephbaaGreatDoor.Slt
open Go.RowKit Go.Lib Go.Proofs.YtccaiippoephbaaGreatDoor.Bx

theorem getD_app_left {l r : List Nat} {i : Nat} (h : i < l.length) : (l ++ r).getD i 0 = l.getD i 0 := by
  rw [List.getD_eq_getElem?_getD, List.getD_eq_getElem?_getD, List.getElem?_append_left h]
theorem getD_app_at (l : List Nat) (b : Nat) : (l ++ [b]).getD l.length 0 = b := by
  rw [List.getD_eq_getElem?_getD, List.getElem?_append_right (Nat.le_refl _), Nat.sub_self]
  rfl
theorem sched_congr {b b' : List Nat} {a a' : Nat} (h : ∀ i, i < 64 → b.getD (a + i) 0 = b'.getD (a' + i) 0) : ∀ t, sched b a t = sched b' a' t
  | 0 => rfl
  | t + 1 => by
    rw [sched, sched, sched_congr h t]
    by_cases ht : t < 16
    · rw [if_pos ht, if_pos ht]
      unfold wordN
      rw [h (4 * t) (by omega), Nat.add_assoc, Nat.add_assoc, Nat.add_assoc, h (4 * t + 1) (by omega), h (4 * t + 2) (by omega), h (4 * t + 3) (by omega)]
      rw [Nat.add_assoc, Nat.add_assoc, Nat.add_assoc]
    · rw [if_neg ht, if_neg ht]
theorem block_congr {b b' h : List Nat} {a a' : Nat} (e : ∀ i, i < 64 → b.getD (a + i) 0 = b'.getD (a' + i) 0) : Slt.block b h a = Slt.block b' h a' := by
  unfold Slt.block
  rw [sched_congr e]
theorem blocks_app (l r : List Nat) : ∀ q, 64 * q ≤ l.length → blocks (l ++ r) q = blocks l q
  | 0, _ => rfl
  | q + 1, h => by
    rw [blocks, blocks, blocks_app l r q (by omega)]
    exact block_congr fun i hi => getD_app_left (by omega)

/-- The digest in block g has taken in the bytes l. -/
def St (g : Nat) (w : World) (l : List Nat) : Prop := ∃ B, Dig g w (blocks l (l.length / 64)) B l.length ∧ B8 B ∧ ∀ i, i < l.length % 64 → B.getD i 0 = l.getD (64 * (l.length / 64) + i) 0
theorem St.below {g : Nat} {w w' : World} {l : List Nat} (h : St g w l) (b : Below w.heap.size w w') : St g w' l := by
  obtain ⟨B, h1, h2⟩ := h
  exact ⟨B, h1.below b, h2⟩
theorem B8.set {l : List Nat} (h : B8 l) (i : Nat) {x : Nat} (hx : x < 256) : B8 (l.set i x) := fun j => by
  rw [getD_set]
  split
  · exact hx
  · exact h j
theorem st_more {g : Nat} {w : World} {l B : List Nat} {b : Nat} (hb : b < 256) (h8 : B8 B) (hB : B.length = 64) (hl : ∀ i, i < l.length % 64 → B.getD i 0 = l.getD (64 * (l.length / 64) + i) 0) (hne : (l.length + 1) % 64 ≠ 0)
    (h : Dig g w (blocks l (l.length / 64)) (B.set (l.length % 64) b) (l.length + 1)) : St g w (l ++ [b]) := by
  have e1 : (l ++ [b]).length = l.length + 1 := by simp
  have e2 : (l.length + 1) / 64 = l.length / 64 := by omega
  have e3 : (l.length + 1) % 64 = l.length % 64 + 1 := by omega
  refine ⟨B.set (l.length % 64) b, ?_, h8.set _ hb, fun i hi => ?_⟩
  · rw [e1, e2, blocks_app l [b] _ (by omega)]
    exact h
  · rw [e1, e3] at hi
    rw [e1, e2, getD_set]
    by_cases hi2 : i = l.length % 64
    · subst hi2
      rw [if_pos ⟨rfl, by rw [hB]; omega⟩, show 64 * (l.length / 64) + l.length % 64 = l.length by omega, getD_app_at]
    · rw [if_neg (fun e => hi2 e.1.symm), getD_app_left (by omega), hl i (by omega)]
theorem st_full {g : Nat} {w : World} {l B : List Nat} {b : Nat} (hb : b < 256) (h8 : B8 B) (hB : B.length = 64) (hl : ∀ i, i < l.length % 64 → B.getD i 0 = l.getD (64 * (l.length / 64) + i) 0) (hz : (l.length + 1) % 64 = 0)
    (h : Dig g w (Slt.block (B.set (l.length % 64) b) (blocks l (l.length / 64)) 0) (B.set (l.length % 64) b) (l.length + 1)) : St g w (l ++ [b]) := by
  have e1 : (l ++ [b]).length = l.length + 1 := by simp
  have e2 : (l.length + 1) / 64 = l.length / 64 + 1 := by omega
  refine ⟨B.set (l.length % 64) b, ?_, h8.set _ hb, fun i hi => ?_⟩
  · rw [e1, e2, blocks, blocks_app l [b] _ (by omega), ← block_congr (b := B.set (l.length % 64) b) (a := 0) (fun i hi => ?_)]
    · exact h
    · rw [Nat.zero_add, getD_set]
      by_cases hi2 : i = l.length % 64
      · subst hi2
        rw [if_pos ⟨rfl, by rw [hB]; omega⟩, show 64 * (l.length / 64) + l.length % 64 = l.length by omega, getD_app_at]
      · rw [if_neg (fun e => hi2 e.1.symm), getD_app_left (by omega), hl i (by omega)]
  · rw [e1, hz] at hi
    omega

theorem Roots.grown {w w' : World} {g : Nat} (h : Roots w) (b : w.grownBy w' (some g)) (hg : 0 < g) (hs : 0 < w.heap.size) : Roots w' := fun t ht => grown_cell b hs (by omega) (h t ht)
theorem pput_any (g : Nat) (l : List Nat) (b : Nat) (w : World) (h : St g w l) (hb : b < 256) (hn : l.length < 1000000) (hR : Roots w) (hg : 0 < g) : Calls Tryz.prog 42 #[.pointer (some ⟨g, 0, none⟩), .int .u8 (b : Nat)] w fun e w' => e = .returned (.tuple #[]) ∧ St g w' (l ++ [b]) ∧ w.grownBy w' (some g) := by
  obtain ⟨B, hd, h8, hl⟩ := h
  have HM := Lib.hid (fun w' => st_more (g := g) (w := w') hb h8 hd.2.1 hl)
  have HF := Lib.hid (fun w' => st_full (g := g) (w := w') hb h8 hd.2.1 hl)
  have HB8 := Lib.hid (h8.set (l.length % 64) hb)
  have HO : Hid (B32 (blocks l (l.length / 64))) := blocks_ok _ _
  obtain ⟨H, hH⟩ : ∃ H, H = blocks l (l.length / 64) := ⟨_, rfl⟩
  rw [← hH] at HM HF HO hd
  obtain ⟨n, hnn⟩ : ∃ n, n = l.length := ⟨_, rfl⟩
  rw [← hnn] at HM HF HB8 hd hn
  obtain ⟨m, hm⟩ : ∃ m, m = n % 64 := ⟨_, rfl⟩
  rw [← hm] at HM HF HB8
  have m64 : m < 64 := by omega
  have em : (n : Int) % 64 = (m : Nat) := by omega
  have HDD := Lib.hid hd
  have HRR := Lib.hid hR
  have HG := Lib.hid hg
  have cn := hd.n
  have fn := hd.free 72
  have cb := hd.b m64
  have fb := hd.free (8 + m)
  generalize B.getD m 0 = b0 at *
  have HNM := Lib.hid hm
  clear hd hR hH hnn hl h8 hg hm
  go_enter Tryz.func42, Tryz.ntmps42
  go_upto_region 0 with fail
  go_region
  have HD1 : Hid (Dig g (w.setCell ⟨g, 8 + m, none⟩ (.int .u8 (b : Nat))).drew H (B.set m b) n) := HDD.out.set_b m64 b
  have HB1 : Hid (w.grownBy (w.setCell ⟨g, 8 + m, none⟩ (.int .u8 (b : Nat))).drew (some g)) := grown_below (grown_put (grown_refl _ _)) ((Below.refl _ _).drew)
  obtain ⟨W1, hW1⟩ : ∃ W1, W1 = (w.setCell ⟨g, 8 + m, none⟩ (.int .u8 (b : Nat))).drew := ⟨_, rfl⟩
  rw [← hW1] at HD1 HB1 ⊢
  clear hW1 cn fn cb fb em
  have cn := HD1.out.n
  have fn := HD1.out.free 72
  go_upto_region 2 with fail
  have e1 : (n : Int) + 1 = ((n + 1 : Nat) : Int) := by omega
  rw [e1]
  have HD2 : Hid (Dig g (W1.setCell ⟨g, 72, none⟩ (.int .u64 ((n + 1 : Nat) : Int))) H (B.set m b) (n + 1)) := HD1.out.set_n (n + 1)
  have HB2 : Hid (w.grownBy (W1.setCell ⟨g, 72, none⟩ (.int .u64 ((n + 1 : Nat) : Int))) (some g)) := grown_put HB1.out
  obtain ⟨W2, hW2⟩ : ∃ W2, W2 = W1.setCell ⟨g, 72, none⟩ (.int .u64 ((n + 1 : Nat) : Int)) := ⟨_, rfl⟩
  rw [← hW2] at HD2 HB2 ⊢
  clear hW2 cn fn e1
  have cn := HD2.out.n
  by_cases hz : (n + 1) % 64 = 0
  · have z1 : ((n + 1 : Nat) : Int) % 64 = 0 := by omega
    have CF := Lib.hid (pfold_any g H (B.set m b) (n + 1) W2 HD2.out HO.out HB8.out (HRR.out.grown HB2.out HG.out (by have := HDD.out.lt; omega)) HG.out)
    have HZ := Lib.hid hz
    clear hz
    go_wp2_with fail
    refine CF.out.mono ?_
    rintro e w3 ⟨rfl, hd3, b3⟩
    have K1 := Lib.hid (HF.out w3 HZ.out hd3)
    have K2 := Lib.hid (grown_trans HB2.out b3)
    clear hd3 b3
    go_wp2_with fail
    go_end0
    exact ⟨rfl, K1.out, K2.out⟩
  · have z1 : ¬ (((n + 1 : Nat) : Int) % 64 = 0) := by omega
    have K1 := Lib.hid (HM.out W2 hz HD2.out)
    clear hz
    go_wp2_with fail
    go_end0
    exact ⟨rfl, K1.out, HB2.out⟩
end Go.Proofs.YtccaiippoephbaaGreatDoor.Slt
/- Salt: the program's putText and end. -/
set_option linter.unusedVariables false
set_option linter.unusedSimpArgs false
set_option maxRecDepth 100000
namespace Go.Proofs.YtccaiippoephbaaGreatDoor.Slt
open Go.RowKit Go.Lib Go.Proofs.YtccaiippoephbaaGreatDoor.Bx

theorem take_snoc (l : List Nat) {i : Nat} (hi : i < l.length) : l.take (i + 1) = l.take i ++ [l.getD i 0] := by
  rw [List.take_succ_eq_append_getElem hi, List.getD_eq_getElem?_getD, List.getElem?_eq_getElem hi]
  rfl
theorem pputText_any (g : Nat) (l : List Nat) (s : ByteArray) (w : World) (h : St g w l) (hn : l.length + s.size < 1000000) (hR : Roots w) (hg : 0 < g) : Calls Tryz.prog 41 #[.pointer (some ⟨g, 0, none⟩), .string s] w fun e w' => e = .returned (.tuple #[]) ∧ St g w' (l ++ bytesN s) ∧ w.grownBy w' (some g) := by
  have HS : Hid (St g w (l ++ (bytesN s).take 0)) := by rw [List.take_zero, List.append_nil]; exact h
  have HN : Hid ((bytesN s).length = s.size) := bytesN_len s
  have HRR := Lib.hid hR
  have HG := Lib.hid hg
  have HGN : Hid (g < w.heap.size) := by obtain ⟨B, h1, _⟩ := h; exact h1.lt
  clear h hR hg
  go_enter Tryz.func41, Tryz.ntmps41
  go_wp2_with fail
  go_loopg [7] s.size (fun g_ i_ wr => ∃ i : Nat, i ≤ s.size ∧ s.size - i ≤ g_ ∧ i_ = .int .i64 i ∧ Hid (St g wr (l ++ (bytesN s).take i)) ∧ w.grownBy wr (some g))
  case atStart => exact ⟨0, by omega, by omega, rfl, HS, grown_refl _ _⟩
  case round =>
    obtain ⟨i, hi, hg2, rfl, HI, hgr⟩ := hrel
    have HGR := Lib.hid hgr
    by_cases hlt : i < s.size
    · have iw : ((i : Nat) : Int) < (s.size : Int) := by omega
      have IX := fun w => index_at w s .i64 hlt
      have CP := Lib.hid (pput_any g (l ++ (bytesN s).take i) ((bytesN s).getD i 0) wr HI.out (bytesN_lt s i) (by rw [List.length_append, List.length_take]; omega) (HRR.out.grown hgr HG.out (by have := HGN.out; omega)) HG.out)
      have ET : Hid ((bytesN s).take (i + 1) = (bytesN s).take i ++ [(bytesN s).getD i 0]) := take_snoc _ (by rw [HN.out]; exact hlt)
      generalize (bytesN s).getD i 0 = b at *
      clear hgr
      go_wp2_with fail
      refine CP.out.mono ?_
      rintro e w2 ⟨rfl, hst, g2⟩
      rw [List.append_assoc, ← ET.out] at hst
      have K1 := Lib.hid hst
      have K2 := Lib.hid (grown_trans HGR.out g2)
      clear hst g2
      go_wp2_with fail
      go_roundg (s.size - (i + 1))
      case measure => omega
      case rel => exact ⟨i + 1, by omega, Nat.le_refl _, by go_num, K1, K2.out⟩
    · obtain rfl : i = s.size := by omega
      have iw : ¬ (((s.size : Nat) : Int) < (s.size : Int)) := by omega
      have K1 : Hid (St g wr (l ++ bytesN s)) := by
        have := HI.out
        rwa [← HN.out, List.take_length] at this
      clear hgr
      go_wp2_with fail
      go_end0
      exact ⟨rfl, K1.out, HGR.out⟩
theorem pend_any (g : Nat) (l : List Nat) (w : World) (h : St g w l) (hn : l.length < 100000) (hR : Roots w) (hg : 0 < g) : Calls Tryz.prog 44 #[.pointer (some ⟨g, 0, none⟩)] w fun e w' => e = .returned (.agg (toC .u32 (blocks (padL l) ((padL l).length / 64)))) ∧ w.grownBy w' (some g) := by
  have HS := Lib.hid h
  have HRR := Lib.hid hR
  have HG := Lib.hid hg
  have HGN : Hid (g < w.heap.size) := by obtain ⟨B, h1, _⟩ := h; exact h1.lt
  obtain ⟨n, hnn⟩ : ∃ n, n = l.length := ⟨_, rfl⟩
  have HNN := Lib.hid hnn
  rw [← hnn] at hn
  clear h hR hg hnn
  go_enter Tryz.func44, Tryz.ntmps44
  go_upto_region 1 with fail
  obtain ⟨RB, hRB⟩ : ∃ RB, RB = w.heap.size := ⟨_, rfl⟩
  obtain ⟨W1, hW1⟩ : ∃ W1, W1 = w.alloc (.cells #[.int .u32 0, .int .u32 0, .int .u32 0, .int .u32 0, .int .u32 0, .int .u32 0, .int .u32 0, .int .u32 0] 85) := ⟨_, rfl⟩
  rw [← hW1, ← hRB]
  have B1 : Hid (Below w.heap.size w W1) := by rw [hW1]; exact below_al (Below.refl _ _) _
  have P1 : Hid (W1.heap[RB]? = some (.cells #[.int .u32 0, .int .u32 0, .int .u32 0, .int .u32 0, .int .u32 0, .int .u32 0, .int .u32 0, .int .u32 0] 85 (0, 0))) := by show _ = _; rw [hW1, hRB]; exact heap_alloc_new _ _
  have L1 : Hid (RB < W1.heap.size) := (Array.getElem?_eq_some_iff.1 P1.out).1
  have HGB : Hid (g < RB) := by show _ < _; rw [hRB]; exact HGN.out
  have HS1 : Hid (St g W1 l) := HS.out.below B1.out
  have HR1 : Hid (Roots W1) := HRR.out.below B1.out (by have := HGN.out; omega)
  have cn : W1.cell? ⟨g, 72, none⟩ = some (.int .u64 (n : Nat)) := by
    obtain ⟨B, h1, _⟩ := HS1.out
    rw [HNN.out]
    exact h1.n
  have HRB := Lib.hid hRB
  clear hRB hW1
  go_upto_region 2 with fail
  clear cn
  have CP := Lib.hid (pput_any g l 128 W1 HS1.out (by decide) (by rw [← HNN.out]; omega) HR1.out HG.out)
  go_wp2_with fail
  refine CP.out.mono ?_
  rintro e W2 ⟨rfl, hst2, g2⟩
  obtain ⟨zn, hzn⟩ : ∃ zn, zn = zeros n := ⟨_, rfl⟩
  have zb : zn < 64 ∧ (n + 1 + zn) % 64 = 56 ∧ ∀ j, j < zn → (n + 1 + j) % 64 ≠ 56 := by
    rw [hzn]
    unfold zeros
    refine ⟨by omega, by omega, fun j hj => by omega⟩
  have HZN := Lib.hid hzn
  have HS2 : Hid (St g W2 (l ++ [128] ++ List.replicate 0 0)) := by rw [List.replicate_zero, List.append_nil]; exact hst2
  have HG2 := Lib.hid g2
  clear hst2 g2 CP hzn
  go_wp2_with fail
  go_loopg [] zn (fun g_ wr => ∃ j : Nat, j ≤ zn ∧ zn - j ≤ g_ ∧ Hid (St g wr (l ++ [128] ++ List.replicate j 0)) ∧ W1.grownBy wr (some g))
  case atStart => exact ⟨0, by omega, by omega, HS2, HG2.out⟩
  case round =>
    obtain ⟨j, hj, hgh, HI, hgr⟩ := hrel
    have HGR := Lib.hid hgr
    obtain ⟨m, hm⟩ : ∃ m, m = n + 1 + j := ⟨_, rfl⟩
    have HL : Hid ((l ++ [128] ++ List.replicate j 0).length = m) := by show _ = _; rw [List.length_append, List.length_append, List.length_replicate, ← HNN.out, hm]; rfl
    have cn : wr.cell? ⟨g, 72, none⟩ = some (.int .u64 (m : Nat)) := by
      obtain ⟨B, h1, _⟩ := HI.out
      rw [← HL.out]
      exact h1.n
    have HRW : Hid (Roots wr) := HR1.out.grown hgr HG.out (by have := L1.out; omega)
    by_cases hlt : j < zn
    · have j1 : (((m : Int) % 64) != 56) = true := by
        have := zb.2.2 j hlt
        simp
        omega
      have CP := Lib.hid (pput_any g _ 0 wr HI.out (by decide) (by rw [HL.out]; omega) HRW.out HG.out)
      rw [List.append_assoc, show (List.replicate j 0 ++ [0] : List Nat) = List.replicate (j + 1) 0 from (List.replicate_succ' ..).symm] at CP
      clear hgr hm
      go_wp2_with fail
      refine CP.out.mono ?_
      rintro e W3 ⟨rfl, hst3, g3⟩
      have K1 := Lib.hid hst3
      have K2 := Lib.hid (grown_trans HGR.out g3)
      clear hst3 g3 CP
      go_wp2_with fail
      go_roundg (zn - (j + 1))
      case measure => omega
      case rel => exact ⟨j + 1, by omega, Nat.le_refl _, K1, K2.out⟩
    · obtain rfl : zn = j := by omega
      have j1 : (((m : Int) % 64) != 56) = false := by
        have := zb.2.1
        simp
        omega
      obtain ⟨L, hL⟩ : ∃ L, L = l ++ [128] ++ List.replicate zn 0 := ⟨_, rfl⟩
      rw [← hL] at HI HL
      have HPAD : Hid (padL l = L ++ lenB n 8) := by
        show _ = _
        unfold padL
        rw [hL, ← HNN.out, HZN.out]
      have zb2 : m % 64 = 56 := by have := zb.2.1; omega
      have m1 : m ≤ 100100 := by omega
      obtain ⟨wo, hwo⟩ : ∃ wo, wo = wr := ⟨_, rfl⟩
      rw [← hwo] at HI HGR cn ⊢
      clear hgr hm hL hwo zb hlt hgh hj HRW
      go_wp2_with fail
      go_loopg [4] 8 (fun g_ i_ wr => ∃ k : Nat, k ≤ 8 ∧ 8 - k ≤ g_ ∧ i_ = .int .i64 (56 - 8 * (k : Int)) ∧ Hid (St g wr (L ++ lenB n k)) ∧ W1.grownBy wr (some g))
      case atStart => exact ⟨0, by omega, by omega, by simp, by rw [show lenB n 0 = [] from rfl, List.append_nil]; exact HI, HGR.out⟩
      case round =>
        obtain ⟨k, hk, hgh, rfl, HI2, hgr⟩ := hrel
        have HGR2 := Lib.hid hgr
        by_cases hk8 : k < 8
        · obtain ⟨sh, hsh⟩ : ∃ sh : Nat, sh = 8 * (7 - k) := ⟨_, rfl⟩
          have es : 56 - 8 * (k : Int) = (sh : Nat) := by omega
          have HK7 : Hid ((sh : Int) - 8 = 56 - 8 * ((k + 1 : Nat) : Int)) := by show _ = _; omega
          rw [es]
          have HLB : Hid (lenB n (k + 1) = lenB n k ++ [n * 8 / 2 ^ sh % 256]) := by show _ = _; rw [lenB_succ, hsh]
          have HRW : Hid (Roots wr) := HR1.out.grown hgr HG.out (by have := L1.out; omega)
          have HLL : Hid ((L ++ lenB n k).length = m + k) := by show _ = _; rw [List.length_append, HL.out, lenB, List.length_map, List.length_range]
          have CP := Lib.hid (pput_any g _ (n * 8 / 2 ^ sh % 256) wr HI2.out (Nat.mod_lt _ (by decide)) (by rw [HLL.out]; omega) HRW.out HG.out)
          rw [List.append_assoc, ← HLB.out] at CP
          have EY : ((n * 8 / 2 ^ sh % 256 : Nat) : Int) = (n : Int) * 8 / 2 ^ sh % 256 := by
            rw [Int.natCast_emod, Int.natCast_ediv, Int.natCast_mul, Int.natCast_pow]
            rfl
          rw [EY] at CP
          have i1 : (0 : Int) ≤ (sh : Int) := by omega
          have sh56 : sh ≤ 56 := by omega
          clear hgr es hsh EY
          go_wp2_with fail
          refine CP.out.mono ?_
          rintro e W3 ⟨rfl, hst3, g3⟩
          have K1 := Lib.hid hst3
          have K2 := Lib.hid (grown_trans HGR2.out g3)
          clear hst3 g3 CP
          go_wp2_with fail
          go_roundg (8 - (k + 1))
          case measure => omega
          case rel => exact ⟨k + 1, by omega, Nat.le_refl _, by rw [HK7.out], K1, K2.out⟩
        · obtain rfl : k = 8 := by omega
          have i1 : ¬ ((0 : Int) ≤ 56 - 8 * ((8 : Nat) : Int)) := by omega
          have d1 : decide ((0 : Int) ≤ 56 - 8 * ((8 : Nat) : Int)) = false := decide_eq_false i1
          rw [← HPAD.out] at HI2
          obtain ⟨B, hd, _⟩ := HI2.out
          obtain ⟨H, hH⟩ : ∃ H, H = blocks (padL l) ((padL l).length / 64) := ⟨_, rfl⟩
          have HHE := Lib.hid hH
          rw [← hH] at hd
          have LH := Lib.hid hd.load_h
          have IH : Hid ((Tryz.prog.info? 85).map (·.size) = some (H.map fun x => Value.int .u32 (x : Nat)).length) := by show _ = _; rw [List.length_map, hd.1]; exact info8
          have IH1 : Hid ((Tryz.prog.info? 85).map (·.size) = some (toC .u32 H).size) := by show _ = _; rw [toC_size, hd.1]; exact info8
          have IH2 : Hid (Z8.size = (toC .u32 H).size) := by show _ = _; rw [toC_size, hd.1]; rfl
          have PB : Hid (wr.heap[RB]? = some (.cells Z8 85 (0, 0))) := by
            refine (hgr.block RB L1.out ?_).trans P1.out
            intro e
            injection e with e
            have := HGB.out
            omega
          have HF : Hid ((wr.setRow RB (toC .u32 H)).heap[RB]? = some (.cells (toC .u32 H) 85 (0, 0))) := setRow_heap wr RB Z8 (toC .u32 H) 85 (0, 0) PB.out
          have HGF : Hid (w.grownBy (wr.setRow RB (toC .u32 H)) (some g)) := by
            have h1 := grown_trans (grown_below (grown_refl w (some g)) B1.out) hgr
            refine ⟨h1.os, h1.tape, h1.output, by rw [setRow_size]; exact h1.size, fun k hk hn => ?_⟩
            rw [setRow_other _ _ _ _ (by have := HGN.out; rw [HRB.out]; omega)]
            exact h1.block k hk hn
          clear hgr hd hH
          go_upto_region 9 with fail
          go_wp2_with (first | refine wpList_load_off rfl _ _ rfl g 0 rfl _ _ LH.out Tryz.underlying85 rfl IH.out ?_ | refine wpList_store_row rfl _ _ _ rfl RB (toC .u32 H) rfl rfl _ _ PB.out IH1.out IH2.out (toC_one _ _) ?_)
          refine bodyPost_ret (v := .agg (toC .u32 H)) ?_ rfl ⟨by rw [HHE.out], HGF.out⟩
          exact results_cell_row rfl _ _ RB _ _ _ _ rfl HF.out Tryz.underlying85 rfl IH1.out
end Go.Proofs.YtccaiippoephbaaGreatDoor.Slt
/- Salt: the program's begun and written. -/
set_option linter.unusedVariables false
set_option linter.unusedSimpArgs false
set_option maxRecDepth 100000
namespace Go.Proofs.YtccaiippoephbaaGreatDoor.Slt
open Go.RowKit Go.Lib Go.Proofs.YtccaiippoephbaaGreatDoor.Bx

def nib (x j : Nat) : List Nat := (List.range j).map fun i => digit (x / 2 ^ (28 - 4 * i) % 16)
theorem nib_succ (x j : Nat) : nib x (j + 1) = nib x j ++ [digit (x / 2 ^ (28 - 4 * j) % 16)] := by
  unfold nib
  rw [List.range_succ, List.map_append]
  rfl
theorem nib_len (x j : Nat) : (nib x j).length = j := by unfold nib; rw [List.length_map, List.length_range]
theorem nib_8 {x : Nat} (hx : x < 4294967296) : nib x 8 = hexL (bytes4 x) := by
  show [digit (x / 2 ^ 28 % 16), digit (x / 2 ^ 24 % 16), digit (x / 2 ^ 20 % 16), digit (x / 2 ^ 16 % 16), digit (x / 2 ^ 12 % 16), digit (x / 2 ^ 8 % 16), digit (x / 2 ^ 4 % 16), digit (x / 2 ^ 0 % 16)] = [digit (x / 16777216 % 256 / 16), digit (x / 16777216 % 256 % 16), digit (x / 65536 % 256 / 16), digit (x / 65536 % 256 % 16), digit (x / 256 % 256 / 16), digit (x / 256 % 256 % 16), digit (x % 256 / 16), digit (x % 256 % 16)]
  rw [show x / 2 ^ 28 % 16 = x / 16777216 % 256 / 16 by omega, show x / 2 ^ 24 % 16 = x / 16777216 % 256 % 16 by omega, show x / 2 ^ 20 % 16 = x / 65536 % 256 / 16 by omega, show x / 2 ^ 16 % 16 = x / 65536 % 256 % 16 by omega, show x / 2 ^ 12 % 16 = x / 256 % 256 / 16 by omega, show x / 2 ^ 8 % 16 = x / 256 % 256 % 16 by omega, show x / 2 ^ 4 % 16 = x % 256 / 16 by omega, show x / 2 ^ 0 % 16 = x % 256 % 16 by omega]
theorem hexL_app (a b : List Nat) : hexL (a ++ b) = hexL a ++ hexL b := by unfold hexL; rw [List.flatMap_append]
def outN (H : List Nat) (t j : Nat) : List Nat := hexL ((H.take t).flatMap bytes4) ++ nib (H.getD t 0) j
theorem outN_len {H : List Nat} (h : H.length = 8) {t : Nat} (ht : t ≤ 8) (j : Nat) : (outN H t j).length = 8 * t + j := by
  unfold outN
  rw [List.length_append, nib_len, hex_len, flat4_len, List.length_take, h]
  omega
theorem outN_next {H : List Nat} (h : H.length = 8) {t : Nat} (ht : t < 8) (h32 : B32 H) : outN H t 8 = outN H (t + 1) 0 := by
  unfold outN
  rw [nib_8 (h32 t), ← hexL_app, ← flat4_take (by rw [h]; exact ht)]
  show _ = _ ++ []
  rw [List.append_nil]
theorem outN_succ (H : List Nat) (t j : Nat) : outN H t (j + 1) = outN H t j ++ [digit (H.getD t 0 / 2 ^ (28 - 4 * j) % 16)] := by
  unfold outN
  rw [nib_succ, List.append_assoc]
theorem outN_all {H : List Nat} (h : H.length = 8) : outN H 8 0 = hexL (H.flatMap bytes4) := by
  unfold outN
  rw [List.take_of_length_le (by rw [h]; decide)]
  exact List.append_nil _
theorem run_isAgg {t : TypeId} {d : TypeDesc} (h : Tryz.prog.underlying t = some d) (w : World) : (isAgg t).run Tryz.prog w = .ok (match d with | .struct _ | .array _ _ => true | _ => false) w := by
  unfold isAgg
  rw [Sem.run_bind, run_underlying h w]
  cases d <;> rfl
theorem index_row (H : List Nat) (h : H.length = 8) {i : Nat} (hi : i < 8) (w : World) : (Instr.index 85 (.agg (toC .u32 H)) (.int .i64 (i : Nat))).run Tryz.prog w = .ok (.int .u32 (H.getD i 0 : Nat)) w := by
  have hs := run_size (t := 84) (n := 1) (by kernel_rfl) w
  have hi2 : (0 : Int) ≤ (i : Int) ∧ (i : Int) < 8 := by omega
  have hc : (toC .u32 H)[i]? = some (.int .u32 (H.getD i 0 : Nat)) := by
    unfold toC
    rw [List.getElem?_toArray, List.getElem?_map, List.getD_eq_getElem?_getD, List.getElem?_eq_getElem (by omega)]
    rfl
  have ha := run_isAgg (t := 84) Tryz.underlying84 w
  have hp : (part 84 (toC .u32 H) i).run Tryz.prog w = .ok (.int .u32 (H.getD i 0 : Nat)) w := by
    unfold part
    simp [hs, ha, hc, go_sem]
  have h2 : i * 1 = i := Nat.mul_one i
  simp [Instr.index, asIntOf, run_underlying Tryz.underlying85, hi2, hs, hp, go_sem]
  rw [if_pos hi, hc]
  simp [List.getD_eq_getElem?_getD]
theorem bits15 {y : Nat} (hy : y < 4294967296) : bits .and .u32 (y : Int) 15 = ((y % 16 : Nat) : Int) := by
  have h := and32 (a := y) (b := 15) hy (by decide)
  rw [Nat.and_two_pow_sub_one_eq_mod y 4] at h
  exact h
theorem flat4_ok (H : List Nat) : B8 (H.flatMap bytes4) := B8.of fun x hx => by
  obtain ⟨y, _, hx⟩ := List.mem_flatMap.1 hx
  unfold bytes4 at hx
  simp only [List.mem_cons, List.not_mem_nil, or_false] at hx
  rcases hx with rfl | rfl | rfl | rfl <;> exact Nat.mod_lt _ (by decide)
theorem row_one {e : TypeId} {b : Nat} {w : World} {x : Value} (h : w.heap[b]? = some (.cells #[x] e (0, 0))) : Rk.RowK 1 w (.slice (some ⟨b, 0, none⟩) 1 1) [[x]] := by
  refine ⟨fun z hz => ?_, some ⟨b, 0, none⟩, 1, rfl, Nat.le_refl _, by unfold maxLen; omega, .inr ⟨b, 0, rfl, (Array.getElem?_eq_some_iff.1 h).1, fun j hj i u hu => ?_⟩⟩
  · simp only [List.mem_singleton] at hz
    rw [hz]
    rfl
  · rw [cell_of_row _ _ _ _ _ _ h]
    have hj : j < 1 := hj
    match j, hj with
    | 0, _ =>
      match i, hu with
      | 0, hu => exact hu
      | i + 1, hu => simp at hu
theorem pwritten_any (H : List Nat) (w : World) (hl : H.length = 8) (h32 : B32 H) : Calls Tryz.prog 43 #[.agg (toC .u32 H)] w fun e w' => ∃ t, e = .returned (.string t) ∧ bytesN t = hexL (H.flatMap bytes4) ∧ Below w.heap.size w w' := by
  have HL := Lib.hid hl
  have H32 := Lib.hid h32
  obtain ⟨i0, hi0, hz0, hz1, hz2⟩ := Rk.kparts infoU8
  have M1 : Hid (i0.bytes * 64 ≤ 281474976710656) := by show _ ≤ _; rw [hz2]; omega
  have M2 : Hid (64 ≤ maxLen) := by show _ ≤ _; unfold maxLen; omega
  clear hl h32
  go_enter Tryz.func43, Tryz.ntmps43
  go_upto_region 1 with fail
  obtain ⟨W0, hW0⟩ : ∃ W0, W0 = w.alloc (.cells (toC .u32 H) 85) := ⟨_, rfl⟩
  obtain ⟨N, hN⟩ : ∃ N, N = w.heap.size := ⟨_, rfl⟩
  rw [← hW0, ← hN]
  have B0 : Hid (Below w.heap.size w W0) := by rw [hW0]; exact below_al (Below.refl _ _) _
  have P0 : Hid (W0.heap[N]? = some (.cells (toC .u32 H) 85 (0, 0))) := by show _ = _; rw [hW0, hN]; exact heap_alloc_new _ _
  clear hW0 hN
  go_wp2_with (at_make; refine wpList_make_own _ rfl _ _ 128 rfl W0.heap.size 5 i0 (.int .u8 0) 1 Tryz.underlying128 hi0 hz0 hz1 .i64 .i64 _ 64 rfl rfl (by first | rfl | (simp; done) | omega) M1.out M2.out (Nat.le_refl _) ?_)
  intro w1 h1 g1
  have K1 : Hid (OwnN .u8 5 W0.heap.size w1 (.slice (some ⟨W0.heap.size, 0, none⟩) 0 64) []) := ⟨fun x hx => by simp at hx, h1⟩
  have BW1 : Hid (Below W0.heap.size W0 w1) := ⟨g1.os, g1.tape, g1.output, g1.size, fun k hk => g1.block k hk (by simp)⟩
  clear h1 g1 M1 M2 hi0 hz0 hz1 hz2
  have LH : Hid (w1.heap[N]? = some (.cells (toC .u32 H) 85 (0, 0))) := (BW1.out.block _ (Array.getElem?_eq_some_iff.1 P0.out).1).trans P0.out
  have IH : Hid ((Tryz.prog.info? 85).map (·.size) = some (toC .u32 H).size) := by show _ = _; rw [toC_size, HL.out]; exact info8
  go_wp2_with (refine wpList_load_row rfl _ _ rfl N rfl _ _ _ _ LH.out Tryz.underlying85 rfl IH.out ?_)
  clear LH IH
  have HB1 := Lib.hid (below_on B0.out BW1.out)
  go_loopg [3, 9] 8 (fun g_ s_ i_ wr => ∃ t : Nat, t ≤ 8 ∧ 8 - t ≤ g_ ∧ i_ = .int .i64 t ∧ (∃ a c, s_ = .slice a (8 * t) c) ∧ Hid (OwnN .u8 5 W0.heap.size wr s_ (outN H t 0)) ∧ Below W0.heap.size W0 wr)
  case atStart => exact ⟨0, by omega, by omega, rfl, ⟨_, _, rfl⟩, K1, BW1.out⟩
  case round =>
    obtain ⟨t, ht, hgh, rfl, ⟨sa, sc, rfl⟩, HO, hbel⟩ := hrel
    have HB := Lib.hid hbel
    by_cases ht8 : t < 8
    · have iw : ((t : Nat) : Int) < 8 := by omega
      have IX := fun w => index_row H HL.out ht8 w
      have HX := H32.out t
      have HNX : Hid (outN H t 8 = outN H (t + 1) 0) := outN_next HL.out ht8 H32.out
      have HSU : Hid (∀ j, outN H t (j + 1) = outN H t j ++ [digit (H.getD t 0 / 2 ^ (28 - 4 * j) % 16)]) := outN_succ H t
      have HLN : Hid (∀ j, (outN H t j).length = 8 * t + j) := outN_len HL.out (by omega)
      generalize H.getD t 0 = x at *
      obtain ⟨wo, hwo⟩ : ∃ wo, wo = wr := ⟨_, rfl⟩
      rw [← hwo] at HO HB ⊢
      clear hbel hwo
      go_wp2_with fail
      clear IX
      go_loopg [3, 6] 8 (fun g_ s_ i_ wr => ∃ j : Nat, j ≤ 8 ∧ 8 - j ≤ g_ ∧ i_ = .int .i64 (28 - 4 * (j : Int)) ∧ (∃ a c, s_ = .slice a (8 * t + j) c) ∧ Hid (OwnN .u8 5 W0.heap.size wr s_ (outN H t j)) ∧ Below W0.heap.size W0 wr)
      case atStart => exact ⟨0, by omega, by omega, by simp, ⟨_, _, rfl⟩, HO, HB.out⟩
      case round =>
        obtain ⟨j, hj, hgh2, rfl, ⟨ba, bc, rfl⟩, HO2, hbel⟩ := hrel
        have HB2 := Lib.hid hbel
        by_cases hj8 : j < 8
        · obtain ⟨sh, hsh⟩ : ∃ sh : Nat, sh = 28 - 4 * j := ⟨_, rfl⟩
          have es : 28 - 4 * (j : Int) = (sh : Nat) := by omega
          have HK7 : Hid ((sh : Int) - 4 = 28 - 4 * ((j + 1 : Nat) : Int)) := by show _ = _; omega
          rw [es]
          have HS1 := HSU.out j
          rw [← hsh] at HS1
          have E1 : (x : Int) / 2 ^ sh = ((x / 2 ^ sh : Nat) : Int) := by rw [Int.natCast_ediv, Int.natCast_pow]; rfl
          have hxs : x / 2 ^ sh < 4294967296 := Nat.lt_of_le_of_lt (Nat.div_le_self _ _) HX
          have E2 : bits .and .u32 ((x : Int) / 2 ^ sh) 15 = ((x / 2 ^ sh % 16 : Nat) : Int) := by rw [E1]; exact bits15 hxs
          obtain ⟨y, hy⟩ : ∃ y, y = x / 2 ^ sh % 16 := ⟨_, rfl⟩
          have y16 : y < 16 := by rw [hy]; exact Nat.mod_lt _ (by decide)
          rw [← hy] at E2 HS1
          have XD : ∀ w, (Instr.index 9 (.string ⟨#[48, 49, 50, 51, 52, 53, 54, 55, 56, 57, 97, 98, 99, 100, 101, 102]⟩) (.int .u32 (y : Nat))).run Tryz.prog w = .ok (.int .u8 (digit y : Nat)) w := fun w =>
            (index_at w digitsB .u32 (by show _ < 16; omega)).trans (by rw [digits_at _ y16])
          have HD := Lib.hid HS1
          generalize digit y = p at *
          have A1 : Hid (Rk.OwnK 5 1 W0.heap.size (wr.alloc (.cells #[.int .u8 (p : Nat)] 5)) (.slice ba (8 * t + j) bc) ((outN H t j).map fun x => [Value.int .u8 (x : Nat)])) := Rk.OwnK.below HO2.out (below_al (Below.refl _ _) _)
          have A2 : Hid (Rk.RowK 1 (wr.alloc (.cells #[.int .u8 (p : Nat)] 5)) (.slice (some ⟨wr.heap.size, 0, none⟩) 1 1) [[Value.int .u8 (p : Nat)]]) := row_one (heap_alloc_new _ _)
          have A3 : Hid (∀ z ∈ [[Value.int .u8 (p : Nat)]], ∀ q ∈ z, q.oneCell' = true) := fun z hz q hq => by
            simp only [List.mem_singleton] at hz
            subst hz
            simp only [List.mem_singleton] at hq
            subst hq
            rfl
          have A4 : Hid (((outN H t j).map fun x => [Value.int .u8 (x : Nat)]).length + 1 ≤ 100000) := by show _ ≤ _; rw [List.length_map, HLN.out]; omega
          have HBY : Hid (Below W0.heap.size W0 (wr.alloc (.cells #[.int .u8 (p : Nat)] 5))) := below_al HB2.out _
          have A5 : Hid (W0.heap.size ≤ (wr.alloc (.cells #[.int .u8 (p : Nat)] 5)).heap.size) := HBY.out.size
          have i1 : (0 : Int) ≤ (sh : Int) := by omega
          have sh56 : sh ≤ 28 := by omega
          obtain ⟨_, _, _, e4, c3, c4, _⟩ := Rk.OwnK.row HO2.out
          injection e4 with y1 y2 y3
          rw [← y3] at c3 c4
          rw [List.length_map, HLN.out] at c3
          unfold maxLen at c4
          clear hbel es hsh hy HS1 E1 hxs y1 y2 y3
          go_wp2_with (at_builtin; refine Rk.wpList_append_rowk rfl _ _ 128 5 1 1 _ Tryz.underlying128 infoU8 rfl (by decide) (by decide) rfl W0.heap.size _ _ ((outN H t j).map fun x => [Value.int .u8 (x : Nat)]) [[Value.int .u8 (p : Nat)]] rfl rfl A1.out A2.out A3.out A4.out A5.out ?_)
          intro v6 w9 h5 g5 k5
          have K9 : Hid (OwnN .u8 5 W0.heap.size w9 v6 (outN H t (j + 1))) := by
            show Rk.OwnK _ _ _ _ _ _
            rw [HD.out, List.map_append]
            exact h5
          have HB6 := Lib.hid (A1.out.belowOf HBY.out (Nat.le_refl _) A5.out g5)
          obtain ⟨a6, c6, rfl⟩ := K9.out.is_slice
          have HL6 : Hid ((outN H t (j + 1)).length = 8 * t + (j + 1)) := HLN.out _
          clear h5 g5 k5 A1 A2 A3 A4 HBY
          rw [HL6.out] at K9 ⊢
          go_wp2_with fail
          go_roundg (8 - (j + 1))
          case measure => omega
          case rel => exact ⟨j + 1, by omega, Nat.le_refl _, by rw [HK7.out], ⟨_, _, rfl⟩, K9, HB6.out⟩
        · obtain rfl : j = 8 := by omega
          have i1 : ¬ ((0 : Int) ≤ 28 - 4 * ((8 : Nat) : Int)) := by omega
          have d1 : decide ((0 : Int) ≤ 28 - 4 * ((8 : Nat) : Int)) = false := decide_eq_false i1
          have e8 : 8 * t + 8 = 8 * (t + 1) := by omega
          rw [HNX.out, e8] at HO2
          rw [e8]
          clear hbel e8
          go_wp2_with fail
          go_roundg (8 - (t + 1))
          case measure => omega
          case rel => exact ⟨t + 1, by omega, Nat.le_refl _, by go_num, ⟨_, _, rfl⟩, HO2, HB2.out⟩
    · obtain rfl : t = 8 := by omega
      have iw : ¬ (((8 : Nat) : Int) < 8) := by omega
      rw [outN_all HL.out] at HO
      obtain ⟨D, hD⟩ : ∃ D, D = H.flatMap bytes4 := ⟨_, rfl⟩
      rw [← hD] at HO
      have hDL : D.length = 32 := by rw [hD, flat4_len, HL.out]
      have hl : (hexL D).length = 64 := by rw [hex_len, hDL]
      obtain ⟨g, cap, e1, _, hg1, _, _, hc⟩ := HO.out.at_ (by rw [hl]; decide)
      rw [hl] at e1 hc
      injection e1 with e1 e2 e3
      subst e1 e3
      have hD8 : B8 (hexL D) := by
        rw [hD]
        exact hex_ok (flat4_ok H)
      obtain ⟨T, hT⟩ : ∃ T : ByteArray, T = ofN (hexL D) := ⟨_, rfl⟩
      have CV : (convert 128 9 (.slice (some ⟨g, 0, none⟩) 64 sc)).run Tryz.prog wr = .ok (.string T) wr := by
        have h := run_convert_bytes_back (P := Tryz.prog) wr 128 9 5 ⟨g, 0, none⟩ sc ((hexL D).map UInt8.ofNat) Tryz.underlying128 Tryz.underlying5 Tryz.underlying9 (fun j hj => by
          have hj' : j < 64 := by rw [List.length_map, hl] at hj; exact hj
          have hadd : (⟨g, 0, none⟩ : Addr).add j = ⟨g, j, none⟩ := by unfold Addr.add; split <;> simp_all
          rw [hadd, hc j hj', List.getElem_map]
          congr 2
          have h8 := hD8 j
          rw [List.getD_eq_getElem?_getD, List.getElem?_eq_getElem (by rw [hl]; exact hj')] at h8 ⊢
          simp only [Option.getD_some] at h8 ⊢
          rw [UInt8.toNat_ofNat', Nat.mod_eq_of_lt h8])
        rw [List.length_map, hl] at h
        rw [h, hT]
        rfl
      have FN : Hid (bytesN T = hexL (H.flatMap bytes4)) := by show _ = _; rw [hT, ofN_nat hD8, hD]
      have HBF := Lib.hid (below_on B0.out hbel)
      clear hbel hl hc HO hT hD8 hg1 hD hDL
      go_wp2_with fail
      go_ret
      exact ⟨T, rfl, FN.out, HBF.out⟩
end Go.Proofs.YtccaiippoephbaaGreatDoor.Slt
/- Salt: the program's begun and Seal. -/
set_option linter.unusedVariables false
set_option linter.unusedSimpArgs false
set_option maxRecDepth 100000
namespace Go.Proofs.YtccaiippoephbaaGreatDoor.Slt
open Go.RowKit Go.Lib Go.Proofs.YtccaiippoephbaaGreatDoor.Bx

def Z73 : Array Value := digC (List.replicate 8 0) (List.replicate 64 0) 0
def D0 : Array Value := digC H0 (List.replicate 64 0) 0
theorem zero73 : (Tryz.prog.info? 89).map (fun i => (i.zero, i.size)) = some (some (.agg Z73), 73) := by kernel_rfl
theorem zeros73 (w : World) : (zeroValue 89).run Tryz.prog w = .ok (.agg Z73) w := (zero_of_info zero73).1 w
theorem size73 : (Tryz.prog.info? 89).map (·.size) = some 73 := (zero_of_info zero73).2
theorem dsize (H B : List Nat) (n : Nat) (h : H.length = 8) (hb : B.length = 64) : (digC H B n).size = 73 := by
  unfold digC digL
  rw [List.size_toArray, List.length_append, List.length_append, List.length_map, List.length_map, h, hb]
  rfl
theorem done (H B : List Nat) (n : Nat) : (digC H B n).all (·.oneCell') = true := by
  rw [Array.all_eq_true_iff_forall_mem]
  intro x hx
  unfold digC digL at hx
  simp only [List.mem_toArray, List.mem_append, List.mem_map, List.mem_singleton] at hx
  rcases hx with ⟨y, _, rfl⟩ | ⟨y, _, rfl⟩ | rfl <;> rfl
theorem pbegun_any (w : World) : Calls Tryz.prog 40 #[] w fun e w' => e = .returned (.agg D0) ∧ Below w.heap.size w w' := by
  have ZV := zeros73
  have z8 : ¬ Z73.size < 8 := by unfold Z73; rw [dsize (List.replicate 8 0) (List.replicate 64 0) 0 rfl List.length_replicate]; decide
  have HN := Lib.hid (heap_alloc_new w (.cells Z73 89))
  have S1 : Hid ((Tryz.prog.info? 89).map (·.size) = some D0.size) := by show _ = _; unfold D0; rw [dsize H0 (List.replicate 64 0) 0 rfl List.length_replicate]; exact size73
  have S2 : Hid (Z73.size = D0.size) := by show _ = _; unfold D0 Z73; rw [dsize H0 (List.replicate 64 0) 0 rfl List.length_replicate, dsize (List.replicate 8 0) (List.replicate 64 0) 0 rfl List.length_replicate]
  go_enter Tryz.func40, Tryz.ntmps40
  go_wp2_with (first | refine wpList_store_row rfl _ _ _ rfl w.heap.size D0 rfl rfl _ _ HN.out S1.out S2.out (done _ _ _) ?_)
  have HF := setRow_heap (w.alloc (.cells Z73 89)) w.heap.size Z73 D0 89 (0, 0) HN.out
  refine bodyPost_ret (v := .agg D0) ?_ rfl ⟨rfl, below_row (below_al (Below.refl _ _) _) (Nat.le_refl _) _⟩
  exact results_cell_row rfl _ _ w.heap.size _ _ _ _ rfl HF Tryz.underlying89 rfl S1.out
theorem st_begun {g : Nat} {w : World} (h : w.heap[g]? = some (.cells D0 89 (0, 0))) : St g w [] := by
  have e : blocks [] (([] : List Nat).length / 64) = H0 := by
    rw [List.length_nil, Nat.zero_div]
    rfl
  unfold St
  rw [e, List.length_nil]
  refine ⟨List.replicate 64 0, ⟨rfl, List.length_replicate, h⟩, fun i => ?_, fun i hi => by simp at hi⟩
  rw [List.getD_eq_getElem?_getD, List.getElem?_replicate]
  split <;> simp
theorem pseal_any (s p : ByteArray) (w : World) (hs : s.size + p.size ≤ 9000) (hR : Roots w) : Calls Tryz.prog 17 #[.string s, .string p] w fun e w' => ∃ t, e = .returned (.string t) ∧ bytesN t = sealL (bytesN s) (bytesN p) ∧ Below w.heap.size w w' := by
  have ZV := zeros73
  have hw0 : 0 < w.heap.size := block_lt_of_cell (hR 0 (by decide))
  have HW := Lib.hid hw0
  have HRR := Lib.hid hR
  have C0 := Lib.hid (pbegun_any w)
  clear hR hw0
  have S1 : Hid ((Tryz.prog.info? 89).map (·.size) = some D0.size) := by show _ = _; unfold D0; rw [dsize H0 (List.replicate 64 0) 0 rfl List.length_replicate]; exact size73
  have S2 : Hid (Z73.size = D0.size) := by show _ = _; unfold D0 Z73; rw [dsize H0 (List.replicate 64 0) 0 rfl List.length_replicate, dsize (List.replicate 8 0) (List.replicate 64 0) 0 rfl List.length_replicate]
  go_enter Tryz.func17, Tryz.ntmps17
  go_wp2_with fail
  refine C0.out.mono ?_
  rintro e w1 ⟨rfl, b1⟩
  obtain ⟨g, hg⟩ : ∃ g, g = w1.heap.size := ⟨_, rfl⟩
  have HN := Lib.hid (heap_alloc_new w1 (.cells Z73 89))
  have HB1 := Lib.hid b1
  clear b1
  go_upto_region 2 with (refine wpList_store_row rfl _ _ _ rfl w1.heap.size D0 rfl rfl _ _ HN.out S1.out S2.out (done _ _ _) ?_)
  rw [World.setRow_alloc_new]
  obtain ⟨W2, hW2⟩ : ∃ W2, W2 = w1.alloc (.cells D0 89) := ⟨_, rfl⟩
  rw [← hW2, ← hg]
  have B2 : Hid (Below w.heap.size w W2) := by rw [hW2]; exact below_al HB1.out _
  have P2 : Hid (W2.heap[g]? = some (.cells D0 89 (0, 0))) := by show _ = _; rw [hW2, hg]; exact heap_alloc_new _ _
  have HGW : Hid (w.heap.size ≤ g) := by show _ ≤ _; rw [hg]; exact HB1.out.size
  have HG0 : Hid (0 < g) := Nat.lt_of_lt_of_le HW.out HGW.out
  have R2 : Hid (Roots W2) := HRR.out.below B2.out HW.out
  have C1 := Lib.hid (pputText_any g [] s W2 (st_begun P2.out) (by show 0 + s.size < _; omega) R2.out HG0.out)
  clear hW2 hg HN S1 S2 ZV
  go_wp2_with fail
  refine C1.out.mono ?_
  rintro e w3 ⟨rfl, st3, g3⟩
  rw [List.nil_append] at st3
  have R3 : Hid (Roots w3) := R2.out.grown g3 HG0.out (by have := (Array.getElem?_eq_some_iff.1 P2.out).1; omega)
  have hw3 : 0 < w3.heap.size := block_lt_of_cell (R3.out 0 (by decide))
  have C2 := Lib.hid (pput_any g (bytesN s) 0 w3 st3 (by decide) (by rw [bytesN_len]; omega) R3.out HG0.out)
  have G3 := Lib.hid g3
  clear st3 g3 C1
  go_wp2_with fail
  refine C2.out.mono ?_
  rintro e w4 ⟨rfl, st4, g4⟩
  have R4 : Hid (Roots w4) := R3.out.grown g4 HG0.out hw3
  have hw4 : 0 < w4.heap.size := block_lt_of_cell (R4.out 0 (by decide))
  have C3 := Lib.hid (pputText_any g (bytesN s ++ [0]) p w4 st4 (by rw [List.length_append, bytesN_len]; show s.size + 1 + p.size < _; omega) R4.out HG0.out)
  have G4 := Lib.hid (grown_trans G3.out g4)
  clear st4 g4 C2 hw3
  go_wp2_with fail
  refine C3.out.mono ?_
  rintro e w5 ⟨rfl, st5, g5⟩
  have R5 : Hid (Roots w5) := R4.out.grown g5 HG0.out hw4
  have C4 := Lib.hid (pend_any g (bytesN s ++ [0] ++ bytesN p) w5 st5 (by rw [List.length_append, List.length_append, bytesN_len, bytesN_len]; show s.size + 1 + p.size < _; omega) R5.out HG0.out)
  obtain ⟨X, hX⟩ : ∃ X, X = padL (bytesN s ++ [0] ++ bytesN p) := ⟨_, rfl⟩
  rw [← hX] at C4
  obtain ⟨H, hH⟩ : ∃ H, H = blocks X (X.length / 64) := ⟨_, rfl⟩
  rw [← hH] at C4
  have H8 : Hid (H.length = 8) := by rw [hH]; exact blocks_len _ _
  have H32 : Hid (B32 H) := by rw [hH]; exact blocks_ok _ _
  have HE : Hid (sealL (bytesN s) (bytesN p) = hexL (H.flatMap bytes4)) := by
    show _ = _
    unfold sealL sumL
    rw [← hX, hH]
  clear hX hH
  have G5 := Lib.hid (grown_trans G4.out g5)
  clear st5 g5 C3 hw4
  go_wp2_with fail
  refine C4.out.mono ?_
  rintro e w6 ⟨rfl, g6⟩
  have G6 : Hid (Below w.heap.size w w6) := grown_to B2.out (grown_trans G5.out g6) HGW.out B2.out.size
  have C5 := Lib.hid (pwritten_any H w6 H8.out H32.out)
  clear g6 C4
  go_wp2_with fail
  refine C5.out.mono ?_
  rintro e w7 ⟨t, rfl, ht, b7⟩
  have HT : Hid (bytesN t = sealL (bytesN s) (bytesN p)) := by
    show _ = _
    rw [HE.out]
    exact ht
  have G7 := Lib.hid (below_on G6.out b7)
  clear ht b7 C5
  go_wp2_with fail
  go_ret
  exact ⟨t, rfl, HT.out, G7.out⟩
end Go.Proofs.YtccaiippoephbaaGreatDoor.Slt
