/- The closure of MarksHolds, by a contract of its own. (mkclo.py writes it.) -/
import Derived.Test.YtkbadhkjhkmlfaaB
set_option linter.unusedVariables false
namespace Go.Proofs.Ytkbadhkjhkmlfaa.Rig
open Go.RowKit Go.Lib Go.Proofs.Ytkbadhkjhkmlfaa.Rt

theorem rep_succ (k : Nat) (x : Bool) : List.replicate (k + 1) x = List.replicate k x ++ [x] := by
  rw [List.replicate_succ']

set_option maxRecDepth 100000 in
set_option maxHeartbeats 4000000 in
theorem clo_nil {B at_ n : Nat}  {x : Bool} {bs : List Bool} (w : World) (hB : w.heap[B]? = some (.cells #[.slice none 0 0] 57 (0, 0))) (hBL : Bls w (.slice none 0 0) bs) (hat : at_ ≤ bs.length) (hn : n ≤ 100) (hl : bs.length ≤ 10000) (hz : bs.length = 0) :
    Calls Try.prog 26 #[.int .i64 at_, .int .i64 n, .bool x, .pointer (some ⟨B, 0, none⟩)] w fun e w' => e = .returned (.tuple #[]) ∧ ∃ (w3 : World) (v3 : Value), Below w.heap.size w w3 ∧ w' = w3.setCell ⟨B, 0, none⟩ v3 ∧ OwnB w.heap.size w3 v3 (bs.take at_ ++ List.replicate n x ++ bs.drop at_) := by
  have HNIL : Hid (OwnB w.heap.size w (.slice none 0 0) []) := OwnB.nil_ _ _
  obtain ⟨a', cap', hve, hc1, hc2⟩ := hBL.is_slice
  injection hve with hv1 hv2 hv3
  clear hv1 hv2
  obtain rfl : at_ = 0 := by omega
  have ED : bs.drop 0 = [] := by rw [List.drop_zero]; exact List.eq_nil_of_length_eq_zero hz
  clear hv3
  have BX : Hid (∀ w', Below w.heap.size w w' → w'.cell? ⟨B, 0, none⟩ = some (.slice none 0 0) ∧ w'.frozen? ⟨B, 0, none⟩ = false) := fun w' hb => by
    have := (hb.block B (Array.getElem?_eq_some_iff.1 hB).1).trans hB
    exact ⟨cell_of_one this, free_of_one this⟩
  have cB := (BX.out w (Below.refl _ _)).1
  have HA : Hid (Bls w (.slice none 0 0) (bs.take 0)) := by show Bls _ _ _; rw [List.take_zero]; exact Bls.none_of (Nat.zero_le _)
  have HD : Hid (Bls w (.slice none 0 0) (bs.drop 0)) := by show Bls _ _ _; rw [ED]; exact Bls.none_of (Nat.zero_le _)
  have L1 : Hid (([] : List Bool).length + (bs.take 0).length ≤ 100000) := by show _ ≤ _; rw [List.length_take, List.length_nil]; omega
  have L0 : Hid (w.heap.size ≤ w.heap.size) := Nat.le_refl _
  skip
  clear hBL hB
  go_enter Try.func26, Try.ntmps26
  have HO1 : Hid (OwnB w.heap.size w (.slice none 0 0) (bs.take 0 ++ List.replicate 0 x)) := by show OwnB _ _ _ _; rw [List.replicate_zero, List.append_nil, List.take_zero]; exact HNIL.out
  have HB1 : Hid (Below w.heap.size w w) := Below.refl _ w
  clear HNIL HA L1 L0
  go_wp2_with fail
  go_loopg [7, 14] n (fun h t i wr => ∃ (k : Nat) (s : Value), s = t ∧ k ≤ n ∧ n - k ≤ h ∧ i = .int .i64 k ∧ Hid (OwnB w.heap.size wr s (bs.take 0 ++ List.replicate k x)) ∧ Below w.heap.size w wr)
  case atStart => exact ⟨0, _, rfl, Nat.zero_le _, by omega, rfl, HO1.out, HB1.out⟩
  case round =>
    clear HO1 HB1
    obtain ⟨k, s, rfl, hk, hh, rfl, HO, hbel⟩ := hrel
    have HBW := Lib.hid hbel
    obtain ⟨cw, fw⟩ := BX.out _ hbel
    have LK : Hid ((bs.take 0 ++ List.replicate k x).length ≤ 10100) := by show _ ≤ _; rw [List.length_append, List.length_take, List.length_replicate]; omega
    obtain ⟨R, hR⟩ : ∃ R, R = bs.take 0 ++ List.replicate k x := ⟨_, rfl⟩
    by_cases hkn : k < n
    · have HX : Hid (OwnB w.heap.size (wr.alloc (.cells #[.bool x] 4)) s (bs.take 0 ++ List.replicate k x)) := HO.out.below ((Below.refl _ wr).alloc (Nat.le_refl _) _)
      have HBX : Hid (Below w.heap.size w (wr.alloc (.cells #[.bool x] 4))) := hbel.alloc hbel.size _
      have HL : Hid (Bls (wr.alloc (.cells #[.bool x] 4)) (.slice (some ⟨wr.heap.size, 0, none⟩) 1 1) [x]) := bls_lit (heap_alloc_new _ _)
      have L2 : Hid ((bs.take 0 ++ List.replicate k x).length + [x].length ≤ 100000) := by show _ ≤ _; have := LK.out; rw [List.length_singleton]; omega
      have L3 : Hid (w.heap.size ≤ (wr.alloc (.cells #[.bool x] 4)).heap.size) := HBX.out.size
      have ES : Hid ((bs.take 0 ++ List.replicate k x) ++ [x] = bs.take 0 ++ List.replicate (k + 1) x) := by show _ = _; rw [rep_succ, List.append_assoc]
      rw [← hR] at HX L2 ES HO
      clear hbel LK hR
      go_wp2_with (at_builtin; refine wpList_append_bls rfl _ _ rfl w.heap.size _ R rfl HX.out _ [x] rfl HL.out L2.out L3.out ?_)
      intro v2 w2 O2 G2
      rw [ES.out] at O2
      have b2 : Below w.heap.size w w2 := HBX.out.grown G2 L3.out (fun q e => (HX.out.block q e).1)
      clear G2 HX HBX HL L2 L3 ES HO HBW cw fw
      have HO2 := Lib.hid O2
      have HB2 := Lib.hid b2
      clear O2 b2
      go_wp2_with fail
      go_roundg (n - (k + 1))
      case measure => omega
      case rel => exact ⟨k + 1, _, rfl, by omega, Nat.le_refl _, by go_num, HO2.out, HB2.out⟩
    · obtain rfl : k = n := by omega
      have HDW : Hid (Bls wr (.slice none 0 0) (bs.drop 0)) := HD.out.below hbel (Nat.le_refl _)
      have L2 : Hid ((bs.take 0 ++ List.replicate k x).length + (bs.drop 0).length ≤ 100000) := by show _ ≤ _; have := LK.out; rw [List.length_drop]; omega
      have L3 : Hid (w.heap.size ≤ wr.heap.size) := hbel.size
      obtain ⟨F, hF⟩ : ∃ F, F = bs.take 0 ++ List.replicate k x ++ bs.drop 0 := ⟨_, rfl⟩
      have ES : Hid (R ++ bs.drop 0 = F) := by show _ = _; rw [hR, hF]
      rw [← hR] at HO L2
      have HF := Lib.hid hF
      clear hF
      obtain ⟨D, hD⟩ : ∃ D, D = bs.drop 0 := ⟨_, rfl⟩
      rw [← hD] at ES L2 HDW
      clear hbel LK hR hD
      go_wp2_with (at_builtin; refine wpList_append_bls rfl _ _ rfl w.heap.size _ R rfl HO.out _ D rfl HDW.out L2.out L3.out ?_)
      intro v3 w3 O3 G3
      rw [ES.out] at O3
      have b3 : Below w.heap.size w w3 := HBW.out.grown G3 L3.out (fun q e => (HO.out.block q e).1)
      obtain ⟨c3, f3⟩ := BX.out _ b3
      obtain ⟨a3, cap3, rfl, -, -⟩ := O3.bls.is_slice
      obtain ⟨l3, hl3⟩ : ∃ l3, l3 = F.length := ⟨_, rfl⟩
      rw [← hl3] at O3 ⊢
      have HO3 := Lib.hid O3
      have HB3 := Lib.hid b3
      clear O3 b3 G3 HO HDW L2 L3 HBW ES
      clear hl3
      go_wp2_with fail
      go_end0
      exact ⟨rfl, w3, _, HB3.out, rfl, HF.out ▸ HO3.out⟩

set_option maxRecDepth 100000 in
set_option maxHeartbeats 4000000 in
theorem clo_eq {B at_ n : Nat} {g : Nat} {x : Bool} {bs : List Bool} (w : World) (hB : w.heap[B]? = some (.cells #[.slice (some ⟨g, 0, none⟩) bs.length at_] 57 (0, 0))) (hBL : Bls w (.slice (some ⟨g, 0, none⟩) bs.length at_) bs) (hat : at_ ≤ bs.length) (hn : n ≤ 100) (hl : bs.length ≤ 10000)  :
    Calls Try.prog 26 #[.int .i64 at_, .int .i64 n, .bool x, .pointer (some ⟨B, 0, none⟩)] w fun e w' => e = .returned (.tuple #[]) ∧ ∃ (w3 : World) (v3 : Value), Below w.heap.size w w3 ∧ w' = w3.setCell ⟨B, 0, none⟩ v3 ∧ OwnB w.heap.size w3 v3 (bs.take at_ ++ List.replicate n x ++ bs.drop at_) := by
  have HNIL : Hid (OwnB w.heap.size w (.slice none 0 0) []) := OwnB.nil_ _ _
  obtain ⟨a', cap', hve, hc1, hc2⟩ := hBL.is_slice
  injection hve with hv1 hv2 hv3
  clear hv1 hv2
  subst hv3
  have ED : bs.drop at_ = [] := List.drop_eq_nil_of_le hc1
  have EL : bs.length - at_ = 0 := by omega
  have BX : Hid (∀ w', Below w.heap.size w w' → w'.cell? ⟨B, 0, none⟩ = some (.slice (some ⟨g, 0, none⟩) bs.length at_) ∧ w'.frozen? ⟨B, 0, none⟩ = false) := fun w' hb => by
    have := (hb.block B (Array.getElem?_eq_some_iff.1 hB).1).trans hB
    exact ⟨cell_of_one this, free_of_one this⟩
  have cB := (BX.out w (Below.refl _ _)).1
  have HA : Hid (Bls w (.slice (some ⟨g, 0, none⟩) at_ at_) (bs.take at_)) := hBL.take_ at_ hat
  have HD : Hid (Bls w (.slice (some ⟨g, 0, none⟩) 0 0) (bs.drop at_)) := by show Bls _ _ _; rw [ED]; exact Bls.none_of (Nat.zero_le _)
  have L1 : Hid (([] : List Bool).length + (bs.take at_).length ≤ 100000) := by show _ ≤ _; rw [List.length_take, List.length_nil]; omega
  have L0 : Hid (w.heap.size ≤ w.heap.size) := Nat.le_refl _
  skip
  clear hBL hB
  go_enter Try.func26, Try.ntmps26
  go_wp2_with (at_builtin; refine wpList_append_bls rfl _ _ rfl w.heap.size _ [] rfl HNIL.out _ (bs.take at_) rfl HA.out L1.out L0.out ?_)
  intro v1 w1 O1 G1
  have b1 : Below w.heap.size w w1 := (Below.refl _ w).grown G1 (Nat.le_refl _) (by intro k e; cases e)
  have HO1 : Hid (OwnB w.heap.size w1 v1 (bs.take at_ ++ List.replicate 0 x)) := by show OwnB _ _ _ _; rw [List.replicate_zero, List.append_nil]; exact O1
  have HB1 := Lib.hid b1
  clear O1 G1 b1 HNIL HA L1 L0
  go_wp2_with fail
  go_loopg [7, 14] n (fun h t i wr => ∃ (k : Nat) (s : Value), s = t ∧ k ≤ n ∧ n - k ≤ h ∧ i = .int .i64 k ∧ Hid (OwnB w.heap.size wr s (bs.take at_ ++ List.replicate k x)) ∧ Below w.heap.size w wr)
  case atStart => exact ⟨0, _, rfl, Nat.zero_le _, by omega, rfl, HO1.out, HB1.out⟩
  case round =>
    clear HO1 HB1
    obtain ⟨k, s, rfl, hk, hh, rfl, HO, hbel⟩ := hrel
    have HBW := Lib.hid hbel
    obtain ⟨cw, fw⟩ := BX.out _ hbel
    have LK : Hid ((bs.take at_ ++ List.replicate k x).length ≤ 10100) := by show _ ≤ _; rw [List.length_append, List.length_take, List.length_replicate]; omega
    obtain ⟨R, hR⟩ : ∃ R, R = bs.take at_ ++ List.replicate k x := ⟨_, rfl⟩
    by_cases hkn : k < n
    · have HX : Hid (OwnB w.heap.size (wr.alloc (.cells #[.bool x] 4)) s (bs.take at_ ++ List.replicate k x)) := HO.out.below ((Below.refl _ wr).alloc (Nat.le_refl _) _)
      have HBX : Hid (Below w.heap.size w (wr.alloc (.cells #[.bool x] 4))) := hbel.alloc hbel.size _
      have HL : Hid (Bls (wr.alloc (.cells #[.bool x] 4)) (.slice (some ⟨wr.heap.size, 0, none⟩) 1 1) [x]) := bls_lit (heap_alloc_new _ _)
      have L2 : Hid ((bs.take at_ ++ List.replicate k x).length + [x].length ≤ 100000) := by show _ ≤ _; have := LK.out; rw [List.length_singleton]; omega
      have L3 : Hid (w.heap.size ≤ (wr.alloc (.cells #[.bool x] 4)).heap.size) := HBX.out.size
      have ES : Hid ((bs.take at_ ++ List.replicate k x) ++ [x] = bs.take at_ ++ List.replicate (k + 1) x) := by show _ = _; rw [rep_succ, List.append_assoc]
      rw [← hR] at HX L2 ES HO
      clear hbel LK hR
      go_wp2_with (at_builtin; refine wpList_append_bls rfl _ _ rfl w.heap.size _ R rfl HX.out _ [x] rfl HL.out L2.out L3.out ?_)
      intro v2 w2 O2 G2
      rw [ES.out] at O2
      have b2 : Below w.heap.size w w2 := HBX.out.grown G2 L3.out (fun q e => (HX.out.block q e).1)
      clear G2 HX HBX HL L2 L3 ES HO HBW cw fw
      have HO2 := Lib.hid O2
      have HB2 := Lib.hid b2
      clear O2 b2
      go_wp2_with fail
      go_roundg (n - (k + 1))
      case measure => omega
      case rel => exact ⟨k + 1, _, rfl, by omega, Nat.le_refl _, by go_num, HO2.out, HB2.out⟩
    · obtain rfl : k = n := by omega
      have HDW : Hid (Bls wr (.slice (some ⟨g, 0, none⟩) 0 0) (bs.drop at_)) := HD.out.below hbel (Nat.le_refl _)
      have L2 : Hid ((bs.take at_ ++ List.replicate k x).length + (bs.drop at_).length ≤ 100000) := by show _ ≤ _; have := LK.out; rw [List.length_drop]; omega
      have L3 : Hid (w.heap.size ≤ wr.heap.size) := hbel.size
      obtain ⟨F, hF⟩ : ∃ F, F = bs.take at_ ++ List.replicate k x ++ bs.drop at_ := ⟨_, rfl⟩
      have ES : Hid (R ++ bs.drop at_ = F) := by show _ = _; rw [hR, hF]
      rw [← hR] at HO L2
      have HF := Lib.hid hF
      clear hF
      obtain ⟨D, hD⟩ : ∃ D, D = bs.drop at_ := ⟨_, rfl⟩
      rw [← hD] at ES L2 HDW
      clear hbel LK hR hD
      go_wp2_with (at_builtin; refine wpList_append_bls rfl _ _ rfl w.heap.size _ R rfl HO.out _ D rfl HDW.out L2.out L3.out ?_)
      intro v3 w3 O3 G3
      rw [ES.out] at O3
      have b3 : Below w.heap.size w w3 := HBW.out.grown G3 L3.out (fun q e => (HO.out.block q e).1)
      obtain ⟨c3, f3⟩ := BX.out _ b3
      obtain ⟨a3, cap3, rfl, -, -⟩ := O3.bls.is_slice
      obtain ⟨l3, hl3⟩ : ∃ l3, l3 = F.length := ⟨_, rfl⟩
      rw [← hl3] at O3 ⊢
      have HO3 := Lib.hid O3
      have HB3 := Lib.hid b3
      clear O3 b3 G3 HO HDW L2 L3 HBW ES
      clear hl3
      go_wp2_with fail
      go_end0
      exact ⟨rfl, w3, _, HB3.out, rfl, HF.out ▸ HO3.out⟩

set_option maxRecDepth 100000 in
set_option maxHeartbeats 4000000 in
theorem clo_lt {B at_ n : Nat} {g cap : Nat} {x : Bool} {bs : List Bool} (w : World) (hB : w.heap[B]? = some (.cells #[.slice (some ⟨g, 0, none⟩) bs.length cap] 57 (0, 0))) (hBL : Bls w (.slice (some ⟨g, 0, none⟩) bs.length cap) bs) (hat : at_ ≤ bs.length) (hn : n ≤ 100) (hl : bs.length ≤ 10000) (hce : ¬ cap = at_) :
    Calls Try.prog 26 #[.int .i64 at_, .int .i64 n, .bool x, .pointer (some ⟨B, 0, none⟩)] w fun e w' => e = .returned (.tuple #[]) ∧ ∃ (w3 : World) (v3 : Value), Below w.heap.size w w3 ∧ w' = w3.setCell ⟨B, 0, none⟩ v3 ∧ OwnB w.heap.size w3 v3 (bs.take at_ ++ List.replicate n x ++ bs.drop at_) := by
  have HNIL : Hid (OwnB w.heap.size w (.slice none 0 0) []) := OwnB.nil_ _ _
  obtain ⟨a', cap', hve, hc1, hc2⟩ := hBL.is_slice
  injection hve with hv1 hv2 hv3
  clear hv1 hv2
  subst hv3
  have hac : at_ ≤ cap := by omega
  have hn1 : ¬ at_ = cap := fun e => hce e.symm
  have BX : Hid (∀ w', Below w.heap.size w w' → w'.cell? ⟨B, 0, none⟩ = some (.slice (some ⟨g, 0, none⟩) bs.length cap) ∧ w'.frozen? ⟨B, 0, none⟩ = false) := fun w' hb => by
    have := (hb.block B (Array.getElem?_eq_some_iff.1 hB).1).trans hB
    exact ⟨cell_of_one this, free_of_one this⟩
  have cB := (BX.out w (Below.refl _ _)).1
  have HA : Hid (Bls w (.slice (some ⟨g, 0, none⟩) at_ cap) (bs.take at_)) := hBL.take_ at_ hat
  have HD : Hid (Bls w (.slice (some ⟨g, at_, none⟩) (bs.length - at_) (cap - at_)) (bs.drop at_)) := by have := hBL.drop_some at_ hat; rwa [Nat.zero_add] at this
  have L1 : Hid (([] : List Bool).length + (bs.take at_).length ≤ 100000) := by show _ ≤ _; rw [List.length_take, List.length_nil]; omega
  have L0 : Hid (w.heap.size ≤ w.heap.size) := Nat.le_refl _
  skip
  clear hBL hB
  go_enter Try.func26, Try.ntmps26
  go_wp2_with (at_builtin; refine wpList_append_bls rfl _ _ rfl w.heap.size _ [] rfl HNIL.out _ (bs.take at_) rfl HA.out L1.out L0.out ?_)
  intro v1 w1 O1 G1
  have b1 : Below w.heap.size w w1 := (Below.refl _ w).grown G1 (Nat.le_refl _) (by intro k e; cases e)
  have HO1 : Hid (OwnB w.heap.size w1 v1 (bs.take at_ ++ List.replicate 0 x)) := by show OwnB _ _ _ _; rw [List.replicate_zero, List.append_nil]; exact O1
  have HB1 := Lib.hid b1
  clear O1 G1 b1 HNIL HA L1 L0
  go_wp2_with fail
  go_loopg [7, 14] n (fun h t i wr => ∃ (k : Nat) (s : Value), s = t ∧ k ≤ n ∧ n - k ≤ h ∧ i = .int .i64 k ∧ Hid (OwnB w.heap.size wr s (bs.take at_ ++ List.replicate k x)) ∧ Below w.heap.size w wr)
  case atStart => exact ⟨0, _, rfl, Nat.zero_le _, by omega, rfl, HO1.out, HB1.out⟩
  case round =>
    clear HO1 HB1
    obtain ⟨k, s, rfl, hk, hh, rfl, HO, hbel⟩ := hrel
    have HBW := Lib.hid hbel
    obtain ⟨cw, fw⟩ := BX.out _ hbel
    have LK : Hid ((bs.take at_ ++ List.replicate k x).length ≤ 10100) := by show _ ≤ _; rw [List.length_append, List.length_take, List.length_replicate]; omega
    obtain ⟨R, hR⟩ : ∃ R, R = bs.take at_ ++ List.replicate k x := ⟨_, rfl⟩
    by_cases hkn : k < n
    · have HX : Hid (OwnB w.heap.size (wr.alloc (.cells #[.bool x] 4)) s (bs.take at_ ++ List.replicate k x)) := HO.out.below ((Below.refl _ wr).alloc (Nat.le_refl _) _)
      have HBX : Hid (Below w.heap.size w (wr.alloc (.cells #[.bool x] 4))) := hbel.alloc hbel.size _
      have HL : Hid (Bls (wr.alloc (.cells #[.bool x] 4)) (.slice (some ⟨wr.heap.size, 0, none⟩) 1 1) [x]) := bls_lit (heap_alloc_new _ _)
      have L2 : Hid ((bs.take at_ ++ List.replicate k x).length + [x].length ≤ 100000) := by show _ ≤ _; have := LK.out; rw [List.length_singleton]; omega
      have L3 : Hid (w.heap.size ≤ (wr.alloc (.cells #[.bool x] 4)).heap.size) := HBX.out.size
      have ES : Hid ((bs.take at_ ++ List.replicate k x) ++ [x] = bs.take at_ ++ List.replicate (k + 1) x) := by show _ = _; rw [rep_succ, List.append_assoc]
      rw [← hR] at HX L2 ES HO
      clear hbel LK hR
      go_wp2_with (at_builtin; refine wpList_append_bls rfl _ _ rfl w.heap.size _ R rfl HX.out _ [x] rfl HL.out L2.out L3.out ?_)
      intro v2 w2 O2 G2
      rw [ES.out] at O2
      have b2 : Below w.heap.size w w2 := HBX.out.grown G2 L3.out (fun q e => (HX.out.block q e).1)
      clear G2 HX HBX HL L2 L3 ES HO HBW cw fw
      have HO2 := Lib.hid O2
      have HB2 := Lib.hid b2
      clear O2 b2
      go_wp2_with fail
      go_roundg (n - (k + 1))
      case measure => omega
      case rel => exact ⟨k + 1, _, rfl, by omega, Nat.le_refl _, by go_num, HO2.out, HB2.out⟩
    · obtain rfl : k = n := by omega
      have HDW : Hid (Bls wr (.slice (some ⟨g, at_, none⟩) (bs.length - at_) (cap - at_)) (bs.drop at_)) := HD.out.below hbel (Nat.le_refl _)
      have L2 : Hid ((bs.take at_ ++ List.replicate k x).length + (bs.drop at_).length ≤ 100000) := by show _ ≤ _; have := LK.out; rw [List.length_drop]; omega
      have L3 : Hid (w.heap.size ≤ wr.heap.size) := hbel.size
      obtain ⟨F, hF⟩ : ∃ F, F = bs.take at_ ++ List.replicate k x ++ bs.drop at_ := ⟨_, rfl⟩
      have ES : Hid (R ++ bs.drop at_ = F) := by show _ = _; rw [hR, hF]
      rw [← hR] at HO L2
      have HF := Lib.hid hF
      clear hF
      obtain ⟨D, hD⟩ : ∃ D, D = bs.drop at_ := ⟨_, rfl⟩
      rw [← hD] at ES L2 HDW
      clear hbel LK hR hD
      go_wp2_with (at_builtin; refine wpList_append_bls rfl _ _ rfl w.heap.size _ R rfl HO.out _ D rfl HDW.out L2.out L3.out ?_)
      intro v3 w3 O3 G3
      rw [ES.out] at O3
      have b3 : Below w.heap.size w w3 := HBW.out.grown G3 L3.out (fun q e => (HO.out.block q e).1)
      obtain ⟨c3, f3⟩ := BX.out _ b3
      obtain ⟨a3, cap3, rfl, -, -⟩ := O3.bls.is_slice
      obtain ⟨l3, hl3⟩ : ∃ l3, l3 = F.length := ⟨_, rfl⟩
      rw [← hl3] at O3 ⊢
      have HO3 := Lib.hid O3
      have HB3 := Lib.hid b3
      clear O3 b3 G3 HO HDW L2 L3 HBW ES
      clear hl3
      go_wp2_with fail
      go_end0
      exact ⟨rfl, w3, _, HB3.out, rfl, HF.out ▸ HO3.out⟩
end Go.Proofs.Ytkbadhkjhkmlfaa.Rig
