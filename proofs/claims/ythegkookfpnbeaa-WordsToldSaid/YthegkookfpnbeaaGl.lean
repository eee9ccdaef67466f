/- Words: Call of the plain text. -/
import Derived.Test.YthegkookfpnbeaaGk
set_option linter.unusedVariables false
set_option linter.unusedSimpArgs false
set_option maxRecDepth 100000
namespace Go.Proofs.Ythegkookfpnbeaa.Wds
open Go.RowKit Go.Lib Go.Proofs.Ythegkookfpnbeaa.Bx Go.Proofs.Ythegkookfpnbeaa.Frm

def callE (p : Pl) : List UInt8 × Bool :=
  if opE p = 0 ∨ 65535 < p.tok.length then ([], false)
  else if (p.op = 1 ∨ p.op = 4) ∧ 65535 < p.text.length then ([], false)
  else if p.op = 1 ∧ 65535 < p.more.length then ([], false)
  else (bodyL p, true)
/-- What stands ahead of the numbers. -/
def headL (p : Pl) : List UInt8 := [UInt8.ofNat p.op.toNat] ++ (textL p.tok ++ numL p.seq)
theorem head_len (p : Pl) : (headL p).length = p.tok.length + 11 := by
  unfold headL textL
  simp [num_len]
theorem wpAnyH_mono {P : Program} {md : Region.Mode} {ops : Array Oper} {Q : Exit → Act → World → Prop} {S S2 : World → Prop} (h : ∀ w, S2 w → S w) : ∀ (fuel : Nat) (listed : Array Bool) (a : Act) (w : World), wpAnyH P md ops Q S2 fuel listed a w → wpAnyH P md ops Q S fuel listed a w
  | 0, _, _, _, hh => hh
  | fuel + 1, _, _, _, hh => ⟨hh.1, fun i hi => wpOp_mono (fun a' w' h' => ⟨h w' h'.1, wpAnyH_mono h fuel _ a' w' h'.2⟩) (hh.2 i hi)⟩
def Zb (W : World) (b : Nat) (k : Nat) : Prop := W.heap[b]? = some (.cells #[.int .u8 (k : Nat)] 5 (0, 0))
theorem Zb.below {W W' : World} {b k : Nat} (h : Zb W b k) (hb : Below W.heap.size W W') : Zb W' b k := (hb.block b (Array.getElem?_eq_some_iff.1 h).1).trans h
theorem zb_new {W W' : World} {k : Nat} (hb : Below (W.alloc (.cells #[.int .u8 (k : Nat)] 5)).heap.size (W.alloc (.cells #[.int .u8 (k : Nat)] 5)) W') : Zb W' W.heap.size k := Zb.below (W := W.alloc (.cells #[.int .u8 (k : Nat)] 5)) (heap_alloc_new _ _) hb
theorem zb_newd {W W' : World} {k : Nat} (hb : Below (W.alloc (.cells #[.int .u8 (k : Nat)] 5)).drew.heap.size (W.alloc (.cells #[.int .u8 (k : Nat)] 5)).drew W') : Zb W' W.heap.size k := Zb.below (W := (W.alloc (.cells #[.int .u8 (k : Nat)] 5)).drew) (heap_alloc_new _ _) hb
theorem one_conv {W : World} {b k : Nat} (h : Zb W b k) (hk : k < 256) : (convert 52 9 (.slice (some ⟨b, 0, none⟩) 1 1)).run Try.prog W = .ok (.string (mkB [UInt8.ofNat k])) W := by
  have hr : Rk.RowK 1 W (.slice (some ⟨b, 0, none⟩) 1 1) (cellsB [UInt8.ofNat k]) := by
    refine Rk.row_one (e := 5) (y := [.int .u8 ((UInt8.ofNat k).toNat : Nat)]) ?_ rfl
    rw [UInt8.toNat_ofNat', Nat.mod_eq_of_lt (by omega)]
    exact h
  exact row_text hr (by simp)
theorem nums_step {p : Pl} {i : Nat} (h6 : p.n.length = 6) (hi : i < 6) : (p.n.take (i + 1)).flatMap numL = (p.n.take i).flatMap numL ++ numL (nn p i) := by
  rw [List.take_succ_eq_append_getElem (by omega), List.flatMap_append]
  unfold nn
  rw [List.getD_eq_getElem?_getD, List.getElem?_eq_getElem (by omega)]
  simp
set_option maxHeartbeats 8000000 in
theorem rcall_any (p : Pl) (w : World) (hlen : p.n.length = 6) : Calls Try.prog 10 #[plV p] w fun e w' => e = .returned (.tuple #[.string (mkB (callE p).1), .bool (callE p).2]) ∧ Below w.heap.size w w' := by
  obtain ⟨b0, z0⟩ := boxP w p
  obtain ⟨W0, hW0⟩ : ∃ W0, W0 = w.alloc (.cells (cellsP p).toArray 24) := ⟨_, rfl⟩
  rw [← hW0] at b0 z0
  have HW0 : Hid (W0 = w.alloc (.cells #[.int .i64 p.op, .string (mkB p.tok), .int .i64 p.seq, .int .i64 (nn p 0), .int .i64 (nn p 1), .int .i64 (nn p 2), .int .i64 (nn p 3), .int .i64 (nn p 4), .int .i64 (nn p 5), .string (mkB p.text), .string (mkB p.more), .bool p.a, .bool p.b] 24)) := hW0
  have HB0 := Lib.hid b0
  have HZ : Hid (∀ w', Below W0.heap.size W0 w' → w'.cell? ⟨w.heap.size, 0, none⟩ = some (.int .i64 p.op) ∧ w'.cell? ⟨w.heap.size, 1, none⟩ = some (.string (mkB p.tok)) ∧ w'.cell? ⟨w.heap.size, 2, none⟩ = some (.int .i64 p.seq) ∧ w'.cell? ⟨w.heap.size, 3, none⟩ = some (.int .i64 (nn p 0)) ∧ w'.cell? ⟨w.heap.size, 4, none⟩ = some (.int .i64 (nn p 1)) ∧ w'.cell? ⟨w.heap.size, 5, none⟩ = some (.int .i64 (nn p 2)) ∧ w'.cell? ⟨w.heap.size, 6, none⟩ = some (.int .i64 (nn p 3)) ∧ w'.cell? ⟨w.heap.size, 7, none⟩ = some (.int .i64 (nn p 4)) ∧ w'.cell? ⟨w.heap.size, 8, none⟩ = some (.int .i64 (nn p 5)) ∧ w'.cell? ⟨w.heap.size, 9, none⟩ = some (.string (mkB p.text)) ∧ w'.cell? ⟨w.heap.size, 10, none⟩ = some (.string (mkB p.more)) ∧ w'.cell? ⟨w.heap.size, 11, none⟩ = some (.bool p.a) ∧ w'.cell? ⟨w.heap.size, 12, none⟩ = some (.bool p.b)) := fun w' hb => (z0.below hb).all
  have CO : Hid (∀ w', Calls Try.prog 12 #[.agg #[.int .i64 p.op, .string (mkB p.tok), .int .i64 p.seq, .int .i64 (nn p 0), .int .i64 (nn p 1), .int .i64 (nn p 2), .int .i64 (nn p 3), .int .i64 (nn p 4), .int .i64 (nn p 5), .string (mkB p.text), .string (mkB p.more), .bool p.a, .bool p.b]] w' fun e w'' => e = .returned (.int .i64 (opE p)) ∧ Below w'.heap.size w' w'') := fun w' => op_any p w'
  have HC : Hid (callE p = if opE p = 0 ∨ 65535 < p.tok.length then ([], false) else if (p.op = 1 ∨ p.op = 4) ∧ 65535 < p.text.length then ([], false) else if p.op = 1 ∧ 65535 < p.more.length then ([], false) else (bodyL p, true)) := rfl
  have HO : Hid (¬ opE p = 0 → ∃ k : Nat, p.op = (k : Int) ∧ opE p = (k : Int) ∧ 1 ≤ k ∧ k ≤ 15) := fun h => by
    unfold opE at h ⊢
    by_cases h9 : p.op < 1 ∨ 15 < p.op
    · rw [if_pos h9] at h; exact absurd rfl h
    · rw [if_neg h9]
      exact ⟨p.op.toNat, by omega, by omega, by omega, by omega⟩
  obtain ⟨d0, d1, d2, d3, d4, d5, d6, d7, d8, d9, d10, d11, d12⟩ := z0.all
  have sz1 : (mkB p.tok).size = p.tok.length := mkB_size _
  have sz2 : (mkB p.text).size = p.text.length := mkB_size _
  have sz3 : (mkB p.more).size = p.more.length := mkB_size _
  unfold plV
  obtain ⟨r, hr⟩ : ∃ r, r = callE p := ⟨_, rfl⟩
  rw [← hr] at HC ⊢
  have HBO : Hid (bodyL p = headL p ++ ((p.n.take (countN p.op)).flatMap numL ++ (txt (p.op = 1 ∨ p.op = 4) p.text ++ (txt (p.op = 1) p.more ++ (flg (p.op = 14) p.a ++ flg (p.op = 14) p.b))))) := by
    show _ = _
    unfold bodyL headL
    simp only [List.append_assoc]
  have CT1 : Hid (p.tok.length ≤ 65535 → ∀ w', Calls Try.prog 28 #[.string (mkB p.tok)] w' fun e w'' => e = .returned (.string (mkB (textL p.tok))) ∧ Below w'.heap.size w' w'') := fun h w' => text_any p.tok w' h
  have CT2 : Hid (p.text.length ≤ 65535 → ∀ w', Calls Try.prog 28 #[.string (mkB p.text)] w' fun e w'' => e = .returned (.string (mkB (textL p.text))) ∧ Below w'.heap.size w' w'') := fun h w' => text_any p.text w' h
  have CT3 : Hid (p.more.length ≤ 65535 → ∀ w', Calls Try.prog 28 #[.string (mkB p.more)] w' fun e w'' => e = .returned (.string (mkB (textL p.more))) ∧ Below w'.heap.size w' w'') := fun h w' => text_any p.more w' h
  have CN : Hid (∀ (x : Int) w', Calls Try.prog 29 #[.int .i64 x] w' fun e w'' => e = .returned (.string (mkB (numL x))) ∧ Below w'.heap.size w' w'') := fun x w' => number_any x w'
  have CF : Hid (∀ (x : Bool) w', Calls Try.prog 31 #[.bool x] w' fun e w'' => e = .returned (.string (mkB (flagL x))) ∧ Below w'.heap.size w' w'') := fun x w' => flag_any x w'
  have CC : Hid (∀ (x : Int) w', Calls Try.prog 30 #[.int .i64 x] w' fun e w'' => e = .returned (.int .i64 (countN x : Nat)) ∧ Below w'.heap.size w' w'') := fun x w' => count_any x w'
  have HH : Hid (headL p = [UInt8.ofNat p.op.toNat] ++ (textL p.tok ++ numL p.seq) ∧ (headL p).length = p.tok.length + 11) := ⟨rfl, head_len p⟩
  generalize opE p = oe at *
  clear hW0 b0 z0 hr
  by_cases h1 : oe = 0
  · have hr : r = ([], false) := by rw [HC.out, if_pos (.inl h1)]
    rw [h1] at CO
    subst hr
    clear HC h1
    go_enter Try.func10, Try.ntmps10
    go_upto_region 1 with fail
    rw [← HW0.out]
    go_wp2_with fail
    refine (CO.out _).mono ?_
    rintro e w1 ⟨rfl, b1⟩
    have HB1 := Lib.hid (below_on HB0.out b1)
    clear b1 CO
    go_wp2_with fail
    exact bodyPost_ret (v := .tuple #[.string (ByteArray.mk #[]), .bool false]) (by simp [results, Try.results10, go_sem]) rfl ⟨rfl, HB1.out⟩
  · obtain ⟨k, ko, ke, k1, k15⟩ := HO.out h1
    have h1i : ¬ ((k : Nat) : Int) = 0 := by omega
    by_cases h2 : 65535 < p.tok.length
    · have hr : r = ([], false) := by rw [HC.out, if_pos (.inr h2)]
      subst hr
      have g1 : (65535 : Int) < (p.tok.length : Int) := by omega
      subst ke
      generalize mkB p.tok = ts at *
      generalize p.tok.length = m at *
      clear HC h2 HO h1 ko HBO CT1 CT2 CT3 CN CF CC HH
      go_enter Try.func10, Try.ntmps10
      go_upto_region 1 with fail
      rw [← HW0.out]
      go_wp2_with fail
      refine (CO.out _).mono ?_
      rintro e w1 ⟨rfl, b1⟩
      have HB1 := Lib.hid (below_on HB0.out b1)
      clear d0 d1 d2 d3 d4 d5 d6 d7 d8 d9 d10 d11 d12
      obtain ⟨d0, d1, d2, d3, d4, d5, d6, d7, d8, d9, d10, d11, d12⟩ := HZ.out w1 b1
      clear b1 CO
      go_wp2_with fail
      exact bodyPost_ret (v := .tuple #[.string (ByteArray.mk #[]), .bool false]) (by simp [results, Try.results10, go_sem]) rfl ⟨rfl, HB1.out⟩
    · have hno : ¬ (oe = 0 ∨ 65535 < p.tok.length) := by rintro (h | h) <;> omega
      rw [if_neg hno] at HC
      have CT1' := Lib.hid (CT1.out (by omega))
      have g1 : ¬ (65535 : Int) < (p.tok.length : Int) := by omega
      have HK : Hid (k < 256) := by show k < 256; omega
      have wk : IntKind.u8.wrap (k : Int) = (k : Int) := IntWalk.u8_in _ (by omega)
      have HML : Hid (p.tok.length ≤ 65535) := by show _ ≤ _; omega
      obtain ⟨T1, hT1⟩ : ∃ T1, T1 = mkB [UInt8.ofNat k] := ⟨_, rfl⟩
      obtain ⟨tx, htx⟩ : ∃ tx, tx = mkB (textL p.tok) := ⟨_, rfl⟩
      obtain ⟨nx, hnx⟩ : ∃ nx, nx = mkB (numL p.seq) := ⟨_, rfl⟩
      obtain ⟨S1, hS1⟩ : ∃ S1, S1 = T1 ++ tx := ⟨_, rfl⟩
      obtain ⟨hS, hhS⟩ : ∃ hS, hS = mkB (headL p) := ⟨_, rfl⟩
      have HHS := Lib.hid hhS
      have zt : T1.size = 1 ∧ tx.size = p.tok.length + 2 ∧ nx.size = 8 := ⟨by rw [hT1]; rfl, by rw [htx, mkB_size]; rfl, by rw [hnx, mkB_size, num_len]⟩
      have AD1 : ∀ w, (Op.stringOp .add T1 tx).run Try.prog w = .ok (.string S1) w := fun w => by rw [hS1]; exact run_string_add_sum w _ _ (by have := HML.out; omega)
      have AD2 : ∀ w, (Op.stringOp .add S1 nx).run Try.prog w = .ok (.string hS) w := fun w => by
        have e : hS = S1 ++ nx := by
          rw [hhS, hS1, hT1, htx, hnx, HH.out.1, ko, Int.toNat_natCast, mkB_app, mkB_app, List.append_assoc]
        rw [e]
        exact run_string_add_sum w _ _ (by rw [hS1, ByteArray.size_append]; have := HML.out; omega)
      have CV : ∀ w : World, (convert 52 9 (.slice (some ⟨w.heap.size, 0, none⟩) 1 1)).run Try.prog (w.alloc (.cells #[.int .u8 (k : Nat)] 5)) = .ok (.string T1) (w.alloc (.cells #[.int .u8 (k : Nat)] 5)) := fun w => by rw [hT1]; exact one_conv (heap_alloc_new _ _) HK.out
      have CVd : ∀ w : World, (convert 52 9 (.slice (some ⟨w.heap.size, 0, none⟩) 1 1)).run Try.prog (w.alloc (.cells #[.int .u8 (k : Nat)] 5)).drew = .ok (.string T1) (w.alloc (.cells #[.int .u8 (k : Nat)] 5)).drew := fun w => by rw [hT1]; exact one_conv (heap_alloc_new _ _) HK.out
      have CN1 := Lib.hid (CN.out p.seq)
      rw [← htx] at CT1'
      rw [← hnx] at CN1
      have HT1 : Hid (∀ (W : World) (b : Nat), Zb W b k → (convert 52 9 (.slice (some ⟨b, 0, none⟩) 1 1)).run Try.prog W = .ok (.string T1) W) := fun W b h => by rw [hT1]; exact one_conv h HK.out
      subst ke
      have HOP : Hid (p.op = (k : Int)) := ko
      rw [ko] at d0 HZ HW0 CO HC HBO ⊢
      have HPT : Hid (mkB p.tok = mkB p.tok) := rfl
      obtain ⟨ts, hts⟩ : ∃ ts, ts = mkB p.tok := ⟨_, rfl⟩
      obtain ⟨m, hm⟩ : ∃ m, m = p.tok.length := ⟨_, rfl⟩
      rw [← hts] at d1 sz1 HZ HW0 CO CT1' ⊢
      rw [← hm] at sz1 g1
      have q0 : ((k : Int) == 0) = false := beq_eq_false_iff_ne.2 h1i
      have q1 : decide ((65535 : Int) < (m : Int)) = false := decide_eq_false g1
      clear h2 hno HO h1 ko hT1 htx hnx hS1 hhS zt hts hm CT1
      go_enter Try.func10, Try.ntmps10
      go_upto_region 1 with fail
      rw [← HW0.out]
      go_wp2_with fail
      refine (CO.out _).mono ?_
      rintro e w1 ⟨rfl, b1⟩
      have KR := Lib.hid b1
      clear d0 d1 d2 d3 d4 d5 d6 d7 d8 d9 d10 d11 d12
      obtain ⟨d0, d1, d2, d3, d4, d5, d6, d7, d8, d9, d10, d11, d12⟩ := HZ.out w1 b1
      clear b1 CO
      go_upto_region 3 with fail
      go_cut [4] from 15 to 27 (fun s4 wx => s4 = .string hS ∧ Hid (Below W0.heap.size W0 wx))
      case first =>
        have HZ2 : Hid (∀ w', Below W0.heap.size W0 w' → Below W0.heap.size W0 w' ∧ w'.cell? ⟨w.heap.size, 0, none⟩ = some (.int .i64 (k : Int)) ∧ w'.cell? ⟨w.heap.size, 1, none⟩ = some (.string ts) ∧ w'.cell? ⟨w.heap.size, 2, none⟩ = some (.int .i64 p.seq)) := fun w' hb => ⟨hb, (HZ.out w' hb).1, (HZ.out w' hb).2.1, (HZ.out w' hb).2.2.1⟩
        refine wp_region_held_drew (S := fun w' => Below W0.heap.size W0 w' ∧ w'.cell? ⟨w.heap.size, 0, none⟩ = some (.int .i64 (k : Int)) ∧ w'.cell? ⟨w.heap.size, 1, none⟩ = some (.string ts) ∧ w'.cell? ⟨w.heap.size, 2, none⟩ = some (.int .i64 p.seq)) (by kernel_rfl) ?_ (fun hHeld => ?_)
        focus (exact HZ2.out _ (Below.drew KR.out))
        refine' wpAnyH_take (i := 0) (v := _) rfl (by kernel_rfl) (by kernel_rfl) (by kernel_rfl) (fun _ _ _ h => h) (Or.inl ⟨by rfl, ?hy1⟩) (by assumption) ?rest1
        case hy1 => (intro w hSw; (try dsimp only at hSw); go_simp; try with_reducible rfl)
        try simp only [Act.put, List.getElem_toArray, List.getElem_cons_zero, List.getElem_cons_succ, List.setIfInBounds_toArray, List.set_cons_zero, List.set_cons_succ]
        refine' wpAnyH_take (i := 1) (v := _) rfl (by kernel_rfl) (by kernel_rfl) (by kernel_rfl) (fun _ _ _ h => h) (Or.inl ⟨by rfl, ?hy2⟩) (by assumption) ?rest2
        case hy2 => (intro w hSw; (try dsimp only at hSw); go_simp; try with_reducible rfl)
        try simp only [Act.put, List.getElem_toArray, List.getElem_cons_zero, List.getElem_cons_succ, List.setIfInBounds_toArray, List.set_cons_zero, List.set_cons_succ]
        refine' wpAnyH_take (i := 2) (v := _) rfl (by kernel_rfl) (by kernel_rfl) (by kernel_rfl) (fun _ _ _ h => h) (Or.inl ⟨by rfl, ?hy3⟩) (by assumption) ?rest3
        case hy3 => (intro w hSw; (try dsimp only at hSw); go_simp; try with_reducible rfl)
        try simp only [Act.put, List.getElem_toArray, List.getElem_cons_zero, List.getElem_cons_succ, List.setIfInBounds_toArray, List.set_cons_zero, List.set_cons_succ]
        refine' wpAnyH_take (i := 5) (v := _) rfl (by kernel_rfl) (by kernel_rfl) (by kernel_rfl) (fun _ _ _ h => h) (Or.inl ⟨by rfl, ?hy4⟩) (by assumption) ?rest4
        case hy4 => (intro w hSw; (try dsimp only at hSw); go_simp; try with_reducible rfl)
        try simp only [Act.put, List.getElem_toArray, List.getElem_cons_zero, List.getElem_cons_succ, List.setIfInBounds_toArray, List.set_cons_zero, List.set_cons_succ]
        refine' wpAnyH_take (i := 6) (v := _) rfl (by kernel_rfl) (by kernel_rfl) (by kernel_rfl) (fun _ _ _ h => h) (Or.inl ⟨by rfl, ?hy5⟩) (by assumption) ?rest5
        case hy5 => (intro w hSw; (try dsimp only at hSw); go_simp; try with_reducible rfl)
        try simp only [Act.put, List.getElem_toArray, List.getElem_cons_zero, List.getElem_cons_succ, List.setIfInBounds_toArray, List.set_cons_zero, List.set_cons_succ]
        refine' wpAnyH_take (i := 9) (v := _) rfl (by kernel_rfl) (by kernel_rfl) (by kernel_rfl) (fun _ _ _ h => h) (Or.inl ⟨by rfl, ?hy6⟩) (by assumption) ?rest6
        case hy6 => (intro w hSw; (try dsimp only at hSw); go_simp; try with_reducible rfl)
        try simp only [Act.put, List.getElem_toArray, List.getElem_cons_zero, List.getElem_cons_succ, List.setIfInBounds_toArray, List.set_cons_zero, List.set_cons_succ]
        refine' wpAnyH_take (i := 10) (v := _) rfl (by kernel_rfl) (by kernel_rfl) (by kernel_rfl) (fun _ _ _ h => h) (Or.inl ⟨by rfl, ?hy7⟩) (by assumption) ?rest7
        case hy7 => (intro w hSw; (try dsimp only at hSw); go_simp; try with_reducible rfl)
        try simp only [Act.put, List.getElem_toArray, List.getElem_cons_zero, List.getElem_cons_succ, List.setIfInBounds_toArray, List.set_cons_zero, List.set_cons_succ]
        refine wpAnyH_ready (rs := [3, 7]) (by kernel_rfl) (by simp) ?_
        refine AllReadyH.cons rfl (fun K hK => ?_) ?_
        · go_simp
          refine hK.out _ _ ?_ (fun hHeld => ?_)
          focus (exact HZ2.out _ (below_al (w' := w1.drew) (hHeld).1 (.cells #[.int .u8 (k : Nat)] 5)))
          clear hK K
          try simp only [Act.put, List.getElem_toArray, List.getElem_cons_zero, List.getElem_cons_succ, List.setIfInBounds_toArray, List.set_cons_zero, List.set_cons_succ]
          refine wpAnyH_mono (S2 := fun w' => (Below W0.heap.size W0 w' ∧ w'.cell? ⟨w.heap.size, 0, none⟩ = some (.int .i64 (k : Int)) ∧ w'.cell? ⟨w.heap.size, 1, none⟩ = some (.string ts) ∧ w'.cell? ⟨w.heap.size, 2, none⟩ = some (.int .i64 p.seq)) ∧ Zb w' w1.heap.size k) (fun _ h => h.1) _ _ _ _ ?_
          replace hHeld := And.intro hHeld (show Zb ((w1.alloc (.cells #[.int .u8 (k : Nat)] 5)).drew) w1.heap.size k from heap_alloc_new _ _)
          generalize (w1.alloc (.cells #[.int .u8 (k : Nat)] 5)).drew = wb8 at hHeld ⊢
          refine' wpAnyH_take (i := 4) (v := _) rfl (by kernel_rfl) (by kernel_rfl) (by kernel_rfl) (fun _ _ _ h => h) (Or.inl ⟨by rfl, ?hy9⟩) (by assumption) ?rest9
          case hy9 => (intro w hSw; have cv := HT1.out _ _ (hSw.2); (try dsimp only at hSw); go_simp; try with_reducible rfl)
          try simp only [Act.put, List.getElem_toArray, List.getElem_cons_zero, List.getElem_cons_succ, List.setIfInBounds_toArray, List.set_cons_zero, List.set_cons_succ]
          refine wpAnyH_ready (rs := [7]) (by kernel_rfl) (by simp) ?_
          refine AllReadyH.cons rfl (fun K hK => ?_) ?_
          · go_simp
            (go_at_call 28; (with_reducible refine (CT1'.out _).mono ?_); rintro e w10 ⟨rfl, bt10⟩; have hk10 := below_on (B := W0.heap.size) (w := W0) (hHeld.1).1 bt10 (Nat.le_refl _))
            go_wp2_with fail
            refine hK.out _ _ ?_ (fun hHeld => ?_)
            focus (exact ⟨HZ2.out _ hk10, (Zb.below (hHeld.2) bt10)⟩)
            clear hK K
            try simp only [Act.put, List.getElem_toArray, List.getElem_cons_zero, List.getElem_cons_succ, List.setIfInBounds_toArray, List.set_cons_zero, List.set_cons_succ]
            refine' wpAnyH_take (i := 8) (v := _) rfl (by kernel_rfl) (by kernel_rfl) (by kernel_rfl) (fun _ _ _ h => h) (Or.inl ⟨by rfl, ?hy11⟩) (by assumption) ?rest11
            case hy11 => (intro w hSw; (try dsimp only at hSw); go_simp; try with_reducible rfl)
            try simp only [Act.put, List.getElem_toArray, List.getElem_cons_zero, List.getElem_cons_succ, List.setIfInBounds_toArray, List.set_cons_zero, List.set_cons_succ]
            refine wpAnyH_ready (rs := [11]) (by kernel_rfl) (by simp) ?_
            refine AllReadyH.cons rfl (fun K hK => ?_) ?_
            · go_simp
              (go_at_call 29; (with_reducible refine (CN1.out _).mono ?_); rintro e w12 ⟨rfl, bt12⟩; have hk12 := below_on (B := W0.heap.size) (w := W0) (hHeld.1).1 bt12 (Nat.le_refl _))
              go_wp2_with fail
              refine hK.out _ _ ?_ (fun hHeld => ?_)
              focus (exact ⟨HZ2.out _ hk12, (Zb.below (hHeld.2) bt12)⟩)
              clear hK K
              try simp only [Act.put, List.getElem_toArray, List.getElem_cons_zero, List.getElem_cons_succ, List.setIfInBounds_toArray, List.set_cons_zero, List.set_cons_succ]
              refine' wpAnyH_take (i := 12) (v := _) rfl (by kernel_rfl) (by kernel_rfl) (by kernel_rfl) (fun _ _ _ h => h) (Or.inl ⟨by rfl, ?hy13⟩) (by assumption) ?rest13
              case hy13 => (intro w hSw; (try dsimp only at hSw); go_simp; try with_reducible rfl)
              try simp only [Act.put, List.getElem_toArray, List.getElem_cons_zero, List.getElem_cons_succ, List.setIfInBounds_toArray, List.set_cons_zero, List.set_cons_succ]
              refine' wpAnyH_take (i := 13) (v := _) rfl (by kernel_rfl) (by kernel_rfl) (by kernel_rfl) (fun _ _ _ h => h) (Or.inl ⟨by rfl, ?hy14⟩) (by assumption) ?rest14
              case hy14 => (intro w hSw; (try dsimp only at hSw); go_simp; try with_reducible rfl)
              try simp only [Act.put, List.getElem_toArray, List.getElem_cons_zero, List.getElem_cons_succ, List.setIfInBounds_toArray, List.set_cons_zero, List.set_cons_succ]
              refine wpAnyH_done (by kernel_rfl) ?_ _
              go_wp2_with fail
              go_meet
              exact ⟨rfl, (hHeld.1).1⟩
            exact AllReadyH.nil
          exact AllReadyH.nil
        refine AllReadyH.cons rfl (fun K hK => ?_) ?_
        · go_simp
          (go_at_call 28; (with_reducible refine (CT1'.out _).mono ?_); rintro e w15 ⟨rfl, bt15⟩; have hk15 := below_on (B := W0.heap.size) (w := W0) (hHeld).1 bt15 (Nat.le_refl _))
          go_wp2_with fail
          refine hK.out _ _ ?_ (fun hHeld => ?_)
          focus (exact HZ2.out _ hk15)
          clear hK K
          try simp only [Act.put, List.getElem_toArray, List.getElem_cons_zero, List.getElem_cons_succ, List.setIfInBounds_toArray, List.set_cons_zero, List.set_cons_succ]
          refine wpAnyH_ready (rs := [3, 11]) (by kernel_rfl) (by simp) ?_
          refine AllReadyH.cons rfl (fun K hK => ?_) ?_
          · go_simp
            refine hK.out _ _ ?_ (fun hHeld => ?_)
            focus (exact HZ2.out _ (below_al (hHeld).1 _))
            clear hK K
            try simp only [Act.put, List.getElem_toArray, List.getElem_cons_zero, List.getElem_cons_succ, List.setIfInBounds_toArray, List.set_cons_zero, List.set_cons_succ]
            refine wpAnyH_mono (S2 := fun w' => (Below W0.heap.size W0 w' ∧ w'.cell? ⟨w.heap.size, 0, none⟩ = some (.int .i64 (k : Int)) ∧ w'.cell? ⟨w.heap.size, 1, none⟩ = some (.string ts) ∧ w'.cell? ⟨w.heap.size, 2, none⟩ = some (.int .i64 p.seq)) ∧ Zb w' w15.heap.size k) (fun _ h => h.1) _ _ _ _ ?_
            replace hHeld := And.intro hHeld (show Zb ((w15.alloc (.cells #[.int .u8 (k : Nat)] 5))) w15.heap.size k from heap_alloc_new _ _)
            generalize (w15.alloc (.cells #[.int .u8 (k : Nat)] 5)) = wb16 at hHeld ⊢
            refine' wpAnyH_take (i := 4) (v := _) rfl (by kernel_rfl) (by kernel_rfl) (by kernel_rfl) (fun _ _ _ h => h) (Or.inl ⟨by rfl, ?hy17⟩) (by assumption) ?rest17
            case hy17 => (intro w hSw; have cv := HT1.out _ _ (hSw.2); (try dsimp only at hSw); go_simp; try with_reducible rfl)
            try simp only [Act.put, List.getElem_toArray, List.getElem_cons_zero, List.getElem_cons_succ, List.setIfInBounds_toArray, List.set_cons_zero, List.set_cons_succ]
            refine' wpAnyH_take (i := 8) (v := _) rfl (by kernel_rfl) (by kernel_rfl) (by kernel_rfl) (fun _ _ _ h => h) (Or.inl ⟨by rfl, ?hy18⟩) (by assumption) ?rest18
            case hy18 => (intro w hSw; (try dsimp only at hSw); go_simp; try with_reducible rfl)
            try simp only [Act.put, List.getElem_toArray, List.getElem_cons_zero, List.getElem_cons_succ, List.setIfInBounds_toArray, List.set_cons_zero, List.set_cons_succ]
            refine wpAnyH_ready (rs := [11]) (by kernel_rfl) (by simp) ?_
            refine AllReadyH.cons rfl (fun K hK => ?_) ?_
            · go_simp
              (go_at_call 29; (with_reducible refine (CN1.out _).mono ?_); rintro e w19 ⟨rfl, bt19⟩; have hk19 := below_on (B := W0.heap.size) (w := W0) (hHeld.1).1 bt19 (Nat.le_refl _))
              go_wp2_with fail
              refine hK.out _ _ ?_ (fun hHeld => ?_)
              focus (exact ⟨HZ2.out _ hk19, (Zb.below (hHeld.2) bt19)⟩)
              clear hK K
              try simp only [Act.put, List.getElem_toArray, List.getElem_cons_zero, List.getElem_cons_succ, List.setIfInBounds_toArray, List.set_cons_zero, List.set_cons_succ]
              refine' wpAnyH_take (i := 12) (v := _) rfl (by kernel_rfl) (by kernel_rfl) (by kernel_rfl) (fun _ _ _ h => h) (Or.inl ⟨by rfl, ?hy20⟩) (by assumption) ?rest20
              case hy20 => (intro w hSw; (try dsimp only at hSw); go_simp; try with_reducible rfl)
              try simp only [Act.put, List.getElem_toArray, List.getElem_cons_zero, List.getElem_cons_succ, List.setIfInBounds_toArray, List.set_cons_zero, List.set_cons_succ]
              refine' wpAnyH_take (i := 13) (v := _) rfl (by kernel_rfl) (by kernel_rfl) (by kernel_rfl) (fun _ _ _ h => h) (Or.inl ⟨by rfl, ?hy21⟩) (by assumption) ?rest21
              case hy21 => (intro w hSw; (try dsimp only at hSw); go_simp; try with_reducible rfl)
              try simp only [Act.put, List.getElem_toArray, List.getElem_cons_zero, List.getElem_cons_succ, List.setIfInBounds_toArray, List.set_cons_zero, List.set_cons_succ]
              refine wpAnyH_done (by kernel_rfl) ?_ _
              go_wp2_with fail
              go_meet
              exact ⟨rfl, (hHeld.1).1⟩
            exact AllReadyH.nil
          refine AllReadyH.cons rfl (fun K hK => ?_) ?_
          · go_simp
            (go_at_call 29; (with_reducible refine (CN1.out _).mono ?_); rintro e w22 ⟨rfl, bt22⟩; have hk22 := below_on (B := W0.heap.size) (w := W0) (hHeld).1 bt22 (Nat.le_refl _))
            go_wp2_with fail
            refine hK.out _ _ ?_ (fun hHeld => ?_)
            focus (exact HZ2.out _ hk22)
            clear hK K
            try simp only [Act.put, List.getElem_toArray, List.getElem_cons_zero, List.getElem_cons_succ, List.setIfInBounds_toArray, List.set_cons_zero, List.set_cons_succ]
            refine wpAnyH_ready (rs := [3]) (by kernel_rfl) (by simp) ?_
            refine AllReadyH.cons rfl (fun K hK => ?_) ?_
            · go_simp
              refine hK.out _ _ ?_ (fun hHeld => ?_)
              focus (exact HZ2.out _ (below_al (hHeld).1 _))
              clear hK K
              try simp only [Act.put, List.getElem_toArray, List.getElem_cons_zero, List.getElem_cons_succ, List.setIfInBounds_toArray, List.set_cons_zero, List.set_cons_succ]
              refine wpAnyH_mono (S2 := fun w' => (Below W0.heap.size W0 w' ∧ w'.cell? ⟨w.heap.size, 0, none⟩ = some (.int .i64 (k : Int)) ∧ w'.cell? ⟨w.heap.size, 1, none⟩ = some (.string ts) ∧ w'.cell? ⟨w.heap.size, 2, none⟩ = some (.int .i64 p.seq)) ∧ Zb w' w22.heap.size k) (fun _ h => h.1) _ _ _ _ ?_
              replace hHeld := And.intro hHeld (show Zb ((w22.alloc (.cells #[.int .u8 (k : Nat)] 5))) w22.heap.size k from heap_alloc_new _ _)
              generalize (w22.alloc (.cells #[.int .u8 (k : Nat)] 5)) = wb23 at hHeld ⊢
              refine' wpAnyH_take (i := 4) (v := _) rfl (by kernel_rfl) (by kernel_rfl) (by kernel_rfl) (fun _ _ _ h => h) (Or.inl ⟨by rfl, ?hy24⟩) (by assumption) ?rest24
              case hy24 => (intro w hSw; have cv := HT1.out _ _ (hSw.2); (try dsimp only at hSw); go_simp; try with_reducible rfl)
              try simp only [Act.put, List.getElem_toArray, List.getElem_cons_zero, List.getElem_cons_succ, List.setIfInBounds_toArray, List.set_cons_zero, List.set_cons_succ]
              refine' wpAnyH_take (i := 8) (v := _) rfl (by kernel_rfl) (by kernel_rfl) (by kernel_rfl) (fun _ _ _ h => h) (Or.inl ⟨by rfl, ?hy25⟩) (by assumption) ?rest25
              case hy25 => (intro w hSw; (try dsimp only at hSw); go_simp; try with_reducible rfl)
              try simp only [Act.put, List.getElem_toArray, List.getElem_cons_zero, List.getElem_cons_succ, List.setIfInBounds_toArray, List.set_cons_zero, List.set_cons_succ]
              refine' wpAnyH_take (i := 12) (v := _) rfl (by kernel_rfl) (by kernel_rfl) (by kernel_rfl) (fun _ _ _ h => h) (Or.inl ⟨by rfl, ?hy26⟩) (by assumption) ?rest26
              case hy26 => (intro w hSw; (try dsimp only at hSw); go_simp; try with_reducible rfl)
              try simp only [Act.put, List.getElem_toArray, List.getElem_cons_zero, List.getElem_cons_succ, List.setIfInBounds_toArray, List.set_cons_zero, List.set_cons_succ]
              refine' wpAnyH_take (i := 13) (v := _) rfl (by kernel_rfl) (by kernel_rfl) (by kernel_rfl) (fun _ _ _ h => h) (Or.inl ⟨by rfl, ?hy27⟩) (by assumption) ?rest27
              case hy27 => (intro w hSw; (try dsimp only at hSw); go_simp; try with_reducible rfl)
              try simp only [Act.put, List.getElem_toArray, List.getElem_cons_zero, List.getElem_cons_succ, List.setIfInBounds_toArray, List.set_cons_zero, List.set_cons_succ]
              refine wpAnyH_done (by kernel_rfl) ?_ _
              go_wp2_with fail
              go_meet
              exact ⟨rfl, (hHeld.1).1⟩
            exact AllReadyH.nil
          exact AllReadyH.nil
        exact AllReadyH.nil
      case rest =>
        obtain ⟨rfl, KR2⟩ := hcut
        obtain ⟨F, hF⟩ : ∃ F : Nat → List UInt8, F = fun i => headL p ++ (p.n.take i).flatMap numL := ⟨_, rfl⟩
        have HF0 : Hid (hS = mkB (F 0)) := by show _ = _; rw [HHS.out, hF]; simp
        have HFN : Hid (∀ i, i < 6 → mkB (F (i + 1)) = mkB (F i) ++ mkB (numL (nn p i))) := fun i hi => by
          have h1 := nums_step hlen hi
          rw [hF]
          show mkB (headL p ++ _) = mkB (headL p ++ _) ++ _
          rw [h1, ← List.append_assoc, mkB_app]
        have HFL : Hid (∀ i, i ≤ 6 → (mkB (F i)).size ≤ 65535 + 11 + 48) := fun i hi => by
          rw [mkB_size, hF]
          show (headL p ++ (p.n.take i).flatMap numL).length ≤ _
          rw [List.length_append, HH.out.2]
          have h1 := HML.out
          have h2 := nums_len (p.n.take i)
          unfold numsL at h2
          rw [h2, List.length_take]
          omega
        have HFE : Hid (∀ i, F i = headL p ++ (p.n.take i).flatMap numL) := fun i => by rw [hF]
        obtain ⟨c, hc⟩ : ∃ c, c = countN (k : Int) := ⟨_, rfl⟩
        have c6 : c ≤ 6 := by rw [hc]; exact count_le _
        have CC1 := Lib.hid (CC.out (k : Int))
        rw [← hc] at CC1
        have HC6 := Lib.hid hc
        rw [HF0.out]
        clear hF AD1 AD2 CV CVd hc KR CT1' CN1 HT1 d0 d1 d2 d3 d4 d5 d6 d7 d8 d9 d10 d11 d12
        have HN6 : Hid (∀ w', Below W0.heap.size W0 w' → ∀ i, i < 6 → w'.cell? ⟨w.heap.size, 3 + i, none⟩ = some (.int .i64 (nn p i))) := fun w' hb i hi => by
          obtain ⟨_, _, _, e0, e1, e2, e3, e4, e5, _⟩ := HZ.out w' hb
          match i, hi with
          | 0, _ => exact e0
          | 1, _ => exact e1
          | 2, _ => exact e2
          | 3, _ => exact e3
          | 4, _ => exact e4
          | 5, _ => exact e5
        go_upto_region 4 with fail
        go_wp2_with fail
        go_loopg [4, 5] c (fun g s_ i_ wr => ∃ (i : Nat), i ≤ c ∧ c - i ≤ g ∧ i_ = .int .i64 i ∧ s_ = .string (mkB (F i)) ∧ Hid (Below W0.heap.size W0 wr))
        case atStart => exact ⟨0, by omega, by omega, rfl, rfl, KR2⟩
        case round =>
          obtain ⟨i, hi, hg, rfl, rfl, HB⟩ := hrel
          obtain ⟨d0, _⟩ := HZ.out wr HB.out
          by_cases hic : i < c
          · have iw : ((i : Nat) : Int) < (c : Int) := by omega
            have n0 : (0 : Int) ≤ (i : Int) := by omega
            have i6 : (i : Int) < 6 := by omega
            have CN1 := Lib.hid (CN.out (nn p i))
            have dn := fun w' hb => HN6.out w' hb i (by omega)
            have HDN := Lib.hid dn
            obtain ⟨si, hsi⟩ : ∃ si, si = mkB (F i) := ⟨_, rfl⟩
            obtain ⟨ni, hni⟩ : ∃ ni, ni = mkB (numL (nn p i)) := ⟨_, rfl⟩
            have AD : ∀ w, (Op.stringOp .add si ni).run Try.prog w = .ok (.string (mkB (F (i + 1)))) w := fun w => by
              rw [HFN.out i (by omega), ← hsi, ← hni]
              exact run_string_add_sum w _ _ (by rw [hsi, hni, mkB_size (numL _), num_len]; have := HFL.out i (by omega); omega)
            rw [← hni] at CN1
            rw [← hsi]
            generalize nn p i = z at *
            clear hsi hni dn
            go_wp2_with fail
            refine (CC1.out _).mono ?_
            rintro e w5 ⟨rfl, b5⟩
            have HB5 := Lib.hid (below_on HB.out b5)
            have d3 := HDN.out w5 HB5.out
            clear b5 d0
            go_wp2_with fail
            refine (CN1.out _).mono ?_
            rintro e w6 ⟨rfl, b6⟩
            have HB6 := Lib.hid (below_on HB5.out b6)
            clear b6 d3
            go_wp2_with fail
            go_roundg (c - (i + 1))
            case measure => omega
            case rel => exact ⟨i + 1, by omega, Nat.le_refl _, by go_num, rfl, HB6⟩
          · obtain rfl : i = c := by omega
            have iw : ¬ (((i : Nat) : Int) < (i : Int)) := by omega
            obtain ⟨f0, hf0⟩ : ∃ f0, f0 = mkB (F i) := ⟨_, rfl⟩
            have hbody : Hid (mkB (bodyL p) = f0 ++ mkB (txt ((k : Int) = 1 ∨ (k : Int) = 4) p.text ++ (txt ((k : Int) = 1) p.more ++ (flg ((k : Int) = 14) p.a ++ flg ((k : Int) = 14) p.b)))) := by
              show _ = _
              rw [hf0, HFE.out, mkB_app, HBO.out, ← HC6.out]
              simp only [List.append_assoc]
            have HFS : Hid (f0.size ≤ 65535 + 11 + 48) := by show _ ≤ _; rw [hf0]; exact HFL.out i c6
            rw [← hf0]
            clear hf0 HBO HFL HFN HFE HF0 HN6 HC6
            go_wp2_with fail
            refine (CC1.out _).mono ?_
            rintro e w5 ⟨rfl, b5⟩
            have KR5 := Lib.hid (below_on HB.out b5)
            have HBW := Lib.hid (below_on HB0.out KR5.out)
            clear d0 b5 HB CC1
            obtain ⟨d0, d1, d2, d3, d4, d5, d6, d7, d8, d9, d10, d11, d12⟩ := HZ.out w5 KR5.out
            by_cases e1 : k = 1
            · subst e1
              by_cases ht : 65535 < p.text.length
              · have hr : r = ([], false) := by rw [HC.out, if_pos ⟨.inl rfl, ht⟩]
                have g9 : (65535 : Int) < (p.text.length : Int) := by omega
                subst hr
                generalize mkB p.text = xs at *
                generalize p.text.length = m2 at *
                clear HC hbody HFS CT2 CT3
                go_wp2_with fail
                exact bodyPost_ret (v := .tuple #[.string (ByteArray.mk #[]), .bool false]) (by simp [results, Try.results10, go_sem]) rfl ⟨rfl, HBW.out⟩
              · have g9 : ¬ (65535 : Int) < (p.text.length : Int) := by omega
                have C2 := Lib.hid (CT2.out (by omega))
                obtain ⟨x1, hx1⟩ : ∃ x1, x1 = mkB (textL p.text) := ⟨_, rfl⟩
                obtain ⟨f1, hf1⟩ : ∃ f1, f1 = f0 ++ x1 := ⟨_, rfl⟩
                have hb : 65535 ≥ p.more.length → mkB (bodyL p) = f1 ++ mkB (textL p.more) := fun _ => by
                  rw [hbody.out, hf1, hx1]
                  unfold txt flg
                  rw [if_pos (.inl rfl), if_pos (show ((1 : Nat) : Int) = 1 from rfl), if_neg (by omega), if_neg (by omega), List.append_nil, List.append_nil, ByteArray.append_assoc, mkB_app]
                have hxs : x1.size = p.text.length + 2 := by rw [hx1, mkB_size]; rfl
                have HF1 : Hid (f1.size ≤ 65535 + 11 + 48 + 65535 + 2) := by show _ ≤ _; rw [hf1, ByteArray.size_append]; have := HFS.out; omega
                have AD : ∀ w, (Op.stringOp .add f0 x1).run Try.prog w = .ok (.string f1) w := fun w => by
                  rw [hf1]
                  exact run_string_add_sum w _ _ (by have := HFS.out; omega)
                rw [← hx1] at C2
                have HBO := Lib.hid hb
                have HTX : Hid (p.text.length ≤ 65535) := by show _ ≤ _; omega
                rw [if_neg (by omega)] at HC
                generalize mkB p.text = xs at *
                generalize p.text.length = m2 at *
                clear hbody HFS CT2 hb hx1 hf1
                by_cases hm : 65535 < p.more.length
                · have hr : r = ([], false) := by rw [HC.out, if_pos ⟨rfl, hm⟩]
                  have g8 : (65535 : Int) < (p.more.length : Int) := by omega
                  subst hr
                  generalize mkB p.more = ms at *
                  generalize p.more.length = m3 at *
                  clear HC CT3 HBO
                  go_wp2_with fail
                  refine (C2.out _).mono ?_
                  rintro e w7 ⟨rfl, b7⟩
                  have KR7 := Lib.hid (below_on KR5.out b7)
                  have HBW7 := Lib.hid (below_on HB0.out KR7.out)
                  clear d0 d1 d2 d3 d4 d5 d6 d7 d8 d9 d10 d11 d12 b7 KR5
                  obtain ⟨d0, d1, d2, d3, d4, d5, d6, d7, d8, d9, d10, d11, d12⟩ := HZ.out w7 KR7.out
                  go_wp2_with fail
                  exact bodyPost_ret (v := .tuple #[.string (ByteArray.mk #[]), .bool false]) (by simp [results, Try.results10, go_sem]) rfl ⟨rfl, HBW7.out⟩
                · have hr : r = (bodyL p, true) := by rw [HC.out, if_neg (by omega)]
                  have g8 : ¬ (65535 : Int) < (p.more.length : Int) := by omega
                  have C3 := Lib.hid (CT3.out (by omega))
                  obtain ⟨x2, hx2⟩ : ∃ x2, x2 = mkB (textL p.more) := ⟨_, rfl⟩
                  have hxs2 : x2.size = p.more.length + 2 := by rw [hx2, mkB_size]; rfl
                  obtain ⟨fin, hfin⟩ : ∃ fin, fin = mkB (bodyL p) := ⟨_, rfl⟩
                  have AD2 : ∀ w, (Op.stringOp .add f1 x2).run Try.prog w = .ok (.string fin) w := fun w => by
                    rw [hfin, HBO.out (by omega), ← hx2]
                    exact run_string_add_sum w _ _ (by have := HF1.out; omega)
                  have HFIN := Lib.hid hfin
                  rw [← hx2] at C3
                  subst hr
                  generalize mkB p.more = ms at *
                  generalize p.more.length = m3 at *
                  clear HC CT3 HBO hfin hx2
                  go_wp2_with fail
                  refine (C2.out _).mono ?_
                  rintro e w7 ⟨rfl, b7⟩
                  have KR7 := Lib.hid (below_on KR5.out b7)
                  clear d0 d1 d2 d3 d4 d5 d6 d7 d8 d9 d10 d11 d12 b7 KR5
                  obtain ⟨d0, d1, d2, d3, d4, d5, d6, d7, d8, d9, d10, d11, d12⟩ := HZ.out w7 KR7.out
                  go_wp2_with fail
                  refine (C3.out _).mono ?_
                  rintro e w8 ⟨rfl, b8⟩
                  have KR8 := Lib.hid (below_on KR7.out b8)
                  have HBW8 := Lib.hid (below_on HB0.out KR8.out)
                  clear d0 d1 d2 d3 d4 d5 d6 d7 d8 d9 d10 d11 d12 b8 KR7
                  obtain ⟨d0, d1, d2, d3, d4, d5, d6, d7, d8, d9, d10, d11, d12⟩ := HZ.out w8 KR8.out
                  go_wp2_with fail
                  exact bodyPost_ret (v := .tuple #[.string fin, .bool true]) (by simp [results, Try.results10, go_sem]) rfl ⟨by rw [HFIN.out], HBW8.out⟩
            · by_cases e4 : k = 4
              · subst e4
                have n1 : ¬ ((4 : Nat) : Int) = 1 := by omega
                by_cases ht : 65535 < p.text.length
                · have hr : r = ([], false) := by rw [HC.out, if_pos ⟨.inr rfl, ht⟩]
                  have g9 : (65535 : Int) < (p.text.length : Int) := by omega
                  subst hr
                  generalize mkB p.text = xs at *
                  generalize p.text.length = m2 at *
                  clear HC hbody HFS CT2 CT3
                  go_wp2_with fail
                  exact bodyPost_ret (v := .tuple #[.string (ByteArray.mk #[]), .bool false]) (by simp [results, Try.results10, go_sem]) rfl ⟨rfl, HBW.out⟩
                · have hr : r = (bodyL p, true) := by rw [HC.out, if_neg (by omega), if_neg (by omega)]
                  have g9 : ¬ (65535 : Int) < (p.text.length : Int) := by omega
                  have C2 := Lib.hid (CT2.out (by omega))
                  obtain ⟨x1, hx1⟩ : ∃ x1, x1 = mkB (textL p.text) := ⟨_, rfl⟩
                  have hb : mkB (bodyL p) = f0 ++ x1 := by
                    rw [hbody.out, hx1]
                    unfold txt flg
                    rw [if_pos (.inr rfl), if_neg (by omega), if_neg (by omega), if_neg (by omega)]
                    simp
                  have hxs : x1.size = p.text.length + 2 := by rw [hx1, mkB_size]; rfl
                  obtain ⟨fin, hfin⟩ : ∃ fin, fin = mkB (bodyL p) := ⟨_, rfl⟩
                  have AD : ∀ w, (Op.stringOp .add f0 x1).run Try.prog w = .ok (.string fin) w := fun w => by
                    rw [hfin, hb]
                    exact run_string_add_sum w _ _ (by have := HFS.out; omega)
                  have HFIN := Lib.hid hfin
                  rw [← hx1] at C2
                  subst hr
                  generalize mkB p.text = xs at *
                  generalize p.text.length = m2 at *
                  clear HC hbody HFS CT2 CT3 hb hfin hx1
                  go_wp2_with fail
                  refine (C2.out _).mono ?_
                  rintro e w7 ⟨rfl, b7⟩
                  have KR7 := Lib.hid (below_on KR5.out b7)
                  have HBW7 := Lib.hid (below_on HB0.out KR7.out)
                  clear d0 d1 d2 d3 d4 d5 d6 d7 d8 d9 d10 d11 d12 b7 KR5
                  obtain ⟨d0, d1, d2, d3, d4, d5, d6, d7, d8, d9, d10, d11, d12⟩ := HZ.out w7 KR7.out
                  go_wp2_with fail
                  exact bodyPost_ret (v := .tuple #[.string fin, .bool true]) (by simp [results, Try.results10, go_sem]) rfl ⟨by rw [HFIN.out], HBW7.out⟩
              · by_cases e14 : k = 14
                · subst e14
                  have hr : r = (bodyL p, true) := by rw [HC.out, if_neg (by omega), if_neg (by omega)]
                  obtain ⟨x1, hx1⟩ : ∃ x1, x1 = mkB (flagL p.a) := ⟨_, rfl⟩
                  obtain ⟨x2, hx2⟩ : ∃ x2, x2 = mkB (flagL p.b) := ⟨_, rfl⟩
                  obtain ⟨f1, hf1⟩ : ∃ f1, f1 = f0 ++ x1 := ⟨_, rfl⟩
                  have hb : mkB (bodyL p) = f1 ++ x2 := by
                    rw [hbody.out, hf1, hx1, hx2]
                    unfold txt flg
                    rw [if_neg (by omega), if_neg (by omega), if_pos (show ((14 : Nat) : Int) = 14 from rfl), if_pos (show ((14 : Nat) : Int) = 14 from rfl), ByteArray.append_assoc, mkB_app]
                    rfl
                  have hxs : x1.size = 1 ∧ x2.size = 1 := ⟨by rw [hx1, mkB_size]; rfl, by rw [hx2, mkB_size]; rfl⟩
                  obtain ⟨fin, hfin⟩ : ∃ fin, fin = mkB (bodyL p) := ⟨_, rfl⟩
                  have AD : ∀ w, (Op.stringOp .add f0 x1).run Try.prog w = .ok (.string f1) w := fun w => by
                    rw [hf1]
                    exact run_string_add_sum w _ _ (by have := HFS.out; omega)
                  have AD2 : ∀ w, (Op.stringOp .add f1 x2).run Try.prog w = .ok (.string fin) w := fun w => by
                    rw [hfin, hb]
                    exact run_string_add_sum w _ _ (by rw [hf1, ByteArray.size_append]; have := HFS.out; omega)
                  have HFIN := Lib.hid hfin
                  have CF1 := Lib.hid (CF.out p.a)
                  have CF2 := Lib.hid (CF.out p.b)
                  rw [← hx1] at CF1
                  rw [← hx2] at CF2
                  subst hr
                  clear HC hbody HFS CT2 CT3 hb hfin hx1 hx2 hf1
                  go_upto_region 17 with fail
                  have HZ3 : Hid (∀ w', Below W0.heap.size W0 w' → Below W0.heap.size W0 w' ∧ w'.cell? ⟨w.heap.size, 11, none⟩ = some (.bool p.a) ∧ w'.cell? ⟨w.heap.size, 12, none⟩ = some (.bool p.b)) := fun w' hb => by
                    obtain ⟨_, _, _, _, _, _, _, _, _, _, _, g11, g12⟩ := HZ.out w' hb
                    exact ⟨hb, g11, g12⟩
                  go_region_held3 (fun w' => Below W0.heap.size W0 w' ∧ w'.cell? ⟨w.heap.size, 11, none⟩ = some (.bool p.a) ∧ w'.cell? ⟨w.heap.size, 12, none⟩ = some (.bool p.b))
                    ((refine HZ3.out _ ?_; focus ((repeat first | with_reducible assumption | with_reducible exact KR5.out | with_reducible apply Below.drew | with_reducible apply below_drews); done)))
                    (first
                      | (go_at_call 31; (with_reducible refine (CF1.out _).mono ?_); rintro e wt ⟨rfl, bt⟩; have hkt := below_on (B := W0.heap.size) (w := W0) (by (repeat first | with_reducible assumption | with_reducible exact KR5.out | with_reducible apply Below.drew | with_reducible apply below_drews)) bt (Nat.le_refl _); clear bt)
                      | (go_at_call 31; (with_reducible refine (CF2.out _).mono ?_); rintro e wt ⟨rfl, bt⟩; have hkt := below_on (B := W0.heap.size) (w := W0) (by (repeat first | with_reducible assumption | with_reducible exact KR5.out | with_reducible apply Below.drew | with_reducible apply below_drews)) bt (Nat.le_refl _); clear bt))
                  all_goals go_wp2_with fail
                  all_goals exact bodyPost_ret (v := .tuple #[.string fin, .bool true]) (by simp [results, Try.results10, go_sem]) rfl ⟨by rw [HFIN.out], below_on HB0.out (by (repeat first | with_reducible assumption | with_reducible apply Below.drew | with_reducible apply below_drews))⟩
                · have n1 : ¬ (k : Int) = 1 := by omega
                  have n4 : ¬ (k : Int) = 4 := by omega
                  have n14 : ¬ (k : Int) = 14 := by omega
                  have m1 : ((k : Int) == 1) = false := beq_eq_false_iff_ne.2 n1
                  have m4 : ((k : Int) == 4) = false := beq_eq_false_iff_ne.2 n4
                  have hr : r = (bodyL p, true) := by rw [HC.out, if_neg (by omega), if_neg (by omega)]
                  have hb : mkB (bodyL p) = f0 := by
                    rw [hbody.out]
                    unfold txt flg
                    rw [if_neg (by omega), if_neg n1, if_neg n14, if_neg n14]
                    show f0 ++ mkB [] = f0
                    exact ByteArray.append_empty
                  subst hr
                  have HBB := Lib.hid hb
                  clear HC hbody HFS hb
                  go_wp2_with fail
                  exact bodyPost_ret (v := .tuple #[.string f0, .bool true]) (by simp [results, Try.results10, go_sem]) rfl ⟨by rw [HBB.out], HBW.out⟩
end Go.Proofs.Ythegkookfpnbeaa.Wds
