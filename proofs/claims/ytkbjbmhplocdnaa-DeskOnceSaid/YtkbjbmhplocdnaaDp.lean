/- Desk: the program's five calls. -/
import Derived.Test.YtkbjbmhplocdnaaDr
set_option linter.unusedVariables false
set_option linter.unusedSimpArgs false
set_option maxRecDepth 100000
namespace Go.Proofs.Ytkbjbmhplocdnaa.Dsk
open Go.RowKit Go.Lib Go.Proofs.Ytkbjbmhplocdnaa.Bx

theorem OSe.lower {base base' : Nat} {w : World} {v : Value} {X : List Se} (h : OSe base w v X) (hb : base' ≤ base) : OSe base' w v X := by
  refine ⟨⟨h.1.1, h.1.2.1, ?_⟩, h.2⟩
  rcases h.1.2.2 with h3 | ⟨g, cap, cur, h1, h2, h3, h4, h5, h6, h7⟩
  · exact .inl h3
  · exact .inr ⟨g, cap, cur, h1, Nat.le_trans hb h2, h3, h4, h5, h6, h7⟩
theorem OSe.own_lt {base : Nat} {w : World} {v : Value} {X : List Se} (h : OSe base w v X) : ∀ g, v.ownBlock = some g → base ≤ g ∧ g < w.heap.size := h.1.block
theorem HoldT.set {B g : Nat} {tok : ByteArray} (hB : g ≠ B) : ∀ w o u, HoldT B tok w → HoldT B tok (w.setCell ⟨g, o, none⟩ u) := fun w o u h => ⟨by rw [size_set]; exact h.1, by rw [World.cell?_setCell_other (h := fun e => hB (by injection e))]; exact h.2⟩
theorem HoldN.set {B C g : Nat} {now ttl : Int} (hB : g ≠ B) (hC : g ≠ C) : ∀ w o u, HoldN B C now ttl w → HoldN B C now ttl (w.setCell ⟨g, o, none⟩ u) := fun w o u h => ⟨by rw [size_set]; exact h.1, by rw [size_set]; exact h.2.1, by rw [World.cell?_setCell_other (h := fun e => hB (by injection e))]; exact h.2.2.1, by rw [World.cell?_setCell_other (h := fun e => hC (by injection e))]; exact h.2.2.2⟩
theorem present_any {v : Value} {A : List Se} (now ttl : Int) (w : World) (h : Seats w v A) (h60 : A.length ≤ 60) (hr : InR A) (h1 : 0 ≤ now ∧ now ≤ 1099511627776) : Calls Try.prog 21 #[v, .int .i64 now, .int .i64 ttl] w fun e w' => ∃ v', e = .returned v' ∧ OSe w.heap.size w' v' (fresh A now ttl) ∧ Below w.heap.size w w' := by
  have hmf : ∀ (fn : Fn) (first cap : Array Value) (w : World), (Instr.makeFunc fn first cap).run Try.prog w = .ok (.func fn first cap) w := fun _ _ _ _ => rfl
  obtain ⟨a, cap, rfl, hn, hm⟩ := h.is_slice
  obtain ⟨B0, R0, L0⟩ := box1 w #[.int .i64 now] 3
  obtain ⟨W0, hW0⟩ : ∃ W0, W0 = w.alloc (.cells #[.int .i64 now] 3) := ⟨_, rfl⟩
  rw [← hW0] at B0 R0 L0
  obtain ⟨B1, R1, L1⟩ := box1 W0 #[.int .i64 ttl] 3
  obtain ⟨W1, hW1⟩ : ∃ W1, W1 = W0.alloc (.cells #[.int .i64 ttl] 3) := ⟨_, rfl⟩
  rw [← hW1] at B1 R1 L1
  have hB : Below w.heap.size w W1 := below_on B0 B1
  rw [L0] at L1 R1
  have hs : HoldN w.heap.size (w.heap.size + 1) now ttl W1 := ⟨by omega, by omega, vcell B1 (by omega) (one_cell R0), one_cell R1⟩
  have HC := Lib.hid (clone_any W1 (h.below hB) h60)
  have HX : Hid (∀ v' w', OSe W1.heap.size w' v' A → Below W1.heap.size W1 w' → Calls Try.prog 28 #[v', .func (.func 31) #[] #[.pointer (some ⟨w.heap.size, 0, none⟩), .pointer (some ⟨w.heap.size + 1, 0, none⟩)]] w' fun e w'' => ∃ v'', e = .returned v'' ∧ OSe W1.heap.size w'' v'' (A.filter fun y => !pastB now ttl y) ∧ Below W1.heap.size w' w'') := fun v' w' hv' hb' =>
    df_any (HoldN w.heap.size (w.heap.size + 1) now ttl) (pastB now ttl) 31 _ w' hv' hb'.size (HoldN.kept _ _ _ _ _ _ hs hb') (HoldN.kept _ _ _ _) (fun gg hg => by have := (hv'.own_lt gg hg).1; exact HoldN.set (by omega) (by omega)) enters_present (fun w'' hk j hj => presentq_any _ _ now ttl (se A j) w'' hk h1 (hr j hj))
  have HF : Hid (fresh A now ttl = A.filter fun y => !pastB now ttl y) := rfl
  have HB := Lib.hid hB
  have HW1 : Hid (W1 = (w.alloc (.cells #[.int .i64 now] 3)).alloc (.cells #[.int .i64 ttl] 3)) := by show _ = _; rw [hW1, hW0]
  have HL : Hid (w.heap.size ≤ W1.heap.size) := by show _ ≤ _; omega
  rw [← HF.out] at HX
  generalize fresh A now ttl = X at *
  generalize A.length = n at *
  clear h hr B0 B1 R0 R1 L0 L1 hB hs hW0 hW1
  go_enter Try.func21, Try.ntmps21
  go_upto_region 1 with fail
  rw [← HW1.out]
  go_wp2_with fail
  refine HC.out.mono ?_
  rintro e w1 ⟨v1, rfl, o1, b1⟩
  have C2 := Lib.hid (HX.out v1 w1 o1 b1)
  have HB1 := Lib.hid b1
  clear o1 b1 HC HX
  go_wp2_with fail
  refine C2.out.mono ?_
  rintro e w2 ⟨v2, rfl, o2, b2⟩
  have HO2 := Lib.hid o2
  have HB2 := Lib.hid b2
  clear o2 b2 C2
  go_wp2_with fail
  go_ret
  refine ⟨_, rfl, HO2.out.lower HL.out, ?_⟩
  exact HB.out.trans (((HB1.out.trans HB2.out)).mono HL.out)
theorem has_ix (A : List Se) (tok : ByteArray) : ixO (hasP tok) A = plO A tok := rfl
theorem has_ixI (A : List Se) (tok : ByteArray) : ixI (hasP tok) A = plI A tok := rfl
theorem close_ok : CloseOk := by
  intro v A tok now ttl w hA hr
  obtain ⟨_, h60, _, _, _⟩ := right_of hr
  have HC := Lib.hid (clone_any w hA h60)
  have HH : Hid (∀ w1, Calls Try.prog 27 #[.string tok] w1 fun e w' => e = .returned (.func (.func 32) #[] #[.pointer (some ⟨w1.heap.size, 0, none⟩)]) ∧ HoldT w1.heap.size tok w' ∧ Below w1.heap.size w1 w') := fun w1 => has_any tok w1
  have HX : Hid (∀ v' w1 w2, OSe w.heap.size w1 v' A → Below w.heap.size w w1 → Below w1.heap.size w1 w2 → HoldT w1.heap.size tok w2 → Calls Try.prog 28 #[v', .func (.func 32) #[] #[.pointer (some ⟨w1.heap.size, 0, none⟩)]] w2 fun e w'' => ∃ v'', e = .returned v'' ∧ OSe w.heap.size w'' v'' (closeE A tok) ∧ Below w.heap.size w2 w'') := fun v' w1 w2 hv' hb1 hb2 ht =>
    df_any (HoldT w1.heap.size tok) (hasP tok) 32 _ w2 (hv'.below hb2) (Nat.le_trans hb1.size hb2.size) ht (HoldT.kept _ _) (fun gg hg => by have := (hv'.own_lt gg hg).2; exact HoldT.set (by omega)) enters_has (fun w'' hk j hj => hasq_any _ tok (se A j) w'' hk)
  generalize closeE A tok = X at *
  obtain ⟨a, cap, rfl, hn, hm⟩ := hA.is_slice
  generalize A.length = n at *
  clear hA hr
  go_enter Try.func16, Try.ntmps16
  go_wp2_with fail
  refine HC.out.mono ?_
  rintro e w1 ⟨v1, rfl, o1, b1⟩
  have HO1 := Lib.hid o1
  have HB1 := Lib.hid b1
  clear o1 b1 HC
  go_wp2_with fail
  refine (HH.out w1).mono ?_
  rintro e w2 ⟨rfl, t2, b2⟩
  have C3 := Lib.hid (HX.out v1 w1 w2 HO1.out HB1.out b2 t2)
  have HB2 := Lib.hid (below_on HB1.out b2)
  clear t2 b2 HX HH
  go_wp2_with fail
  refine C3.out.mono ?_
  rintro e w3 ⟨v3, rfl, o3, b3⟩
  have HO3 := Lib.hid o3
  have HB3 := Lib.hid (HB2.out.trans b3)
  clear o3 b3 C3
  go_wp2_with fail
  go_ret
  exact ⟨_, rfl, HO3.out.seats, HB3.out⟩
theorem who_ok : WhoOk := by
  intro v A tok now ttl w hA hr
  obtain ⟨h1, h60, ho, h4, _⟩ := right_of hr
  obtain ⟨a, cap, rfl, hn, hm⟩ := hA.is_slice
  have CP := Lib.hid (seated_any tok now ttl w hA.cells hn hm h1 h4)
  have HE := Lib.hid hA.cells
  have hix := seated_ix (A := A) tok now ttl ho
  unfold maxLen at hm
  cases hp : liveO A tok now ttl with
  | none =>
    rw [ix_neg (hix.trans hp)] at CP
    have hl : whoE A tok now ttl = (0, false) := by unfold whoE; rw [hp]
    rw [hl]
    clear hA hr hp hl HE hix ho
    go_enter Try.func11, Try.ntmps11
    go_wp2_with fail
    refine CP.out.mono ?_
    rintro e w1 ⟨rfl, b1⟩
    have HB := Lib.hid b1
    clear b1 CP
    go_wp2_with fail
    exact bodyPost_ret (v := .tuple #[.int .i64 0, .bool false]) (by simp [results, Try.results11, go_sem]) rfl ⟨rfl, HB.out⟩
  | some i =>
    rw [ix_int (hix.trans hp)] at CP
    have hin := live_some hp
    have hl : whoE A tok now ttl = ((se A i).u, true) := by unfold whoE; rw [hp]
    rw [hl]
    obtain ⟨n, hnn⟩ : ∃ n, n = A.length := ⟨_, rfl⟩
    rw [← hnn] at hin hn CP HE ⊢
    have iw : ((i : Nat) : Int) < (n : Int) := by omega
    have n0 : (0 : Int) ≤ (i : Int) := by omega
    have nn : ¬ ((i : Int) < 0) := by omega
    have HC : Hid (∀ w', Below w.heap.size w w' → ∃ b off, a = some ⟨b, off, none⟩ ∧ w'.cell? ⟨b, off + i * 5 + 1, none⟩ = some (.int .i64 (se A i).u)) := fun w' hb => by
      obtain ⟨b, off, e, _, _, c1, _⟩ := HE.out w' hb i hin
      exact ⟨b, off, e, c1⟩
    generalize se A i = y at *
    clear hA hr hp hl HE hnn hix ho
    go_enter Try.func11, Try.ntmps11
    go_wp2_with fail
    refine CP.out.mono ?_
    rintro e w1 ⟨rfl, b1⟩
    obtain ⟨b, off, rfl, c1⟩ := HC.out w1 b1
    have HB := Lib.hid b1
    clear b1 CP HC
    go_wp2_with fail
    exact bodyPost_ret (v := .tuple #[.int .i64 y.u, .bool true]) (by simp [results, Try.results11, go_sem]) rfl ⟨rfl, HB.out⟩
theorem begin_ok : BeginOk := by
  intro v A tok q now ttl w hA hr hq0
  obtain ⟨h1, h60, ho, h4, _⟩ := right_of hr
  obtain ⟨a, cap, rfl, hn, hm⟩ := hA.is_slice
  have CP := Lib.hid (seated_any tok now ttl w hA.cells hn hm h1 h4)
  have HE := Lib.hid hA.cells
  have hix := seated_ix (A := A) tok now ttl ho
  unfold maxLen at hm
  cases hp : liveO A tok now ttl with
  | none =>
    rw [ix_neg (hix.trans hp)] at CP
    have hl : beginE A tok q now ttl = (ByteArray.mk #[], 2) := by unfold beginE; rw [hp]
    rw [hl]
    clear hA hr hp hl HE hix ho hq0
    go_enter Try.func13, Try.ntmps13
    go_wp2_with fail
    refine CP.out.mono ?_
    rintro e w1 ⟨rfl, b1⟩
    have HB := Lib.hid b1
    clear b1 CP
    go_wp2_with fail
    exact bodyPost_ret (v := .tuple #[.string (ByteArray.mk #[]), .int .i64 2]) (by simp [results, Try.results13, go_sem]) rfl ⟨rfl, HB.out⟩
  | some i =>
    rw [ix_int (hix.trans hp)] at CP
    have hin := live_some hp
    have hl : beginE A tok q now ttl = if q = (se A i).q then ((se A i).a, 9) else if q < (se A i).q then (ByteArray.mk #[], 8) else (ByteArray.mk #[], 0) := by unfold beginE; rw [hp]
    rw [hl]
    obtain ⟨n, hnn⟩ : ∃ n, n = A.length := ⟨_, rfl⟩
    rw [← hnn] at hin hn CP HE ⊢
    have iw : ((i : Nat) : Int) < (n : Int) := by omega
    have n0 : (0 : Int) ≤ (i : Int) := by omega
    have nn : ¬ ((i : Int) < 0) := by omega
    have HC : Hid (∀ w', Below w.heap.size w w' → ∃ b off, a = some ⟨b, off, none⟩ ∧ w'.cell? ⟨b, off + i * 5 + 3, none⟩ = some (.int .i64 (se A i).q) ∧ w'.cell? ⟨b, off + i * 5 + 4, none⟩ = some (.string (se A i).a)) := fun w' hb => by
      obtain ⟨b, off, e, _, _, _, _, c3, c4, _⟩ := HE.out w' hb i hin
      exact ⟨b, off, e, c3, c4⟩
    generalize se A i = y at *
    obtain ⟨yt, yu, yd, yq, ya⟩ := y
    simp only at HC ⊢
    clear hA hr hp hl HE hnn hix ho
    go_enter Try.func13, Try.ntmps13
    go_wp2_with fail
    refine CP.out.mono ?_
    rintro e w1 ⟨rfl, b1⟩
    obtain ⟨b, off, rfl, c3, c4⟩ := HC.out w1 b1
    have HB := Lib.hid b1
    clear b1 CP HC
    by_cases hq : q = yq
    · subst hq
      go_wp2_with fail
      exact bodyPost_ret (v := .tuple #[.string ya, .int .i64 9]) (by simp [results, Try.results13, go_sem]) rfl ⟨by first | rfl | (rw [if_pos rfl]; done), HB.out⟩
    · by_cases hq2 : q < yq
      · go_wp2_with fail
        exact bodyPost_ret (v := .tuple #[.string (ByteArray.mk #[]), .int .i64 8]) (by simp [results, Try.results13, go_sem]) rfl ⟨by first | rfl | (rw [if_neg hq, if_pos hq2]; done), HB.out⟩
      · have hq3 := hq2
        go_wp2_with fail
        exact bodyPost_ret (v := .tuple #[.string (ByteArray.mk #[]), .int .i64 0]) (by simp [results, Try.results13, go_sem]) rfl ⟨by first | rfl | (rw [if_neg hq, if_neg (by omega)]; done), HB.out⟩
theorem done_ok : DoneOk := by
  intro v A tok q now ttl ans w hA hr hq
  obtain ⟨_, h60, _, h4, _⟩ := right_of hr
  have HQ := Lib.hid hq
  have HNW : Hid (i64 now) := by show i64 now; unfold i64; omega
  have HDE : Hid (doneE A tok q now ans = match plO A tok with | some i => A.set i ⟨(se A i).t, (se A i).u, now, q, ans⟩ | none => A) := rfl
  have HC := Lib.hid (clone_any w hA h60)
  have HH : Hid (∀ w1, Calls Try.prog 27 #[.string tok] w1 fun e w' => e = .returned (.func (.func 32) #[] #[.pointer (some ⟨w1.heap.size, 0, none⟩)]) ∧ HoldT w1.heap.size tok w' ∧ Below w1.heap.size w1 w') := fun w1 => has_any tok w1
  have HX : Hid (∀ (a : Option Addr) cap B w2, OSe w.heap.size w2 (.slice a A.length cap) A → HoldT B tok w2 → Calls Try.prog 26 #[.slice a A.length cap, .func (.func 32) #[] #[.pointer (some ⟨B, 0, none⟩)]] w2 fun e w'' => e = .returned (.int .i64 (plI A tok)) ∧ Below w2.heap.size w2 w'') := fun a cap B w2 hv' ht =>
    ixf_any (HoldT B tok) (hasP tok) 32 _ w2 hv'.seats.cells hv'.len.2.1 hv'.len.2.2 ht (HoldT.kept _ _) enters_has (fun w'' hk j hj => hasq_any _ tok (se A j) w'' hk)
  obtain ⟨a, cap, rfl, hn, hm⟩ := hA.is_slice
  obtain ⟨R, hR⟩ : ∃ R, R = doneE A tok q now ans := ⟨_, rfl⟩
  rw [← hR] at HDE ⊢
  obtain ⟨n, hnn⟩ : ∃ n, n = A.length := ⟨_, rfl⟩
  have HNL := Lib.hid hnn
  rw [← hnn] at HX HC ⊢
  clear hA hr hR hnn hn hm hq h4
  go_enter Try.func15, Try.ntmps15
  go_wp2_with fail
  refine HC.out.mono ?_
  rintro e w1 ⟨v1, rfl, o1, b1⟩
  obtain ⟨a1, c1, rfl⟩ := o1.is_slice
  have HO1 : Hid (OSe w.heap.size w1 (.slice a1 n c1) A) := by rw [HNL.out]; exact o1
  have HB1 := Lib.hid b1
  rw [← HNL.out]
  clear o1 b1 HC
  go_wp2_with fail
  refine (HH.out w1).mono ?_
  rintro e w2 ⟨rfl, t2, b2⟩
  have HO2 := Lib.hid (HO1.out.below b2)
  have C3 := Lib.hid (HX.out a1 c1 _ w2 HO2.out t2)
  have HB2 := Lib.hid (below_on HB1.out b2)
  clear t2 b2 HX HH HO1 HB1
  cases hp : plO A tok with
  | none =>
    have hR : R = A := by rw [HDE.out, hp]
    rw [pl_neg hp] at C3
    subst hR
    clear HDE hp
    go_wp2_with fail
    refine C3.out.mono ?_
    rintro e w3 ⟨rfl, b3⟩
    have HO3 := Lib.hid (HO2.out.below b3)
    have HB3 := Lib.hid (below_on HB2.out b3)
    clear b3 C3
    go_wp2_with fail
    go_ret
    exact ⟨_, rfl, HO3.out.seats, HB3.out⟩
  | some i =>
    have hin := (pl_lt hp).1
    have hR : R = A.set i ⟨(se A i).t, (se A i).u, now, q, ans⟩ := by rw [HDE.out, hp]
    rw [pl_int hp] at C3
    have iw : ((i : Nat) : Int) < (n : Int) := by rw [← HNL.out] at hin; omega
    have n0 : (0 : Int) ≤ (i : Int) := by omega
    have HIN := Lib.hid hin
    have HR := Lib.hid hR
    clear HDE hp hin hR
    go_wp2_with fail
    refine C3.out.mono ?_
    rintro e w3 ⟨rfl, b3⟩
    have HO3 := Lib.hid (HO2.out.below b3)
    have HB3 := Lib.hid (below_on HB2.out b3)
    clear b3 C3 HO2 HB2
    obtain ⟨g, cap', e1, hbg, hcell, hfree⟩ := HO3.out.at_ HIN.out
    injection e1 with e1 e2 e3
    subst e1 e3
    have HP3 := Lib.hid (HO3.out.put3 HIN.out q now ans HQ.out HNW.out)
    rw [← HR.out] at HP3
    have HBF : Hid (Below w.heap.size w (((w3.setCell ⟨g, i * 5 + 3, none⟩ (.int .i64 q)).setCell ⟨g, i * 5 + 2, none⟩ (.int .i64 now)).setCell ⟨g, i * 5 + 4, none⟩ (.string ans))) := below_put (below_put (below_put HB3.out hbg _) hbg _) hbg _
    have d2 := hcell 2 _ rfl
    have d3 := hcell 3 _ rfl
    have d4 := hcell 4 _ rfl
    have f2 := hfree (i * 5 + 2)
    have f3 := hfree (i * 5 + 3)
    have f4 := hfree (i * 5 + 4)
    generalize se A i = y at *
    clear HR hcell hfree e2 HIN
    go_wp2_with fail
    go_ret
    exact ⟨_, rfl, HP3.out.seats, HBF.out⟩
theorem busy_iff (A : List Se) (tok : ByteArray) (now ttl : Int) : (plO (fresh A now ttl) tok).isSome = (ixO (seatP tok now ttl) A).isSome := by
  unfold plO ixO fresh
  rw [List.findIdx?_isSome, List.findIdx?_isSome, List.any_filter]
  congr 1
  funext y
  unfold seatP
  cases pastB now ttl y <;> simp
set_option maxHeartbeats 2000000 in
theorem open_ok : OpenOk := by
  intro v A tok u now ttl most w hA hr hu hmo
  obtain ⟨h1, h60, ho, h4, _⟩ := right_of hr
  obtain ⟨a, cap, rfl, hn, hm⟩ := hA.is_slice
  have SE := str_empty tok
  have HOE : Hid (openE A tok u now ttl most = if tok.size = 0 ∨ (plO (fresh A now ttl) tok).isSome then (A, 9) else if most ≤ (fresh A now ttl).length then (A, 4) else (fresh A now ttl ++ [⟨tok, u, now, 0, ByteArray.mk #[]⟩], 0)) := rfl
  have HGY : Hid (good ⟨tok, u, now, 0, ByteArray.mk #[]⟩) := by show good _; refine ⟨hu, ?_, ?_⟩ <;> (unfold i64; dsimp only; omega)
  have CS := Lib.hid (seated_any tok now ttl w hA.cells hn hm h1 h4)
  have HCL : Hid (∀ w1, Below w.heap.size w w1 → Calls Try.prog 20 #[.slice a A.length cap] w1 fun e w' => ∃ v', e = .returned v' ∧ OSe w1.heap.size w' v' A ∧ Below w1.heap.size w1 w') := fun w1 hb => clone_any w1 (hA.below hb) h60
  have HPR : Hid (∀ w1, Below w.heap.size w w1 → Calls Try.prog 21 #[.slice a A.length cap, .int .i64 now, .int .i64 ttl] w1 fun e w' => ∃ v', e = .returned v' ∧ OSe w1.heap.size w' v' (fresh A now ttl) ∧ Below w1.heap.size w1 w') := fun w1 hb => present_any now ttl w1 (hA.below hb) h60 h1 h4
  have hlf : (fresh A now ttl).length ≤ 60 := Nat.le_trans (List.length_filter_le ..) h60
  have HBU := Lib.hid (busy_iff A tok now ttl)
  obtain ⟨X, hX⟩ : ∃ X, X = fresh A now ttl := ⟨_, rfl⟩
  rw [← hX] at HOE HPR hlf HBU
  obtain ⟨R, hR⟩ : ∃ R, R = openE A tok u now ttl most := ⟨_, rfl⟩
  rw [← hR] at HOE ⊢
  generalize A.length = n at *
  clear hA hr hu ho hX hR h1 h4 hn hm h60
  by_cases hz : tok.size = 0
  · rw [decide_eq_true hz] at SE
    have hR : R = (A, 9) := by rw [HOE.out, if_pos (.inl hz)]
    have C := Lib.hid (HCL.out w (Below.refl _ _))
    subst hR
    clear HOE HBU CS HPR HCL hz
    go_enter Try.func7, Try.ntmps7
    go_wp2_with fail
    refine C.out.mono ?_
    rintro e w1 ⟨v1, rfl, o1, b1⟩
    have HO1 := Lib.hid o1
    have HB1 := Lib.hid b1
    clear o1 b1 C
    go_wp2_with fail
    exact bodyPost_ret (v := .tuple #[v1, .int .i64 9]) (by simp [results, Try.results7, go_sem]) rfl ⟨_, rfl, HO1.out.seats, HB1.out⟩
  · rw [decide_eq_false hz] at SE
    have HZ : Hid (¬ tok.size = 0) := hz
    clear hz
    cases hp : ixO (seatP tok now ttl) A with
    | some i =>
      rw [ix_int hp] at CS
      have hR : R = (A, 9) := by rw [HOE.out, if_pos (.inr (by rw [HBU.out, hp]; rfl))]
      have n0 : (0 : Int) ≤ (i : Int) := by omega
      subst hR
      clear HOE HBU HPR hp HZ
      go_enter Try.func7, Try.ntmps7
      go_wp2_with fail
      refine CS.out.mono ?_
      rintro e w1 ⟨rfl, b1⟩
      have C := Lib.hid (HCL.out w1 b1)
      have HB1 := Lib.hid b1
      clear b1 CS HCL
      go_wp2_with fail
      refine C.out.mono ?_
      rintro e w2 ⟨v2, rfl, o2, b2⟩
      have HO2 := Lib.hid o2
      have HB2 := Lib.hid (below_on HB1.out b2)
      clear o2 b2 C
      go_wp2_with fail
      exact bodyPost_ret (v := .tuple #[v2, .int .i64 9]) (by simp [results, Try.results7, go_sem]) rfl ⟨_, rfl, HO2.out.seats, HB2.out⟩
    | none =>
      rw [ix_neg hp] at CS
      have hno : ¬ (tok.size = 0 ∨ (plO X tok).isSome = true) := by
        rintro (h | h)
        · exact HZ.out h
        · rw [HBU.out, hp] at h; cases h
      have HRR : Hid (R = if most ≤ X.length then (A, 4) else (X ++ [⟨tok, u, now, 0, ByteArray.mk #[]⟩], 0)) := by show _ = _; rw [HOE.out, if_neg hno]
      obtain ⟨m, hmm⟩ : ∃ m, m = X.length := ⟨_, rfl⟩
      have HML := Lib.hid hmm
      rw [← hmm] at HRR hlf
      clear HOE HBU hp HZ hno hmm
      go_enter Try.func7, Try.ntmps7
      go_wp2_with fail
      refine CS.out.mono ?_
      rintro e w1 ⟨rfl, b1⟩
      have C := Lib.hid (HPR.out w1 b1)
      have HB1 := Lib.hid b1
      clear b1 CS HPR
      go_wp2_with fail
      refine C.out.mono ?_
      rintro e w2 ⟨v2, rfl, o2, b2⟩
      obtain ⟨a2, c2, rfl⟩ := o2.is_slice
      obtain ⟨_, hl1, hl2⟩ := o2.len
      unfold maxLen at hl2
      have HO2 := Lib.hid (o2.lower HB1.out.size)
      have hb2 := below_on HB1.out b2
      have C3 := Lib.hid (HCL.out w2 hb2)
      have HB2 := Lib.hid hb2
      rw [← HML.out] at hl1 HO2 ⊢
      clear o2 b2 C HCL hb2
      by_cases hmx : most ≤ m
      · have hR : R = (A, 4) := by rw [HRR.out, if_pos hmx]
        subst hR
        clear HRR
        go_wp2_with fail
        refine C3.out.mono ?_
        rintro e w3 ⟨v3, rfl, o3, b3⟩
        have HO3 := Lib.hid o3
        have HB3 := Lib.hid (below_on HB2.out b3)
        clear o3 b3 C3
        go_wp2_with fail
        exact bodyPost_ret (v := .tuple #[v3, .int .i64 4]) (by simp [results, Try.results7, go_sem]) rfl ⟨_, rfl, HO3.out.seats, HB3.out⟩
      · have hR : R = (X ++ [⟨tok, u, now, 0, ByteArray.mk #[]⟩], 0) := by rw [HRR.out, if_neg hmx]
        have CE : Hid ((cellsS ⟨tok, u, now, 0, ByteArray.mk #[]⟩).toArray = #[.string tok, .int .i64 u, .int .i64 now, .int .i64 0, .string (ByteArray.mk #[])]) := rfl
        have A1 : Hid (Rk.OwnK 28 5 w.heap.size (w2.alloc (.cells (cellsS ⟨tok, u, now, 0, ByteArray.mk #[]⟩).toArray 28)) (.slice a2 m c2) (X.map cellsS)) := by
          exact Rk.OwnK.below HO2.out.1 (below_al (Below.refl w2.heap.size w2) (.cells (cellsS ⟨tok, u, now, 0, ByteArray.mk #[]⟩).toArray 28))
        have HGX := Lib.hid HO2.out.2
        have A2 : Hid (Rk.RowK 5 (w2.alloc (.cells (cellsS ⟨tok, u, now, 0, ByteArray.mk #[]⟩).toArray 28)) (.slice (some ⟨w2.heap.size, 0, none⟩) 1 1) [cellsS ⟨tok, u, now, 0, ByteArray.mk #[]⟩]) := row_seat (heap_alloc_new _ _)
        have A3 : Hid ((X.map cellsS).length + 1 ≤ 100000) := by show _ ≤ _; rw [List.length_map, ← HML.out]; omega
        have HBY : Hid (Below w.heap.size w (w2.alloc (.cells (cellsS ⟨tok, u, now, 0, ByteArray.mk #[]⟩).toArray 28))) := below_al HB2.out _
        have A4 : Hid (w.heap.size ≤ (w2.alloc (.cells (cellsS ⟨tok, u, now, 0, ByteArray.mk #[]⟩).toArray 28)).heap.size) := HBY.out.size
        rw [CE.out] at A1 A2 HBY A4
        subst hR
        clear HRR C3 HO2
        go_wp2_with (at_builtin; refine Rk.wpList_append_rowk rfl _ _ 22 28 5 56 _ Try.underlying22 infoSe rfl (by decide) (by decide) rfl w.heap.size _ _ (X.map cellsS) [cellsS ⟨tok, u, now, 0, ByteArray.mk #[]⟩] rfl rfl A1.out A2.out (seat_one1 _) A3.out A4.out ?_)
        intro v6 w9 h5 g5 k5
        have K9 : Hid (OSe w.heap.size w9 v6 (X ++ [⟨tok, u, now, 0, ByteArray.mk #[]⟩])) := OSe.more h5 HGX.out HGY.out
        have HB6 := Lib.hid (A1.out.belowOf HBY.out (Nat.le_refl _) A4.out g5)
        clear h5 g5 k5 A1 A2 A3 A4 HBY
        go_wp2_with fail
        exact bodyPost_ret (v := .tuple #[v6, .int .i64 0]) (by simp [results, Try.results7, go_sem]) rfl ⟨_, rfl, K9.out.seats, HB6.out⟩
end Go.Proofs.Ytkbjbmhplocdnaa.Dsk
