/- Words: the plain text's Answer. -/
import Derived.Test.YthegkookfpnbeaaKn
set_option linter.unusedVariables false
set_option linter.unusedSimpArgs false
set_option maxRecDepth 100000
namespace Go.Proofs.Ythegkookfpnbeaa.Wds
open Go.RowKit Go.Lib Go.Proofs.Ythegkookfpnbeaa.Bx Go.Proofs.Ythegkookfpnbeaa.Frm

def Z3 (W : World) (b : Nat) (x y z : Int) : Prop := W.heap[b]? = some (.cells #[.int .i64 x, .int .i64 y, .int .i64 z] 3 (0, 0))
theorem Z3.below {W W' : World} {b : Nat} {x y z : Int} (h : Z3 W b x y z) (hb : Below W.heap.size W W') : Z3 W' b x y z := (hb.block b (Array.getElem?_eq_some_iff.1 h).1).trans h
theorem Z3.ints {W : World} {b : Nat} {x y z : Int} (h : Z3 W b x y z) (hx : n64 x) (hy : n64 y) (hz : n64 z) : Rig.Ints W (.slice (some ⟨b, 0, none⟩) 3 3) [x, y, z] := by
  refine ⟨fun q hq => ?_, _, _, rfl, Nat.le_refl _, by unfold maxLen; decide, .inr ⟨b, 0, rfl, (Array.getElem?_eq_some_iff.1 h).1, fun j hj => ?_⟩⟩
  · simp at hq
    rcases hq with rfl | rfl | rfl
    · exact hx
    · exact hy
    · exact hz
  · rw [cell_of_row _ _ _ _ _ _ h, Nat.zero_add]
    match j, hj with
    | 0, _ => rfl
    | 1, _ => rfl
    | 2, _ => rfl
theorem fmap_next {α : Type} (g : α → List UInt8) {xs : List α} {i : Nat} (h : i < xs.length) : (xs.take (i + 1)).flatMap g = (xs.take i).flatMap g ++ g xs[i] := by
  rw [List.take_succ_eq_append_getElem h, List.flatMap_append, List.flatMap_singleton]
theorem all_next {α : Type} {P : α → Prop} {xs : List α} {i : Nat} (h : i < xs.length) (ha : ∀ x ∈ xs.take i, P x) (hx : P xs[i]) : ∀ x ∈ xs.take (i + 1), P x := fun x hm => by
  rw [List.take_succ_eq_append_getElem h] at hm
  rcases List.mem_append.1 hm with hm | hm
  · exact ha x hm
  · simp only [List.mem_singleton] at hm
    rw [hm]
    exact hx
theorem row_len9 (xs : List Int) : (rowL numL xs).length = 1 + 8 * xs.length := by
  unfold rowL
  rw [List.length_cons]
  have := nums_len xs
  unfold numsL at this
  omega
theorem ans_no {a : An} (h : ¬ fitA a) : answerE a = ([], false) := by unfold answerE; rw [if_neg h]
theorem ans_yes {a : An} (h : fitA a) : answerE a = (ansL a, true) := by unfold answerE; rw [if_pos h]
def headA (a : An) : List UInt8 := [UInt8.ofNat a.st.toNat] ++ textL a.tok ++ numL a.num ++ numL a.at' ++ [UInt8.ofNat a.R.length]
theorem ans_head (a : An) : ansL a = headA a ++ a.R.flatMap runL ++ [UInt8.ofNat a.E.length] ++ a.E.flatMap entL := by
  unfold ansL headA rowL
  simp
/-- The numbers of entries are numbers. -/
theorem ents_n64 {w : World} {v : Value} {A : List Ent} (h : Aud.EnsP (fun _ => True) w v A) {j : Nat} (hj : j < A.length) : (n64 A[j].u ∧ n64 A[j].o ∧ n64 A[j].s) := by
  obtain ⟨a, c, rfl, _, _⟩ := h.is_slice
  obtain ⟨b, off, sa, sn, sc, la, ln, lc, _, _, hE, _⟩ := Aud.EnsP.get h hj
  obtain ⟨_, _, _, hn, _⟩ := hE
  exact hn
set_option maxHeartbeats 80000000 in
theorem ranswer_any (a : An) (v : Value) (w : World) (h : AnV w v a) : Calls Try.prog 19 #[v] w fun e w' => e = .returned (.tuple #[.string (mkB (answerE a).1), .bool (answerE a).2]) ∧ Below w.heap.size w w' := by
  obtain ⟨rv, ev, rfl, hr, he⟩ := h
  obtain ⟨ra, rc, rfl, hrl, hrc, hro⟩ := hr.open_
  obtain ⟨ea, ec, rfl, hel, hec⟩ := he.is_slice
  unfold maxLen at hrc hec
  obtain ⟨nr, hnr⟩ : ∃ nr, nr = a.R.length := ⟨_, rfl⟩
  obtain ⟨ne, hne⟩ : ∃ ne, ne = a.E.length := ⟨_, rfl⟩
  obtain ⟨A, hA⟩ : ∃ A, A = w.heap.size := ⟨_, rfl⟩
  obtain ⟨st, hst⟩ : ∃ st, st = a.st := ⟨_, rfl⟩
  obtain ⟨tt, htt⟩ : ∃ tt, tt = mkB a.tok := ⟨_, rfl⟩
  obtain ⟨nu, hnu⟩ : ∃ nu, nu = a.num := ⟨_, rfl⟩
  obtain ⟨at9, hat⟩ : ∃ at9, at9 = a.at' := ⟨_, rfl⟩
  obtain ⟨tl, htl⟩ : ∃ tl, tl = a.tok.length := ⟨_, rfl⟩
  have tsz : tt.size = tl := by rw [htt, mkB_size, htl]
  rw [← hnr] at hrl ⊢
  rw [← hne] at hel he ⊢
  rw [← hst, ← htt, ← hnu, ← hat]
  obtain ⟨B0, P0, L0⟩ := box1 w #[.int .i64 st, .string tt, .int .i64 nu, .int .i64 at9, .slice ra nr rc, .slice ea ne ec] 46
  obtain ⟨W0, hW0⟩ : ∃ W0, W0 = w.alloc (.cells #[.int .i64 st, .string tt, .int .i64 nu, .int .i64 at9, .slice ra nr rc, .slice ea ne ec] 46) := ⟨_, rfl⟩
  rw [← hW0] at B0 P0 L0
  have HC : Hid (∀ w', Below W0.heap.size W0 w' → w'.heap[A]? = some (.cells #[.int .i64 st, .string tt, .int .i64 nu, .int .i64 at9, .slice ra nr rc, .slice ea ne ec] 46 (0, 0))) := fun w' hb => by rw [hA]; exact (hb.block _ (by omega)).trans P0
  have HRO : Hid (∀ w', Below W0.heap.size W0 w' → ∀ j (hj : j < a.R.length), ∃ b off, ra = some ⟨b, off, none⟩ ∧ w'.cell? ⟨b, off + j * 4, none⟩ = some (.int .i64 a.R[j].i) ∧ w'.cell? ⟨b, off + j * 4 + 1, none⟩ = some (.int .i64 a.R[j].l) ∧ w'.cell? ⟨b, off + j * 4 + 2, none⟩ = some (.bool a.R[j].o) ∧ w'.cell? ⟨b, off + j * 4 + 3, none⟩ = some (.string (mkB a.R[j].t))) := fun w' hb j hj => by
    obtain ⟨b, off, e, hlt, c0, c1, c2, c3⟩ := hro j hj
    have k := below_on B0 hb
    exact ⟨b, off, e, vcell k hlt c0, vcell k hlt c1, vcell k hlt c2, vcell k hlt c3⟩
  have HEO : Hid (∀ w', Below W0.heap.size W0 w' → Aud.EnsP (fun _ => True) w' (.slice ea ne ec) a.E) := fun w' hb => he.below (below_on B0 hb)
  have HAE : Hid ((nr = a.R.length ∧ ne = a.E.length) ∧ (st = a.st ∧ tl = a.tok.length)) := ⟨⟨hnr, hne⟩, hst, htl⟩
  have HTT : Hid (tt = mkB a.tok ∧ nu = a.num ∧ at9 = a.at') := ⟨htt, hnu, hat⟩
  have HB0 := Lib.hid B0
  have HW0 := Lib.hid hW0
  have HAS : Hid (w.heap.size = A) := hA.symm
  have q0 := HC.out W0 (Below.refl _ _)
  obtain ⟨c0, c1, c2, c3, c4, c5⟩ := six_cells q0
  have nl0 : nr ≤ 9223372036854775807 ∧ ne ≤ 9223372036854775807 := ⟨by omega, by omega⟩
  obtain ⟨nl1, nl2⟩ := nl0
  clear hr he hro P0 L0 B0 hnr hne hst htl htt hnu hat hA hW0 q0 hrl hel hrc hec
  go_enter Try.func19, Try.ntmps19
  go_upto_region 1 with fail
  rw [← HW0.out, HAS.out]
  by_cases k0 : st < 0
  · have kd0 : decide (st < 0) = true := decide_eq_true k0
    have HNO : Hid (answerE a = ([], false)) := ans_no (fun h => by obtain ⟨h1, h2, h3, h4, _⟩ := h; have := HAE.out; omega)
    go_wp2_with fail
    exact bodyPost_ret (v := .tuple #[.string (ByteArray.mk #[]), .bool false]) (by simp [results, Try.results19, go_sem]) rfl ⟨by rw [HNO.out]; rfl, HB0.out⟩
  · have kd0 : decide (st < 0) = false := decide_eq_false k0
    by_cases k1 : 255 < st
    · have kd1 : decide (255 < st) = true := decide_eq_true k1
      have HNO : Hid (answerE a = ([], false)) := ans_no (fun h => by obtain ⟨h1, h2, h3, h4, _⟩ := h; have := HAE.out; omega)
      go_wp2_with fail
      exact bodyPost_ret (v := .tuple #[.string (ByteArray.mk #[]), .bool false]) (by simp [results, Try.results19, go_sem]) rfl ⟨by rw [HNO.out]; rfl, HB0.out⟩
    · have kd1 : decide (255 < st) = false := decide_eq_false k1
      by_cases k2 : (65535 : Int) < (tl : Int)
      · have kd2 : decide ((65535 : Int) < (tl : Int)) = true := decide_eq_true k2
        have HNO : Hid (answerE a = ([], false)) := ans_no (fun h => by obtain ⟨h1, h2, h3, h4, _⟩ := h; have := HAE.out; omega)
        go_wp2_with fail
        exact bodyPost_ret (v := .tuple #[.string (ByteArray.mk #[]), .bool false]) (by simp [results, Try.results19, go_sem]) rfl ⟨by rw [HNO.out]; rfl, HB0.out⟩
      · have kd2 : decide ((65535 : Int) < (tl : Int)) = false := decide_eq_false k2
        by_cases k3 : (255 : Int) < (nr : Int)
        · have kd3 : decide ((255 : Int) < (nr : Int)) = true := decide_eq_true k3
          have HNO : Hid (answerE a = ([], false)) := ans_no (fun h => by obtain ⟨h1, h2, h3, h4, _⟩ := h; have := HAE.out; omega)
          go_wp2_with fail
          exact bodyPost_ret (v := .tuple #[.string (ByteArray.mk #[]), .bool false]) (by simp [results, Try.results19, go_sem]) rfl ⟨by rw [HNO.out]; rfl, HB0.out⟩
        · have kd3 : decide ((255 : Int) < (nr : Int)) = false := decide_eq_false k3
          by_cases k4 : (255 : Int) < (ne : Int)
          · have kd4 : decide ((255 : Int) < (ne : Int)) = true := decide_eq_true k4
            have HNO : Hid (answerE a = ([], false)) := ans_no (fun h => by obtain ⟨h1, h2, h3, h4, _⟩ := h; have := HAE.out; omega)
            go_wp2_with fail
            exact bodyPost_ret (v := .tuple #[.string (ByteArray.mk #[]), .bool false]) (by simp [results, Try.results19, go_sem]) rfl ⟨by rw [HNO.out]; rfl, HB0.out⟩
          · have kd4 : decide ((255 : Int) < (ne : Int)) = false := decide_eq_false k4
            obtain ⟨k, rfl⟩ : ∃ k : Nat, st = (k : Int) := ⟨st.toNat, by omega⟩
            have HK : Hid (k < 256 ∧ nr < 256 ∧ ne < 256 ∧ tl ≤ 65535) := ⟨by omega, by omega, by omega, by omega⟩
            have wk : IntKind.u8.wrap (k : Int) = (k : Int) := IntWalk.u8_in _ (by omega)
            have wn : IntKind.u8.wrap (nr : Int) = (nr : Int) := IntWalk.u8_in _ (by omega)
            have we : IntKind.u8.wrap (ne : Int) = (ne : Int) := IntWalk.u8_in _ (by omega)
            obtain ⟨T1, hT1⟩ : ∃ T1, T1 = mkB [UInt8.ofNat k] := ⟨_, rfl⟩
            obtain ⟨TN, hTN⟩ : ∃ TN, TN = mkB [UInt8.ofNat nr] := ⟨_, rfl⟩
            obtain ⟨TE, hTE⟩ : ∃ TE, TE = mkB [UInt8.ofNat ne] := ⟨_, rfl⟩
            obtain ⟨tx, htx⟩ : ∃ tx, tx = mkB (textL a.tok) := ⟨_, rfl⟩
            obtain ⟨y1, hy1⟩ : ∃ y1, y1 = mkB (numL nu) := ⟨_, rfl⟩
            obtain ⟨y2, hy2⟩ : ∃ y2, y2 = mkB (numL at9) := ⟨_, rfl⟩
            obtain ⟨S1, hS1⟩ : ∃ S1, S1 = T1 ++ tx := ⟨_, rfl⟩
            obtain ⟨S2, hS2⟩ : ∃ S2, S2 = S1 ++ y1 := ⟨_, rfl⟩
            obtain ⟨S3, hS3⟩ : ∃ S3, S3 = S2 ++ y2 := ⟨_, rfl⟩
            obtain ⟨hS, hhS⟩ : ∃ hS, hS = mkB (headA a) := ⟨_, rfl⟩
            have zt : T1.size = 1 ∧ TN.size = 1 ∧ TE.size = 1 ∧ tx.size = tl + 2 ∧ y1.size = 8 ∧ y2.size = 8 := ⟨by rw [hT1]; rfl, by rw [hTN]; rfl, by rw [hTE]; rfl, by rw [htx, mkB_size, HAE.out.2.2]; rfl, by rw [hy1, mkB_size, num_len], by rw [hy2, mkB_size, num_len]⟩
            have z1 : S1.size = tl + 3 := by rw [hS1, ByteArray.size_append]; omega
            have z2 : S2.size = tl + 11 := by rw [hS2, ByteArray.size_append]; omega
            have z3 : S3.size = tl + 19 := by rw [hS3, ByteArray.size_append]; omega
            have AD1 : ∀ w, (Op.stringOp .add T1 tx).run Try.prog w = .ok (.string S1) w := fun w => by rw [hS1]; exact run_string_add_sum w _ _ (by omega)
            have AD2 : ∀ w, (Op.stringOp .add S1 y1).run Try.prog w = .ok (.string S2) w := fun w => by rw [hS2]; exact run_string_add_sum w _ _ (by omega)
            have AD3 : ∀ w, (Op.stringOp .add S2 y2).run Try.prog w = .ok (.string S3) w := fun w => by rw [hS3]; exact run_string_add_sum w _ _ (by omega)
            have eH : hS = S3 ++ TN := by
              rw [hhS, hS3, hS2, hS1, hT1, hTN, htx, hy1, hy2, mkB_app, mkB_app, mkB_app, mkB_app]
              unfold headA
              rw [HTT.out.2.1, HTT.out.2.2, ← HAE.out.2.1, Int.toNat_natCast, ← HAE.out.1.1]
            have AD4 : ∀ w, (Op.stringOp .add S3 TN).run Try.prog w = .ok (.string hS) w := fun w => by rw [eH]; exact run_string_add_sum w _ _ (by omega)
            have CT : Hid (∀ w', Calls Try.prog 28 #[.string tt] w' fun e w'' => e = .returned (.string tx) ∧ Below w'.heap.size w' w'') := fun w' => by rw [HTT.out.1, htx]; exact text_any _ w' (by have := HK.out.2.2.2; have := HAE.out.2.2; omega)
            have CN1 : Hid (∀ w', Calls Try.prog 29 #[.int .i64 nu] w' fun e w'' => e = .returned (.string y1) ∧ Below w'.heap.size w' w'') := fun w' => by rw [hy1]; exact number_any _ w'
            have CN2 : Hid (∀ w', Calls Try.prog 29 #[.int .i64 at9] w' fun e w'' => e = .returned (.string y2) ∧ Below w'.heap.size w' w'') := fun w' => by rw [hy2]; exact number_any _ w'
            have HTK : Hid (∀ (W : World) (b : Nat), Zb W b k → (convert 52 9 (.slice (some ⟨b, 0, none⟩) 1 1)).run Try.prog W = .ok (.string T1) W) := fun W b h => by rw [hT1]; exact one_conv h HK.out.1
            have HTN : Hid (∀ (W : World) (b : Nat), Zb W b nr → (convert 52 9 (.slice (some ⟨b, 0, none⟩) 1 1)).run Try.prog W = .ok (.string TN) W) := fun W b h => by rw [hTN]; exact one_conv h HK.out.2.1
            have CVE : ∀ w : World, (convert 52 9 (.slice (some ⟨w.heap.size, 0, none⟩) 1 1)).run Try.prog (w.alloc (.cells #[.int .u8 (ne : Nat)] 5)) = .ok (.string TE) (w.alloc (.cells #[.int .u8 (ne : Nat)] 5)) := fun w => by rw [hTE]; exact one_conv (heap_alloc_new _ _) HK.out.2.2.1
            have HKS : Hid (∀ w', Below W0.heap.size W0 w' → Below W0.heap.size W0 w' ∧ w'.cell? ⟨A, 0, none⟩ = some (.int .i64 (k : Nat)) ∧ w'.cell? ⟨A, 1, none⟩ = some (.string tt) ∧ w'.cell? ⟨A, 2, none⟩ = some (.int .i64 nu) ∧ w'.cell? ⟨A, 3, none⟩ = some (.int .i64 at9) ∧ w'.cell? ⟨A, 4, none⟩ = some (.slice ra nr rc) ∧ w'.cell? ⟨A, 5, none⟩ = some (.slice ea ne ec)) := fun w' hb => ⟨hb, six_cells (HC.out w' hb)⟩
            have HHS : Hid (hS = mkB (headA a) ∧ hS.size ≤ 66000 ∧ TE = mkB [UInt8.ofNat ne] ∧ TE.size = 1) := ⟨hhS, by rw [eH, ByteArray.size_append]; have := HK.out; omega, hTE, zt.2.2.1⟩
            have KR : Hid (Below W0.heap.size W0 W0) := Below.refl _ _
            have HCVE := Lib.hid CVE
            clear CVE hT1 hTN hTE htx hy1 hy2 hS1 hS2 hS3 hhS zt z1 z2 z3 eH k0 k1 k2 k3 k4
            go_upto_region 3 with fail
            go_cut [4] from 35 to 58 (fun s4 wx => s4 = .string hS ∧ Hid (Below W0.heap.size W0 wx))
            case first =>
              refine wp_region_held_drew (S := fun w' => Below W0.heap.size W0 w' ∧ w'.cell? ⟨A, 0, none⟩ = some (.int .i64 (k : Nat)) ∧ w'.cell? ⟨A, 1, none⟩ = some (.string tt) ∧ w'.cell? ⟨A, 2, none⟩ = some (.int .i64 nu) ∧ w'.cell? ⟨A, 3, none⟩ = some (.int .i64 at9) ∧ w'.cell? ⟨A, 4, none⟩ = some (.slice ra nr rc) ∧ w'.cell? ⟨A, 5, none⟩ = some (.slice ea ne ec)) (by kernel_rfl) ?_ (fun hHeld => ?_)
              focus (exact HKS.out _ (Below.drew KR.out))
              refine' wpAnyH_take (i := 0) (v := _) rfl (by kernel_rfl) (by kernel_rfl) (by kernel_rfl) (fun _ _ _ h => h) (Or.inl ⟨by rfl, ?hy1⟩) (by assumption) ?rest1
              case hy1 => (intro w hSw; (try dsimp only at hSw); go_simp; try with_reducible rfl)
              try simp only [Act.put, List.getElem_toArray, List.getElem_cons_zero, List.getElem_cons_succ, List.setIfInBounds_toArray, List.set_cons_zero, List.set_cons_succ]
              refine' wpAnyH_take (i := 1) (v := _) rfl (by kernel_rfl) (by kernel_rfl) (by kernel_rfl) (fun _ _ _ h => h) (Or.inl ⟨by rfl, ?hy2⟩) (by assumption) ?rest2
              case hy2 => (intro w hSw; (try dsimp only at hSw); go_simp; try with_reducible rfl)
              try simp only [Act.put, List.getElem_toArray, List.getElem_cons_zero, List.getElem_cons_succ, List.setIfInBounds_toArray, List.set_cons_zero, List.set_cons_succ]
              refine' wpAnyH_take (i := 2) (v := _) rfl (by kernel_rfl) (by kernel_rfl) (by kernel_rfl) (fun _ _ _ h => h) (Or.inl ⟨by rfl, ?hy3⟩) (by assumption) ?rest3
              case hy3 => (intro w hSw; (try dsimp only at hSw); go_simp; try with_reducible rfl)
              try simp only [Act.put, List.getElem_toArray, List.getElem_cons_zero, List.getElem_cons_succ, List.setIfInBounds_toArray, List.set_cons_zero, List.set_cons_succ]
              refine' wpAnyH_take (i := 5) (v := _) rfl (by kernel_rfl) (by kernel_rfl) (by kernel_rfl) (fun _ _ _ h => h) (Or.inl ⟨by rfl, ?hy4⟩) (by assumption) ?rest4
              case hy4 => (intro w hSw; (try dsimp only at hSw); go_simp; try with_reducible rfl)
              try simp only [Act.put, List.getElem_toArray, List.getElem_cons_zero, List.getElem_cons_succ, List.setIfInBounds_toArray, List.set_cons_zero, List.set_cons_succ]
              refine' wpAnyH_take (i := 6) (v := _) rfl (by kernel_rfl) (by kernel_rfl) (by kernel_rfl) (fun _ _ _ h => h) (Or.inl ⟨by rfl, ?hy5⟩) (by assumption) ?rest5
              case hy5 => (intro w hSw; (try dsimp only at hSw); go_simp; try with_reducible rfl)
              try simp only [Act.put, List.getElem_toArray, List.getElem_cons_zero, List.getElem_cons_succ, List.setIfInBounds_toArray, List.set_cons_zero, List.set_cons_succ]
              refine' wpAnyH_take (i := 9) (v := _) rfl (by kernel_rfl) (by kernel_rfl) (by kernel_rfl) (fun _ _ _ h => h) (Or.inl ⟨by rfl, ?hy6⟩) (by assumption) ?rest6
              case hy6 => (intro w hSw; (try dsimp only at hSw); go_simp; try with_reducible rfl)
              try simp only [Act.put, List.getElem_toArray, List.getElem_cons_zero, List.getElem_cons_succ, List.setIfInBounds_toArray, List.set_cons_zero, List.set_cons_succ]
              refine' wpAnyH_take (i := 10) (v := _) rfl (by kernel_rfl) (by kernel_rfl) (by kernel_rfl) (fun _ _ _ h => h) (Or.inl ⟨by rfl, ?hy7⟩) (by assumption) ?rest7
              case hy7 => (intro w hSw; (try dsimp only at hSw); go_simp; try with_reducible rfl)
              try simp only [Act.put, List.getElem_toArray, List.getElem_cons_zero, List.getElem_cons_succ, List.setIfInBounds_toArray, List.set_cons_zero, List.set_cons_succ]
              refine' wpAnyH_take (i := 13) (v := _) rfl (by kernel_rfl) (by kernel_rfl) (by kernel_rfl) (fun _ _ _ h => h) (Or.inl ⟨by rfl, ?hy8⟩) (by assumption) ?rest8
              case hy8 => (intro w hSw; (try dsimp only at hSw); go_simp; try with_reducible rfl)
              try simp only [Act.put, List.getElem_toArray, List.getElem_cons_zero, List.getElem_cons_succ, List.setIfInBounds_toArray, List.set_cons_zero, List.set_cons_succ]
              refine' wpAnyH_take (i := 14) (v := _) rfl (by kernel_rfl) (by kernel_rfl) (by kernel_rfl) (fun _ _ _ h => h) (Or.inl ⟨by rfl, ?hy9⟩) (by assumption) ?rest9
              case hy9 => (intro w hSw; (try dsimp only at hSw); go_simp; try with_reducible rfl)
              try simp only [Act.put, List.getElem_toArray, List.getElem_cons_zero, List.getElem_cons_succ, List.setIfInBounds_toArray, List.set_cons_zero, List.set_cons_succ]
              refine' wpAnyH_take (i := 17) (v := _) rfl (by kernel_rfl) (by kernel_rfl) (by kernel_rfl) (fun _ _ _ h => h) (Or.inl ⟨by rfl, ?hy10⟩) (by assumption) ?rest10
              case hy10 => (intro w hSw; (try dsimp only at hSw); go_simp; try with_reducible rfl)
              try simp only [Act.put, List.getElem_toArray, List.getElem_cons_zero, List.getElem_cons_succ, List.setIfInBounds_toArray, List.set_cons_zero, List.set_cons_succ]
              refine' wpAnyH_take (i := 18) (v := _) rfl (by kernel_rfl) (by kernel_rfl) (by kernel_rfl) (fun _ _ _ h => h) (Or.inl ⟨by rfl, ?hy11⟩) (by assumption) ?rest11
              case hy11 => (intro w hSw; (try dsimp only at hSw); go_simp; try with_reducible rfl)
              try simp only [Act.put, List.getElem_toArray, List.getElem_cons_zero, List.getElem_cons_succ, List.setIfInBounds_toArray, List.set_cons_zero, List.set_cons_succ]
              refine' wpAnyH_take (i := 19) (v := _) rfl (by kernel_rfl) (by kernel_rfl) (by kernel_rfl) (fun _ _ _ h => h) (Or.inl ⟨by rfl, ?hy12⟩) (by assumption) ?rest12
              case hy12 => (intro w hSw; (try dsimp only at hSw); go_simp; try with_reducible rfl)
              try simp only [Act.put, List.getElem_toArray, List.getElem_cons_zero, List.getElem_cons_succ, List.setIfInBounds_toArray, List.set_cons_zero, List.set_cons_succ]
              refine' wpAnyH_take (i := 20) (v := _) rfl (by kernel_rfl) (by kernel_rfl) (by kernel_rfl) (fun _ _ _ h => h) (Or.inl ⟨by rfl, ?hy13⟩) (by assumption) ?rest13
              case hy13 => (intro w hSw; (try dsimp only at hSw); go_simp; try with_reducible rfl)
              try simp only [Act.put, List.getElem_toArray, List.getElem_cons_zero, List.getElem_cons_succ, List.setIfInBounds_toArray, List.set_cons_zero, List.set_cons_succ]
              refine wpAnyH_ready (rs := [3, 7, 21]) (by kernel_rfl) (by simp) ?_
              refine AllReadyH.cons rfl (fun K hK => ?_) ?_
              · go_simp
                refine hK.out _ _ ?_ (fun hHeld => ?_)
                focus (exact (HKS.out _ ((below_al (w' := W0.drew) (hHeld).1 (.cells #[.int .u8 (k : Nat)] 5)))))
                clear hK K
                try simp only [Act.put, List.getElem_toArray, List.getElem_cons_zero, List.getElem_cons_succ, List.setIfInBounds_toArray, List.set_cons_zero, List.set_cons_succ]
                refine wpAnyH_mono (S2 := fun w' => (Below W0.heap.size W0 w' ∧ w'.cell? ⟨A, 0, none⟩ = some (.int .i64 (k : Nat)) ∧ w'.cell? ⟨A, 1, none⟩ = some (.string tt) ∧ w'.cell? ⟨A, 2, none⟩ = some (.int .i64 nu) ∧ w'.cell? ⟨A, 3, none⟩ = some (.int .i64 at9) ∧ w'.cell? ⟨A, 4, none⟩ = some (.slice ra nr rc) ∧ w'.cell? ⟨A, 5, none⟩ = some (.slice ea ne ec)) ∧ Zb w' W0.heap.size k) (fun _ h => h.1) _ _ _ _ ?_
                replace hHeld := And.intro hHeld (show Zb ((W0.alloc (.cells #[.int .u8 (k : Nat)] 5)).drew) W0.heap.size k from heap_alloc_new _ _)
                generalize (W0.alloc (.cells #[.int .u8 (k : Nat)] 5)).drew = wb14 at hHeld ⊢
                refine' wpAnyH_take (i := 4) (v := _) rfl (by kernel_rfl) (by kernel_rfl) (by kernel_rfl) (fun _ _ _ h => h) (Or.inl ⟨by rfl, ?hy15⟩) (by assumption) ?rest15
                case hy15 => (intro w hSw; have cv := HTK.out _ _ (hSw.2); (try dsimp only at hSw); go_simp; try with_reducible rfl)
                try simp only [Act.put, List.getElem_toArray, List.getElem_cons_zero, List.getElem_cons_succ, List.setIfInBounds_toArray, List.set_cons_zero, List.set_cons_succ]
                refine wpAnyH_ready (rs := [7, 21]) (by kernel_rfl) (by simp) ?_
                refine AllReadyH.cons rfl (fun K hK => ?_) ?_
                · go_simp
                  (go_at_call 28; (with_reducible refine (CT.out _).mono ?_); rintro e w16 ⟨rfl, bt16⟩; have hk16 := below_on (B := W0.heap.size) (w := W0) (hHeld.1).1 bt16 (Nat.le_refl _))
                  go_wp2_with fail
                  refine hK.out _ _ ?_ (fun hHeld => ?_)
                  focus (exact ⟨(HKS.out _ (hk16)), (Zb.below (hHeld.2) bt16)⟩)
                  clear hK K
                  try simp only [Act.put, List.getElem_toArray, List.getElem_cons_zero, List.getElem_cons_succ, List.setIfInBounds_toArray, List.set_cons_zero, List.set_cons_succ]
                  refine' wpAnyH_take (i := 8) (v := _) rfl (by kernel_rfl) (by kernel_rfl) (by kernel_rfl) (fun _ _ _ h => h) (Or.inl ⟨by rfl, ?hy17⟩) (by assumption) ?rest17
                  case hy17 => (intro w hSw; (try dsimp only at hSw); go_simp; try with_reducible rfl)
                  try simp only [Act.put, List.getElem_toArray, List.getElem_cons_zero, List.getElem_cons_succ, List.setIfInBounds_toArray, List.set_cons_zero, List.set_cons_succ]
                  refine wpAnyH_ready (rs := [11, 21]) (by kernel_rfl) (by simp) ?_
                  refine AllReadyH.cons rfl (fun K hK => ?_) ?_
                  · go_simp
                    (go_at_call 29; (with_reducible refine (CN1.out _).mono ?_); rintro e w18 ⟨rfl, bt18⟩; have hk18 := below_on (B := W0.heap.size) (w := W0) (hHeld.1).1 bt18 (Nat.le_refl _))
                    go_wp2_with fail
                    refine hK.out _ _ ?_ (fun hHeld => ?_)
                    focus (exact ⟨(HKS.out _ (hk18)), (Zb.below (hHeld.2) bt18)⟩)
                    clear hK K
                    try simp only [Act.put, List.getElem_toArray, List.getElem_cons_zero, List.getElem_cons_succ, List.setIfInBounds_toArray, List.set_cons_zero, List.set_cons_succ]
                    refine' wpAnyH_take (i := 12) (v := _) rfl (by kernel_rfl) (by kernel_rfl) (by kernel_rfl) (fun _ _ _ h => h) (Or.inl ⟨by rfl, ?hy19⟩) (by assumption) ?rest19
                    case hy19 => (intro w hSw; (try dsimp only at hSw); go_simp; try with_reducible rfl)
                    try simp only [Act.put, List.getElem_toArray, List.getElem_cons_zero, List.getElem_cons_succ, List.setIfInBounds_toArray, List.set_cons_zero, List.set_cons_succ]
                    refine wpAnyH_ready (rs := [15, 21]) (by kernel_rfl) (by simp) ?_
                    refine AllReadyH.cons rfl (fun K hK => ?_) ?_
                    · go_simp
                      (go_at_call 29; (with_reducible refine (CN2.out _).mono ?_); rintro e w20 ⟨rfl, bt20⟩; have hk20 := below_on (B := W0.heap.size) (w := W0) (hHeld.1).1 bt20 (Nat.le_refl _))
                      go_wp2_with fail
                      refine hK.out _ _ ?_ (fun hHeld => ?_)
                      focus (exact ⟨(HKS.out _ (hk20)), (Zb.below (hHeld.2) bt20)⟩)
                      clear hK K
                      try simp only [Act.put, List.getElem_toArray, List.getElem_cons_zero, List.getElem_cons_succ, List.setIfInBounds_toArray, List.set_cons_zero, List.set_cons_succ]
                      refine' wpAnyH_take (i := 16) (v := _) rfl (by kernel_rfl) (by kernel_rfl) (by kernel_rfl) (fun _ _ _ h => h) (Or.inl ⟨by rfl, ?hy21⟩) (by assumption) ?rest21
                      case hy21 => (intro w hSw; (try dsimp only at hSw); go_simp; try with_reducible rfl)
                      try simp only [Act.put, List.getElem_toArray, List.getElem_cons_zero, List.getElem_cons_succ, List.setIfInBounds_toArray, List.set_cons_zero, List.set_cons_succ]
                      refine wpAnyH_ready (rs := [21]) (by kernel_rfl) (by simp) ?_
                      refine AllReadyH.cons rfl (fun K hK => ?_) ?_
                      · go_simp
                        refine hK.out _ _ ?_ (fun hHeld => ?_)
                        focus (exact ⟨(HKS.out _ ((below_al (hHeld.1).1 _))), (Zb.below (hHeld.2) (below_al (Below.refl _ _) _))⟩)
                        clear hK K
                        try simp only [Act.put, List.getElem_toArray, List.getElem_cons_zero, List.getElem_cons_succ, List.setIfInBounds_toArray, List.set_cons_zero, List.set_cons_succ]
                        refine wpAnyH_mono (S2 := fun w' => ((Below W0.heap.size W0 w' ∧ w'.cell? ⟨A, 0, none⟩ = some (.int .i64 (k : Nat)) ∧ w'.cell? ⟨A, 1, none⟩ = some (.string tt) ∧ w'.cell? ⟨A, 2, none⟩ = some (.int .i64 nu) ∧ w'.cell? ⟨A, 3, none⟩ = some (.int .i64 at9) ∧ w'.cell? ⟨A, 4, none⟩ = some (.slice ra nr rc) ∧ w'.cell? ⟨A, 5, none⟩ = some (.slice ea ne ec)) ∧ Zb w' W0.heap.size k) ∧ Zb w' w20.heap.size nr) (fun _ h => h.1) _ _ _ _ ?_
                        replace hHeld := And.intro hHeld (show Zb ((w20.alloc (.cells #[.int .u8 (nr : Nat)] 5))) w20.heap.size nr from heap_alloc_new _ _)
                        generalize (w20.alloc (.cells #[.int .u8 (nr : Nat)] 5)) = wb22 at hHeld ⊢
                        refine' wpAnyH_take (i := 22) (v := _) rfl (by kernel_rfl) (by kernel_rfl) (by kernel_rfl) (fun _ _ _ h => h) (Or.inl ⟨by rfl, ?hy23⟩) (by assumption) ?rest23
                        case hy23 => (intro w hSw; have cv := HTN.out _ _ (hSw.2); (try dsimp only at hSw); go_simp; try with_reducible rfl)
                        try simp only [Act.put, List.getElem_toArray, List.getElem_cons_zero, List.getElem_cons_succ, List.setIfInBounds_toArray, List.set_cons_zero, List.set_cons_succ]
                        refine' wpAnyH_take (i := 23) (v := _) rfl (by kernel_rfl) (by kernel_rfl) (by kernel_rfl) (fun _ _ _ h => h) (Or.inl ⟨by rfl, ?hy24⟩) (by assumption) ?rest24
                        case hy24 => (intro w hSw; (try dsimp only at hSw); go_simp; try with_reducible rfl)
                        try simp only [Act.put, List.getElem_toArray, List.getElem_cons_zero, List.getElem_cons_succ, List.setIfInBounds_toArray, List.set_cons_zero, List.set_cons_succ]
                        refine' wpAnyH_take (i := 24) (v := _) rfl (by kernel_rfl) (by kernel_rfl) (by kernel_rfl) (fun _ _ _ h => h) (Or.inl ⟨by rfl, ?hy25⟩) (by assumption) ?rest25
                        case hy25 => (intro w hSw; (try dsimp only at hSw); go_simp; try with_reducible rfl)
                        try simp only [Act.put, List.getElem_toArray, List.getElem_cons_zero, List.getElem_cons_succ, List.setIfInBounds_toArray, List.set_cons_zero, List.set_cons_succ]
                        refine wpAnyH_done (by kernel_rfl) ?_ _
                        go_wp2_with fail
                        go_meet
                        exact ⟨rfl, (hHeld.1.1).1⟩
                      exact AllReadyH.nil
                    refine AllReadyH.cons rfl (fun K hK => ?_) ?_
                    · go_simp
                      refine hK.out _ _ ?_ (fun hHeld => ?_)
                      focus (exact ⟨(HKS.out _ ((below_al (hHeld.1).1 _))), (Zb.below (hHeld.2) (below_al (Below.refl _ _) _))⟩)
                      clear hK K
                      try simp only [Act.put, List.getElem_toArray, List.getElem_cons_zero, List.getElem_cons_succ, List.setIfInBounds_toArray, List.set_cons_zero, List.set_cons_succ]
                      refine wpAnyH_mono (S2 := fun w' => ((Below W0.heap.size W0 w' ∧ w'.cell? ⟨A, 0, none⟩ = some (.int .i64 (k : Nat)) ∧ w'.cell? ⟨A, 1, none⟩ = some (.string tt) ∧ w'.cell? ⟨A, 2, none⟩ = some (.int .i64 nu) ∧ w'.cell? ⟨A, 3, none⟩ = some (.int .i64 at9) ∧ w'.cell? ⟨A, 4, none⟩ = some (.slice ra nr rc) ∧ w'.cell? ⟨A, 5, none⟩ = some (.slice ea ne ec)) ∧ Zb w' W0.heap.size k) ∧ Zb w' w18.heap.size nr) (fun _ h => h.1) _ _ _ _ ?_
                      replace hHeld := And.intro hHeld (show Zb ((w18.alloc (.cells #[.int .u8 (nr : Nat)] 5))) w18.heap.size nr from heap_alloc_new _ _)
                      generalize (w18.alloc (.cells #[.int .u8 (nr : Nat)] 5)) = wb26 at hHeld ⊢
                      refine' wpAnyH_take (i := 22) (v := _) rfl (by kernel_rfl) (by kernel_rfl) (by kernel_rfl) (fun _ _ _ h => h) (Or.inl ⟨by rfl, ?hy27⟩) (by assumption) ?rest27
                      case hy27 => (intro w hSw; have cv := HTN.out _ _ (hSw.2); (try dsimp only at hSw); go_simp; try with_reducible rfl)
                      try simp only [Act.put, List.getElem_toArray, List.getElem_cons_zero, List.getElem_cons_succ, List.setIfInBounds_toArray, List.set_cons_zero, List.set_cons_succ]
                      refine wpAnyH_ready (rs := [15]) (by kernel_rfl) (by simp) ?_
                      refine AllReadyH.cons rfl (fun K hK => ?_) ?_
                      · go_simp
                        (go_at_call 29; (with_reducible refine (CN2.out _).mono ?_); rintro e w28 ⟨rfl, bt28⟩; have hk28 := below_on (B := W0.heap.size) (w := W0) (hHeld.1.1).1 bt28 (Nat.le_refl _))
                        go_wp2_with fail
                        refine hK.out _ _ ?_ (fun hHeld => ?_)
                        focus (exact ⟨⟨(HKS.out _ (hk28)), (Zb.below (hHeld.1.2) bt28)⟩, (Zb.below (hHeld.2) bt28)⟩)
                        clear hK K
                        try simp only [Act.put, List.getElem_toArray, List.getElem_cons_zero, List.getElem_cons_succ, List.setIfInBounds_toArray, List.set_cons_zero, List.set_cons_succ]
                        refine' wpAnyH_take (i := 16) (v := _) rfl (by kernel_rfl) (by kernel_rfl) (by kernel_rfl) (fun _ _ _ h => h) (Or.inl ⟨by rfl, ?hy29⟩) (by assumption) ?rest29
                        case hy29 => (intro w hSw; (try dsimp only at hSw); go_simp; try with_reducible rfl)
                        try simp only [Act.put, List.getElem_toArray, List.getElem_cons_zero, List.getElem_cons_succ, List.setIfInBounds_toArray, List.set_cons_zero, List.set_cons_succ]
                        refine' wpAnyH_take (i := 23) (v := _) rfl (by kernel_rfl) (by kernel_rfl) (by kernel_rfl) (fun _ _ _ h => h) (Or.inl ⟨by rfl, ?hy30⟩) (by assumption) ?rest30
                        case hy30 => (intro w hSw; (try dsimp only at hSw); go_simp; try with_reducible rfl)
                        try simp only [Act.put, List.getElem_toArray, List.getElem_cons_zero, List.getElem_cons_succ, List.setIfInBounds_toArray, List.set_cons_zero, List.set_cons_succ]
                        refine' wpAnyH_take (i := 24) (v := _) rfl (by kernel_rfl) (by kernel_rfl) (by kernel_rfl) (fun _ _ _ h => h) (Or.inl ⟨by rfl, ?hy31⟩) (by assumption) ?rest31
                        case hy31 => (intro w hSw; (try dsimp only at hSw); go_simp; try with_reducible rfl)
                        try simp only [Act.put, List.getElem_toArray, List.getElem_cons_zero, List.getElem_cons_succ, List.setIfInBounds_toArray, List.set_cons_zero, List.set_cons_succ]
                        refine wpAnyH_done (by kernel_rfl) ?_ _
                        go_wp2_with fail
                        go_meet
                        exact ⟨rfl, (hHeld.1.1).1⟩
                      exact AllReadyH.nil
                    exact AllReadyH.nil
                  refine AllReadyH.cons rfl (fun K hK => ?_) ?_
                  · go_simp
                    refine hK.out _ _ ?_ (fun hHeld => ?_)
                    focus (exact ⟨(HKS.out _ ((below_al (hHeld.1).1 _))), (Zb.below (hHeld.2) (below_al (Below.refl _ _) _))⟩)
                    clear hK K
                    try simp only [Act.put, List.getElem_toArray, List.getElem_cons_zero, List.getElem_cons_succ, List.setIfInBounds_toArray, List.set_cons_zero, List.set_cons_succ]
                    refine wpAnyH_mono (S2 := fun w' => ((Below W0.heap.size W0 w' ∧ w'.cell? ⟨A, 0, none⟩ = some (.int .i64 (k : Nat)) ∧ w'.cell? ⟨A, 1, none⟩ = some (.string tt) ∧ w'.cell? ⟨A, 2, none⟩ = some (.int .i64 nu) ∧ w'.cell? ⟨A, 3, none⟩ = some (.int .i64 at9) ∧ w'.cell? ⟨A, 4, none⟩ = some (.slice ra nr rc) ∧ w'.cell? ⟨A, 5, none⟩ = some (.slice ea ne ec)) ∧ Zb w' W0.heap.size k) ∧ Zb w' w16.heap.size nr) (fun _ h => h.1) _ _ _ _ ?_
                    replace hHeld := And.intro hHeld (show Zb ((w16.alloc (.cells #[.int .u8 (nr : Nat)] 5))) w16.heap.size nr from heap_alloc_new _ _)
                    generalize (w16.alloc (.cells #[.int .u8 (nr : Nat)] 5)) = wb32 at hHeld ⊢
                    refine' wpAnyH_take (i := 22) (v := _) rfl (by kernel_rfl) (by kernel_rfl) (by kernel_rfl) (fun _ _ _ h => h) (Or.inl ⟨by rfl, ?hy33⟩) (by assumption) ?rest33
                    case hy33 => (intro w hSw; have cv := HTN.out _ _ (hSw.2); (try dsimp only at hSw); go_simp; try with_reducible rfl)
                    try simp only [Act.put, List.getElem_toArray, List.getElem_cons_zero, List.getElem_cons_succ, List.setIfInBounds_toArray, List.set_cons_zero, List.set_cons_succ]
                    refine wpAnyH_ready (rs := [11]) (by kernel_rfl) (by simp) ?_
                    refine AllReadyH.cons rfl (fun K hK => ?_) ?_
                    · go_simp
                      (go_at_call 29; (with_reducible refine (CN1.out _).mono ?_); rintro e w34 ⟨rfl, bt34⟩; have hk34 := below_on (B := W0.heap.size) (w := W0) (hHeld.1.1).1 bt34 (Nat.le_refl _))
                      go_wp2_with fail
                      refine hK.out _ _ ?_ (fun hHeld => ?_)
                      focus (exact ⟨⟨(HKS.out _ (hk34)), (Zb.below (hHeld.1.2) bt34)⟩, (Zb.below (hHeld.2) bt34)⟩)
                      clear hK K
                      try simp only [Act.put, List.getElem_toArray, List.getElem_cons_zero, List.getElem_cons_succ, List.setIfInBounds_toArray, List.set_cons_zero, List.set_cons_succ]
                      refine' wpAnyH_take (i := 12) (v := _) rfl (by kernel_rfl) (by kernel_rfl) (by kernel_rfl) (fun _ _ _ h => h) (Or.inl ⟨by rfl, ?hy35⟩) (by assumption) ?rest35
                      case hy35 => (intro w hSw; (try dsimp only at hSw); go_simp; try with_reducible rfl)
                      try simp only [Act.put, List.getElem_toArray, List.getElem_cons_zero, List.getElem_cons_succ, List.setIfInBounds_toArray, List.set_cons_zero, List.set_cons_succ]
                      refine wpAnyH_ready (rs := [15]) (by kernel_rfl) (by simp) ?_
                      refine AllReadyH.cons rfl (fun K hK => ?_) ?_
                      · go_simp
                        (go_at_call 29; (with_reducible refine (CN2.out _).mono ?_); rintro e w36 ⟨rfl, bt36⟩; have hk36 := below_on (B := W0.heap.size) (w := W0) (hHeld.1.1).1 bt36 (Nat.le_refl _))
                        go_wp2_with fail
                        refine hK.out _ _ ?_ (fun hHeld => ?_)
                        focus (exact ⟨⟨(HKS.out _ (hk36)), (Zb.below (hHeld.1.2) bt36)⟩, (Zb.below (hHeld.2) bt36)⟩)
                        clear hK K
                        try simp only [Act.put, List.getElem_toArray, List.getElem_cons_zero, List.getElem_cons_succ, List.setIfInBounds_toArray, List.set_cons_zero, List.set_cons_succ]
                        refine' wpAnyH_take (i := 16) (v := _) rfl (by kernel_rfl) (by kernel_rfl) (by kernel_rfl) (fun _ _ _ h => h) (Or.inl ⟨by rfl, ?hy37⟩) (by assumption) ?rest37
                        case hy37 => (intro w hSw; (try dsimp only at hSw); go_simp; try with_reducible rfl)
                        try simp only [Act.put, List.getElem_toArray, List.getElem_cons_zero, List.getElem_cons_succ, List.setIfInBounds_toArray, List.set_cons_zero, List.set_cons_succ]
                        refine' wpAnyH_take (i := 23) (v := _) rfl (by kernel_rfl) (by kernel_rfl) (by kernel_rfl) (fun _ _ _ h => h) (Or.inl ⟨by rfl, ?hy38⟩) (by assumption) ?rest38
                        case hy38 => (intro w hSw; (try dsimp only at hSw); go_simp; try with_reducible rfl)
                        try simp only [Act.put, List.getElem_toArray, List.getElem_cons_zero, List.getElem_cons_succ, List.setIfInBounds_toArray, List.set_cons_zero, List.set_cons_succ]
                        refine' wpAnyH_take (i := 24) (v := _) rfl (by kernel_rfl) (by kernel_rfl) (by kernel_rfl) (fun _ _ _ h => h) (Or.inl ⟨by rfl, ?hy39⟩) (by assumption) ?rest39
                        case hy39 => (intro w hSw; (try dsimp only at hSw); go_simp; try with_reducible rfl)
                        try simp only [Act.put, List.getElem_toArray, List.getElem_cons_zero, List.getElem_cons_succ, List.setIfInBounds_toArray, List.set_cons_zero, List.set_cons_succ]
                        refine wpAnyH_done (by kernel_rfl) ?_ _
                        go_wp2_with fail
                        go_meet
                        exact ⟨rfl, (hHeld.1.1).1⟩
                      exact AllReadyH.nil
                    exact AllReadyH.nil
                  exact AllReadyH.nil
                refine AllReadyH.cons rfl (fun K hK => ?_) ?_
                · go_simp
                  refine hK.out _ _ ?_ (fun hHeld => ?_)
                  focus (exact ⟨(HKS.out _ ((below_al (hHeld.1).1 _))), (Zb.below (hHeld.2) (below_al (Below.refl _ _) _))⟩)
                  clear hK K
                  try simp only [Act.put, List.getElem_toArray, List.getElem_cons_zero, List.getElem_cons_succ, List.setIfInBounds_toArray, List.set_cons_zero, List.set_cons_succ]
                  refine wpAnyH_mono (S2 := fun w' => ((Below W0.heap.size W0 w' ∧ w'.cell? ⟨A, 0, none⟩ = some (.int .i64 (k : Nat)) ∧ w'.cell? ⟨A, 1, none⟩ = some (.string tt) ∧ w'.cell? ⟨A, 2, none⟩ = some (.int .i64 nu) ∧ w'.cell? ⟨A, 3, none⟩ = some (.int .i64 at9) ∧ w'.cell? ⟨A, 4, none⟩ = some (.slice ra nr rc) ∧ w'.cell? ⟨A, 5, none⟩ = some (.slice ea ne ec)) ∧ Zb w' W0.heap.size k) ∧ Zb w' wb14.heap.size nr) (fun _ h => h.1) _ _ _ _ ?_
                  replace hHeld := And.intro hHeld (show Zb ((wb14.alloc (.cells #[.int .u8 (nr : Nat)] 5))) wb14.heap.size nr from heap_alloc_new _ _)
                  generalize (wb14.alloc (.cells #[.int .u8 (nr : Nat)] 5)) = wb40 at hHeld ⊢
                  refine' wpAnyH_take (i := 22) (v := _) rfl (by kernel_rfl) (by kernel_rfl) (by kernel_rfl) (fun _ _ _ h => h) (Or.inl ⟨by rfl, ?hy41⟩) (by assumption) ?rest41
                  case hy41 => (intro w hSw; have cv := HTN.out _ _ (hSw.2); (try dsimp only at hSw); go_simp; try with_reducible rfl)
                  try simp only [Act.put, List.getElem_toArray, List.getElem_cons_zero, List.getElem_cons_succ, List.setIfInBounds_toArray, List.set_cons_zero, List.set_cons_succ]
                  refine wpAnyH_ready (rs := [7]) (by kernel_rfl) (by simp) ?_
                  refine AllReadyH.cons rfl (fun K hK => ?_) ?_
                  · go_simp
                    (go_at_call 28; (with_reducible refine (CT.out _).mono ?_); rintro e w42 ⟨rfl, bt42⟩; have hk42 := below_on (B := W0.heap.size) (w := W0) (hHeld.1.1).1 bt42 (Nat.le_refl _))
                    go_wp2_with fail
                    refine hK.out _ _ ?_ (fun hHeld => ?_)
                    focus (exact ⟨⟨(HKS.out _ (hk42)), (Zb.below (hHeld.1.2) bt42)⟩, (Zb.below (hHeld.2) bt42)⟩)
                    clear hK K
                    try simp only [Act.put, List.getElem_toArray, List.getElem_cons_zero, List.getElem_cons_succ, List.setIfInBounds_toArray, List.set_cons_zero, List.set_cons_succ]
                    refine' wpAnyH_take (i := 8) (v := _) rfl (by kernel_rfl) (by kernel_rfl) (by kernel_rfl) (fun _ _ _ h => h) (Or.inl ⟨by rfl, ?hy43⟩) (by assumption) ?rest43
                    case hy43 => (intro w hSw; (try dsimp only at hSw); go_simp; try with_reducible rfl)
                    try simp only [Act.put, List.getElem_toArray, List.getElem_cons_zero, List.getElem_cons_succ, List.setIfInBounds_toArray, List.set_cons_zero, List.set_cons_succ]
                    refine wpAnyH_ready (rs := [11]) (by kernel_rfl) (by simp) ?_
                    refine AllReadyH.cons rfl (fun K hK => ?_) ?_
                    · go_simp
                      (go_at_call 29; (with_reducible refine (CN1.out _).mono ?_); rintro e w44 ⟨rfl, bt44⟩; have hk44 := below_on (B := W0.heap.size) (w := W0) (hHeld.1.1).1 bt44 (Nat.le_refl _))
                      go_wp2_with fail
                      refine hK.out _ _ ?_ (fun hHeld => ?_)
                      focus (exact ⟨⟨(HKS.out _ (hk44)), (Zb.below (hHeld.1.2) bt44)⟩, (Zb.below (hHeld.2) bt44)⟩)
                      clear hK K
                      try simp only [Act.put, List.getElem_toArray, List.getElem_cons_zero, List.getElem_cons_succ, List.setIfInBounds_toArray, List.set_cons_zero, List.set_cons_succ]
                      refine' wpAnyH_take (i := 12) (v := _) rfl (by kernel_rfl) (by kernel_rfl) (by kernel_rfl) (fun _ _ _ h => h) (Or.inl ⟨by rfl, ?hy45⟩) (by assumption) ?rest45
                      case hy45 => (intro w hSw; (try dsimp only at hSw); go_simp; try with_reducible rfl)
                      try simp only [Act.put, List.getElem_toArray, List.getElem_cons_zero, List.getElem_cons_succ, List.setIfInBounds_toArray, List.set_cons_zero, List.set_cons_succ]
                      refine wpAnyH_ready (rs := [15]) (by kernel_rfl) (by simp) ?_
                      refine AllReadyH.cons rfl (fun K hK => ?_) ?_
                      · go_simp
                        (go_at_call 29; (with_reducible refine (CN2.out _).mono ?_); rintro e w46 ⟨rfl, bt46⟩; have hk46 := below_on (B := W0.heap.size) (w := W0) (hHeld.1.1).1 bt46 (Nat.le_refl _))
                        go_wp2_with fail
                        refine hK.out _ _ ?_ (fun hHeld => ?_)
                        focus (exact ⟨⟨(HKS.out _ (hk46)), (Zb.below (hHeld.1.2) bt46)⟩, (Zb.below (hHeld.2) bt46)⟩)
                        clear hK K
                        try simp only [Act.put, List.getElem_toArray, List.getElem_cons_zero, List.getElem_cons_succ, List.setIfInBounds_toArray, List.set_cons_zero, List.set_cons_succ]
                        refine' wpAnyH_take (i := 16) (v := _) rfl (by kernel_rfl) (by kernel_rfl) (by kernel_rfl) (fun _ _ _ h => h) (Or.inl ⟨by rfl, ?hy47⟩) (by assumption) ?rest47
                        case hy47 => (intro w hSw; (try dsimp only at hSw); go_simp; try with_reducible rfl)
                        try simp only [Act.put, List.getElem_toArray, List.getElem_cons_zero, List.getElem_cons_succ, List.setIfInBounds_toArray, List.set_cons_zero, List.set_cons_succ]
                        refine' wpAnyH_take (i := 23) (v := _) rfl (by kernel_rfl) (by kernel_rfl) (by kernel_rfl) (fun _ _ _ h => h) (Or.inl ⟨by rfl, ?hy48⟩) (by assumption) ?rest48
                        case hy48 => (intro w hSw; (try dsimp only at hSw); go_simp; try with_reducible rfl)
                        try simp only [Act.put, List.getElem_toArray, List.getElem_cons_zero, List.getElem_cons_succ, List.setIfInBounds_toArray, List.set_cons_zero, List.set_cons_succ]
                        refine' wpAnyH_take (i := 24) (v := _) rfl (by kernel_rfl) (by kernel_rfl) (by kernel_rfl) (fun _ _ _ h => h) (Or.inl ⟨by rfl, ?hy49⟩) (by assumption) ?rest49
                        case hy49 => (intro w hSw; (try dsimp only at hSw); go_simp; try with_reducible rfl)
                        try simp only [Act.put, List.getElem_toArray, List.getElem_cons_zero, List.getElem_cons_succ, List.setIfInBounds_toArray, List.set_cons_zero, List.set_cons_succ]
                        refine wpAnyH_done (by kernel_rfl) ?_ _
                        go_wp2_with fail
                        go_meet
                        exact ⟨rfl, (hHeld.1.1).1⟩
                      exact AllReadyH.nil
                    exact AllReadyH.nil
                  exact AllReadyH.nil
                exact AllReadyH.nil
              refine AllReadyH.cons rfl (fun K hK => ?_) ?_
              · go_simp
                (go_at_call 28; (with_reducible refine (CT.out _).mono ?_); rintro e w50 ⟨rfl, bt50⟩; have hk50 := below_on (B := W0.heap.size) (w := W0) (hHeld).1 bt50 (Nat.le_refl _))
                go_wp2_with fail
                refine hK.out _ _ ?_ (fun hHeld => ?_)
                focus (exact (HKS.out _ (hk50)))
                clear hK K
                try simp only [Act.put, List.getElem_toArray, List.getElem_cons_zero, List.getElem_cons_succ, List.setIfInBounds_toArray, List.set_cons_zero, List.set_cons_succ]
                refine wpAnyH_ready (rs := [3, 11, 21]) (by kernel_rfl) (by simp) ?_
                refine AllReadyH.cons rfl (fun K hK => ?_) ?_
                · go_simp
                  refine hK.out _ _ ?_ (fun hHeld => ?_)
                  focus (exact (HKS.out _ ((below_al (hHeld).1 _))))
                  clear hK K
                  try simp only [Act.put, List.getElem_toArray, List.getElem_cons_zero, List.getElem_cons_succ, List.setIfInBounds_toArray, List.set_cons_zero, List.set_cons_succ]
                  refine wpAnyH_mono (S2 := fun w' => (Below W0.heap.size W0 w' ∧ w'.cell? ⟨A, 0, none⟩ = some (.int .i64 (k : Nat)) ∧ w'.cell? ⟨A, 1, none⟩ = some (.string tt) ∧ w'.cell? ⟨A, 2, none⟩ = some (.int .i64 nu) ∧ w'.cell? ⟨A, 3, none⟩ = some (.int .i64 at9) ∧ w'.cell? ⟨A, 4, none⟩ = some (.slice ra nr rc) ∧ w'.cell? ⟨A, 5, none⟩ = some (.slice ea ne ec)) ∧ Zb w' w50.heap.size k) (fun _ h => h.1) _ _ _ _ ?_
                  replace hHeld := And.intro hHeld (show Zb ((w50.alloc (.cells #[.int .u8 (k : Nat)] 5))) w50.heap.size k from heap_alloc_new _ _)
                  generalize (w50.alloc (.cells #[.int .u8 (k : Nat)] 5)) = wb51 at hHeld ⊢
                  refine' wpAnyH_take (i := 4) (v := _) rfl (by kernel_rfl) (by kernel_rfl) (by kernel_rfl) (fun _ _ _ h => h) (Or.inl ⟨by rfl, ?hy52⟩) (by assumption) ?rest52
                  case hy52 => (intro w hSw; have cv := HTK.out _ _ (hSw.2); (try dsimp only at hSw); go_simp; try with_reducible rfl)
                  try simp only [Act.put, List.getElem_toArray, List.getElem_cons_zero, List.getElem_cons_succ, List.setIfInBounds_toArray, List.set_cons_zero, List.set_cons_succ]
                  refine' wpAnyH_take (i := 8) (v := _) rfl (by kernel_rfl) (by kernel_rfl) (by kernel_rfl) (fun _ _ _ h => h) (Or.inl ⟨by rfl, ?hy53⟩) (by assumption) ?rest53
                  case hy53 => (intro w hSw; (try dsimp only at hSw); go_simp; try with_reducible rfl)
                  try simp only [Act.put, List.getElem_toArray, List.getElem_cons_zero, List.getElem_cons_succ, List.setIfInBounds_toArray, List.set_cons_zero, List.set_cons_succ]
                  refine wpAnyH_ready (rs := [11, 21]) (by kernel_rfl) (by simp) ?_
                  refine AllReadyH.cons rfl (fun K hK => ?_) ?_
                  · go_simp
                    (go_at_call 29; (with_reducible refine (CN1.out _).mono ?_); rintro e w54 ⟨rfl, bt54⟩; have hk54 := below_on (B := W0.heap.size) (w := W0) (hHeld.1).1 bt54 (Nat.le_refl _))
                    go_wp2_with fail
                    refine hK.out _ _ ?_ (fun hHeld => ?_)
                    focus (exact ⟨(HKS.out _ (hk54)), (Zb.below (hHeld.2) bt54)⟩)
                    clear hK K
                    try simp only [Act.put, List.getElem_toArray, List.getElem_cons_zero, List.getElem_cons_succ, List.setIfInBounds_toArray, List.set_cons_zero, List.set_cons_succ]
                    refine' wpAnyH_take (i := 12) (v := _) rfl (by kernel_rfl) (by kernel_rfl) (by kernel_rfl) (fun _ _ _ h => h) (Or.inl ⟨by rfl, ?hy55⟩) (by assumption) ?rest55
                    case hy55 => (intro w hSw; (try dsimp only at hSw); go_simp; try with_reducible rfl)
                    try simp only [Act.put, List.getElem_toArray, List.getElem_cons_zero, List.getElem_cons_succ, List.setIfInBounds_toArray, List.set_cons_zero, List.set_cons_succ]
                    refine wpAnyH_ready (rs := [15, 21]) (by kernel_rfl) (by simp) ?_
                    refine AllReadyH.cons rfl (fun K hK => ?_) ?_
                    · go_simp
                      (go_at_call 29; (with_reducible refine (CN2.out _).mono ?_); rintro e w56 ⟨rfl, bt56⟩; have hk56 := below_on (B := W0.heap.size) (w := W0) (hHeld.1).1 bt56 (Nat.le_refl _))
                      go_wp2_with fail
                      refine hK.out _ _ ?_ (fun hHeld => ?_)
                      focus (exact ⟨(HKS.out _ (hk56)), (Zb.below (hHeld.2) bt56)⟩)
                      clear hK K
                      try simp only [Act.put, List.getElem_toArray, List.getElem_cons_zero, List.getElem_cons_succ, List.setIfInBounds_toArray, List.set_cons_zero, List.set_cons_succ]
                      refine' wpAnyH_take (i := 16) (v := _) rfl (by kernel_rfl) (by kernel_rfl) (by kernel_rfl) (fun _ _ _ h => h) (Or.inl ⟨by rfl, ?hy57⟩) (by assumption) ?rest57
                      case hy57 => (intro w hSw; (try dsimp only at hSw); go_simp; try with_reducible rfl)
                      try simp only [Act.put, List.getElem_toArray, List.getElem_cons_zero, List.getElem_cons_succ, List.setIfInBounds_toArray, List.set_cons_zero, List.set_cons_succ]
                      refine wpAnyH_ready (rs := [21]) (by kernel_rfl) (by simp) ?_
                      refine AllReadyH.cons rfl (fun K hK => ?_) ?_
                      · go_simp
                        refine hK.out _ _ ?_ (fun hHeld => ?_)
                        focus (exact ⟨(HKS.out _ ((below_al (hHeld.1).1 _))), (Zb.below (hHeld.2) (below_al (Below.refl _ _) _))⟩)
                        clear hK K
                        try simp only [Act.put, List.getElem_toArray, List.getElem_cons_zero, List.getElem_cons_succ, List.setIfInBounds_toArray, List.set_cons_zero, List.set_cons_succ]
                        refine wpAnyH_mono (S2 := fun w' => ((Below W0.heap.size W0 w' ∧ w'.cell? ⟨A, 0, none⟩ = some (.int .i64 (k : Nat)) ∧ w'.cell? ⟨A, 1, none⟩ = some (.string tt) ∧ w'.cell? ⟨A, 2, none⟩ = some (.int .i64 nu) ∧ w'.cell? ⟨A, 3, none⟩ = some (.int .i64 at9) ∧ w'.cell? ⟨A, 4, none⟩ = some (.slice ra nr rc) ∧ w'.cell? ⟨A, 5, none⟩ = some (.slice ea ne ec)) ∧ Zb w' w50.heap.size k) ∧ Zb w' w56.heap.size nr) (fun _ h => h.1) _ _ _ _ ?_
                        replace hHeld := And.intro hHeld (show Zb ((w56.alloc (.cells #[.int .u8 (nr : Nat)] 5))) w56.heap.size nr from heap_alloc_new _ _)
                        generalize (w56.alloc (.cells #[.int .u8 (nr : Nat)] 5)) = wb58 at hHeld ⊢
                        refine' wpAnyH_take (i := 22) (v := _) rfl (by kernel_rfl) (by kernel_rfl) (by kernel_rfl) (fun _ _ _ h => h) (Or.inl ⟨by rfl, ?hy59⟩) (by assumption) ?rest59
                        case hy59 => (intro w hSw; have cv := HTN.out _ _ (hSw.2); (try dsimp only at hSw); go_simp; try with_reducible rfl)
                        try simp only [Act.put, List.getElem_toArray, List.getElem_cons_zero, List.getElem_cons_succ, List.setIfInBounds_toArray, List.set_cons_zero, List.set_cons_succ]
                        refine' wpAnyH_take (i := 23) (v := _) rfl (by kernel_rfl) (by kernel_rfl) (by kernel_rfl) (fun _ _ _ h => h) (Or.inl ⟨by rfl, ?hy60⟩) (by assumption) ?rest60
                        case hy60 => (intro w hSw; (try dsimp only at hSw); go_simp; try with_reducible rfl)
                        try simp only [Act.put, List.getElem_toArray, List.getElem_cons_zero, List.getElem_cons_succ, List.setIfInBounds_toArray, List.set_cons_zero, List.set_cons_succ]
                        refine' wpAnyH_take (i := 24) (v := _) rfl (by kernel_rfl) (by kernel_rfl) (by kernel_rfl) (fun _ _ _ h => h) (Or.inl ⟨by rfl, ?hy61⟩) (by assumption) ?rest61
                        case hy61 => (intro w hSw; (try dsimp only at hSw); go_simp; try with_reducible rfl)
                        try simp only [Act.put, List.getElem_toArray, List.getElem_cons_zero, List.getElem_cons_succ, List.setIfInBounds_toArray, List.set_cons_zero, List.set_cons_succ]
                        refine wpAnyH_done (by kernel_rfl) ?_ _
                        go_wp2_with fail
                        go_meet
                        exact ⟨rfl, (hHeld.1.1).1⟩
                      exact AllReadyH.nil
                    refine AllReadyH.cons rfl (fun K hK => ?_) ?_
                    · go_simp
                      refine hK.out _ _ ?_ (fun hHeld => ?_)
                      focus (exact ⟨(HKS.out _ ((below_al (hHeld.1).1 _))), (Zb.below (hHeld.2) (below_al (Below.refl _ _) _))⟩)
                      clear hK K
                      try simp only [Act.put, List.getElem_toArray, List.getElem_cons_zero, List.getElem_cons_succ, List.setIfInBounds_toArray, List.set_cons_zero, List.set_cons_succ]
                      refine wpAnyH_mono (S2 := fun w' => ((Below W0.heap.size W0 w' ∧ w'.cell? ⟨A, 0, none⟩ = some (.int .i64 (k : Nat)) ∧ w'.cell? ⟨A, 1, none⟩ = some (.string tt) ∧ w'.cell? ⟨A, 2, none⟩ = some (.int .i64 nu) ∧ w'.cell? ⟨A, 3, none⟩ = some (.int .i64 at9) ∧ w'.cell? ⟨A, 4, none⟩ = some (.slice ra nr rc) ∧ w'.cell? ⟨A, 5, none⟩ = some (.slice ea ne ec)) ∧ Zb w' w50.heap.size k) ∧ Zb w' w54.heap.size nr) (fun _ h => h.1) _ _ _ _ ?_
                      replace hHeld := And.intro hHeld (show Zb ((w54.alloc (.cells #[.int .u8 (nr : Nat)] 5))) w54.heap.size nr from heap_alloc_new _ _)
                      generalize (w54.alloc (.cells #[.int .u8 (nr : Nat)] 5)) = wb62 at hHeld ⊢
                      refine' wpAnyH_take (i := 22) (v := _) rfl (by kernel_rfl) (by kernel_rfl) (by kernel_rfl) (fun _ _ _ h => h) (Or.inl ⟨by rfl, ?hy63⟩) (by assumption) ?rest63
                      case hy63 => (intro w hSw; have cv := HTN.out _ _ (hSw.2); (try dsimp only at hSw); go_simp; try with_reducible rfl)
                      try simp only [Act.put, List.getElem_toArray, List.getElem_cons_zero, List.getElem_cons_succ, List.setIfInBounds_toArray, List.set_cons_zero, List.set_cons_succ]
                      refine wpAnyH_ready (rs := [15]) (by kernel_rfl) (by simp) ?_
                      refine AllReadyH.cons rfl (fun K hK => ?_) ?_
                      · go_simp
                        (go_at_call 29; (with_reducible refine (CN2.out _).mono ?_); rintro e w64 ⟨rfl, bt64⟩; have hk64 := below_on (B := W0.heap.size) (w := W0) (hHeld.1.1).1 bt64 (Nat.le_refl _))
                        go_wp2_with fail
                        refine hK.out _ _ ?_ (fun hHeld => ?_)
                        focus (exact ⟨⟨(HKS.out _ (hk64)), (Zb.below (hHeld.1.2) bt64)⟩, (Zb.below (hHeld.2) bt64)⟩)
                        clear hK K
                        try simp only [Act.put, List.getElem_toArray, List.getElem_cons_zero, List.getElem_cons_succ, List.setIfInBounds_toArray, List.set_cons_zero, List.set_cons_succ]
                        refine' wpAnyH_take (i := 16) (v := _) rfl (by kernel_rfl) (by kernel_rfl) (by kernel_rfl) (fun _ _ _ h => h) (Or.inl ⟨by rfl, ?hy65⟩) (by assumption) ?rest65
                        case hy65 => (intro w hSw; (try dsimp only at hSw); go_simp; try with_reducible rfl)
                        try simp only [Act.put, List.getElem_toArray, List.getElem_cons_zero, List.getElem_cons_succ, List.setIfInBounds_toArray, List.set_cons_zero, List.set_cons_succ]
                        refine' wpAnyH_take (i := 23) (v := _) rfl (by kernel_rfl) (by kernel_rfl) (by kernel_rfl) (fun _ _ _ h => h) (Or.inl ⟨by rfl, ?hy66⟩) (by assumption) ?rest66
                        case hy66 => (intro w hSw; (try dsimp only at hSw); go_simp; try with_reducible rfl)
                        try simp only [Act.put, List.getElem_toArray, List.getElem_cons_zero, List.getElem_cons_succ, List.setIfInBounds_toArray, List.set_cons_zero, List.set_cons_succ]
                        refine' wpAnyH_take (i := 24) (v := _) rfl (by kernel_rfl) (by kernel_rfl) (by kernel_rfl) (fun _ _ _ h => h) (Or.inl ⟨by rfl, ?hy67⟩) (by assumption) ?rest67
                        case hy67 => (intro w hSw; (try dsimp only at hSw); go_simp; try with_reducible rfl)
                        try simp only [Act.put, List.getElem_toArray, List.getElem_cons_zero, List.getElem_cons_succ, List.setIfInBounds_toArray, List.set_cons_zero, List.set_cons_succ]
                        refine wpAnyH_done (by kernel_rfl) ?_ _
                        go_wp2_with fail
                        go_meet
                        exact ⟨rfl, (hHeld.1.1).1⟩
                      exact AllReadyH.nil
                    exact AllReadyH.nil
                  refine AllReadyH.cons rfl (fun K hK => ?_) ?_
                  · go_simp
                    refine hK.out _ _ ?_ (fun hHeld => ?_)
                    focus (exact ⟨(HKS.out _ ((below_al (hHeld.1).1 _))), (Zb.below (hHeld.2) (below_al (Below.refl _ _) _))⟩)
                    clear hK K
                    try simp only [Act.put, List.getElem_toArray, List.getElem_cons_zero, List.getElem_cons_succ, List.setIfInBounds_toArray, List.set_cons_zero, List.set_cons_succ]
                    refine wpAnyH_mono (S2 := fun w' => ((Below W0.heap.size W0 w' ∧ w'.cell? ⟨A, 0, none⟩ = some (.int .i64 (k : Nat)) ∧ w'.cell? ⟨A, 1, none⟩ = some (.string tt) ∧ w'.cell? ⟨A, 2, none⟩ = some (.int .i64 nu) ∧ w'.cell? ⟨A, 3, none⟩ = some (.int .i64 at9) ∧ w'.cell? ⟨A, 4, none⟩ = some (.slice ra nr rc) ∧ w'.cell? ⟨A, 5, none⟩ = some (.slice ea ne ec)) ∧ Zb w' w50.heap.size k) ∧ Zb w' wb51.heap.size nr) (fun _ h => h.1) _ _ _ _ ?_
                    replace hHeld := And.intro hHeld (show Zb ((wb51.alloc (.cells #[.int .u8 (nr : Nat)] 5))) wb51.heap.size nr from heap_alloc_new _ _)
                    generalize (wb51.alloc (.cells #[.int .u8 (nr : Nat)] 5)) = wb68 at hHeld ⊢
                    refine' wpAnyH_take (i := 22) (v := _) rfl (by kernel_rfl) (by kernel_rfl) (by kernel_rfl) (fun _ _ _ h => h) (Or.inl ⟨by rfl, ?hy69⟩) (by assumption) ?rest69
                    case hy69 => (intro w hSw; have cv := HTN.out _ _ (hSw.2); (try dsimp only at hSw); go_simp; try with_reducible rfl)
                    try simp only [Act.put, List.getElem_toArray, List.getElem_cons_zero, List.getElem_cons_succ, List.setIfInBounds_toArray, List.set_cons_zero, List.set_cons_succ]
                    refine wpAnyH_ready (rs := [11]) (by kernel_rfl) (by simp) ?_
                    refine AllReadyH.cons rfl (fun K hK => ?_) ?_
                    · go_simp
                      (go_at_call 29; (with_reducible refine (CN1.out _).mono ?_); rintro e w70 ⟨rfl, bt70⟩; have hk70 := below_on (B := W0.heap.size) (w := W0) (hHeld.1.1).1 bt70 (Nat.le_refl _))
                      go_wp2_with fail
                      refine hK.out _ _ ?_ (fun hHeld => ?_)
                      focus (exact ⟨⟨(HKS.out _ (hk70)), (Zb.below (hHeld.1.2) bt70)⟩, (Zb.below (hHeld.2) bt70)⟩)
                      clear hK K
                      try simp only [Act.put, List.getElem_toArray, List.getElem_cons_zero, List.getElem_cons_succ, List.setIfInBounds_toArray, List.set_cons_zero, List.set_cons_succ]
                      refine' wpAnyH_take (i := 12) (v := _) rfl (by kernel_rfl) (by kernel_rfl) (by kernel_rfl) (fun _ _ _ h => h) (Or.inl ⟨by rfl, ?hy71⟩) (by assumption) ?rest71
                      case hy71 => (intro w hSw; (try dsimp only at hSw); go_simp; try with_reducible rfl)
                      try simp only [Act.put, List.getElem_toArray, List.getElem_cons_zero, List.getElem_cons_succ, List.setIfInBounds_toArray, List.set_cons_zero, List.set_cons_succ]
                      refine wpAnyH_ready (rs := [15]) (by kernel_rfl) (by simp) ?_
                      refine AllReadyH.cons rfl (fun K hK => ?_) ?_
                      · go_simp
                        (go_at_call 29; (with_reducible refine (CN2.out _).mono ?_); rintro e w72 ⟨rfl, bt72⟩; have hk72 := below_on (B := W0.heap.size) (w := W0) (hHeld.1.1).1 bt72 (Nat.le_refl _))
                        go_wp2_with fail
                        refine hK.out _ _ ?_ (fun hHeld => ?_)
                        focus (exact ⟨⟨(HKS.out _ (hk72)), (Zb.below (hHeld.1.2) bt72)⟩, (Zb.below (hHeld.2) bt72)⟩)
                        clear hK K
                        try simp only [Act.put, List.getElem_toArray, List.getElem_cons_zero, List.getElem_cons_succ, List.setIfInBounds_toArray, List.set_cons_zero, List.set_cons_succ]
                        refine' wpAnyH_take (i := 16) (v := _) rfl (by kernel_rfl) (by kernel_rfl) (by kernel_rfl) (fun _ _ _ h => h) (Or.inl ⟨by rfl, ?hy73⟩) (by assumption) ?rest73
                        case hy73 => (intro w hSw; (try dsimp only at hSw); go_simp; try with_reducible rfl)
                        try simp only [Act.put, List.getElem_toArray, List.getElem_cons_zero, List.getElem_cons_succ, List.setIfInBounds_toArray, List.set_cons_zero, List.set_cons_succ]
                        refine' wpAnyH_take (i := 23) (v := _) rfl (by kernel_rfl) (by kernel_rfl) (by kernel_rfl) (fun _ _ _ h => h) (Or.inl ⟨by rfl, ?hy74⟩) (by assumption) ?rest74
                        case hy74 => (intro w hSw; (try dsimp only at hSw); go_simp; try with_reducible rfl)
                        try simp only [Act.put, List.getElem_toArray, List.getElem_cons_zero, List.getElem_cons_succ, List.setIfInBounds_toArray, List.set_cons_zero, List.set_cons_succ]
                        refine' wpAnyH_take (i := 24) (v := _) rfl (by kernel_rfl) (by kernel_rfl) (by kernel_rfl) (fun _ _ _ h => h) (Or.inl ⟨by rfl, ?hy75⟩) (by assumption) ?rest75
                        case hy75 => (intro w hSw; (try dsimp only at hSw); go_simp; try with_reducible rfl)
                        try simp only [Act.put, List.getElem_toArray, List.getElem_cons_zero, List.getElem_cons_succ, List.setIfInBounds_toArray, List.set_cons_zero, List.set_cons_succ]
                        refine wpAnyH_done (by kernel_rfl) ?_ _
                        go_wp2_with fail
                        go_meet
                        exact ⟨rfl, (hHeld.1.1).1⟩
                      exact AllReadyH.nil
                    exact AllReadyH.nil
                  exact AllReadyH.nil
                refine AllReadyH.cons rfl (fun K hK => ?_) ?_
                · go_simp
                  (go_at_call 29; (with_reducible refine (CN1.out _).mono ?_); rintro e w76 ⟨rfl, bt76⟩; have hk76 := below_on (B := W0.heap.size) (w := W0) (hHeld).1 bt76 (Nat.le_refl _))
                  go_wp2_with fail
                  refine hK.out _ _ ?_ (fun hHeld => ?_)
                  focus (exact (HKS.out _ (hk76)))
                  clear hK K
                  try simp only [Act.put, List.getElem_toArray, List.getElem_cons_zero, List.getElem_cons_succ, List.setIfInBounds_toArray, List.set_cons_zero, List.set_cons_succ]
                  refine wpAnyH_ready (rs := [3, 15, 21]) (by kernel_rfl) (by simp) ?_
                  refine AllReadyH.cons rfl (fun K hK => ?_) ?_
                  · go_simp
                    refine hK.out _ _ ?_ (fun hHeld => ?_)
                    focus (exact (HKS.out _ ((below_al (hHeld).1 _))))
                    clear hK K
                    try simp only [Act.put, List.getElem_toArray, List.getElem_cons_zero, List.getElem_cons_succ, List.setIfInBounds_toArray, List.set_cons_zero, List.set_cons_succ]
                    refine wpAnyH_mono (S2 := fun w' => (Below W0.heap.size W0 w' ∧ w'.cell? ⟨A, 0, none⟩ = some (.int .i64 (k : Nat)) ∧ w'.cell? ⟨A, 1, none⟩ = some (.string tt) ∧ w'.cell? ⟨A, 2, none⟩ = some (.int .i64 nu) ∧ w'.cell? ⟨A, 3, none⟩ = some (.int .i64 at9) ∧ w'.cell? ⟨A, 4, none⟩ = some (.slice ra nr rc) ∧ w'.cell? ⟨A, 5, none⟩ = some (.slice ea ne ec)) ∧ Zb w' w76.heap.size k) (fun _ h => h.1) _ _ _ _ ?_
                    replace hHeld := And.intro hHeld (show Zb ((w76.alloc (.cells #[.int .u8 (k : Nat)] 5))) w76.heap.size k from heap_alloc_new _ _)
                    generalize (w76.alloc (.cells #[.int .u8 (k : Nat)] 5)) = wb77 at hHeld ⊢
                    refine' wpAnyH_take (i := 4) (v := _) rfl (by kernel_rfl) (by kernel_rfl) (by kernel_rfl) (fun _ _ _ h => h) (Or.inl ⟨by rfl, ?hy78⟩) (by assumption) ?rest78
                    case hy78 => (intro w hSw; have cv := HTK.out _ _ (hSw.2); (try dsimp only at hSw); go_simp; try with_reducible rfl)
                    try simp only [Act.put, List.getElem_toArray, List.getElem_cons_zero, List.getElem_cons_succ, List.setIfInBounds_toArray, List.set_cons_zero, List.set_cons_succ]
                    refine' wpAnyH_take (i := 8) (v := _) rfl (by kernel_rfl) (by kernel_rfl) (by kernel_rfl) (fun _ _ _ h => h) (Or.inl ⟨by rfl, ?hy79⟩) (by assumption) ?rest79
                    case hy79 => (intro w hSw; (try dsimp only at hSw); go_simp; try with_reducible rfl)
                    try simp only [Act.put, List.getElem_toArray, List.getElem_cons_zero, List.getElem_cons_succ, List.setIfInBounds_toArray, List.set_cons_zero, List.set_cons_succ]
                    refine' wpAnyH_take (i := 12) (v := _) rfl (by kernel_rfl) (by kernel_rfl) (by kernel_rfl) (fun _ _ _ h => h) (Or.inl ⟨by rfl, ?hy80⟩) (by assumption) ?rest80
                    case hy80 => (intro w hSw; (try dsimp only at hSw); go_simp; try with_reducible rfl)
                    try simp only [Act.put, List.getElem_toArray, List.getElem_cons_zero, List.getElem_cons_succ, List.setIfInBounds_toArray, List.set_cons_zero, List.set_cons_succ]
                    refine wpAnyH_ready (rs := [15, 21]) (by kernel_rfl) (by simp) ?_
                    refine AllReadyH.cons rfl (fun K hK => ?_) ?_
                    · go_simp
                      (go_at_call 29; (with_reducible refine (CN2.out _).mono ?_); rintro e w81 ⟨rfl, bt81⟩; have hk81 := below_on (B := W0.heap.size) (w := W0) (hHeld.1).1 bt81 (Nat.le_refl _))
                      go_wp2_with fail
                      refine hK.out _ _ ?_ (fun hHeld => ?_)
                      focus (exact ⟨(HKS.out _ (hk81)), (Zb.below (hHeld.2) bt81)⟩)
                      clear hK K
                      try simp only [Act.put, List.getElem_toArray, List.getElem_cons_zero, List.getElem_cons_succ, List.setIfInBounds_toArray, List.set_cons_zero, List.set_cons_succ]
                      refine' wpAnyH_take (i := 16) (v := _) rfl (by kernel_rfl) (by kernel_rfl) (by kernel_rfl) (fun _ _ _ h => h) (Or.inl ⟨by rfl, ?hy82⟩) (by assumption) ?rest82
                      case hy82 => (intro w hSw; (try dsimp only at hSw); go_simp; try with_reducible rfl)
                      try simp only [Act.put, List.getElem_toArray, List.getElem_cons_zero, List.getElem_cons_succ, List.setIfInBounds_toArray, List.set_cons_zero, List.set_cons_succ]
                      refine wpAnyH_ready (rs := [21]) (by kernel_rfl) (by simp) ?_
                      refine AllReadyH.cons rfl (fun K hK => ?_) ?_
                      · go_simp
                        refine hK.out _ _ ?_ (fun hHeld => ?_)
                        focus (exact ⟨(HKS.out _ ((below_al (hHeld.1).1 _))), (Zb.below (hHeld.2) (below_al (Below.refl _ _) _))⟩)
                        clear hK K
                        try simp only [Act.put, List.getElem_toArray, List.getElem_cons_zero, List.getElem_cons_succ, List.setIfInBounds_toArray, List.set_cons_zero, List.set_cons_succ]
                        refine wpAnyH_mono (S2 := fun w' => ((Below W0.heap.size W0 w' ∧ w'.cell? ⟨A, 0, none⟩ = some (.int .i64 (k : Nat)) ∧ w'.cell? ⟨A, 1, none⟩ = some (.string tt) ∧ w'.cell? ⟨A, 2, none⟩ = some (.int .i64 nu) ∧ w'.cell? ⟨A, 3, none⟩ = some (.int .i64 at9) ∧ w'.cell? ⟨A, 4, none⟩ = some (.slice ra nr rc) ∧ w'.cell? ⟨A, 5, none⟩ = some (.slice ea ne ec)) ∧ Zb w' w76.heap.size k) ∧ Zb w' w81.heap.size nr) (fun _ h => h.1) _ _ _ _ ?_
                        replace hHeld := And.intro hHeld (show Zb ((w81.alloc (.cells #[.int .u8 (nr : Nat)] 5))) w81.heap.size nr from heap_alloc_new _ _)
                        generalize (w81.alloc (.cells #[.int .u8 (nr : Nat)] 5)) = wb83 at hHeld ⊢
                        refine' wpAnyH_take (i := 22) (v := _) rfl (by kernel_rfl) (by kernel_rfl) (by kernel_rfl) (fun _ _ _ h => h) (Or.inl ⟨by rfl, ?hy84⟩) (by assumption) ?rest84
                        case hy84 => (intro w hSw; have cv := HTN.out _ _ (hSw.2); (try dsimp only at hSw); go_simp; try with_reducible rfl)
                        try simp only [Act.put, List.getElem_toArray, List.getElem_cons_zero, List.getElem_cons_succ, List.setIfInBounds_toArray, List.set_cons_zero, List.set_cons_succ]
                        refine' wpAnyH_take (i := 23) (v := _) rfl (by kernel_rfl) (by kernel_rfl) (by kernel_rfl) (fun _ _ _ h => h) (Or.inl ⟨by rfl, ?hy85⟩) (by assumption) ?rest85
                        case hy85 => (intro w hSw; (try dsimp only at hSw); go_simp; try with_reducible rfl)
                        try simp only [Act.put, List.getElem_toArray, List.getElem_cons_zero, List.getElem_cons_succ, List.setIfInBounds_toArray, List.set_cons_zero, List.set_cons_succ]
                        refine' wpAnyH_take (i := 24) (v := _) rfl (by kernel_rfl) (by kernel_rfl) (by kernel_rfl) (fun _ _ _ h => h) (Or.inl ⟨by rfl, ?hy86⟩) (by assumption) ?rest86
                        case hy86 => (intro w hSw; (try dsimp only at hSw); go_simp; try with_reducible rfl)
                        try simp only [Act.put, List.getElem_toArray, List.getElem_cons_zero, List.getElem_cons_succ, List.setIfInBounds_toArray, List.set_cons_zero, List.set_cons_succ]
                        refine wpAnyH_done (by kernel_rfl) ?_ _
                        go_wp2_with fail
                        go_meet
                        exact ⟨rfl, (hHeld.1.1).1⟩
                      exact AllReadyH.nil
                    refine AllReadyH.cons rfl (fun K hK => ?_) ?_
                    · go_simp
                      refine hK.out _ _ ?_ (fun hHeld => ?_)
                      focus (exact ⟨(HKS.out _ ((below_al (hHeld.1).1 _))), (Zb.below (hHeld.2) (below_al (Below.refl _ _) _))⟩)
                      clear hK K
                      try simp only [Act.put, List.getElem_toArray, List.getElem_cons_zero, List.getElem_cons_succ, List.setIfInBounds_toArray, List.set_cons_zero, List.set_cons_succ]
                      refine wpAnyH_mono (S2 := fun w' => ((Below W0.heap.size W0 w' ∧ w'.cell? ⟨A, 0, none⟩ = some (.int .i64 (k : Nat)) ∧ w'.cell? ⟨A, 1, none⟩ = some (.string tt) ∧ w'.cell? ⟨A, 2, none⟩ = some (.int .i64 nu) ∧ w'.cell? ⟨A, 3, none⟩ = some (.int .i64 at9) ∧ w'.cell? ⟨A, 4, none⟩ = some (.slice ra nr rc) ∧ w'.cell? ⟨A, 5, none⟩ = some (.slice ea ne ec)) ∧ Zb w' w76.heap.size k) ∧ Zb w' wb77.heap.size nr) (fun _ h => h.1) _ _ _ _ ?_
                      replace hHeld := And.intro hHeld (show Zb ((wb77.alloc (.cells #[.int .u8 (nr : Nat)] 5))) wb77.heap.size nr from heap_alloc_new _ _)
                      generalize (wb77.alloc (.cells #[.int .u8 (nr : Nat)] 5)) = wb87 at hHeld ⊢
                      refine' wpAnyH_take (i := 22) (v := _) rfl (by kernel_rfl) (by kernel_rfl) (by kernel_rfl) (fun _ _ _ h => h) (Or.inl ⟨by rfl, ?hy88⟩) (by assumption) ?rest88
                      case hy88 => (intro w hSw; have cv := HTN.out _ _ (hSw.2); (try dsimp only at hSw); go_simp; try with_reducible rfl)
                      try simp only [Act.put, List.getElem_toArray, List.getElem_cons_zero, List.getElem_cons_succ, List.setIfInBounds_toArray, List.set_cons_zero, List.set_cons_succ]
                      refine wpAnyH_ready (rs := [15]) (by kernel_rfl) (by simp) ?_
                      refine AllReadyH.cons rfl (fun K hK => ?_) ?_
                      · go_simp
                        (go_at_call 29; (with_reducible refine (CN2.out _).mono ?_); rintro e w89 ⟨rfl, bt89⟩; have hk89 := below_on (B := W0.heap.size) (w := W0) (hHeld.1.1).1 bt89 (Nat.le_refl _))
                        go_wp2_with fail
                        refine hK.out _ _ ?_ (fun hHeld => ?_)
                        focus (exact ⟨⟨(HKS.out _ (hk89)), (Zb.below (hHeld.1.2) bt89)⟩, (Zb.below (hHeld.2) bt89)⟩)
                        clear hK K
                        try simp only [Act.put, List.getElem_toArray, List.getElem_cons_zero, List.getElem_cons_succ, List.setIfInBounds_toArray, List.set_cons_zero, List.set_cons_succ]
                        refine' wpAnyH_take (i := 16) (v := _) rfl (by kernel_rfl) (by kernel_rfl) (by kernel_rfl) (fun _ _ _ h => h) (Or.inl ⟨by rfl, ?hy90⟩) (by assumption) ?rest90
                        case hy90 => (intro w hSw; (try dsimp only at hSw); go_simp; try with_reducible rfl)
                        try simp only [Act.put, List.getElem_toArray, List.getElem_cons_zero, List.getElem_cons_succ, List.setIfInBounds_toArray, List.set_cons_zero, List.set_cons_succ]
                        refine' wpAnyH_take (i := 23) (v := _) rfl (by kernel_rfl) (by kernel_rfl) (by kernel_rfl) (fun _ _ _ h => h) (Or.inl ⟨by rfl, ?hy91⟩) (by assumption) ?rest91
                        case hy91 => (intro w hSw; (try dsimp only at hSw); go_simp; try with_reducible rfl)
                        try simp only [Act.put, List.getElem_toArray, List.getElem_cons_zero, List.getElem_cons_succ, List.setIfInBounds_toArray, List.set_cons_zero, List.set_cons_succ]
                        refine' wpAnyH_take (i := 24) (v := _) rfl (by kernel_rfl) (by kernel_rfl) (by kernel_rfl) (fun _ _ _ h => h) (Or.inl ⟨by rfl, ?hy92⟩) (by assumption) ?rest92
                        case hy92 => (intro w hSw; (try dsimp only at hSw); go_simp; try with_reducible rfl)
                        try simp only [Act.put, List.getElem_toArray, List.getElem_cons_zero, List.getElem_cons_succ, List.setIfInBounds_toArray, List.set_cons_zero, List.set_cons_succ]
                        refine wpAnyH_done (by kernel_rfl) ?_ _
                        go_wp2_with fail
                        go_meet
                        exact ⟨rfl, (hHeld.1.1).1⟩
                      exact AllReadyH.nil
                    exact AllReadyH.nil
                  refine AllReadyH.cons rfl (fun K hK => ?_) ?_
                  · go_simp
                    (go_at_call 29; (with_reducible refine (CN2.out _).mono ?_); rintro e w93 ⟨rfl, bt93⟩; have hk93 := below_on (B := W0.heap.size) (w := W0) (hHeld).1 bt93 (Nat.le_refl _))
                    go_wp2_with fail
                    refine hK.out _ _ ?_ (fun hHeld => ?_)
                    focus (exact (HKS.out _ (hk93)))
                    clear hK K
                    try simp only [Act.put, List.getElem_toArray, List.getElem_cons_zero, List.getElem_cons_succ, List.setIfInBounds_toArray, List.set_cons_zero, List.set_cons_succ]
                    refine wpAnyH_ready (rs := [3, 21]) (by kernel_rfl) (by simp) ?_
                    refine AllReadyH.cons rfl (fun K hK => ?_) ?_
                    · go_simp
                      refine hK.out _ _ ?_ (fun hHeld => ?_)
                      focus (exact (HKS.out _ ((below_al (hHeld).1 _))))
                      clear hK K
                      try simp only [Act.put, List.getElem_toArray, List.getElem_cons_zero, List.getElem_cons_succ, List.setIfInBounds_toArray, List.set_cons_zero, List.set_cons_succ]
                      refine wpAnyH_mono (S2 := fun w' => (Below W0.heap.size W0 w' ∧ w'.cell? ⟨A, 0, none⟩ = some (.int .i64 (k : Nat)) ∧ w'.cell? ⟨A, 1, none⟩ = some (.string tt) ∧ w'.cell? ⟨A, 2, none⟩ = some (.int .i64 nu) ∧ w'.cell? ⟨A, 3, none⟩ = some (.int .i64 at9) ∧ w'.cell? ⟨A, 4, none⟩ = some (.slice ra nr rc) ∧ w'.cell? ⟨A, 5, none⟩ = some (.slice ea ne ec)) ∧ Zb w' w93.heap.size k) (fun _ h => h.1) _ _ _ _ ?_
                      replace hHeld := And.intro hHeld (show Zb ((w93.alloc (.cells #[.int .u8 (k : Nat)] 5))) w93.heap.size k from heap_alloc_new _ _)
                      generalize (w93.alloc (.cells #[.int .u8 (k : Nat)] 5)) = wb94 at hHeld ⊢
                      refine' wpAnyH_take (i := 4) (v := _) rfl (by kernel_rfl) (by kernel_rfl) (by kernel_rfl) (fun _ _ _ h => h) (Or.inl ⟨by rfl, ?hy95⟩) (by assumption) ?rest95
                      case hy95 => (intro w hSw; have cv := HTK.out _ _ (hSw.2); (try dsimp only at hSw); go_simp; try with_reducible rfl)
                      try simp only [Act.put, List.getElem_toArray, List.getElem_cons_zero, List.getElem_cons_succ, List.setIfInBounds_toArray, List.set_cons_zero, List.set_cons_succ]
                      refine' wpAnyH_take (i := 8) (v := _) rfl (by kernel_rfl) (by kernel_rfl) (by kernel_rfl) (fun _ _ _ h => h) (Or.inl ⟨by rfl, ?hy96⟩) (by assumption) ?rest96
                      case hy96 => (intro w hSw; (try dsimp only at hSw); go_simp; try with_reducible rfl)
                      try simp only [Act.put, List.getElem_toArray, List.getElem_cons_zero, List.getElem_cons_succ, List.setIfInBounds_toArray, List.set_cons_zero, List.set_cons_succ]
                      refine' wpAnyH_take (i := 12) (v := _) rfl (by kernel_rfl) (by kernel_rfl) (by kernel_rfl) (fun _ _ _ h => h) (Or.inl ⟨by rfl, ?hy97⟩) (by assumption) ?rest97
                      case hy97 => (intro w hSw; (try dsimp only at hSw); go_simp; try with_reducible rfl)
                      try simp only [Act.put, List.getElem_toArray, List.getElem_cons_zero, List.getElem_cons_succ, List.setIfInBounds_toArray, List.set_cons_zero, List.set_cons_succ]
                      refine' wpAnyH_take (i := 16) (v := _) rfl (by kernel_rfl) (by kernel_rfl) (by kernel_rfl) (fun _ _ _ h => h) (Or.inl ⟨by rfl, ?hy98⟩) (by assumption) ?rest98
                      case hy98 => (intro w hSw; (try dsimp only at hSw); go_simp; try with_reducible rfl)
                      try simp only [Act.put, List.getElem_toArray, List.getElem_cons_zero, List.getElem_cons_succ, List.setIfInBounds_toArray, List.set_cons_zero, List.set_cons_succ]
                      refine wpAnyH_ready (rs := [21]) (by kernel_rfl) (by simp) ?_
                      refine AllReadyH.cons rfl (fun K hK => ?_) ?_
                      · go_simp
                        refine hK.out _ _ ?_ (fun hHeld => ?_)
                        focus (exact ⟨(HKS.out _ ((below_al (hHeld.1).1 _))), (Zb.below (hHeld.2) (below_al (Below.refl _ _) _))⟩)
                        clear hK K
                        try simp only [Act.put, List.getElem_toArray, List.getElem_cons_zero, List.getElem_cons_succ, List.setIfInBounds_toArray, List.set_cons_zero, List.set_cons_succ]
                        refine wpAnyH_mono (S2 := fun w' => ((Below W0.heap.size W0 w' ∧ w'.cell? ⟨A, 0, none⟩ = some (.int .i64 (k : Nat)) ∧ w'.cell? ⟨A, 1, none⟩ = some (.string tt) ∧ w'.cell? ⟨A, 2, none⟩ = some (.int .i64 nu) ∧ w'.cell? ⟨A, 3, none⟩ = some (.int .i64 at9) ∧ w'.cell? ⟨A, 4, none⟩ = some (.slice ra nr rc) ∧ w'.cell? ⟨A, 5, none⟩ = some (.slice ea ne ec)) ∧ Zb w' w93.heap.size k) ∧ Zb w' wb94.heap.size nr) (fun _ h => h.1) _ _ _ _ ?_
                        replace hHeld := And.intro hHeld (show Zb ((wb94.alloc (.cells #[.int .u8 (nr : Nat)] 5))) wb94.heap.size nr from heap_alloc_new _ _)
                        generalize (wb94.alloc (.cells #[.int .u8 (nr : Nat)] 5)) = wb99 at hHeld ⊢
                        refine' wpAnyH_take (i := 22) (v := _) rfl (by kernel_rfl) (by kernel_rfl) (by kernel_rfl) (fun _ _ _ h => h) (Or.inl ⟨by rfl, ?hy100⟩) (by assumption) ?rest100
                        case hy100 => (intro w hSw; have cv := HTN.out _ _ (hSw.2); (try dsimp only at hSw); go_simp; try with_reducible rfl)
                        try simp only [Act.put, List.getElem_toArray, List.getElem_cons_zero, List.getElem_cons_succ, List.setIfInBounds_toArray, List.set_cons_zero, List.set_cons_succ]
                        refine' wpAnyH_take (i := 23) (v := _) rfl (by kernel_rfl) (by kernel_rfl) (by kernel_rfl) (fun _ _ _ h => h) (Or.inl ⟨by rfl, ?hy101⟩) (by assumption) ?rest101
                        case hy101 => (intro w hSw; (try dsimp only at hSw); go_simp; try with_reducible rfl)
                        try simp only [Act.put, List.getElem_toArray, List.getElem_cons_zero, List.getElem_cons_succ, List.setIfInBounds_toArray, List.set_cons_zero, List.set_cons_succ]
                        refine' wpAnyH_take (i := 24) (v := _) rfl (by kernel_rfl) (by kernel_rfl) (by kernel_rfl) (fun _ _ _ h => h) (Or.inl ⟨by rfl, ?hy102⟩) (by assumption) ?rest102
                        case hy102 => (intro w hSw; (try dsimp only at hSw); go_simp; try with_reducible rfl)
                        try simp only [Act.put, List.getElem_toArray, List.getElem_cons_zero, List.getElem_cons_succ, List.setIfInBounds_toArray, List.set_cons_zero, List.set_cons_succ]
                        refine wpAnyH_done (by kernel_rfl) ?_ _
                        go_wp2_with fail
                        go_meet
                        exact ⟨rfl, (hHeld.1.1).1⟩
                      exact AllReadyH.nil
                    refine AllReadyH.cons rfl (fun K hK => ?_) ?_
                    · go_simp
                      refine hK.out _ _ ?_ (fun hHeld => ?_)
                      focus (exact (HKS.out _ ((below_al (hHeld).1 _))))
                      clear hK K
                      try simp only [Act.put, List.getElem_toArray, List.getElem_cons_zero, List.getElem_cons_succ, List.setIfInBounds_toArray, List.set_cons_zero, List.set_cons_succ]
                      refine wpAnyH_mono (S2 := fun w' => (Below W0.heap.size W0 w' ∧ w'.cell? ⟨A, 0, none⟩ = some (.int .i64 (k : Nat)) ∧ w'.cell? ⟨A, 1, none⟩ = some (.string tt) ∧ w'.cell? ⟨A, 2, none⟩ = some (.int .i64 nu) ∧ w'.cell? ⟨A, 3, none⟩ = some (.int .i64 at9) ∧ w'.cell? ⟨A, 4, none⟩ = some (.slice ra nr rc) ∧ w'.cell? ⟨A, 5, none⟩ = some (.slice ea ne ec)) ∧ Zb w' w93.heap.size nr) (fun _ h => h.1) _ _ _ _ ?_
                      replace hHeld := And.intro hHeld (show Zb ((w93.alloc (.cells #[.int .u8 (nr : Nat)] 5))) w93.heap.size nr from heap_alloc_new _ _)
                      generalize (w93.alloc (.cells #[.int .u8 (nr : Nat)] 5)) = wb103 at hHeld ⊢
                      refine' wpAnyH_take (i := 22) (v := _) rfl (by kernel_rfl) (by kernel_rfl) (by kernel_rfl) (fun _ _ _ h => h) (Or.inl ⟨by rfl, ?hy104⟩) (by assumption) ?rest104
                      case hy104 => (intro w hSw; have cv := HTN.out _ _ (hSw.2); (try dsimp only at hSw); go_simp; try with_reducible rfl)
                      try simp only [Act.put, List.getElem_toArray, List.getElem_cons_zero, List.getElem_cons_succ, List.setIfInBounds_toArray, List.set_cons_zero, List.set_cons_succ]
                      refine wpAnyH_ready (rs := [3]) (by kernel_rfl) (by simp) ?_
                      refine AllReadyH.cons rfl (fun K hK => ?_) ?_
                      · go_simp
                        refine hK.out _ _ ?_ (fun hHeld => ?_)
                        focus (exact ⟨(HKS.out _ ((below_al (hHeld.1).1 _))), (Zb.below (hHeld.2) (below_al (Below.refl _ _) _))⟩)
                        clear hK K
                        try simp only [Act.put, List.getElem_toArray, List.getElem_cons_zero, List.getElem_cons_succ, List.setIfInBounds_toArray, List.set_cons_zero, List.set_cons_succ]
                        refine wpAnyH_mono (S2 := fun w' => ((Below W0.heap.size W0 w' ∧ w'.cell? ⟨A, 0, none⟩ = some (.int .i64 (k : Nat)) ∧ w'.cell? ⟨A, 1, none⟩ = some (.string tt) ∧ w'.cell? ⟨A, 2, none⟩ = some (.int .i64 nu) ∧ w'.cell? ⟨A, 3, none⟩ = some (.int .i64 at9) ∧ w'.cell? ⟨A, 4, none⟩ = some (.slice ra nr rc) ∧ w'.cell? ⟨A, 5, none⟩ = some (.slice ea ne ec)) ∧ Zb w' w93.heap.size nr) ∧ Zb w' wb103.heap.size k) (fun _ h => h.1) _ _ _ _ ?_
                        replace hHeld := And.intro hHeld (show Zb ((wb103.alloc (.cells #[.int .u8 (k : Nat)] 5))) wb103.heap.size k from heap_alloc_new _ _)
                        generalize (wb103.alloc (.cells #[.int .u8 (k : Nat)] 5)) = wb105 at hHeld ⊢
                        refine' wpAnyH_take (i := 4) (v := _) rfl (by kernel_rfl) (by kernel_rfl) (by kernel_rfl) (fun _ _ _ h => h) (Or.inl ⟨by rfl, ?hy106⟩) (by assumption) ?rest106
                        case hy106 => (intro w hSw; have cv := HTK.out _ _ (hSw.2); (try dsimp only at hSw); go_simp; try with_reducible rfl)
                        try simp only [Act.put, List.getElem_toArray, List.getElem_cons_zero, List.getElem_cons_succ, List.setIfInBounds_toArray, List.set_cons_zero, List.set_cons_succ]
                        refine' wpAnyH_take (i := 8) (v := _) rfl (by kernel_rfl) (by kernel_rfl) (by kernel_rfl) (fun _ _ _ h => h) (Or.inl ⟨by rfl, ?hy107⟩) (by assumption) ?rest107
                        case hy107 => (intro w hSw; (try dsimp only at hSw); go_simp; try with_reducible rfl)
                        try simp only [Act.put, List.getElem_toArray, List.getElem_cons_zero, List.getElem_cons_succ, List.setIfInBounds_toArray, List.set_cons_zero, List.set_cons_succ]
                        refine' wpAnyH_take (i := 12) (v := _) rfl (by kernel_rfl) (by kernel_rfl) (by kernel_rfl) (fun _ _ _ h => h) (Or.inl ⟨by rfl, ?hy108⟩) (by assumption) ?rest108
                        case hy108 => (intro w hSw; (try dsimp only at hSw); go_simp; try with_reducible rfl)
                        try simp only [Act.put, List.getElem_toArray, List.getElem_cons_zero, List.getElem_cons_succ, List.setIfInBounds_toArray, List.set_cons_zero, List.set_cons_succ]
                        refine' wpAnyH_take (i := 16) (v := _) rfl (by kernel_rfl) (by kernel_rfl) (by kernel_rfl) (fun _ _ _ h => h) (Or.inl ⟨by rfl, ?hy109⟩) (by assumption) ?rest109
                        case hy109 => (intro w hSw; (try dsimp only at hSw); go_simp; try with_reducible rfl)
                        try simp only [Act.put, List.getElem_toArray, List.getElem_cons_zero, List.getElem_cons_succ, List.setIfInBounds_toArray, List.set_cons_zero, List.set_cons_succ]
                        refine' wpAnyH_take (i := 23) (v := _) rfl (by kernel_rfl) (by kernel_rfl) (by kernel_rfl) (fun _ _ _ h => h) (Or.inl ⟨by rfl, ?hy110⟩) (by assumption) ?rest110
                        case hy110 => (intro w hSw; (try dsimp only at hSw); go_simp; try with_reducible rfl)
                        try simp only [Act.put, List.getElem_toArray, List.getElem_cons_zero, List.getElem_cons_succ, List.setIfInBounds_toArray, List.set_cons_zero, List.set_cons_succ]
                        refine' wpAnyH_take (i := 24) (v := _) rfl (by kernel_rfl) (by kernel_rfl) (by kernel_rfl) (fun _ _ _ h => h) (Or.inl ⟨by rfl, ?hy111⟩) (by assumption) ?rest111
                        case hy111 => (intro w hSw; (try dsimp only at hSw); go_simp; try with_reducible rfl)
                        try simp only [Act.put, List.getElem_toArray, List.getElem_cons_zero, List.getElem_cons_succ, List.setIfInBounds_toArray, List.set_cons_zero, List.set_cons_succ]
                        refine wpAnyH_done (by kernel_rfl) ?_ _
                        go_wp2_with fail
                        go_meet
                        exact ⟨rfl, (hHeld.1.1).1⟩
                      exact AllReadyH.nil
                    exact AllReadyH.nil
                  refine AllReadyH.cons rfl (fun K hK => ?_) ?_
                  · go_simp
                    refine hK.out _ _ ?_ (fun hHeld => ?_)
                    focus (exact (HKS.out _ ((below_al (hHeld).1 _))))
                    clear hK K
                    try simp only [Act.put, List.getElem_toArray, List.getElem_cons_zero, List.getElem_cons_succ, List.setIfInBounds_toArray, List.set_cons_zero, List.set_cons_succ]
                    refine wpAnyH_mono (S2 := fun w' => (Below W0.heap.size W0 w' ∧ w'.cell? ⟨A, 0, none⟩ = some (.int .i64 (k : Nat)) ∧ w'.cell? ⟨A, 1, none⟩ = some (.string tt) ∧ w'.cell? ⟨A, 2, none⟩ = some (.int .i64 nu) ∧ w'.cell? ⟨A, 3, none⟩ = some (.int .i64 at9) ∧ w'.cell? ⟨A, 4, none⟩ = some (.slice ra nr rc) ∧ w'.cell? ⟨A, 5, none⟩ = some (.slice ea ne ec)) ∧ Zb w' w76.heap.size nr) (fun _ h => h.1) _ _ _ _ ?_
                    replace hHeld := And.intro hHeld (show Zb ((w76.alloc (.cells #[.int .u8 (nr : Nat)] 5))) w76.heap.size nr from heap_alloc_new _ _)
                    generalize (w76.alloc (.cells #[.int .u8 (nr : Nat)] 5)) = wb112 at hHeld ⊢
                    refine' wpAnyH_take (i := 22) (v := _) rfl (by kernel_rfl) (by kernel_rfl) (by kernel_rfl) (fun _ _ _ h => h) (Or.inl ⟨by rfl, ?hy113⟩) (by assumption) ?rest113
                    case hy113 => (intro w hSw; have cv := HTN.out _ _ (hSw.2); (try dsimp only at hSw); go_simp; try with_reducible rfl)
                    try simp only [Act.put, List.getElem_toArray, List.getElem_cons_zero, List.getElem_cons_succ, List.setIfInBounds_toArray, List.set_cons_zero, List.set_cons_succ]
                    refine wpAnyH_ready (rs := [3, 15]) (by kernel_rfl) (by simp) ?_
                    refine AllReadyH.cons rfl (fun K hK => ?_) ?_
                    · go_simp
                      refine hK.out _ _ ?_ (fun hHeld => ?_)
                      focus (exact ⟨(HKS.out _ ((below_al (hHeld.1).1 _))), (Zb.below (hHeld.2) (below_al (Below.refl _ _) _))⟩)
                      clear hK K
                      try simp only [Act.put, List.getElem_toArray, List.getElem_cons_zero, List.getElem_cons_succ, List.setIfInBounds_toArray, List.set_cons_zero, List.set_cons_succ]
                      refine wpAnyH_mono (S2 := fun w' => ((Below W0.heap.size W0 w' ∧ w'.cell? ⟨A, 0, none⟩ = some (.int .i64 (k : Nat)) ∧ w'.cell? ⟨A, 1, none⟩ = some (.string tt) ∧ w'.cell? ⟨A, 2, none⟩ = some (.int .i64 nu) ∧ w'.cell? ⟨A, 3, none⟩ = some (.int .i64 at9) ∧ w'.cell? ⟨A, 4, none⟩ = some (.slice ra nr rc) ∧ w'.cell? ⟨A, 5, none⟩ = some (.slice ea ne ec)) ∧ Zb w' w76.heap.size nr) ∧ Zb w' wb112.heap.size k) (fun _ h => h.1) _ _ _ _ ?_
                      replace hHeld := And.intro hHeld (show Zb ((wb112.alloc (.cells #[.int .u8 (k : Nat)] 5))) wb112.heap.size k from heap_alloc_new _ _)
                      generalize (wb112.alloc (.cells #[.int .u8 (k : Nat)] 5)) = wb114 at hHeld ⊢
                      refine' wpAnyH_take (i := 4) (v := _) rfl (by kernel_rfl) (by kernel_rfl) (by kernel_rfl) (fun _ _ _ h => h) (Or.inl ⟨by rfl, ?hy115⟩) (by assumption) ?rest115
                      case hy115 => (intro w hSw; have cv := HTK.out _ _ (hSw.2); (try dsimp only at hSw); go_simp; try with_reducible rfl)
                      try simp only [Act.put, List.getElem_toArray, List.getElem_cons_zero, List.getElem_cons_succ, List.setIfInBounds_toArray, List.set_cons_zero, List.set_cons_succ]
                      refine' wpAnyH_take (i := 8) (v := _) rfl (by kernel_rfl) (by kernel_rfl) (by kernel_rfl) (fun _ _ _ h => h) (Or.inl ⟨by rfl, ?hy116⟩) (by assumption) ?rest116
                      case hy116 => (intro w hSw; (try dsimp only at hSw); go_simp; try with_reducible rfl)
                      try simp only [Act.put, List.getElem_toArray, List.getElem_cons_zero, List.getElem_cons_succ, List.setIfInBounds_toArray, List.set_cons_zero, List.set_cons_succ]
                      refine' wpAnyH_take (i := 12) (v := _) rfl (by kernel_rfl) (by kernel_rfl) (by kernel_rfl) (fun _ _ _ h => h) (Or.inl ⟨by rfl, ?hy117⟩) (by assumption) ?rest117
                      case hy117 => (intro w hSw; (try dsimp only at hSw); go_simp; try with_reducible rfl)
                      try simp only [Act.put, List.getElem_toArray, List.getElem_cons_zero, List.getElem_cons_succ, List.setIfInBounds_toArray, List.set_cons_zero, List.set_cons_succ]
                      refine wpAnyH_ready (rs := [15]) (by kernel_rfl) (by simp) ?_
                      refine AllReadyH.cons rfl (fun K hK => ?_) ?_
                      · go_simp
                        (go_at_call 29; (with_reducible refine (CN2.out _).mono ?_); rintro e w118 ⟨rfl, bt118⟩; have hk118 := below_on (B := W0.heap.size) (w := W0) (hHeld.1.1).1 bt118 (Nat.le_refl _))
                        go_wp2_with fail
                        refine hK.out _ _ ?_ (fun hHeld => ?_)
                        focus (exact ⟨⟨(HKS.out _ (hk118)), (Zb.below (hHeld.1.2) bt118)⟩, (Zb.below (hHeld.2) bt118)⟩)
                        clear hK K
                        try simp only [Act.put, List.getElem_toArray, List.getElem_cons_zero, List.getElem_cons_succ, List.setIfInBounds_toArray, List.set_cons_zero, List.set_cons_succ]
                        refine' wpAnyH_take (i := 16) (v := _) rfl (by kernel_rfl) (by kernel_rfl) (by kernel_rfl) (fun _ _ _ h => h) (Or.inl ⟨by rfl, ?hy119⟩) (by assumption) ?rest119
                        case hy119 => (intro w hSw; (try dsimp only at hSw); go_simp; try with_reducible rfl)
                        try simp only [Act.put, List.getElem_toArray, List.getElem_cons_zero, List.getElem_cons_succ, List.setIfInBounds_toArray, List.set_cons_zero, List.set_cons_succ]
                        refine' wpAnyH_take (i := 23) (v := _) rfl (by kernel_rfl) (by kernel_rfl) (by kernel_rfl) (fun _ _ _ h => h) (Or.inl ⟨by rfl, ?hy120⟩) (by assumption) ?rest120
                        case hy120 => (intro w hSw; (try dsimp only at hSw); go_simp; try with_reducible rfl)
                        try simp only [Act.put, List.getElem_toArray, List.getElem_cons_zero, List.getElem_cons_succ, List.setIfInBounds_toArray, List.set_cons_zero, List.set_cons_succ]
                        refine' wpAnyH_take (i := 24) (v := _) rfl (by kernel_rfl) (by kernel_rfl) (by kernel_rfl) (fun _ _ _ h => h) (Or.inl ⟨by rfl, ?hy121⟩) (by assumption) ?rest121
                        case hy121 => (intro w hSw; (try dsimp only at hSw); go_simp; try with_reducible rfl)
                        try simp only [Act.put, List.getElem_toArray, List.getElem_cons_zero, List.getElem_cons_succ, List.setIfInBounds_toArray, List.set_cons_zero, List.set_cons_succ]
                        refine wpAnyH_done (by kernel_rfl) ?_ _
                        go_wp2_with fail
                        go_meet
                        exact ⟨rfl, (hHeld.1.1).1⟩
                      exact AllReadyH.nil
                    refine AllReadyH.cons rfl (fun K hK => ?_) ?_
                    · go_simp
                      (go_at_call 29; (with_reducible refine (CN2.out _).mono ?_); rintro e w122 ⟨rfl, bt122⟩; have hk122 := below_on (B := W0.heap.size) (w := W0) (hHeld.1).1 bt122 (Nat.le_refl _))
                      go_wp2_with fail
                      refine hK.out _ _ ?_ (fun hHeld => ?_)
                      focus (exact ⟨(HKS.out _ (hk122)), (Zb.below (hHeld.2) bt122)⟩)
                      clear hK K
                      try simp only [Act.put, List.getElem_toArray, List.getElem_cons_zero, List.getElem_cons_succ, List.setIfInBounds_toArray, List.set_cons_zero, List.set_cons_succ]
                      refine wpAnyH_ready (rs := [3]) (by kernel_rfl) (by simp) ?_
                      refine AllReadyH.cons rfl (fun K hK => ?_) ?_
                      · go_simp
                        refine hK.out _ _ ?_ (fun hHeld => ?_)
                        focus (exact ⟨(HKS.out _ ((below_al (hHeld.1).1 _))), (Zb.below (hHeld.2) (below_al (Below.refl _ _) _))⟩)
                        clear hK K
                        try simp only [Act.put, List.getElem_toArray, List.getElem_cons_zero, List.getElem_cons_succ, List.setIfInBounds_toArray, List.set_cons_zero, List.set_cons_succ]
                        refine wpAnyH_mono (S2 := fun w' => ((Below W0.heap.size W0 w' ∧ w'.cell? ⟨A, 0, none⟩ = some (.int .i64 (k : Nat)) ∧ w'.cell? ⟨A, 1, none⟩ = some (.string tt) ∧ w'.cell? ⟨A, 2, none⟩ = some (.int .i64 nu) ∧ w'.cell? ⟨A, 3, none⟩ = some (.int .i64 at9) ∧ w'.cell? ⟨A, 4, none⟩ = some (.slice ra nr rc) ∧ w'.cell? ⟨A, 5, none⟩ = some (.slice ea ne ec)) ∧ Zb w' w76.heap.size nr) ∧ Zb w' w122.heap.size k) (fun _ h => h.1) _ _ _ _ ?_
                        replace hHeld := And.intro hHeld (show Zb ((w122.alloc (.cells #[.int .u8 (k : Nat)] 5))) w122.heap.size k from heap_alloc_new _ _)
                        generalize (w122.alloc (.cells #[.int .u8 (k : Nat)] 5)) = wb123 at hHeld ⊢
                        refine' wpAnyH_take (i := 4) (v := _) rfl (by kernel_rfl) (by kernel_rfl) (by kernel_rfl) (fun _ _ _ h => h) (Or.inl ⟨by rfl, ?hy124⟩) (by assumption) ?rest124
                        case hy124 => (intro w hSw; have cv := HTK.out _ _ (hSw.2); (try dsimp only at hSw); go_simp; try with_reducible rfl)
                        try simp only [Act.put, List.getElem_toArray, List.getElem_cons_zero, List.getElem_cons_succ, List.setIfInBounds_toArray, List.set_cons_zero, List.set_cons_succ]
                        refine' wpAnyH_take (i := 8) (v := _) rfl (by kernel_rfl) (by kernel_rfl) (by kernel_rfl) (fun _ _ _ h => h) (Or.inl ⟨by rfl, ?hy125⟩) (by assumption) ?rest125
                        case hy125 => (intro w hSw; (try dsimp only at hSw); go_simp; try with_reducible rfl)
                        try simp only [Act.put, List.getElem_toArray, List.getElem_cons_zero, List.getElem_cons_succ, List.setIfInBounds_toArray, List.set_cons_zero, List.set_cons_succ]
                        refine' wpAnyH_take (i := 12) (v := _) rfl (by kernel_rfl) (by kernel_rfl) (by kernel_rfl) (fun _ _ _ h => h) (Or.inl ⟨by rfl, ?hy126⟩) (by assumption) ?rest126
                        case hy126 => (intro w hSw; (try dsimp only at hSw); go_simp; try with_reducible rfl)
                        try simp only [Act.put, List.getElem_toArray, List.getElem_cons_zero, List.getElem_cons_succ, List.setIfInBounds_toArray, List.set_cons_zero, List.set_cons_succ]
                        refine' wpAnyH_take (i := 16) (v := _) rfl (by kernel_rfl) (by kernel_rfl) (by kernel_rfl) (fun _ _ _ h => h) (Or.inl ⟨by rfl, ?hy127⟩) (by assumption) ?rest127
                        case hy127 => (intro w hSw; (try dsimp only at hSw); go_simp; try with_reducible rfl)
                        try simp only [Act.put, List.getElem_toArray, List.getElem_cons_zero, List.getElem_cons_succ, List.setIfInBounds_toArray, List.set_cons_zero, List.set_cons_succ]
                        refine' wpAnyH_take (i := 23) (v := _) rfl (by kernel_rfl) (by kernel_rfl) (by kernel_rfl) (fun _ _ _ h => h) (Or.inl ⟨by rfl, ?hy128⟩) (by assumption) ?rest128
                        case hy128 => (intro w hSw; (try dsimp only at hSw); go_simp; try with_reducible rfl)
                        try simp only [Act.put, List.getElem_toArray, List.getElem_cons_zero, List.getElem_cons_succ, List.setIfInBounds_toArray, List.set_cons_zero, List.set_cons_succ]
                        refine' wpAnyH_take (i := 24) (v := _) rfl (by kernel_rfl) (by kernel_rfl) (by kernel_rfl) (fun _ _ _ h => h) (Or.inl ⟨by rfl, ?hy129⟩) (by assumption) ?rest129
                        case hy129 => (intro w hSw; (try dsimp only at hSw); go_simp; try with_reducible rfl)
                        try simp only [Act.put, List.getElem_toArray, List.getElem_cons_zero, List.getElem_cons_succ, List.setIfInBounds_toArray, List.set_cons_zero, List.set_cons_succ]
                        refine wpAnyH_done (by kernel_rfl) ?_ _
                        go_wp2_with fail
                        go_meet
                        exact ⟨rfl, (hHeld.1.1).1⟩
                      exact AllReadyH.nil
                    exact AllReadyH.nil
                  exact AllReadyH.nil
                refine AllReadyH.cons rfl (fun K hK => ?_) ?_
                · go_simp
                  refine hK.out _ _ ?_ (fun hHeld => ?_)
                  focus (exact (HKS.out _ ((below_al (hHeld).1 _))))
                  clear hK K
                  try simp only [Act.put, List.getElem_toArray, List.getElem_cons_zero, List.getElem_cons_succ, List.setIfInBounds_toArray, List.set_cons_zero, List.set_cons_succ]
                  refine wpAnyH_mono (S2 := fun w' => (Below W0.heap.size W0 w' ∧ w'.cell? ⟨A, 0, none⟩ = some (.int .i64 (k : Nat)) ∧ w'.cell? ⟨A, 1, none⟩ = some (.string tt) ∧ w'.cell? ⟨A, 2, none⟩ = some (.int .i64 nu) ∧ w'.cell? ⟨A, 3, none⟩ = some (.int .i64 at9) ∧ w'.cell? ⟨A, 4, none⟩ = some (.slice ra nr rc) ∧ w'.cell? ⟨A, 5, none⟩ = some (.slice ea ne ec)) ∧ Zb w' w50.heap.size nr) (fun _ h => h.1) _ _ _ _ ?_
                  replace hHeld := And.intro hHeld (show Zb ((w50.alloc (.cells #[.int .u8 (nr : Nat)] 5))) w50.heap.size nr from heap_alloc_new _ _)
                  generalize (w50.alloc (.cells #[.int .u8 (nr : Nat)] 5)) = wb130 at hHeld ⊢
                  refine' wpAnyH_take (i := 22) (v := _) rfl (by kernel_rfl) (by kernel_rfl) (by kernel_rfl) (fun _ _ _ h => h) (Or.inl ⟨by rfl, ?hy131⟩) (by assumption) ?rest131
                  case hy131 => (intro w hSw; have cv := HTN.out _ _ (hSw.2); (try dsimp only at hSw); go_simp; try with_reducible rfl)
                  try simp only [Act.put, List.getElem_toArray, List.getElem_cons_zero, List.getElem_cons_succ, List.setIfInBounds_toArray, List.set_cons_zero, List.set_cons_succ]
                  refine wpAnyH_ready (rs := [3, 11]) (by kernel_rfl) (by simp) ?_
                  refine AllReadyH.cons rfl (fun K hK => ?_) ?_
                  · go_simp
                    refine hK.out _ _ ?_ (fun hHeld => ?_)
                    focus (exact ⟨(HKS.out _ ((below_al (hHeld.1).1 _))), (Zb.below (hHeld.2) (below_al (Below.refl _ _) _))⟩)
                    clear hK K
                    try simp only [Act.put, List.getElem_toArray, List.getElem_cons_zero, List.getElem_cons_succ, List.setIfInBounds_toArray, List.set_cons_zero, List.set_cons_succ]
                    refine wpAnyH_mono (S2 := fun w' => ((Below W0.heap.size W0 w' ∧ w'.cell? ⟨A, 0, none⟩ = some (.int .i64 (k : Nat)) ∧ w'.cell? ⟨A, 1, none⟩ = some (.string tt) ∧ w'.cell? ⟨A, 2, none⟩ = some (.int .i64 nu) ∧ w'.cell? ⟨A, 3, none⟩ = some (.int .i64 at9) ∧ w'.cell? ⟨A, 4, none⟩ = some (.slice ra nr rc) ∧ w'.cell? ⟨A, 5, none⟩ = some (.slice ea ne ec)) ∧ Zb w' w50.heap.size nr) ∧ Zb w' wb130.heap.size k) (fun _ h => h.1) _ _ _ _ ?_
                    replace hHeld := And.intro hHeld (show Zb ((wb130.alloc (.cells #[.int .u8 (k : Nat)] 5))) wb130.heap.size k from heap_alloc_new _ _)
                    generalize (wb130.alloc (.cells #[.int .u8 (k : Nat)] 5)) = wb132 at hHeld ⊢
                    refine' wpAnyH_take (i := 4) (v := _) rfl (by kernel_rfl) (by kernel_rfl) (by kernel_rfl) (fun _ _ _ h => h) (Or.inl ⟨by rfl, ?hy133⟩) (by assumption) ?rest133
                    case hy133 => (intro w hSw; have cv := HTK.out _ _ (hSw.2); (try dsimp only at hSw); go_simp; try with_reducible rfl)
                    try simp only [Act.put, List.getElem_toArray, List.getElem_cons_zero, List.getElem_cons_succ, List.setIfInBounds_toArray, List.set_cons_zero, List.set_cons_succ]
                    refine' wpAnyH_take (i := 8) (v := _) rfl (by kernel_rfl) (by kernel_rfl) (by kernel_rfl) (fun _ _ _ h => h) (Or.inl ⟨by rfl, ?hy134⟩) (by assumption) ?rest134
                    case hy134 => (intro w hSw; (try dsimp only at hSw); go_simp; try with_reducible rfl)
                    try simp only [Act.put, List.getElem_toArray, List.getElem_cons_zero, List.getElem_cons_succ, List.setIfInBounds_toArray, List.set_cons_zero, List.set_cons_succ]
                    refine wpAnyH_ready (rs := [11]) (by kernel_rfl) (by simp) ?_
                    refine AllReadyH.cons rfl (fun K hK => ?_) ?_
                    · go_simp
                      (go_at_call 29; (with_reducible refine (CN1.out _).mono ?_); rintro e w135 ⟨rfl, bt135⟩; have hk135 := below_on (B := W0.heap.size) (w := W0) (hHeld.1.1).1 bt135 (Nat.le_refl _))
                      go_wp2_with fail
                      refine hK.out _ _ ?_ (fun hHeld => ?_)
                      focus (exact ⟨⟨(HKS.out _ (hk135)), (Zb.below (hHeld.1.2) bt135)⟩, (Zb.below (hHeld.2) bt135)⟩)
                      clear hK K
                      try simp only [Act.put, List.getElem_toArray, List.getElem_cons_zero, List.getElem_cons_succ, List.setIfInBounds_toArray, List.set_cons_zero, List.set_cons_succ]
                      refine' wpAnyH_take (i := 12) (v := _) rfl (by kernel_rfl) (by kernel_rfl) (by kernel_rfl) (fun _ _ _ h => h) (Or.inl ⟨by rfl, ?hy136⟩) (by assumption) ?rest136
                      case hy136 => (intro w hSw; (try dsimp only at hSw); go_simp; try with_reducible rfl)
                      try simp only [Act.put, List.getElem_toArray, List.getElem_cons_zero, List.getElem_cons_succ, List.setIfInBounds_toArray, List.set_cons_zero, List.set_cons_succ]
                      refine wpAnyH_ready (rs := [15]) (by kernel_rfl) (by simp) ?_
                      refine AllReadyH.cons rfl (fun K hK => ?_) ?_
                      · go_simp
                        (go_at_call 29; (with_reducible refine (CN2.out _).mono ?_); rintro e w137 ⟨rfl, bt137⟩; have hk137 := below_on (B := W0.heap.size) (w := W0) (hHeld.1.1).1 bt137 (Nat.le_refl _))
                        go_wp2_with fail
                        refine hK.out _ _ ?_ (fun hHeld => ?_)
                        focus (exact ⟨⟨(HKS.out _ (hk137)), (Zb.below (hHeld.1.2) bt137)⟩, (Zb.below (hHeld.2) bt137)⟩)
                        clear hK K
                        try simp only [Act.put, List.getElem_toArray, List.getElem_cons_zero, List.getElem_cons_succ, List.setIfInBounds_toArray, List.set_cons_zero, List.set_cons_succ]
                        refine' wpAnyH_take (i := 16) (v := _) rfl (by kernel_rfl) (by kernel_rfl) (by kernel_rfl) (fun _ _ _ h => h) (Or.inl ⟨by rfl, ?hy138⟩) (by assumption) ?rest138
                        case hy138 => (intro w hSw; (try dsimp only at hSw); go_simp; try with_reducible rfl)
                        try simp only [Act.put, List.getElem_toArray, List.getElem_cons_zero, List.getElem_cons_succ, List.setIfInBounds_toArray, List.set_cons_zero, List.set_cons_succ]
                        refine' wpAnyH_take (i := 23) (v := _) rfl (by kernel_rfl) (by kernel_rfl) (by kernel_rfl) (fun _ _ _ h => h) (Or.inl ⟨by rfl, ?hy139⟩) (by assumption) ?rest139
                        case hy139 => (intro w hSw; (try dsimp only at hSw); go_simp; try with_reducible rfl)
                        try simp only [Act.put, List.getElem_toArray, List.getElem_cons_zero, List.getElem_cons_succ, List.setIfInBounds_toArray, List.set_cons_zero, List.set_cons_succ]
                        refine' wpAnyH_take (i := 24) (v := _) rfl (by kernel_rfl) (by kernel_rfl) (by kernel_rfl) (fun _ _ _ h => h) (Or.inl ⟨by rfl, ?hy140⟩) (by assumption) ?rest140
                        case hy140 => (intro w hSw; (try dsimp only at hSw); go_simp; try with_reducible rfl)
                        try simp only [Act.put, List.getElem_toArray, List.getElem_cons_zero, List.getElem_cons_succ, List.setIfInBounds_toArray, List.set_cons_zero, List.set_cons_succ]
                        refine wpAnyH_done (by kernel_rfl) ?_ _
                        go_wp2_with fail
                        go_meet
                        exact ⟨rfl, (hHeld.1.1).1⟩
                      exact AllReadyH.nil
                    exact AllReadyH.nil
                  refine AllReadyH.cons rfl (fun K hK => ?_) ?_
                  · go_simp
                    (go_at_call 29; (with_reducible refine (CN1.out _).mono ?_); rintro e w141 ⟨rfl, bt141⟩; have hk141 := below_on (B := W0.heap.size) (w := W0) (hHeld.1).1 bt141 (Nat.le_refl _))
                    go_wp2_with fail
                    refine hK.out _ _ ?_ (fun hHeld => ?_)
                    focus (exact ⟨(HKS.out _ (hk141)), (Zb.below (hHeld.2) bt141)⟩)
                    clear hK K
                    try simp only [Act.put, List.getElem_toArray, List.getElem_cons_zero, List.getElem_cons_succ, List.setIfInBounds_toArray, List.set_cons_zero, List.set_cons_succ]
                    refine wpAnyH_ready (rs := [3, 15]) (by kernel_rfl) (by simp) ?_
                    refine AllReadyH.cons rfl (fun K hK => ?_) ?_
                    · go_simp
                      refine hK.out _ _ ?_ (fun hHeld => ?_)
                      focus (exact ⟨(HKS.out _ ((below_al (hHeld.1).1 _))), (Zb.below (hHeld.2) (below_al (Below.refl _ _) _))⟩)
                      clear hK K
                      try simp only [Act.put, List.getElem_toArray, List.getElem_cons_zero, List.getElem_cons_succ, List.setIfInBounds_toArray, List.set_cons_zero, List.set_cons_succ]
                      refine wpAnyH_mono (S2 := fun w' => ((Below W0.heap.size W0 w' ∧ w'.cell? ⟨A, 0, none⟩ = some (.int .i64 (k : Nat)) ∧ w'.cell? ⟨A, 1, none⟩ = some (.string tt) ∧ w'.cell? ⟨A, 2, none⟩ = some (.int .i64 nu) ∧ w'.cell? ⟨A, 3, none⟩ = some (.int .i64 at9) ∧ w'.cell? ⟨A, 4, none⟩ = some (.slice ra nr rc) ∧ w'.cell? ⟨A, 5, none⟩ = some (.slice ea ne ec)) ∧ Zb w' w50.heap.size nr) ∧ Zb w' w141.heap.size k) (fun _ h => h.1) _ _ _ _ ?_
                      replace hHeld := And.intro hHeld (show Zb ((w141.alloc (.cells #[.int .u8 (k : Nat)] 5))) w141.heap.size k from heap_alloc_new _ _)
                      generalize (w141.alloc (.cells #[.int .u8 (k : Nat)] 5)) = wb142 at hHeld ⊢
                      refine' wpAnyH_take (i := 4) (v := _) rfl (by kernel_rfl) (by kernel_rfl) (by kernel_rfl) (fun _ _ _ h => h) (Or.inl ⟨by rfl, ?hy143⟩) (by assumption) ?rest143
                      case hy143 => (intro w hSw; have cv := HTK.out _ _ (hSw.2); (try dsimp only at hSw); go_simp; try with_reducible rfl)
                      try simp only [Act.put, List.getElem_toArray, List.getElem_cons_zero, List.getElem_cons_succ, List.setIfInBounds_toArray, List.set_cons_zero, List.set_cons_succ]
                      refine' wpAnyH_take (i := 8) (v := _) rfl (by kernel_rfl) (by kernel_rfl) (by kernel_rfl) (fun _ _ _ h => h) (Or.inl ⟨by rfl, ?hy144⟩) (by assumption) ?rest144
                      case hy144 => (intro w hSw; (try dsimp only at hSw); go_simp; try with_reducible rfl)
                      try simp only [Act.put, List.getElem_toArray, List.getElem_cons_zero, List.getElem_cons_succ, List.setIfInBounds_toArray, List.set_cons_zero, List.set_cons_succ]
                      refine' wpAnyH_take (i := 12) (v := _) rfl (by kernel_rfl) (by kernel_rfl) (by kernel_rfl) (fun _ _ _ h => h) (Or.inl ⟨by rfl, ?hy145⟩) (by assumption) ?rest145
                      case hy145 => (intro w hSw; (try dsimp only at hSw); go_simp; try with_reducible rfl)
                      try simp only [Act.put, List.getElem_toArray, List.getElem_cons_zero, List.getElem_cons_succ, List.setIfInBounds_toArray, List.set_cons_zero, List.set_cons_succ]
                      refine wpAnyH_ready (rs := [15]) (by kernel_rfl) (by simp) ?_
                      refine AllReadyH.cons rfl (fun K hK => ?_) ?_
                      · go_simp
                        (go_at_call 29; (with_reducible refine (CN2.out _).mono ?_); rintro e w146 ⟨rfl, bt146⟩; have hk146 := below_on (B := W0.heap.size) (w := W0) (hHeld.1.1).1 bt146 (Nat.le_refl _))
                        go_wp2_with fail
                        refine hK.out _ _ ?_ (fun hHeld => ?_)
                        focus (exact ⟨⟨(HKS.out _ (hk146)), (Zb.below (hHeld.1.2) bt146)⟩, (Zb.below (hHeld.2) bt146)⟩)
                        clear hK K
                        try simp only [Act.put, List.getElem_toArray, List.getElem_cons_zero, List.getElem_cons_succ, List.setIfInBounds_toArray, List.set_cons_zero, List.set_cons_succ]
                        refine' wpAnyH_take (i := 16) (v := _) rfl (by kernel_rfl) (by kernel_rfl) (by kernel_rfl) (fun _ _ _ h => h) (Or.inl ⟨by rfl, ?hy147⟩) (by assumption) ?rest147
                        case hy147 => (intro w hSw; (try dsimp only at hSw); go_simp; try with_reducible rfl)
                        try simp only [Act.put, List.getElem_toArray, List.getElem_cons_zero, List.getElem_cons_succ, List.setIfInBounds_toArray, List.set_cons_zero, List.set_cons_succ]
                        refine' wpAnyH_take (i := 23) (v := _) rfl (by kernel_rfl) (by kernel_rfl) (by kernel_rfl) (fun _ _ _ h => h) (Or.inl ⟨by rfl, ?hy148⟩) (by assumption) ?rest148
                        case hy148 => (intro w hSw; (try dsimp only at hSw); go_simp; try with_reducible rfl)
                        try simp only [Act.put, List.getElem_toArray, List.getElem_cons_zero, List.getElem_cons_succ, List.setIfInBounds_toArray, List.set_cons_zero, List.set_cons_succ]
                        refine' wpAnyH_take (i := 24) (v := _) rfl (by kernel_rfl) (by kernel_rfl) (by kernel_rfl) (fun _ _ _ h => h) (Or.inl ⟨by rfl, ?hy149⟩) (by assumption) ?rest149
                        case hy149 => (intro w hSw; (try dsimp only at hSw); go_simp; try with_reducible rfl)
                        try simp only [Act.put, List.getElem_toArray, List.getElem_cons_zero, List.getElem_cons_succ, List.setIfInBounds_toArray, List.set_cons_zero, List.set_cons_succ]
                        refine wpAnyH_done (by kernel_rfl) ?_ _
                        go_wp2_with fail
                        go_meet
                        exact ⟨rfl, (hHeld.1.1).1⟩
                      exact AllReadyH.nil
                    refine AllReadyH.cons rfl (fun K hK => ?_) ?_
                    · go_simp
                      (go_at_call 29; (with_reducible refine (CN2.out _).mono ?_); rintro e w150 ⟨rfl, bt150⟩; have hk150 := below_on (B := W0.heap.size) (w := W0) (hHeld.1).1 bt150 (Nat.le_refl _))
                      go_wp2_with fail
                      refine hK.out _ _ ?_ (fun hHeld => ?_)
                      focus (exact ⟨(HKS.out _ (hk150)), (Zb.below (hHeld.2) bt150)⟩)
                      clear hK K
                      try simp only [Act.put, List.getElem_toArray, List.getElem_cons_zero, List.getElem_cons_succ, List.setIfInBounds_toArray, List.set_cons_zero, List.set_cons_succ]
                      refine wpAnyH_ready (rs := [3]) (by kernel_rfl) (by simp) ?_
                      refine AllReadyH.cons rfl (fun K hK => ?_) ?_
                      · go_simp
                        refine hK.out _ _ ?_ (fun hHeld => ?_)
                        focus (exact ⟨(HKS.out _ ((below_al (hHeld.1).1 _))), (Zb.below (hHeld.2) (below_al (Below.refl _ _) _))⟩)
                        clear hK K
                        try simp only [Act.put, List.getElem_toArray, List.getElem_cons_zero, List.getElem_cons_succ, List.setIfInBounds_toArray, List.set_cons_zero, List.set_cons_succ]
                        refine wpAnyH_mono (S2 := fun w' => ((Below W0.heap.size W0 w' ∧ w'.cell? ⟨A, 0, none⟩ = some (.int .i64 (k : Nat)) ∧ w'.cell? ⟨A, 1, none⟩ = some (.string tt) ∧ w'.cell? ⟨A, 2, none⟩ = some (.int .i64 nu) ∧ w'.cell? ⟨A, 3, none⟩ = some (.int .i64 at9) ∧ w'.cell? ⟨A, 4, none⟩ = some (.slice ra nr rc) ∧ w'.cell? ⟨A, 5, none⟩ = some (.slice ea ne ec)) ∧ Zb w' w50.heap.size nr) ∧ Zb w' w150.heap.size k) (fun _ h => h.1) _ _ _ _ ?_
                        replace hHeld := And.intro hHeld (show Zb ((w150.alloc (.cells #[.int .u8 (k : Nat)] 5))) w150.heap.size k from heap_alloc_new _ _)
                        generalize (w150.alloc (.cells #[.int .u8 (k : Nat)] 5)) = wb151 at hHeld ⊢
                        refine' wpAnyH_take (i := 4) (v := _) rfl (by kernel_rfl) (by kernel_rfl) (by kernel_rfl) (fun _ _ _ h => h) (Or.inl ⟨by rfl, ?hy152⟩) (by assumption) ?rest152
                        case hy152 => (intro w hSw; have cv := HTK.out _ _ (hSw.2); (try dsimp only at hSw); go_simp; try with_reducible rfl)
                        try simp only [Act.put, List.getElem_toArray, List.getElem_cons_zero, List.getElem_cons_succ, List.setIfInBounds_toArray, List.set_cons_zero, List.set_cons_succ]
                        refine' wpAnyH_take (i := 8) (v := _) rfl (by kernel_rfl) (by kernel_rfl) (by kernel_rfl) (fun _ _ _ h => h) (Or.inl ⟨by rfl, ?hy153⟩) (by assumption) ?rest153
                        case hy153 => (intro w hSw; (try dsimp only at hSw); go_simp; try with_reducible rfl)
                        try simp only [Act.put, List.getElem_toArray, List.getElem_cons_zero, List.getElem_cons_succ, List.setIfInBounds_toArray, List.set_cons_zero, List.set_cons_succ]
                        refine' wpAnyH_take (i := 12) (v := _) rfl (by kernel_rfl) (by kernel_rfl) (by kernel_rfl) (fun _ _ _ h => h) (Or.inl ⟨by rfl, ?hy154⟩) (by assumption) ?rest154
                        case hy154 => (intro w hSw; (try dsimp only at hSw); go_simp; try with_reducible rfl)
                        try simp only [Act.put, List.getElem_toArray, List.getElem_cons_zero, List.getElem_cons_succ, List.setIfInBounds_toArray, List.set_cons_zero, List.set_cons_succ]
                        refine' wpAnyH_take (i := 16) (v := _) rfl (by kernel_rfl) (by kernel_rfl) (by kernel_rfl) (fun _ _ _ h => h) (Or.inl ⟨by rfl, ?hy155⟩) (by assumption) ?rest155
                        case hy155 => (intro w hSw; (try dsimp only at hSw); go_simp; try with_reducible rfl)
                        try simp only [Act.put, List.getElem_toArray, List.getElem_cons_zero, List.getElem_cons_succ, List.setIfInBounds_toArray, List.set_cons_zero, List.set_cons_succ]
                        refine' wpAnyH_take (i := 23) (v := _) rfl (by kernel_rfl) (by kernel_rfl) (by kernel_rfl) (fun _ _ _ h => h) (Or.inl ⟨by rfl, ?hy156⟩) (by assumption) ?rest156
                        case hy156 => (intro w hSw; (try dsimp only at hSw); go_simp; try with_reducible rfl)
                        try simp only [Act.put, List.getElem_toArray, List.getElem_cons_zero, List.getElem_cons_succ, List.setIfInBounds_toArray, List.set_cons_zero, List.set_cons_succ]
                        refine' wpAnyH_take (i := 24) (v := _) rfl (by kernel_rfl) (by kernel_rfl) (by kernel_rfl) (fun _ _ _ h => h) (Or.inl ⟨by rfl, ?hy157⟩) (by assumption) ?rest157
                        case hy157 => (intro w hSw; (try dsimp only at hSw); go_simp; try with_reducible rfl)
                        try simp only [Act.put, List.getElem_toArray, List.getElem_cons_zero, List.getElem_cons_succ, List.setIfInBounds_toArray, List.set_cons_zero, List.set_cons_succ]
                        refine wpAnyH_done (by kernel_rfl) ?_ _
                        go_wp2_with fail
                        go_meet
                        exact ⟨rfl, (hHeld.1.1).1⟩
                      exact AllReadyH.nil
                    exact AllReadyH.nil
                  exact AllReadyH.nil
                exact AllReadyH.nil
              refine AllReadyH.cons rfl (fun K hK => ?_) ?_
              · go_simp
                refine hK.out _ _ ?_ (fun hHeld => ?_)
                focus (exact (HKS.out _ ((below_al (w' := W0.drew) (hHeld).1 (.cells #[.int .u8 (nr : Nat)] 5)))))
                clear hK K
                try simp only [Act.put, List.getElem_toArray, List.getElem_cons_zero, List.getElem_cons_succ, List.setIfInBounds_toArray, List.set_cons_zero, List.set_cons_succ]
                refine wpAnyH_mono (S2 := fun w' => (Below W0.heap.size W0 w' ∧ w'.cell? ⟨A, 0, none⟩ = some (.int .i64 (k : Nat)) ∧ w'.cell? ⟨A, 1, none⟩ = some (.string tt) ∧ w'.cell? ⟨A, 2, none⟩ = some (.int .i64 nu) ∧ w'.cell? ⟨A, 3, none⟩ = some (.int .i64 at9) ∧ w'.cell? ⟨A, 4, none⟩ = some (.slice ra nr rc) ∧ w'.cell? ⟨A, 5, none⟩ = some (.slice ea ne ec)) ∧ Zb w' W0.heap.size nr) (fun _ h => h.1) _ _ _ _ ?_
                replace hHeld := And.intro hHeld (show Zb ((W0.alloc (.cells #[.int .u8 (nr : Nat)] 5)).drew) W0.heap.size nr from heap_alloc_new _ _)
                generalize (W0.alloc (.cells #[.int .u8 (nr : Nat)] 5)).drew = wb158 at hHeld ⊢
                refine' wpAnyH_take (i := 22) (v := _) rfl (by kernel_rfl) (by kernel_rfl) (by kernel_rfl) (fun _ _ _ h => h) (Or.inl ⟨by rfl, ?hy159⟩) (by assumption) ?rest159
                case hy159 => (intro w hSw; have cv := HTN.out _ _ (hSw.2); (try dsimp only at hSw); go_simp; try with_reducible rfl)
                try simp only [Act.put, List.getElem_toArray, List.getElem_cons_zero, List.getElem_cons_succ, List.setIfInBounds_toArray, List.set_cons_zero, List.set_cons_succ]
                refine wpAnyH_ready (rs := [3, 7]) (by kernel_rfl) (by simp) ?_
                refine AllReadyH.cons rfl (fun K hK => ?_) ?_
                · go_simp
                  refine hK.out _ _ ?_ (fun hHeld => ?_)
                  focus (exact ⟨(HKS.out _ ((below_al (hHeld.1).1 _))), (Zb.below (hHeld.2) (below_al (Below.refl _ _) _))⟩)
                  clear hK K
                  try simp only [Act.put, List.getElem_toArray, List.getElem_cons_zero, List.getElem_cons_succ, List.setIfInBounds_toArray, List.set_cons_zero, List.set_cons_succ]
                  refine wpAnyH_mono (S2 := fun w' => ((Below W0.heap.size W0 w' ∧ w'.cell? ⟨A, 0, none⟩ = some (.int .i64 (k : Nat)) ∧ w'.cell? ⟨A, 1, none⟩ = some (.string tt) ∧ w'.cell? ⟨A, 2, none⟩ = some (.int .i64 nu) ∧ w'.cell? ⟨A, 3, none⟩ = some (.int .i64 at9) ∧ w'.cell? ⟨A, 4, none⟩ = some (.slice ra nr rc) ∧ w'.cell? ⟨A, 5, none⟩ = some (.slice ea ne ec)) ∧ Zb w' W0.heap.size nr) ∧ Zb w' wb158.heap.size k) (fun _ h => h.1) _ _ _ _ ?_
                  replace hHeld := And.intro hHeld (show Zb ((wb158.alloc (.cells #[.int .u8 (k : Nat)] 5))) wb158.heap.size k from heap_alloc_new _ _)
                  generalize (wb158.alloc (.cells #[.int .u8 (k : Nat)] 5)) = wb160 at hHeld ⊢
                  refine' wpAnyH_take (i := 4) (v := _) rfl (by kernel_rfl) (by kernel_rfl) (by kernel_rfl) (fun _ _ _ h => h) (Or.inl ⟨by rfl, ?hy161⟩) (by assumption) ?rest161
                  case hy161 => (intro w hSw; have cv := HTK.out _ _ (hSw.2); (try dsimp only at hSw); go_simp; try with_reducible rfl)
                  try simp only [Act.put, List.getElem_toArray, List.getElem_cons_zero, List.getElem_cons_succ, List.setIfInBounds_toArray, List.set_cons_zero, List.set_cons_succ]
                  refine wpAnyH_ready (rs := [7]) (by kernel_rfl) (by simp) ?_
                  refine AllReadyH.cons rfl (fun K hK => ?_) ?_
                  · go_simp
                    (go_at_call 28; (with_reducible refine (CT.out _).mono ?_); rintro e w162 ⟨rfl, bt162⟩; have hk162 := below_on (B := W0.heap.size) (w := W0) (hHeld.1.1).1 bt162 (Nat.le_refl _))
                    go_wp2_with fail
                    refine hK.out _ _ ?_ (fun hHeld => ?_)
                    focus (exact ⟨⟨(HKS.out _ (hk162)), (Zb.below (hHeld.1.2) bt162)⟩, (Zb.below (hHeld.2) bt162)⟩)
                    clear hK K
                    try simp only [Act.put, List.getElem_toArray, List.getElem_cons_zero, List.getElem_cons_succ, List.setIfInBounds_toArray, List.set_cons_zero, List.set_cons_succ]
                    refine' wpAnyH_take (i := 8) (v := _) rfl (by kernel_rfl) (by kernel_rfl) (by kernel_rfl) (fun _ _ _ h => h) (Or.inl ⟨by rfl, ?hy163⟩) (by assumption) ?rest163
                    case hy163 => (intro w hSw; (try dsimp only at hSw); go_simp; try with_reducible rfl)
                    try simp only [Act.put, List.getElem_toArray, List.getElem_cons_zero, List.getElem_cons_succ, List.setIfInBounds_toArray, List.set_cons_zero, List.set_cons_succ]
                    refine wpAnyH_ready (rs := [11]) (by kernel_rfl) (by simp) ?_
                    refine AllReadyH.cons rfl (fun K hK => ?_) ?_
                    · go_simp
                      (go_at_call 29; (with_reducible refine (CN1.out _).mono ?_); rintro e w164 ⟨rfl, bt164⟩; have hk164 := below_on (B := W0.heap.size) (w := W0) (hHeld.1.1).1 bt164 (Nat.le_refl _))
                      go_wp2_with fail
                      refine hK.out _ _ ?_ (fun hHeld => ?_)
                      focus (exact ⟨⟨(HKS.out _ (hk164)), (Zb.below (hHeld.1.2) bt164)⟩, (Zb.below (hHeld.2) bt164)⟩)
                      clear hK K
                      try simp only [Act.put, List.getElem_toArray, List.getElem_cons_zero, List.getElem_cons_succ, List.setIfInBounds_toArray, List.set_cons_zero, List.set_cons_succ]
                      refine' wpAnyH_take (i := 12) (v := _) rfl (by kernel_rfl) (by kernel_rfl) (by kernel_rfl) (fun _ _ _ h => h) (Or.inl ⟨by rfl, ?hy165⟩) (by assumption) ?rest165
                      case hy165 => (intro w hSw; (try dsimp only at hSw); go_simp; try with_reducible rfl)
                      try simp only [Act.put, List.getElem_toArray, List.getElem_cons_zero, List.getElem_cons_succ, List.setIfInBounds_toArray, List.set_cons_zero, List.set_cons_succ]
                      refine wpAnyH_ready (rs := [15]) (by kernel_rfl) (by simp) ?_
                      refine AllReadyH.cons rfl (fun K hK => ?_) ?_
                      · go_simp
                        (go_at_call 29; (with_reducible refine (CN2.out _).mono ?_); rintro e w166 ⟨rfl, bt166⟩; have hk166 := below_on (B := W0.heap.size) (w := W0) (hHeld.1.1).1 bt166 (Nat.le_refl _))
                        go_wp2_with fail
                        refine hK.out _ _ ?_ (fun hHeld => ?_)
                        focus (exact ⟨⟨(HKS.out _ (hk166)), (Zb.below (hHeld.1.2) bt166)⟩, (Zb.below (hHeld.2) bt166)⟩)
                        clear hK K
                        try simp only [Act.put, List.getElem_toArray, List.getElem_cons_zero, List.getElem_cons_succ, List.setIfInBounds_toArray, List.set_cons_zero, List.set_cons_succ]
                        refine' wpAnyH_take (i := 16) (v := _) rfl (by kernel_rfl) (by kernel_rfl) (by kernel_rfl) (fun _ _ _ h => h) (Or.inl ⟨by rfl, ?hy167⟩) (by assumption) ?rest167
                        case hy167 => (intro w hSw; (try dsimp only at hSw); go_simp; try with_reducible rfl)
                        try simp only [Act.put, List.getElem_toArray, List.getElem_cons_zero, List.getElem_cons_succ, List.setIfInBounds_toArray, List.set_cons_zero, List.set_cons_succ]
                        refine' wpAnyH_take (i := 23) (v := _) rfl (by kernel_rfl) (by kernel_rfl) (by kernel_rfl) (fun _ _ _ h => h) (Or.inl ⟨by rfl, ?hy168⟩) (by assumption) ?rest168
                        case hy168 => (intro w hSw; (try dsimp only at hSw); go_simp; try with_reducible rfl)
                        try simp only [Act.put, List.getElem_toArray, List.getElem_cons_zero, List.getElem_cons_succ, List.setIfInBounds_toArray, List.set_cons_zero, List.set_cons_succ]
                        refine' wpAnyH_take (i := 24) (v := _) rfl (by kernel_rfl) (by kernel_rfl) (by kernel_rfl) (fun _ _ _ h => h) (Or.inl ⟨by rfl, ?hy169⟩) (by assumption) ?rest169
                        case hy169 => (intro w hSw; (try dsimp only at hSw); go_simp; try with_reducible rfl)
                        try simp only [Act.put, List.getElem_toArray, List.getElem_cons_zero, List.getElem_cons_succ, List.setIfInBounds_toArray, List.set_cons_zero, List.set_cons_succ]
                        refine wpAnyH_done (by kernel_rfl) ?_ _
                        go_wp2_with fail
                        go_meet
                        exact ⟨rfl, (hHeld.1.1).1⟩
                      exact AllReadyH.nil
                    exact AllReadyH.nil
                  exact AllReadyH.nil
                refine AllReadyH.cons rfl (fun K hK => ?_) ?_
                · go_simp
                  (go_at_call 28; (with_reducible refine (CT.out _).mono ?_); rintro e w170 ⟨rfl, bt170⟩; have hk170 := below_on (B := W0.heap.size) (w := W0) (hHeld.1).1 bt170 (Nat.le_refl _))
                  go_wp2_with fail
                  refine hK.out _ _ ?_ (fun hHeld => ?_)
                  focus (exact ⟨(HKS.out _ (hk170)), (Zb.below (hHeld.2) bt170)⟩)
                  clear hK K
                  try simp only [Act.put, List.getElem_toArray, List.getElem_cons_zero, List.getElem_cons_succ, List.setIfInBounds_toArray, List.set_cons_zero, List.set_cons_succ]
                  refine wpAnyH_ready (rs := [3, 11]) (by kernel_rfl) (by simp) ?_
                  refine AllReadyH.cons rfl (fun K hK => ?_) ?_
                  · go_simp
                    refine hK.out _ _ ?_ (fun hHeld => ?_)
                    focus (exact ⟨(HKS.out _ ((below_al (hHeld.1).1 _))), (Zb.below (hHeld.2) (below_al (Below.refl _ _) _))⟩)
                    clear hK K
                    try simp only [Act.put, List.getElem_toArray, List.getElem_cons_zero, List.getElem_cons_succ, List.setIfInBounds_toArray, List.set_cons_zero, List.set_cons_succ]
                    refine wpAnyH_mono (S2 := fun w' => ((Below W0.heap.size W0 w' ∧ w'.cell? ⟨A, 0, none⟩ = some (.int .i64 (k : Nat)) ∧ w'.cell? ⟨A, 1, none⟩ = some (.string tt) ∧ w'.cell? ⟨A, 2, none⟩ = some (.int .i64 nu) ∧ w'.cell? ⟨A, 3, none⟩ = some (.int .i64 at9) ∧ w'.cell? ⟨A, 4, none⟩ = some (.slice ra nr rc) ∧ w'.cell? ⟨A, 5, none⟩ = some (.slice ea ne ec)) ∧ Zb w' W0.heap.size nr) ∧ Zb w' w170.heap.size k) (fun _ h => h.1) _ _ _ _ ?_
                    replace hHeld := And.intro hHeld (show Zb ((w170.alloc (.cells #[.int .u8 (k : Nat)] 5))) w170.heap.size k from heap_alloc_new _ _)
                    generalize (w170.alloc (.cells #[.int .u8 (k : Nat)] 5)) = wb171 at hHeld ⊢
                    refine' wpAnyH_take (i := 4) (v := _) rfl (by kernel_rfl) (by kernel_rfl) (by kernel_rfl) (fun _ _ _ h => h) (Or.inl ⟨by rfl, ?hy172⟩) (by assumption) ?rest172
                    case hy172 => (intro w hSw; have cv := HTK.out _ _ (hSw.2); (try dsimp only at hSw); go_simp; try with_reducible rfl)
                    try simp only [Act.put, List.getElem_toArray, List.getElem_cons_zero, List.getElem_cons_succ, List.setIfInBounds_toArray, List.set_cons_zero, List.set_cons_succ]
                    refine' wpAnyH_take (i := 8) (v := _) rfl (by kernel_rfl) (by kernel_rfl) (by kernel_rfl) (fun _ _ _ h => h) (Or.inl ⟨by rfl, ?hy173⟩) (by assumption) ?rest173
                    case hy173 => (intro w hSw; (try dsimp only at hSw); go_simp; try with_reducible rfl)
                    try simp only [Act.put, List.getElem_toArray, List.getElem_cons_zero, List.getElem_cons_succ, List.setIfInBounds_toArray, List.set_cons_zero, List.set_cons_succ]
                    refine wpAnyH_ready (rs := [11]) (by kernel_rfl) (by simp) ?_
                    refine AllReadyH.cons rfl (fun K hK => ?_) ?_
                    · go_simp
                      (go_at_call 29; (with_reducible refine (CN1.out _).mono ?_); rintro e w174 ⟨rfl, bt174⟩; have hk174 := below_on (B := W0.heap.size) (w := W0) (hHeld.1.1).1 bt174 (Nat.le_refl _))
                      go_wp2_with fail
                      refine hK.out _ _ ?_ (fun hHeld => ?_)
                      focus (exact ⟨⟨(HKS.out _ (hk174)), (Zb.below (hHeld.1.2) bt174)⟩, (Zb.below (hHeld.2) bt174)⟩)
                      clear hK K
                      try simp only [Act.put, List.getElem_toArray, List.getElem_cons_zero, List.getElem_cons_succ, List.setIfInBounds_toArray, List.set_cons_zero, List.set_cons_succ]
                      refine' wpAnyH_take (i := 12) (v := _) rfl (by kernel_rfl) (by kernel_rfl) (by kernel_rfl) (fun _ _ _ h => h) (Or.inl ⟨by rfl, ?hy175⟩) (by assumption) ?rest175
                      case hy175 => (intro w hSw; (try dsimp only at hSw); go_simp; try with_reducible rfl)
                      try simp only [Act.put, List.getElem_toArray, List.getElem_cons_zero, List.getElem_cons_succ, List.setIfInBounds_toArray, List.set_cons_zero, List.set_cons_succ]
                      refine wpAnyH_ready (rs := [15]) (by kernel_rfl) (by simp) ?_
                      refine AllReadyH.cons rfl (fun K hK => ?_) ?_
                      · go_simp
                        (go_at_call 29; (with_reducible refine (CN2.out _).mono ?_); rintro e w176 ⟨rfl, bt176⟩; have hk176 := below_on (B := W0.heap.size) (w := W0) (hHeld.1.1).1 bt176 (Nat.le_refl _))
                        go_wp2_with fail
                        refine hK.out _ _ ?_ (fun hHeld => ?_)
                        focus (exact ⟨⟨(HKS.out _ (hk176)), (Zb.below (hHeld.1.2) bt176)⟩, (Zb.below (hHeld.2) bt176)⟩)
                        clear hK K
                        try simp only [Act.put, List.getElem_toArray, List.getElem_cons_zero, List.getElem_cons_succ, List.setIfInBounds_toArray, List.set_cons_zero, List.set_cons_succ]
                        refine' wpAnyH_take (i := 16) (v := _) rfl (by kernel_rfl) (by kernel_rfl) (by kernel_rfl) (fun _ _ _ h => h) (Or.inl ⟨by rfl, ?hy177⟩) (by assumption) ?rest177
                        case hy177 => (intro w hSw; (try dsimp only at hSw); go_simp; try with_reducible rfl)
                        try simp only [Act.put, List.getElem_toArray, List.getElem_cons_zero, List.getElem_cons_succ, List.setIfInBounds_toArray, List.set_cons_zero, List.set_cons_succ]
                        refine' wpAnyH_take (i := 23) (v := _) rfl (by kernel_rfl) (by kernel_rfl) (by kernel_rfl) (fun _ _ _ h => h) (Or.inl ⟨by rfl, ?hy178⟩) (by assumption) ?rest178
                        case hy178 => (intro w hSw; (try dsimp only at hSw); go_simp; try with_reducible rfl)
                        try simp only [Act.put, List.getElem_toArray, List.getElem_cons_zero, List.getElem_cons_succ, List.setIfInBounds_toArray, List.set_cons_zero, List.set_cons_succ]
                        refine' wpAnyH_take (i := 24) (v := _) rfl (by kernel_rfl) (by kernel_rfl) (by kernel_rfl) (fun _ _ _ h => h) (Or.inl ⟨by rfl, ?hy179⟩) (by assumption) ?rest179
                        case hy179 => (intro w hSw; (try dsimp only at hSw); go_simp; try with_reducible rfl)
                        try simp only [Act.put, List.getElem_toArray, List.getElem_cons_zero, List.getElem_cons_succ, List.setIfInBounds_toArray, List.set_cons_zero, List.set_cons_succ]
                        refine wpAnyH_done (by kernel_rfl) ?_ _
                        go_wp2_with fail
                        go_meet
                        exact ⟨rfl, (hHeld.1.1).1⟩
                      exact AllReadyH.nil
                    exact AllReadyH.nil
                  refine AllReadyH.cons rfl (fun K hK => ?_) ?_
                  · go_simp
                    (go_at_call 29; (with_reducible refine (CN1.out _).mono ?_); rintro e w180 ⟨rfl, bt180⟩; have hk180 := below_on (B := W0.heap.size) (w := W0) (hHeld.1).1 bt180 (Nat.le_refl _))
                    go_wp2_with fail
                    refine hK.out _ _ ?_ (fun hHeld => ?_)
                    focus (exact ⟨(HKS.out _ (hk180)), (Zb.below (hHeld.2) bt180)⟩)
                    clear hK K
                    try simp only [Act.put, List.getElem_toArray, List.getElem_cons_zero, List.getElem_cons_succ, List.setIfInBounds_toArray, List.set_cons_zero, List.set_cons_succ]
                    refine wpAnyH_ready (rs := [3, 15]) (by kernel_rfl) (by simp) ?_
                    refine AllReadyH.cons rfl (fun K hK => ?_) ?_
                    · go_simp
                      refine hK.out _ _ ?_ (fun hHeld => ?_)
                      focus (exact ⟨(HKS.out _ ((below_al (hHeld.1).1 _))), (Zb.below (hHeld.2) (below_al (Below.refl _ _) _))⟩)
                      clear hK K
                      try simp only [Act.put, List.getElem_toArray, List.getElem_cons_zero, List.getElem_cons_succ, List.setIfInBounds_toArray, List.set_cons_zero, List.set_cons_succ]
                      refine wpAnyH_mono (S2 := fun w' => ((Below W0.heap.size W0 w' ∧ w'.cell? ⟨A, 0, none⟩ = some (.int .i64 (k : Nat)) ∧ w'.cell? ⟨A, 1, none⟩ = some (.string tt) ∧ w'.cell? ⟨A, 2, none⟩ = some (.int .i64 nu) ∧ w'.cell? ⟨A, 3, none⟩ = some (.int .i64 at9) ∧ w'.cell? ⟨A, 4, none⟩ = some (.slice ra nr rc) ∧ w'.cell? ⟨A, 5, none⟩ = some (.slice ea ne ec)) ∧ Zb w' W0.heap.size nr) ∧ Zb w' w180.heap.size k) (fun _ h => h.1) _ _ _ _ ?_
                      replace hHeld := And.intro hHeld (show Zb ((w180.alloc (.cells #[.int .u8 (k : Nat)] 5))) w180.heap.size k from heap_alloc_new _ _)
                      generalize (w180.alloc (.cells #[.int .u8 (k : Nat)] 5)) = wb181 at hHeld ⊢
                      refine' wpAnyH_take (i := 4) (v := _) rfl (by kernel_rfl) (by kernel_rfl) (by kernel_rfl) (fun _ _ _ h => h) (Or.inl ⟨by rfl, ?hy182⟩) (by assumption) ?rest182
                      case hy182 => (intro w hSw; have cv := HTK.out _ _ (hSw.2); (try dsimp only at hSw); go_simp; try with_reducible rfl)
                      try simp only [Act.put, List.getElem_toArray, List.getElem_cons_zero, List.getElem_cons_succ, List.setIfInBounds_toArray, List.set_cons_zero, List.set_cons_succ]
                      refine' wpAnyH_take (i := 8) (v := _) rfl (by kernel_rfl) (by kernel_rfl) (by kernel_rfl) (fun _ _ _ h => h) (Or.inl ⟨by rfl, ?hy183⟩) (by assumption) ?rest183
                      case hy183 => (intro w hSw; (try dsimp only at hSw); go_simp; try with_reducible rfl)
                      try simp only [Act.put, List.getElem_toArray, List.getElem_cons_zero, List.getElem_cons_succ, List.setIfInBounds_toArray, List.set_cons_zero, List.set_cons_succ]
                      refine' wpAnyH_take (i := 12) (v := _) rfl (by kernel_rfl) (by kernel_rfl) (by kernel_rfl) (fun _ _ _ h => h) (Or.inl ⟨by rfl, ?hy184⟩) (by assumption) ?rest184
                      case hy184 => (intro w hSw; (try dsimp only at hSw); go_simp; try with_reducible rfl)
                      try simp only [Act.put, List.getElem_toArray, List.getElem_cons_zero, List.getElem_cons_succ, List.setIfInBounds_toArray, List.set_cons_zero, List.set_cons_succ]
                      refine wpAnyH_ready (rs := [15]) (by kernel_rfl) (by simp) ?_
                      refine AllReadyH.cons rfl (fun K hK => ?_) ?_
                      · go_simp
                        (go_at_call 29; (with_reducible refine (CN2.out _).mono ?_); rintro e w185 ⟨rfl, bt185⟩; have hk185 := below_on (B := W0.heap.size) (w := W0) (hHeld.1.1).1 bt185 (Nat.le_refl _))
                        go_wp2_with fail
                        refine hK.out _ _ ?_ (fun hHeld => ?_)
                        focus (exact ⟨⟨(HKS.out _ (hk185)), (Zb.below (hHeld.1.2) bt185)⟩, (Zb.below (hHeld.2) bt185)⟩)
                        clear hK K
                        try simp only [Act.put, List.getElem_toArray, List.getElem_cons_zero, List.getElem_cons_succ, List.setIfInBounds_toArray, List.set_cons_zero, List.set_cons_succ]
                        refine' wpAnyH_take (i := 16) (v := _) rfl (by kernel_rfl) (by kernel_rfl) (by kernel_rfl) (fun _ _ _ h => h) (Or.inl ⟨by rfl, ?hy186⟩) (by assumption) ?rest186
                        case hy186 => (intro w hSw; (try dsimp only at hSw); go_simp; try with_reducible rfl)
                        try simp only [Act.put, List.getElem_toArray, List.getElem_cons_zero, List.getElem_cons_succ, List.setIfInBounds_toArray, List.set_cons_zero, List.set_cons_succ]
                        refine' wpAnyH_take (i := 23) (v := _) rfl (by kernel_rfl) (by kernel_rfl) (by kernel_rfl) (fun _ _ _ h => h) (Or.inl ⟨by rfl, ?hy187⟩) (by assumption) ?rest187
                        case hy187 => (intro w hSw; (try dsimp only at hSw); go_simp; try with_reducible rfl)
                        try simp only [Act.put, List.getElem_toArray, List.getElem_cons_zero, List.getElem_cons_succ, List.setIfInBounds_toArray, List.set_cons_zero, List.set_cons_succ]
                        refine' wpAnyH_take (i := 24) (v := _) rfl (by kernel_rfl) (by kernel_rfl) (by kernel_rfl) (fun _ _ _ h => h) (Or.inl ⟨by rfl, ?hy188⟩) (by assumption) ?rest188
                        case hy188 => (intro w hSw; (try dsimp only at hSw); go_simp; try with_reducible rfl)
                        try simp only [Act.put, List.getElem_toArray, List.getElem_cons_zero, List.getElem_cons_succ, List.setIfInBounds_toArray, List.set_cons_zero, List.set_cons_succ]
                        refine wpAnyH_done (by kernel_rfl) ?_ _
                        go_wp2_with fail
                        go_meet
                        exact ⟨rfl, (hHeld.1.1).1⟩
                      exact AllReadyH.nil
                    refine AllReadyH.cons rfl (fun K hK => ?_) ?_
                    · go_simp
                      (go_at_call 29; (with_reducible refine (CN2.out _).mono ?_); rintro e w189 ⟨rfl, bt189⟩; have hk189 := below_on (B := W0.heap.size) (w := W0) (hHeld.1).1 bt189 (Nat.le_refl _))
                      go_wp2_with fail
                      refine hK.out _ _ ?_ (fun hHeld => ?_)
                      focus (exact ⟨(HKS.out _ (hk189)), (Zb.below (hHeld.2) bt189)⟩)
                      clear hK K
                      try simp only [Act.put, List.getElem_toArray, List.getElem_cons_zero, List.getElem_cons_succ, List.setIfInBounds_toArray, List.set_cons_zero, List.set_cons_succ]
                      refine wpAnyH_ready (rs := [3]) (by kernel_rfl) (by simp) ?_
                      refine AllReadyH.cons rfl (fun K hK => ?_) ?_
                      · go_simp
                        refine hK.out _ _ ?_ (fun hHeld => ?_)
                        focus (exact ⟨(HKS.out _ ((below_al (hHeld.1).1 _))), (Zb.below (hHeld.2) (below_al (Below.refl _ _) _))⟩)
                        clear hK K
                        try simp only [Act.put, List.getElem_toArray, List.getElem_cons_zero, List.getElem_cons_succ, List.setIfInBounds_toArray, List.set_cons_zero, List.set_cons_succ]
                        refine wpAnyH_mono (S2 := fun w' => ((Below W0.heap.size W0 w' ∧ w'.cell? ⟨A, 0, none⟩ = some (.int .i64 (k : Nat)) ∧ w'.cell? ⟨A, 1, none⟩ = some (.string tt) ∧ w'.cell? ⟨A, 2, none⟩ = some (.int .i64 nu) ∧ w'.cell? ⟨A, 3, none⟩ = some (.int .i64 at9) ∧ w'.cell? ⟨A, 4, none⟩ = some (.slice ra nr rc) ∧ w'.cell? ⟨A, 5, none⟩ = some (.slice ea ne ec)) ∧ Zb w' W0.heap.size nr) ∧ Zb w' w189.heap.size k) (fun _ h => h.1) _ _ _ _ ?_
                        replace hHeld := And.intro hHeld (show Zb ((w189.alloc (.cells #[.int .u8 (k : Nat)] 5))) w189.heap.size k from heap_alloc_new _ _)
                        generalize (w189.alloc (.cells #[.int .u8 (k : Nat)] 5)) = wb190 at hHeld ⊢
                        refine' wpAnyH_take (i := 4) (v := _) rfl (by kernel_rfl) (by kernel_rfl) (by kernel_rfl) (fun _ _ _ h => h) (Or.inl ⟨by rfl, ?hy191⟩) (by assumption) ?rest191
                        case hy191 => (intro w hSw; have cv := HTK.out _ _ (hSw.2); (try dsimp only at hSw); go_simp; try with_reducible rfl)
                        try simp only [Act.put, List.getElem_toArray, List.getElem_cons_zero, List.getElem_cons_succ, List.setIfInBounds_toArray, List.set_cons_zero, List.set_cons_succ]
                        refine' wpAnyH_take (i := 8) (v := _) rfl (by kernel_rfl) (by kernel_rfl) (by kernel_rfl) (fun _ _ _ h => h) (Or.inl ⟨by rfl, ?hy192⟩) (by assumption) ?rest192
                        case hy192 => (intro w hSw; (try dsimp only at hSw); go_simp; try with_reducible rfl)
                        try simp only [Act.put, List.getElem_toArray, List.getElem_cons_zero, List.getElem_cons_succ, List.setIfInBounds_toArray, List.set_cons_zero, List.set_cons_succ]
                        refine' wpAnyH_take (i := 12) (v := _) rfl (by kernel_rfl) (by kernel_rfl) (by kernel_rfl) (fun _ _ _ h => h) (Or.inl ⟨by rfl, ?hy193⟩) (by assumption) ?rest193
                        case hy193 => (intro w hSw; (try dsimp only at hSw); go_simp; try with_reducible rfl)
                        try simp only [Act.put, List.getElem_toArray, List.getElem_cons_zero, List.getElem_cons_succ, List.setIfInBounds_toArray, List.set_cons_zero, List.set_cons_succ]
                        refine' wpAnyH_take (i := 16) (v := _) rfl (by kernel_rfl) (by kernel_rfl) (by kernel_rfl) (fun _ _ _ h => h) (Or.inl ⟨by rfl, ?hy194⟩) (by assumption) ?rest194
                        case hy194 => (intro w hSw; (try dsimp only at hSw); go_simp; try with_reducible rfl)
                        try simp only [Act.put, List.getElem_toArray, List.getElem_cons_zero, List.getElem_cons_succ, List.setIfInBounds_toArray, List.set_cons_zero, List.set_cons_succ]
                        refine' wpAnyH_take (i := 23) (v := _) rfl (by kernel_rfl) (by kernel_rfl) (by kernel_rfl) (fun _ _ _ h => h) (Or.inl ⟨by rfl, ?hy195⟩) (by assumption) ?rest195
                        case hy195 => (intro w hSw; (try dsimp only at hSw); go_simp; try with_reducible rfl)
                        try simp only [Act.put, List.getElem_toArray, List.getElem_cons_zero, List.getElem_cons_succ, List.setIfInBounds_toArray, List.set_cons_zero, List.set_cons_succ]
                        refine' wpAnyH_take (i := 24) (v := _) rfl (by kernel_rfl) (by kernel_rfl) (by kernel_rfl) (fun _ _ _ h => h) (Or.inl ⟨by rfl, ?hy196⟩) (by assumption) ?rest196
                        case hy196 => (intro w hSw; (try dsimp only at hSw); go_simp; try with_reducible rfl)
                        try simp only [Act.put, List.getElem_toArray, List.getElem_cons_zero, List.getElem_cons_succ, List.setIfInBounds_toArray, List.set_cons_zero, List.set_cons_succ]
                        refine wpAnyH_done (by kernel_rfl) ?_ _
                        go_wp2_with fail
                        go_meet
                        exact ⟨rfl, (hHeld.1.1).1⟩
                      exact AllReadyH.nil
                    exact AllReadyH.nil
                  exact AllReadyH.nil
                exact AllReadyH.nil
              exact AllReadyH.nil
            case rest =>
              obtain ⟨rfl, KR2⟩ := hcut
              clear c0 c1 c2 c3 c4 c5 AD1 AD2 AD3 AD4 CT CN1 CN2 HTK HTN wk wn tsz kd0 kd1 kd2 kd3 kd4
              go_wp2_with fail
              go_loopg [4, 5] nr (fun g s_ i_ wr => ∃ (i : Nat) (sb : ByteArray), i ≤ nr ∧ nr - i ≤ g ∧ i_ = .int .i64 (i : Nat) ∧ s_ = .string sb ∧ Hid (sb = mkB (headA a ++ (a.R.take i).flatMap runL)) ∧ Hid (sb.size ≤ 66000 + i * 66000) ∧ Hid (∀ x ∈ a.R.take i, x.t.length ≤ 65535) ∧ Hid (Below W0.heap.size W0 wr))
              case atStart => exact ⟨0, hS, by omega, by omega, rfl, rfl, by show _ = _; rw [HHS.out.1, List.take_zero, List.flatMap_nil, List.append_nil], by show _ ≤ _; have := HHS.out.2.1; omega, (by show ∀ x ∈ a.R.take 0, _; intro x hx; rw [List.take_zero] at hx; cases hx), KR2⟩
              case round =>
                obtain ⟨i, sb, hi, hg, rfl, rfl, HSB, HSZ, HFT, HB⟩ := hrel
                obtain ⟨c0, c1, c2, c3, c4, c5⟩ := six_cells (HC.out wr HB.out)
                by_cases hin : i < nr
                · have iw : ((i : Nat) : Int) < (nr : Int) := by omega
                  have n0 : (0 : Int) ≤ ((i : Nat) : Int) := by omega
                  have hix : i < a.R.length := by rw [← HAE.out.1.1]; exact hin
                  obtain ⟨b, off, rfl, x0, x1, x2, x3⟩ := HRO.out wr HB.out i hix
                  have HNX := Lib.hid (fmap_next runL hix)
                  have HAX : Hid (a.R[i].t.length ≤ 65535 → ∀ x ∈ a.R.take (i + 1), x.t.length ≤ 65535) := fun h => all_next (P := fun x : Run => x.t.length ≤ 65535) hix HFT.out h
                  have HMEM : Hid (a.R[i] ∈ a.R) := List.getElem_mem hix
                  generalize a.R[i] = x at *
                  obtain ⟨xi, xl, xo, xt⟩ := x
                  simp only at x0 x1 x2 x3 HAX
                  obtain ⟨y, hy⟩ : ∃ y, y = mkB xt := ⟨_, rfl⟩
                  obtain ⟨ml, hml⟩ : ∃ ml, ml = xt.length := ⟨_, rfl⟩
                  have ysz : y.size = ml := by rw [hy, mkB_size, hml]
                  rw [← hy] at x3
                  have HY : Hid (y = mkB xt ∧ ml = xt.length) := ⟨hy, hml⟩
                  obtain ⟨B1, P1, L1⟩ := box1 wr #[.int .i64 xi, .int .i64 xl, .bool xo, .string y] 114
                  obtain ⟨W1, hW1⟩ : ∃ W1, W1 = wr.alloc (.cells #[.int .i64 xi, .int .i64 xl, .bool xo, .string y] 114) := ⟨_, rfl⟩
                  rw [← hW1] at B1 P1 L1
                  obtain ⟨X0, hX0⟩ : ∃ X0, X0 = wr.heap.size := ⟨_, rfl⟩
                  rw [← hX0] at P1 L1
                  have HW1 := Lib.hid hW1
                  have HX0 := Lib.hid hX0
                  have HBR : Hid (Below W0.heap.size W0 W1) := below_on HB.out B1
                  have HKX : Hid (∀ w', Below W1.heap.size W1 w' → Below W1.heap.size W1 w' ∧ w'.cell? ⟨X0, 0, none⟩ = some (.int .i64 xi) ∧ w'.cell? ⟨X0, 1, none⟩ = some (.int .i64 xl) ∧ w'.cell? ⟨X0, 2, none⟩ = some (.bool xo) ∧ w'.cell? ⟨X0, 3, none⟩ = some (.string y)) := fun w' hb => ⟨hb, four_cells ((hb.block X0 (by omega)).trans P1)⟩
                  obtain ⟨m0, m1, m2, m3⟩ := four_cells P1
                  have KX : Hid (Below W1.heap.size W1 W1) := Below.refl _ _
                  clear hy hml hW1 hX0 B1 P1 L1
                  by_cases hbig : 65535 < ml
                  · have g1 : (65535 : Int) < (ml : Int) := by omega
                    have g1d : decide ((65535 : Int) < (ml : Int)) = true := decide_eq_true g1
                    have HNO : Hid (answerE a = ([], false)) := ans_no (fun h => by have h5 := h.2.2.2.2.1 _ HMEM.out; simp only at h5; have := HY.out.2; omega)
                    have BF : Hid (Below w.heap.size w W1) := below_on HB0.out HBR.out
                    clear HSB HSZ HFT HB HNX HAX HMEM HBR HKX KX
                    go_upto_region 8 with fail
                    rw [← HW1.out, ← HX0.out]
                    go_wp2_with fail
                    exact bodyPost_ret (v := .tuple #[.string (ByteArray.mk #[]), .bool false]) (by simp [results, Try.results19, go_sem]) rfl ⟨by rw [HNO.out]; rfl, BF.out⟩
                  · have g1 : ¬ (65535 : Int) < (ml : Int) := by omega
                    have g1d : decide ((65535 : Int) < (ml : Int)) = false := decide_eq_false g1
                    obtain ⟨u1, hu1⟩ : ∃ u1, u1 = mkB (numL xi) := ⟨_, rfl⟩
                    obtain ⟨u2, hu2⟩ : ∃ u2, u2 = mkB (numL xl) := ⟨_, rfl⟩
                    obtain ⟨u3, hu3⟩ : ∃ u3, u3 = mkB (flagL xo) := ⟨_, rfl⟩
                    obtain ⟨u4, hu4⟩ : ∃ u4, u4 = mkB (textL xt) := ⟨_, rfl⟩
                    have D1 : Hid (∀ w', Calls Try.prog 29 #[.int .i64 xi] w' fun e w'' => e = .returned (.string u1) ∧ Below w'.heap.size w' w'') := fun w' => by rw [hu1]; exact number_any _ w'
                    have D2 : Hid (∀ w', Calls Try.prog 29 #[.int .i64 xl] w' fun e w'' => e = .returned (.string u2) ∧ Below w'.heap.size w' w'') := fun w' => by rw [hu2]; exact number_any _ w'
                    have D3 : Hid (∀ w', Calls Try.prog 31 #[.bool xo] w' fun e w'' => e = .returned (.string u3) ∧ Below w'.heap.size w' w'') := fun w' => by rw [hu3]; exact flag_any _ w'
                    have D4 : Hid (∀ w', Calls Try.prog 28 #[.string y] w' fun e w'' => e = .returned (.string u4) ∧ Below w'.heap.size w' w'') := fun w' => by rw [HY.out.1, hu4]; exact text_any _ w' (by have := HY.out.2; omega)
                    have us : u1.size = 8 ∧ u2.size = 8 ∧ u3.size = 1 ∧ u4.size ≤ 65537 := ⟨by rw [hu1, mkB_size, num_len], by rw [hu2, mkB_size, num_len], by rw [hu3, mkB_size]; rfl, by rw [hu4, mkB_size]; show xt.length + 2 ≤ _; have := HY.out.2; omega⟩
                    obtain ⟨e1, he1⟩ : ∃ e1, e1 = sb ++ u1 := ⟨_, rfl⟩
                    obtain ⟨e2, he2⟩ : ∃ e2, e2 = e1 ++ u2 := ⟨_, rfl⟩
                    obtain ⟨e3, he3⟩ : ∃ e3, e3 = e2 ++ u3 := ⟨_, rfl⟩
                    obtain ⟨sb2, hsb2⟩ : ∃ sb2, sb2 = e3 ++ u4 := ⟨_, rfl⟩
                    have sz0 : sb.size ≤ 66000 + 255 * 66000 := Nat.le_trans HSZ.out (by have := HK.out.2.1; omega)
                    have s1 : e1.size = sb.size + 8 := by rw [he1, ByteArray.size_append]; omega
                    have s2 : e2.size = sb.size + 16 := by rw [he2, ByteArray.size_append]; omega
                    have s3 : e3.size = sb.size + 17 := by rw [he3, ByteArray.size_append]; omega
                    have AE1 : ∀ w, (Op.stringOp .add sb u1).run Try.prog w = .ok (.string e1) w := fun w => by rw [he1]; exact run_string_add_sum w _ _ (by omega)
                    have AE2 : ∀ w, (Op.stringOp .add e1 u2).run Try.prog w = .ok (.string e2) w := fun w => by rw [he2]; exact run_string_add_sum w _ _ (by omega)
                    have AE3 : ∀ w, (Op.stringOp .add e2 u3).run Try.prog w = .ok (.string e3) w := fun w => by rw [he3]; exact run_string_add_sum w _ _ (by omega)
                    have AE4 : ∀ w, (Op.stringOp .add e3 u4).run Try.prog w = .ok (.string sb2) w := fun w => by rw [hsb2]; exact run_string_add_sum w _ _ (by omega)
                    have HSB2 : Hid (sb2 = mkB (headA a ++ (a.R.take (i + 1)).flatMap runL)) := by
                      show _ = _
                      rw [HNX.out, hsb2, he3, he2, he1, HSB.out, hu1, hu2, hu3, hu4, mkB_app, mkB_app, mkB_app, mkB_app]
                      unfold runL
                      simp
                    have HSZ2 : Hid (sb2.size ≤ 66000 + (i + 1) * 66000) := by show _ ≤ _; rw [hsb2, ByteArray.size_append]; have := HSZ.out; omega
                    have HFT2 : Hid (∀ x ∈ a.R.take (i + 1), x.t.length ≤ 65535) := HAX.out (by have := HY.out.2; omega)
                    clear hu1 hu2 hu3 hu4 he1 he2 he3 hsb2 us s1 s2 s3 sz0 HSB HSZ HFT HB HNX HAX HMEM
                    go_upto_region 8 with fail
                    rw [← HW1.out, ← HX0.out]
                    go_upto_region 10 with fail
                    refine wp_region_held_drew (S := fun w' => Below W1.heap.size W1 w' ∧ w'.cell? ⟨X0, 0, none⟩ = some (.int .i64 xi) ∧ w'.cell? ⟨X0, 1, none⟩ = some (.int .i64 xl) ∧ w'.cell? ⟨X0, 2, none⟩ = some (.bool xo) ∧ w'.cell? ⟨X0, 3, none⟩ = some (.string y)) (by kernel_rfl) ?_ (fun hHeld => ?_)
                    focus (exact (HKX.out _ ((Below.drew KX.out))))
                    refine' wpAnyH_take (i := 0) (v := _) rfl (by kernel_rfl) (by kernel_rfl) (by kernel_rfl) (fun _ _ _ h => h) (Or.inl ⟨by rfl, ?hyb1⟩) (by assumption) ?restb1
                    case hyb1 => (intro w hSw; (try dsimp only at hSw); go_simp; try with_reducible rfl)
                    try simp only [Act.put, List.getElem_toArray, List.getElem_cons_zero, List.getElem_cons_succ, List.setIfInBounds_toArray, List.set_cons_zero, List.set_cons_succ]
                    refine' wpAnyH_take (i := 1) (v := _) rfl (by kernel_rfl) (by kernel_rfl) (by kernel_rfl) (fun _ _ _ h => h) (Or.inl ⟨by rfl, ?hyb2⟩) (by assumption) ?restb2
                    case hyb2 => (intro w hSw; (try dsimp only at hSw); go_simp; try with_reducible rfl)
                    try simp only [Act.put, List.getElem_toArray, List.getElem_cons_zero, List.getElem_cons_succ, List.setIfInBounds_toArray, List.set_cons_zero, List.set_cons_succ]
                    refine' wpAnyH_take (i := 2) (v := _) rfl (by kernel_rfl) (by kernel_rfl) (by kernel_rfl) (fun _ _ _ h => h) (Or.inl ⟨by rfl, ?hyb3⟩) (by assumption) ?restb3
                    case hyb3 => (intro w hSw; (try dsimp only at hSw); go_simp; try with_reducible rfl)
                    try simp only [Act.put, List.getElem_toArray, List.getElem_cons_zero, List.getElem_cons_succ, List.setIfInBounds_toArray, List.set_cons_zero, List.set_cons_succ]
                    refine' wpAnyH_take (i := 5) (v := _) rfl (by kernel_rfl) (by kernel_rfl) (by kernel_rfl) (fun _ _ _ h => h) (Or.inl ⟨by rfl, ?hyb4⟩) (by assumption) ?restb4
                    case hyb4 => (intro w hSw; (try dsimp only at hSw); go_simp; try with_reducible rfl)
                    try simp only [Act.put, List.getElem_toArray, List.getElem_cons_zero, List.getElem_cons_succ, List.setIfInBounds_toArray, List.set_cons_zero, List.set_cons_succ]
                    refine' wpAnyH_take (i := 6) (v := _) rfl (by kernel_rfl) (by kernel_rfl) (by kernel_rfl) (fun _ _ _ h => h) (Or.inl ⟨by rfl, ?hyb5⟩) (by assumption) ?restb5
                    case hyb5 => (intro w hSw; (try dsimp only at hSw); go_simp; try with_reducible rfl)
                    try simp only [Act.put, List.getElem_toArray, List.getElem_cons_zero, List.getElem_cons_succ, List.setIfInBounds_toArray, List.set_cons_zero, List.set_cons_succ]
                    refine' wpAnyH_take (i := 9) (v := _) rfl (by kernel_rfl) (by kernel_rfl) (by kernel_rfl) (fun _ _ _ h => h) (Or.inl ⟨by rfl, ?hyb6⟩) (by assumption) ?restb6
                    case hyb6 => (intro w hSw; (try dsimp only at hSw); go_simp; try with_reducible rfl)
                    try simp only [Act.put, List.getElem_toArray, List.getElem_cons_zero, List.getElem_cons_succ, List.setIfInBounds_toArray, List.set_cons_zero, List.set_cons_succ]
                    refine' wpAnyH_take (i := 10) (v := _) rfl (by kernel_rfl) (by kernel_rfl) (by kernel_rfl) (fun _ _ _ h => h) (Or.inl ⟨by rfl, ?hyb7⟩) (by assumption) ?restb7
                    case hyb7 => (intro w hSw; (try dsimp only at hSw); go_simp; try with_reducible rfl)
                    try simp only [Act.put, List.getElem_toArray, List.getElem_cons_zero, List.getElem_cons_succ, List.setIfInBounds_toArray, List.set_cons_zero, List.set_cons_succ]
                    refine' wpAnyH_take (i := 13) (v := _) rfl (by kernel_rfl) (by kernel_rfl) (by kernel_rfl) (fun _ _ _ h => h) (Or.inl ⟨by rfl, ?hyb8⟩) (by assumption) ?restb8
                    case hyb8 => (intro w hSw; (try dsimp only at hSw); go_simp; try with_reducible rfl)
                    try simp only [Act.put, List.getElem_toArray, List.getElem_cons_zero, List.getElem_cons_succ, List.setIfInBounds_toArray, List.set_cons_zero, List.set_cons_succ]
                    refine' wpAnyH_take (i := 14) (v := _) rfl (by kernel_rfl) (by kernel_rfl) (by kernel_rfl) (fun _ _ _ h => h) (Or.inl ⟨by rfl, ?hyb9⟩) (by assumption) ?restb9
                    case hyb9 => (intro w hSw; (try dsimp only at hSw); go_simp; try with_reducible rfl)
                    try simp only [Act.put, List.getElem_toArray, List.getElem_cons_zero, List.getElem_cons_succ, List.setIfInBounds_toArray, List.set_cons_zero, List.set_cons_succ]
                    refine wpAnyH_ready (rs := [3]) (by kernel_rfl) (by simp) ?_
                    refine AllReadyH.cons rfl (fun K hK => ?_) ?_
                    · go_simp
                      (go_at_call 29; (with_reducible refine (D1.out _).mono ?_); rintro e w10 ⟨rfl, bt10⟩; have hk10 := below_on (B := W1.heap.size) (w := W1) (hHeld).1 bt10 (Nat.le_refl _))
                      go_wp2_with fail
                      refine hK.out _ _ ?_ (fun hHeld => ?_)
                      focus (exact (HKX.out _ (hk10)))
                      clear hK K
                      try simp only [Act.put, List.getElem_toArray, List.getElem_cons_zero, List.getElem_cons_succ, List.setIfInBounds_toArray, List.set_cons_zero, List.set_cons_succ]
                      refine' wpAnyH_take (i := 4) (v := _) rfl (by kernel_rfl) (by kernel_rfl) (by kernel_rfl) (fun _ _ _ h => h) (Or.inl ⟨by rfl, ?hyb11⟩) (by assumption) ?restb11
                      case hyb11 => (intro w hSw; (try dsimp only at hSw); go_simp; try with_reducible rfl)
                      try simp only [Act.put, List.getElem_toArray, List.getElem_cons_zero, List.getElem_cons_succ, List.setIfInBounds_toArray, List.set_cons_zero, List.set_cons_succ]
                      refine wpAnyH_ready (rs := [7]) (by kernel_rfl) (by simp) ?_
                      refine AllReadyH.cons rfl (fun K hK => ?_) ?_
                      · go_simp
                        (go_at_call 29; (with_reducible refine (D2.out _).mono ?_); rintro e w12 ⟨rfl, bt12⟩; have hk12 := below_on (B := W1.heap.size) (w := W1) (hHeld).1 bt12 (Nat.le_refl _))
                        go_wp2_with fail
                        refine hK.out _ _ ?_ (fun hHeld => ?_)
                        focus (exact (HKX.out _ (hk12)))
                        clear hK K
                        try simp only [Act.put, List.getElem_toArray, List.getElem_cons_zero, List.getElem_cons_succ, List.setIfInBounds_toArray, List.set_cons_zero, List.set_cons_succ]
                        refine' wpAnyH_take (i := 8) (v := _) rfl (by kernel_rfl) (by kernel_rfl) (by kernel_rfl) (fun _ _ _ h => h) (Or.inl ⟨by rfl, ?hyb13⟩) (by assumption) ?restb13
                        case hyb13 => (intro w hSw; (try dsimp only at hSw); go_simp; try with_reducible rfl)
                        try simp only [Act.put, List.getElem_toArray, List.getElem_cons_zero, List.getElem_cons_succ, List.setIfInBounds_toArray, List.set_cons_zero, List.set_cons_succ]
                        refine wpAnyH_ready (rs := [11]) (by kernel_rfl) (by simp) ?_
                        refine AllReadyH.cons rfl (fun K hK => ?_) ?_
                        · go_simp
                          (go_at_call 31; (with_reducible refine (D3.out _).mono ?_); rintro e w14 ⟨rfl, bt14⟩; have hk14 := below_on (B := W1.heap.size) (w := W1) (hHeld).1 bt14 (Nat.le_refl _))
                          go_wp2_with fail
                          refine hK.out _ _ ?_ (fun hHeld => ?_)
                          focus (exact (HKX.out _ (hk14)))
                          clear hK K
                          try simp only [Act.put, List.getElem_toArray, List.getElem_cons_zero, List.getElem_cons_succ, List.setIfInBounds_toArray, List.set_cons_zero, List.set_cons_succ]
                          refine' wpAnyH_take (i := 12) (v := _) rfl (by kernel_rfl) (by kernel_rfl) (by kernel_rfl) (fun _ _ _ h => h) (Or.inl ⟨by rfl, ?hyb15⟩) (by assumption) ?restb15
                          case hyb15 => (intro w hSw; (try dsimp only at hSw); go_simp; try with_reducible rfl)
                          try simp only [Act.put, List.getElem_toArray, List.getElem_cons_zero, List.getElem_cons_succ, List.setIfInBounds_toArray, List.set_cons_zero, List.set_cons_succ]
                          refine wpAnyH_ready (rs := [15]) (by kernel_rfl) (by simp) ?_
                          refine AllReadyH.cons rfl (fun K hK => ?_) ?_
                          · go_simp
                            (go_at_call 28; (with_reducible refine (D4.out _).mono ?_); rintro e w16 ⟨rfl, bt16⟩; have hk16 := below_on (B := W1.heap.size) (w := W1) (hHeld).1 bt16 (Nat.le_refl _))
                            go_wp2_with fail
                            refine hK.out _ _ ?_ (fun hHeld => ?_)
                            focus (exact (HKX.out _ (hk16)))
                            clear hK K
                            try simp only [Act.put, List.getElem_toArray, List.getElem_cons_zero, List.getElem_cons_succ, List.setIfInBounds_toArray, List.set_cons_zero, List.set_cons_succ]
                            refine' wpAnyH_take (i := 16) (v := _) rfl (by kernel_rfl) (by kernel_rfl) (by kernel_rfl) (fun _ _ _ h => h) (Or.inl ⟨by rfl, ?hyb17⟩) (by assumption) ?restb17
                            case hyb17 => (intro w hSw; (try dsimp only at hSw); go_simp; try with_reducible rfl)
                            try simp only [Act.put, List.getElem_toArray, List.getElem_cons_zero, List.getElem_cons_succ, List.setIfInBounds_toArray, List.set_cons_zero, List.set_cons_succ]
                            refine' wpAnyH_take (i := 17) (v := _) rfl (by kernel_rfl) (by kernel_rfl) (by kernel_rfl) (fun _ _ _ h => h) (Or.inl ⟨by rfl, ?hyb18⟩) (by assumption) ?restb18
                            case hyb18 => (intro w hSw; (try dsimp only at hSw); go_simp; try with_reducible rfl)
                            try simp only [Act.put, List.getElem_toArray, List.getElem_cons_zero, List.getElem_cons_succ, List.setIfInBounds_toArray, List.set_cons_zero, List.set_cons_succ]
                            refine wpAnyH_done (by kernel_rfl) ?_ _
                            have HBZ := Lib.hid ((hHeld).1)
                            clear hHeld
                            go_wp2_with fail
                            go_roundg (nr - (i + 1))
                            case measure => omega
                            case rel => exact ⟨i + 1, sb2, by omega, Nat.le_refl _, by go_num, rfl, HSB2, HSZ2, HFT2, below_on HBR.out HBZ.out⟩
                          exact AllReadyH.nil
                        exact AllReadyH.nil
                      exact AllReadyH.nil
                    exact AllReadyH.nil
                · obtain rfl : nr = i := by omega
                  have iw : ¬ ((nr : Nat) : Int) < ((nr : Nat) : Int) := by omega
                  have HTE := Lib.hid (HCVE.out wr)
                  obtain ⟨sc, hsc⟩ : ∃ sc, sc = sb ++ TE := ⟨_, rfl⟩
                  have sz0 : sb.size ≤ 66000 + 255 * 66000 := Nat.le_trans HSZ.out (by have := HK.out.2.1; omega)
                  have AF : ∀ w, (Op.stringOp .add sb TE).run Try.prog w = .ok (.string sc) w := fun w => by rw [hsc]; exact run_string_add_sum w _ _ (by have := HHS.out.2.2.2; omega)
                  have HSC : Hid (sc = mkB (headA a ++ a.R.flatMap runL ++ [UInt8.ofNat ne]) ∧ sc.size ≤ 17000000) := ⟨by
                    rw [hsc, HSB.out, HHS.out.2.2.1, mkB_app, HAE.out.1.1, List.take_length], by rw [hsc, ByteArray.size_append]; have := HHS.out.2.2.2; omega⟩
                  have HFR : Hid (∀ x ∈ a.R, x.t.length ≤ 65535) := by
                    have h := HFT.out
                    rw [HAE.out.1.1, List.take_length] at h
                    exact h
                  obtain ⟨w1, hw1⟩ : ∃ w1 : World, w1 = wr := ⟨_, rfl⟩
                  subst hw1
                  have CVE := HCVE.out w1
                  have HBs : Hid (∀ o, Below W0.heap.size W0 (w1.alloc o)) := fun o => HB.out.alloc HB.out.size o
                  clear hsc sz0 HSB HSZ HFT HB hg hi hin HTE HCVE KR2 KR HKS
                  go_wp2_with fail
                  go_loopg [4, 7] ne (fun g s_ i_ wr => ∃ (i : Nat) (sb : ByteArray), i ≤ ne ∧ ne - i ≤ g ∧ i_ = .int .i64 (i : Nat) ∧ s_ = .string sb ∧ Hid (sb = mkB (headA a ++ a.R.flatMap runL ++ [UInt8.ofNat ne] ++ (a.E.take i).flatMap entL)) ∧ Hid (sb.size ≤ 17000000 + i * 5000) ∧ Hid (∀ x ∈ a.E.take i, x.S.length ≤ 255 ∧ x.L.length ≤ 255) ∧ Hid (Below W0.heap.size W0 wr))
                  case atStart => exact ⟨0, sc, by omega, by omega, rfl, rfl, by show _ = _; rw [HSC.out.1, List.take_zero, List.flatMap_nil, List.append_nil], by show _ ≤ _; have := HSC.out.2; omega, (by show ∀ x ∈ a.E.take 0, _; intro x hx; rw [List.take_zero] at hx; cases hx), HBs.out _⟩
                  case round =>
                    clear c0 c1 c2 c3 c4 c5 CVE AF
                    obtain ⟨i, sb, hi, hg, rfl, rfl, HSB, HSZ, HFT, HB⟩ := hrel
                    obtain ⟨c0, c1, c2, c3, c4, c5⟩ := six_cells (HC.out wr HB.out)
                    by_cases hin : i < ne
                    · have iw : ((i : Nat) : Int) < (ne : Int) := by omega
                      have n0 : (0 : Int) ≤ ((i : Nat) : Int) := by omega
                      have hix : i < a.E.length := by rw [← HAE.out.1.2]; exact hin
                      have hn64 := ents_n64 (HEO.out wr HB.out) hix
                      obtain ⟨b, off, sa, sn, sc, la, ln, lc, rfl, hlt, hE, x0, x1, x2, x3, x4, hs1, hs2⟩ := (HEO.out wr HB.out).get hix
                      have HNX := Lib.hid (fmap_next entL hix)
                      have HAX : Hid (a.E[i].S.length ≤ 255 ∧ a.E[i].L.length ≤ 255 → ∀ x ∈ a.E.take (i + 1), x.S.length ≤ 255 ∧ x.L.length ≤ 255) := fun h => all_next (P := fun x : Ent => x.S.length ≤ 255 ∧ x.L.length ≤ 255) hix HFT.out h
                      have HMEM : Hid (a.E[i] ∈ a.E) := List.getElem_mem hix
                      generalize a.E[i] = x at *
                      obtain ⟨xu, xo, xs, xS, xL⟩ := x
                      simp only at x0 x1 x2 x3 x4 HAX hs1 hs2 hn64
                      obtain ⟨_, _, eE, _, hSi, hLi⟩ := hE
                      simp at eE
                      obtain ⟨rfl, rfl⟩ := eE
                      obtain ⟨ns, hns⟩ : ∃ ns, ns = sn := ⟨_, rfl⟩
                      obtain ⟨nl, hnl⟩ : ∃ nl, nl = ln := ⟨_, rfl⟩
                      rw [← hns] at hs1 hSi x3
                      rw [← hnl] at hs2 hLi x4
                      clear hns hnl
                      have HS12 : Hid (ns = xS.length ∧ nl = xL.length) := ⟨hs1, hs2⟩
                      have HSi : Hid (Rig.Ints wr (.slice sa ns sc) xS ∧ Rig.Ints wr (.slice la nl lc) xL) := ⟨hSi.1, hLi.1⟩
                      have HN64 := Lib.hid hn64
                      obtain ⟨B1, P1, L1⟩ := box1 wr #[.int .i64 xu, .int .i64 xo, .int .i64 xs, .slice sa ns sc, .slice la nl lc] 119
                      obtain ⟨W1, hW1⟩ : ∃ W1, W1 = wr.alloc (.cells #[.int .i64 xu, .int .i64 xo, .int .i64 xs, .slice sa ns sc, .slice la nl lc] 119) := ⟨_, rfl⟩
                      rw [← hW1] at B1 P1 L1
                      obtain ⟨X0, hX0⟩ : ∃ X0, X0 = wr.heap.size := ⟨_, rfl⟩
                      rw [← hX0] at P1 L1
                      have HW1 := Lib.hid hW1
                      have HX0 := Lib.hid hX0
                      have HBR : Hid (Below W0.heap.size W0 W1) := below_on HB.out B1
                      have HKX : Hid (∀ w', Below W1.heap.size W1 w' → Below W1.heap.size W1 w' ∧ w'.cell? ⟨X0, 0, none⟩ = some (.int .i64 xu) ∧ w'.cell? ⟨X0, 1, none⟩ = some (.int .i64 xo) ∧ w'.cell? ⟨X0, 2, none⟩ = some (.int .i64 xs) ∧ w'.cell? ⟨X0, 3, none⟩ = some (.slice sa ns sc) ∧ w'.cell? ⟨X0, 4, none⟩ = some (.slice la nl lc)) := fun w' hb => ⟨hb, five_cells ((hb.block X0 (by omega)).trans P1)⟩
                      obtain ⟨m0, m1, m2, m3, m4⟩ := five_cells P1
                      have KX : Hid (Below W1.heap.size W1 W1) := Below.refl _ _
                      have HKB : Hid (∀ w', Below W1.heap.size W1 w' → Below wr.heap.size wr w') := fun w' hb => below_on B1 hb
                      clear hW1 hX0 B1 P1 L1 hs1 hs2 hSi hLi hn64 hlt
                      by_cases hbig : 255 < ns ∨ 255 < nl
                      · have HNO : Hid (answerE a = ([], false)) := ans_no (fun h => by have h5 := h.2.2.2.2.2 _ HMEM.out; simp only at h5; have := HS12.out; omega)
                        have BF : Hid (Below w.heap.size w W1) := below_on HB0.out HBR.out
                        clear HSB HSZ HFT HB HNX HAX HMEM HBR HKX KX HKB
                        by_cases h1 : 255 < ns
                        · have g1 : (255 : Int) < (ns : Int) := by omega
                          have g1d : decide ((255 : Int) < (ns : Int)) = true := decide_eq_true g1
                          go_upto_region 16 with fail
                          rw [← HW1.out, ← HX0.out]
                          go_wp2_with fail
                          exact bodyPost_ret (v := .tuple #[.string (ByteArray.mk #[]), .bool false]) (by simp [results, Try.results19, go_sem]) rfl ⟨by rw [HNO.out]; rfl, BF.out⟩
                        · have g1 : ¬ (255 : Int) < (ns : Int) := by omega
                          have g1d : decide ((255 : Int) < (ns : Int)) = false := decide_eq_false g1
                          have g2 : (255 : Int) < (nl : Int) := by omega
                          have g2d : decide ((255 : Int) < (nl : Int)) = true := decide_eq_true g2
                          go_upto_region 16 with fail
                          rw [← HW1.out, ← HX0.out]
                          go_wp2_with fail
                          exact bodyPost_ret (v := .tuple #[.string (ByteArray.mk #[]), .bool false]) (by simp [results, Try.results19, go_sem]) rfl ⟨by rw [HNO.out]; rfl, BF.out⟩
                      · have g1 : ¬ (255 : Int) < (ns : Int) := by omega
                        have g1d : decide ((255 : Int) < (ns : Int)) = false := decide_eq_false g1
                        have g2 : ¬ (255 : Int) < (nl : Int) := by omega
                        have g2d : decide ((255 : Int) < (nl : Int)) = false := decide_eq_false g2
                        obtain ⟨u1, hu1⟩ : ∃ u1, u1 = mkB (numsL [xu, xo, xs]) := ⟨_, rfl⟩
                        obtain ⟨u2, hu2⟩ : ∃ u2, u2 = mkB (listL xS) := ⟨_, rfl⟩
                        obtain ⟨u3, hu3⟩ : ∃ u3, u3 = mkB (listL xL) := ⟨_, rfl⟩
                        have DN : Hid (∀ (W : World) (b : Nat), Z3 W b xu xo xs → Calls Try.prog 45 #[.slice (some ⟨b, 0, none⟩) 3 3] W fun e w'' => e = .returned (.string u1) ∧ Below W.heap.size W w'') := fun W b h => by rw [hu1]; exact numbers_any W (h.ints HN64.out.1 HN64.out.2.1 HN64.out.2.2) (by show 3 ≤ 100000; decide)
                        have DL1 : Hid (∀ w', Below W1.heap.size W1 w' → Calls Try.prog 46 #[.slice sa ns sc] w' fun e w'' => e = .returned (.string u2) ∧ Below w'.heap.size w' w'') := fun w' hb => by rw [hu2]; exact list_any w' (HSi.out.1.below (HKB.out w' hb) (Nat.le_refl _)) (by have := HS12.out; omega)
                        have DL2 : Hid (∀ w', Below W1.heap.size W1 w' → Calls Try.prog 46 #[.slice la nl lc] w' fun e w'' => e = .returned (.string u3) ∧ Below w'.heap.size w' w'') := fun w' hb => by rw [hu3]; exact list_any w' (HSi.out.2.below (HKB.out w' hb) (Nat.le_refl _)) (by have := HS12.out; omega)
                        have hll : ∀ q : List Int, q.length ≤ 255 → (listL q).length ≤ 2041 := fun q hq => by rw [show listL q = rowL numL q from rfl, row_len9]; omega
                        have us : u1.size = 24 ∧ u2.size ≤ 2041 ∧ u3.size ≤ 2041 := ⟨by rw [hu1, mkB_size, nums_len]; rfl, by rw [hu2, mkB_size]; exact hll _ (by have := HS12.out; omega), by rw [hu3, mkB_size]; exact hll _ (by have := HS12.out; omega)⟩
                        obtain ⟨e1, he1⟩ : ∃ e1, e1 = sb ++ u1 := ⟨_, rfl⟩
                        obtain ⟨e2, he2⟩ : ∃ e2, e2 = e1 ++ u2 := ⟨_, rfl⟩
                        obtain ⟨sb2, hsb2⟩ : ∃ sb2, sb2 = e2 ++ u3 := ⟨_, rfl⟩
                        have sz0 : sb.size ≤ 17000000 + 255 * 5000 := Nat.le_trans HSZ.out (by have := HK.out.2.2.1; omega)
                        have s1 : e1.size = sb.size + 24 := by rw [he1, ByteArray.size_append]; omega
                        have s2 : e2.size ≤ sb.size + 2065 := by rw [he2, ByteArray.size_append]; omega
                        have AE1 : ∀ w, (Op.stringOp .add sb u1).run Try.prog w = .ok (.string e1) w := fun w => by rw [he1]; exact run_string_add_sum w _ _ (by omega)
                        have AE2 : ∀ w, (Op.stringOp .add e1 u2).run Try.prog w = .ok (.string e2) w := fun w => by rw [he2]; exact run_string_add_sum w _ _ (by omega)
                        have AE3 : ∀ w, (Op.stringOp .add e2 u3).run Try.prog w = .ok (.string sb2) w := fun w => by rw [hsb2]; exact run_string_add_sum w _ _ (by omega)
                        have HSB2 : Hid (sb2 = mkB (headA a ++ a.R.flatMap runL ++ [UInt8.ofNat ne] ++ (a.E.take (i + 1)).flatMap entL)) := by
                          show _ = _
                          rw [HNX.out, hsb2, he2, he1, HSB.out, hu1, hu2, hu3, mkB_app, mkB_app, mkB_app]
                          unfold entL numsL
                          rw [← list_rowL, ← list_rowL]
                          simp
                        have HSZ2 : Hid (sb2.size ≤ 17000000 + (i + 1) * 5000) := by show _ ≤ _; rw [hsb2, ByteArray.size_append]; have := HSZ.out; omega
                        have HFT2 : Hid (∀ x ∈ a.E.take (i + 1), x.S.length ≤ 255 ∧ x.L.length ≤ 255) := HAX.out (by have := HS12.out; omega)
                        clear hu1 hu2 hu3 he1 he2 hsb2 us s1 s2 sz0 HSB HSZ HFT HB HNX HAX HMEM hll
                        go_upto_region 16 with fail
                        rw [← HW1.out, ← HX0.out]
                        go_upto_region 18 with fail
                        refine wp_region_held_drew (S := fun w' => Below W1.heap.size W1 w' ∧ w'.cell? ⟨X0, 0, none⟩ = some (.int .i64 xu) ∧ w'.cell? ⟨X0, 1, none⟩ = some (.int .i64 xo) ∧ w'.cell? ⟨X0, 2, none⟩ = some (.int .i64 xs) ∧ w'.cell? ⟨X0, 3, none⟩ = some (.slice sa ns sc) ∧ w'.cell? ⟨X0, 4, none⟩ = some (.slice la nl lc)) (by kernel_rfl) ?_ (fun hHeld => ?_)
                        focus (exact (HKX.out _ ((Below.drew KX.out))))
                        refine' wpAnyH_take (i := 0) (v := _) rfl (by kernel_rfl) (by kernel_rfl) (by kernel_rfl) (fun _ _ _ h => h) (Or.inl ⟨by rfl, ?hyc1⟩) (by assumption) ?restc1
                        case hyc1 => (intro w hSw; (try dsimp only at hSw); go_simp; try with_reducible rfl)
                        try simp only [Act.put, List.getElem_toArray, List.getElem_cons_zero, List.getElem_cons_succ, List.setIfInBounds_toArray, List.set_cons_zero, List.set_cons_succ]
                        refine' wpAnyH_take (i := 1) (v := _) rfl (by kernel_rfl) (by kernel_rfl) (by kernel_rfl) (fun _ _ _ h => h) (Or.inl ⟨by rfl, ?hyc2⟩) (by assumption) ?restc2
                        case hyc2 => (intro w hSw; (try dsimp only at hSw); go_simp; try with_reducible rfl)
                        try simp only [Act.put, List.getElem_toArray, List.getElem_cons_zero, List.getElem_cons_succ, List.setIfInBounds_toArray, List.set_cons_zero, List.set_cons_succ]
                        refine' wpAnyH_take (i := 2) (v := _) rfl (by kernel_rfl) (by kernel_rfl) (by kernel_rfl) (fun _ _ _ h => h) (Or.inl ⟨by rfl, ?hyc3⟩) (by assumption) ?restc3
                        case hyc3 => (intro w hSw; (try dsimp only at hSw); go_simp; try with_reducible rfl)
                        try simp only [Act.put, List.getElem_toArray, List.getElem_cons_zero, List.getElem_cons_succ, List.setIfInBounds_toArray, List.set_cons_zero, List.set_cons_succ]
                        refine' wpAnyH_take (i := 3) (v := _) rfl (by kernel_rfl) (by kernel_rfl) (by kernel_rfl) (fun _ _ _ h => h) (Or.inl ⟨by rfl, ?hyc4⟩) (by assumption) ?restc4
                        case hyc4 => (intro w hSw; (try dsimp only at hSw); go_simp; try with_reducible rfl)
                        try simp only [Act.put, List.getElem_toArray, List.getElem_cons_zero, List.getElem_cons_succ, List.setIfInBounds_toArray, List.set_cons_zero, List.set_cons_succ]
                        refine' wpAnyH_take (i := 4) (v := _) rfl (by kernel_rfl) (by kernel_rfl) (by kernel_rfl) (fun _ _ _ h => h) (Or.inl ⟨by rfl, ?hyc5⟩) (by assumption) ?restc5
                        case hyc5 => (intro w hSw; (try dsimp only at hSw); go_simp; try with_reducible rfl)
                        try simp only [Act.put, List.getElem_toArray, List.getElem_cons_zero, List.getElem_cons_succ, List.setIfInBounds_toArray, List.set_cons_zero, List.set_cons_succ]
                        refine' wpAnyH_take (i := 5) (v := _) rfl (by kernel_rfl) (by kernel_rfl) (by kernel_rfl) (fun _ _ _ h => h) (Or.inl ⟨by rfl, ?hyc6⟩) (by assumption) ?restc6
                        case hyc6 => (intro w hSw; (try dsimp only at hSw); go_simp; try with_reducible rfl)
                        try simp only [Act.put, List.getElem_toArray, List.getElem_cons_zero, List.getElem_cons_succ, List.setIfInBounds_toArray, List.set_cons_zero, List.set_cons_succ]
                        refine' wpAnyH_take (i := 6) (v := _) rfl (by kernel_rfl) (by kernel_rfl) (by kernel_rfl) (fun _ _ _ h => h) (Or.inl ⟨by rfl, ?hyc7⟩) (by assumption) ?restc7
                        case hyc7 => (intro w hSw; (try dsimp only at hSw); go_simp; try with_reducible rfl)
                        try simp only [Act.put, List.getElem_toArray, List.getElem_cons_zero, List.getElem_cons_succ, List.setIfInBounds_toArray, List.set_cons_zero, List.set_cons_succ]
                        refine' wpAnyH_take (i := 10) (v := _) rfl (by kernel_rfl) (by kernel_rfl) (by kernel_rfl) (fun _ _ _ h => h) (Or.inl ⟨by rfl, ?hyc8⟩) (by assumption) ?restc8
                        case hyc8 => (intro w hSw; (try dsimp only at hSw); go_simp; try with_reducible rfl)
                        try simp only [Act.put, List.getElem_toArray, List.getElem_cons_zero, List.getElem_cons_succ, List.setIfInBounds_toArray, List.set_cons_zero, List.set_cons_succ]
                        refine' wpAnyH_take (i := 11) (v := _) rfl (by kernel_rfl) (by kernel_rfl) (by kernel_rfl) (fun _ _ _ h => h) (Or.inl ⟨by rfl, ?hyc9⟩) (by assumption) ?restc9
                        case hyc9 => (intro w hSw; (try dsimp only at hSw); go_simp; try with_reducible rfl)
                        try simp only [Act.put, List.getElem_toArray, List.getElem_cons_zero, List.getElem_cons_succ, List.setIfInBounds_toArray, List.set_cons_zero, List.set_cons_succ]
                        refine' wpAnyH_take (i := 14) (v := _) rfl (by kernel_rfl) (by kernel_rfl) (by kernel_rfl) (fun _ _ _ h => h) (Or.inl ⟨by rfl, ?hyc10⟩) (by assumption) ?restc10
                        case hyc10 => (intro w hSw; (try dsimp only at hSw); go_simp; try with_reducible rfl)
                        try simp only [Act.put, List.getElem_toArray, List.getElem_cons_zero, List.getElem_cons_succ, List.setIfInBounds_toArray, List.set_cons_zero, List.set_cons_succ]
                        refine' wpAnyH_take (i := 15) (v := _) rfl (by kernel_rfl) (by kernel_rfl) (by kernel_rfl) (fun _ _ _ h => h) (Or.inl ⟨by rfl, ?hyc11⟩) (by assumption) ?restc11
                        case hyc11 => (intro w hSw; (try dsimp only at hSw); go_simp; try with_reducible rfl)
                        try simp only [Act.put, List.getElem_toArray, List.getElem_cons_zero, List.getElem_cons_succ, List.setIfInBounds_toArray, List.set_cons_zero, List.set_cons_succ]
                        refine wpAnyH_ready (rs := [7]) (by kernel_rfl) (by simp) ?_
                        refine AllReadyH.cons rfl (fun K hK => ?_) ?_
                        · go_simp
                          refine hK.out _ _ ?_ (fun hHeld => ?_)
                          focus (exact (HKX.out _ ((below_al (w' := W1.drew) (hHeld).1 (.cells #[.int .i64 xu, .int .i64 xo, .int .i64 xs] 3)))))
                          clear hK K
                          try simp only [Act.put, List.getElem_toArray, List.getElem_cons_zero, List.getElem_cons_succ, List.setIfInBounds_toArray, List.set_cons_zero, List.set_cons_succ]
                          refine wpAnyH_mono (S2 := fun w' => (Below W1.heap.size W1 w' ∧ w'.cell? ⟨X0, 0, none⟩ = some (.int .i64 xu) ∧ w'.cell? ⟨X0, 1, none⟩ = some (.int .i64 xo) ∧ w'.cell? ⟨X0, 2, none⟩ = some (.int .i64 xs) ∧ w'.cell? ⟨X0, 3, none⟩ = some (.slice sa ns sc) ∧ w'.cell? ⟨X0, 4, none⟩ = some (.slice la nl lc)) ∧ Z3 w' W1.heap.size xu xo xs) (fun _ h => h.1) _ _ _ _ ?_
                          replace hHeld := And.intro hHeld (show Z3 ((W1.alloc (.cells #[.int .i64 xu, .int .i64 xo, .int .i64 xs] 3)).drew) W1.heap.size xu xo xs from heap_alloc_new _ _)
                          generalize (W1.alloc (.cells #[.int .i64 xu, .int .i64 xo, .int .i64 xs] 3)).drew = wb12 at hHeld ⊢
                          refine wpAnyH_ready (rs := [8]) (by kernel_rfl) (by simp) ?_
                          refine AllReadyH.cons rfl (fun K hK => ?_) ?_
                          · go_simp
                            (go_at_call 45; (with_reducible refine (DN.out _ _ hHeld.2).mono ?_); rintro e w13 ⟨rfl, bt13⟩; have hk13 := below_on (B := W1.heap.size) (w := W1) (hHeld.1).1 bt13 (Nat.le_refl _))
                            go_wp2_with fail
                            refine hK.out _ _ ?_ (fun hHeld => ?_)
                            focus (exact ⟨(HKX.out _ (hk13)), (Z3.below (hHeld.2) bt13)⟩)
                            clear hK K
                            try simp only [Act.put, List.getElem_toArray, List.getElem_cons_zero, List.getElem_cons_succ, List.setIfInBounds_toArray, List.set_cons_zero, List.set_cons_succ]
                            refine' wpAnyH_take (i := 9) (v := _) rfl (by kernel_rfl) (by kernel_rfl) (by kernel_rfl) (fun _ _ _ h => h) (Or.inl ⟨by rfl, ?hyc14⟩) (by assumption) ?restc14
                            case hyc14 => (intro w hSw; (try dsimp only at hSw); go_simp; try with_reducible rfl)
                            try simp only [Act.put, List.getElem_toArray, List.getElem_cons_zero, List.getElem_cons_succ, List.setIfInBounds_toArray, List.set_cons_zero, List.set_cons_succ]
                            refine wpAnyH_ready (rs := [12]) (by kernel_rfl) (by simp) ?_
                            refine AllReadyH.cons rfl (fun K hK => ?_) ?_
                            · go_simp
                              (go_at_call 46; (with_reducible refine (DL1.out _ (hHeld.1).1).mono ?_); rintro e w15 ⟨rfl, bt15⟩; have hk15 := below_on (B := W1.heap.size) (w := W1) (hHeld.1).1 bt15 (Nat.le_refl _))
                              go_wp2_with fail
                              refine hK.out _ _ ?_ (fun hHeld => ?_)
                              focus (exact ⟨(HKX.out _ (hk15)), (Z3.below (hHeld.2) bt15)⟩)
                              clear hK K
                              try simp only [Act.put, List.getElem_toArray, List.getElem_cons_zero, List.getElem_cons_succ, List.setIfInBounds_toArray, List.set_cons_zero, List.set_cons_succ]
                              refine' wpAnyH_take (i := 13) (v := _) rfl (by kernel_rfl) (by kernel_rfl) (by kernel_rfl) (fun _ _ _ h => h) (Or.inl ⟨by rfl, ?hyc16⟩) (by assumption) ?restc16
                              case hyc16 => (intro w hSw; (try dsimp only at hSw); go_simp; try with_reducible rfl)
                              try simp only [Act.put, List.getElem_toArray, List.getElem_cons_zero, List.getElem_cons_succ, List.setIfInBounds_toArray, List.set_cons_zero, List.set_cons_succ]
                              refine wpAnyH_ready (rs := [16]) (by kernel_rfl) (by simp) ?_
                              refine AllReadyH.cons rfl (fun K hK => ?_) ?_
                              · go_simp
                                (go_at_call 46; (with_reducible refine (DL2.out _ (hHeld.1).1).mono ?_); rintro e w17 ⟨rfl, bt17⟩; have hk17 := below_on (B := W1.heap.size) (w := W1) (hHeld.1).1 bt17 (Nat.le_refl _))
                                go_wp2_with fail
                                refine hK.out _ _ ?_ (fun hHeld => ?_)
                                focus (exact ⟨(HKX.out _ (hk17)), (Z3.below (hHeld.2) bt17)⟩)
                                clear hK K
                                try simp only [Act.put, List.getElem_toArray, List.getElem_cons_zero, List.getElem_cons_succ, List.setIfInBounds_toArray, List.set_cons_zero, List.set_cons_succ]
                                refine' wpAnyH_take (i := 17) (v := _) rfl (by kernel_rfl) (by kernel_rfl) (by kernel_rfl) (fun _ _ _ h => h) (Or.inl ⟨by rfl, ?hyc18⟩) (by assumption) ?restc18
                                case hyc18 => (intro w hSw; (try dsimp only at hSw); go_simp; try with_reducible rfl)
                                try simp only [Act.put, List.getElem_toArray, List.getElem_cons_zero, List.getElem_cons_succ, List.setIfInBounds_toArray, List.set_cons_zero, List.set_cons_succ]
                                refine' wpAnyH_take (i := 18) (v := _) rfl (by kernel_rfl) (by kernel_rfl) (by kernel_rfl) (fun _ _ _ h => h) (Or.inl ⟨by rfl, ?hyc19⟩) (by assumption) ?restc19
                                case hyc19 => (intro w hSw; (try dsimp only at hSw); go_simp; try with_reducible rfl)
                                try simp only [Act.put, List.getElem_toArray, List.getElem_cons_zero, List.getElem_cons_succ, List.setIfInBounds_toArray, List.set_cons_zero, List.set_cons_succ]
                                refine wpAnyH_done (by kernel_rfl) ?_ _
                                have HBZ := Lib.hid ((hHeld.1).1)
                                clear hHeld
                                go_wp2_with fail
                                go_roundg (ne - (i + 1))
                                case measure => omega
                                case rel => exact ⟨i + 1, sb2, by omega, Nat.le_refl _, by go_num, rfl, HSB2, HSZ2, HFT2, below_on HBR.out HBZ.out⟩
                              exact AllReadyH.nil
                            exact AllReadyH.nil
                          exact AllReadyH.nil
                        exact AllReadyH.nil
                    · obtain rfl : ne = i := by omega
                      have iw : ¬ ((ne : Nat) : Int) < ((ne : Nat) : Int) := by omega
                      have HYES : Hid (answerE a = (ansL a, true) ∧ sb = mkB (ansL a)) := ⟨ans_yes (by
                        have h := HFT.out
                        rw [HAE.out.1.2, List.take_length] at h
                        refine ⟨?_, ?_, ?_, ?_, HFR.out, h⟩
                        · rw [← HAE.out.2.1]; have := HK.out.1; omega
                        · rw [← HAE.out.2.2]; exact HK.out.2.2.2
                        · rw [← HAE.out.1.1]; have := HK.out.2.1; omega
                        · rw [← HAE.out.1.2]; have := HK.out.2.2.1; omega), by rw [HSB.out, ans_head, HAE.out.1.2, List.take_length]⟩
                      have BF : Hid (Below w.heap.size w wr) := below_on HB0.out HB.out
                      clear HSB HSZ HFT HB
                      go_wp2_with fail
                      exact bodyPost_ret (v := .tuple #[.string sb, .bool true]) (by simp [results, Try.results19, go_sem]) rfl ⟨by rw [HYES.out.1, HYES.out.2], BF.out⟩
end Go.Proofs.Ythegkookfpnbeaa.Wds
