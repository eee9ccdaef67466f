/- Desk: what was done with a number: mathematics; the walk of DeskOnce, given the program's calls. -/
import Derived.Test.YtkbjbmhplocdnaaDk
set_option linter.unusedVariables false
set_option linter.unusedSimpArgs false
set_option maxRecDepth 100000
namespace Go.Proofs.Ytkbjbmhplocdnaa.Dsk
open Go.RowKit Go.Lib Go.Proofs.Ytkbjbmhplocdnaa.Bx

theorem pl_map (A : List Se) (tok : ByteArray) : plO A tok = (A.map Se.t).findIdx? fun t => decide (t = tok) := by
  unfold plO
  rw [List.findIdx?_map]
  rfl
theorem pl_toks {A D : List Se} (h : D.map Se.t = A.map Se.t) (tok : ByteArray) : plO D tok = plO A tok := by rw [pl_map, pl_map, h]
theorem done_toks (A : List Se) (tok : ByteArray) (q now : Int) (ans : ByteArray) : (doneE A tok q now ans).map Se.t = A.map Se.t := by
  unfold doneE
  cases h : plO A tok with
  | none => rfl
  | some i =>
    have hi := (pl_lt h).1
    show (A.set i ⟨(se A i).t, (se A i).u, now, q, ans⟩).map Se.t = _
    rw [List.map_set]
    apply List.ext_getElem?
    intro j
    rw [List.getElem?_set]
    split
    · rename_i e
      subst e
      rw [if_pos (by rw [List.length_map]; exact hi), List.getElem?_map, List.getElem?_eq_getElem hi, se_at hi]
      rfl
    · rfl
theorem done_len (A : List Se) (tok : ByteArray) (q now : Int) (ans : ByteArray) : (doneE A tok q now ans).length = A.length := by
  have := congrArg List.length (done_toks A tok q now ans)
  rwa [List.length_map, List.length_map] at this
theorem tok_at {A D : List Se} (h : D.map Se.t = A.map Se.t) {i : Nat} (hi : i < A.length) (hd : i < D.length) : (se D i).t = (se A i).t := by
  rw [se_at hi, se_at hd]
  have e := congrArg (·[i]?) h
  simp only [List.getElem?_map, List.getElem?_eq_getElem hi, List.getElem?_eq_getElem hd, Option.map_some, Option.some.injEq] at e
  exact e
theorem once_toks {A D : List Se} (h : D.map Se.t = A.map Se.t) : onceB D = onceB A := by
  have hl : D.length = A.length := by
    have := congrArg List.length h
    rwa [List.length_map, List.length_map] at this
  unfold onceB
  rw [hl]
  rw [Bool.eq_iff_iff, List.all_eq_true, List.all_eq_true]
  constructor <;> intro h' i hi
  · have hi' := List.mem_range.1 hi
    have := h' i hi
    rw [tok_at h hi' (by omega)] at this
    unfold plI at this ⊢
    rwa [pl_toks h] at this
  · have hi' := List.mem_range.1 hi
    have := h' i hi
    rw [tok_at h hi' (by omega)]
    unfold plI at this ⊢
    rwa [pl_toks h]
theorem se_set {A : List Se} {i j : Nat} {y : Se} (hi : i < A.length) : se (A.set i y) j = if j = i then y else se A j := by
  unfold se
  rw [List.getD_eq_getElem?_getD, List.getElem?_set]
  by_cases h : j = i
  · subst h
    rw [if_pos rfl, if_pos rfl, if_pos hi]
    rfl
  · rw [if_neg (fun e => h e.symm), if_neg h, List.getD_eq_getElem?_getD]
theorem done_in {A : List Se} {tok : ByteArray} {q now : Int} {ans : ByteArray} (h : InR A) (hn : 0 ≤ now ∧ now ≤ 1099511627776) : InR (doneE A tok q now ans) := by
  intro i hi
  rw [done_len] at hi
  unfold doneE
  cases hp : plO A tok with
  | none => exact h i hi
  | some k =>
    show 0 ≤ (se (A.set k ⟨(se A k).t, (se A k).u, now, q, ans⟩) i).d ∧ _
    rw [se_set (pl_lt hp).1]
    split
    · exact hn
    · exact h i hi
theorem done_right {A : List Se} {tok : ByteArray} {q now ttl : Int} {ans : ByteArray} (h : rightC A now ttl = true) : rightC (doneE A tok q now ans) now ttl = true := by
  obtain ⟨h1, h2, h3, h4, h5, h6⟩ := right_of h
  unfold rightC
  rw [in_iff.2 (done_in h1 h4), done_len, decide_eq_true h2, once_toks (done_toks A tok q now ans), h3, decide_eq_true h4.1, decide_eq_true h4.2, decide_eq_true h5, decide_eq_true h6]
  rfl
theorem begin_done {A : List Se} {tok : ByteArray} {q now ttl seq : Int} {ans : ByteArray} (hl : (whoE A tok now ttl).2 = true) (ht : 0 ≤ ttl) :
    beginE (doneE A tok q now ans) tok seq now ttl = if seq = q then (ans, 9) else if seq < q then (ByteArray.mk #[], 8) else (ByteArray.mk #[], 0) := by
  cases hp : plO A tok with
  | none =>
    unfold whoE liveO at hl
    rw [hp] at hl
    cases hl
  | some i =>
    have hi := (pl_lt hp).1
    have hd : doneE A tok q now ans = A.set i ⟨(se A i).t, (se A i).u, now, q, ans⟩ := by unfold doneE; rw [hp]
    have hpd : plO (doneE A tok q now ans) tok = some i := by rw [pl_toks (done_toks A tok q now ans), hp]
    have hse : se (doneE A tok q now ans) i = ⟨(se A i).t, (se A i).u, now, q, ans⟩ := by rw [hd, se_set hi, if_pos rfl]
    have hlv : liveO (doneE A tok q now ans) tok now ttl = some i := by
      unfold liveO
      rw [hpd]
      show (if pastB now ttl (se (doneE A tok q now ans) i) = true then none else some i) = some i
      rw [hse, if_neg]
      unfold pastB
      rw [decide_eq_false (by show ¬ ttl < now - now; omega)]
      decide
    unfold beginE
    rw [hlv]
    show (if seq = (se (doneE A tok q now ans) i).q then ((se (doneE A tok q now ans) i).a, (9 : Int)) else if seq < (se (doneE A tok q now ans) i).q then (ByteArray.mk #[], 8) else (ByteArray.mk #[], 0)) = _
    rw [hse]
theorem once_walk (WK : WhoOk) (BK : BeginOk) (DK : DoneOk) {w : World} (v : Value) (A : List Se) (tok : ByteArray) (u q now ttl most : Int) (ans : ByteArray) (hA : Seats w v A) (hu : i64 u) (hq : i64 q) (hnw : i64 now) (htt : i64 ttl) (hmo : i64 most) (seq : Int) (hs1 : -9223372036854775808 ≤ seq) (hs2 : seq ≤ 9223372036854775807) : Calls Try.prog 6 #[.agg #[v, .string tok, .int .i64 u, .int .i64 q, .int .i64 now, .int .i64 ttl, .int .i64 most, .string ans], .int .i64 seq] w fun e w' => e = .returned (.bool true) ∧ Below w.heap.size w w' := by
  have C0 := Lib.hid (done_call DK)
  have CL : Hid (∀ w', Below w.heap.size w w' → Calls Try.prog 8 #[.agg #[v, .string tok, .int .i64 u, .int .i64 q, .int .i64 now, .int .i64 ttl, .int .i64 most, .string ans]] w' fun e w'' => e = .returned (.bool (rightC A now ttl)) ∧ Below w'.heap.size w' w'') := fun w' hb => lright_any tok u q now ttl most ans w' (hA.below hb)
  have CW : Hid (∀ w', Below w.heap.size w w' → rightC A now ttl = true → Calls Try.prog 11 #[v, .string tok, .int .i64 now, .int .i64 ttl] w' fun e w'' => e = .returned (.tuple #[.int .i64 (whoE A tok now ttl).1, .bool (whoE A tok now ttl).2]) ∧ Below w'.heap.size w' w'') := fun w' hb hr => WK v A tok now ttl w' (hA.below hb) hr
  have CD : Hid (∀ w', Below w.heap.size w w' → rightC A now ttl = true → Calls Try.prog 15 #[v, .string tok, .int .i64 q, .int .i64 now, .string ans] w' fun e w'' => ∃ v', e = .returned v' ∧ Seats w'' v' (doneE A tok q now ans) ∧ Below w'.heap.size w' w'') := fun w' hb hr => DK v A tok q now ttl ans w' (hA.below hb) hr hq
  have CB : Hid (∀ x w', Seats w' x (doneE A tok q now ans) → rightC A now ttl = true → (whoE A tok now ttl).2 = true → Calls Try.prog 13 #[x, .string tok, .int .i64 seq, .int .i64 now, .int .i64 ttl] w' fun e w'' => e = .returned (.tuple #[.string (if seq = q then (ans, (9 : Int)) else if seq < q then (ByteArray.mk #[], 8) else (ByteArray.mk #[], 0)).1, .int .i64 (if seq = q then (ans, (9 : Int)) else if seq < q then (ByteArray.mk #[], 8) else (ByteArray.mk #[], 0)).2]) ∧ Below w'.heap.size w' w'') := fun x w' hx hr hl => by
    have h := BK x _ tok seq now ttl w' hx (done_right hr) ⟨hs1, hs2⟩
    rw [begin_done hl (right_of hr).2.2.2.2.1] at h
    exact h
  obtain ⟨D, hD⟩ : ∃ D, D = doneE A tok q now ans := ⟨_, rfl⟩
  rw [← hD] at CD CB
  generalize (whoE A tok now ttl).1 = r1 at *
  generalize (whoE A tok now ttl).2 = r2 at *
  have SE : (ans.toList == ans.toList) = true := by simp
  clear hA hu hq hnw htt hmo hD
  go_enter Try.func6, Try.ntmps6
  go_upto_region 1 with fail
  obtain ⟨W1, hW1⟩ : ∃ W1, W1 = w.alloc (.cells (boxC v tok u q now ttl most ans) 24) := ⟨_, rfl⟩
  unfold boxC at hW1
  obtain ⟨CBk, hCB⟩ : ∃ CBk, CBk = w.heap.size := ⟨_, rfl⟩
  rw [← hW1, ← hCB]
  have BW : Hid (Below w.heap.size w W1) := by rw [hW1]; exact below_al (Below.refl _ _) _
  have PW : Hid (W1.heap[CBk]? = some (.cells (boxC v tok u q now ttl most ans) 24 (0, 0))) := by show _ = _; rw [hW1, hCB]; exact heap_alloc_new _ _
  have HCC : Hid (∀ w', Below W1.heap.size W1 w' → w'.heap[CBk]? = some (.cells (boxC v tok u q now ttl most ans) 24 (0, 0))) := fun w' hb => (hb.block _ (Array.getElem?_eq_some_iff.1 PW.out).1).trans PW.out
  have HBL : Hid (Below W1.heap.size W1 (W1.alloc (.cells #[.string ⟨#[97]⟩, .int .i64 0, .int .i64 0, .int .i64 0, .string ⟨#[]⟩] 28))) := below_al (Below.refl _ _) _
  have C01 := Lib.hid (C0.out (W1.alloc (.cells #[.string ⟨#[97]⟩, .int .i64 0, .int .i64 0, .int .i64 0, .string ⟨#[]⟩] 28)) W1.heap.size (heap_alloc_new W1 _))
  clear hW1 hCB PW C0
  go_wp2_with fail
  refine C01.out.mono ?_
  rintro e w2 ⟨c, off, cap, rfl, k1, k2, c4, b2⟩
  have B2 := Lib.hid (below_on HBL.out b2)
  clear b2 C01 HBL
  go_upto_region 4 with fail
  clear c4
  obtain ⟨d0, d1, d2, d3, d4, d5, d6, d7⟩ := box_cells (HCC.out w2 B2.out)
  have CL2 := Lib.hid (CL.out w2 (below_on BW.out B2.out))
  clear CL
  go_wp2_with fail
  refine CL2.out.mono ?_
  rintro e w3 ⟨rfl, b3⟩
  have B3 := Lib.hid (below_on B2.out b3)
  clear b3 CL2 d0 d1 d2 d3 d4 d5 d6 d7
  cases hr : rightC A now ttl with
  | false =>
    clear CD CW CB hr
    have HBF := Lib.hid (below_on BW.out B3.out)
    go_wp2_with fail
    go_ret
    exact ⟨rfl, HBF.out⟩
  | true =>
    have HRT := Lib.hid hr
    obtain ⟨d0, d1, d2, d3, d4, d5, d6, d7⟩ := box_cells (HCC.out w3 B3.out)
    have K1 := Lib.hid (CW.out w3 (below_on BW.out B3.out) hr)
    clear hr CW
    go_wp2_with fail
    refine K1.out.mono ?_
    rintro e w4 ⟨rfl, b4⟩
    have B4 := Lib.hid (below_on B3.out b4)
    clear b4 K1 d0 d1 d2 d3 d4 d5 d6 d7
    cases r2 with
    | false =>
      clear CD CB
      have HBF := Lib.hid (below_on BW.out B4.out)
      go_wp2_with fail
      go_ret
      exact ⟨rfl, HBF.out⟩
    | true =>
      obtain ⟨d0, d1, d2, d3, d4, d5, d6, d7⟩ := box_cells (HCC.out w4 B4.out)
      have K2 := Lib.hid (CD.out w4 (below_on BW.out B4.out) HRT.out)
      clear CD
      go_wp2_with fail
      refine K2.out.mono ?_
      rintro e w5 ⟨x5, rfl, hs5, b5⟩
      have B5 := Lib.hid (below_on B4.out b5)
      have K3 := Lib.hid (CB.out x5 w5 hs5 HRT.out (by first | trivial | rfl))
      clear b5 hs5 K2 CB d0 d1 d2 d3 d4 d5 d6 d7
      obtain ⟨d0, d1, d2, d3, d4, d5, d6, d7⟩ := box_cells (HCC.out w5 B5.out)
      by_cases hq1 : seq = q
      · subst hq1
        rw [if_pos rfl] at K3
        simp only at K3
        go_wp2_with fail
        refine K3.out.mono ?_
        rintro e w6 ⟨rfl, b6⟩
        have B6 := Lib.hid (below_on B5.out b6)
        have HBF := Lib.hid (below_on BW.out B6.out)
        clear b6 K3 d0 d1 d2 d3 d4 d5 d6 d7
        obtain ⟨d0, d1, d2, d3, d4, d5, d6, d7⟩ := box_cells (HCC.out w6 B6.out)
        go_wp2_with fail
        go_ret
        exact ⟨by first | rfl | (simp; done), HBF.out⟩
      · by_cases hq2 : seq < q
        · rw [if_neg hq1, if_pos hq2] at K3
          simp only at K3
          go_wp2_with fail
          refine K3.out.mono ?_
          rintro e w6 ⟨rfl, b6⟩
          have B6 := Lib.hid (below_on B5.out b6)
          have HBF := Lib.hid (below_on BW.out B6.out)
          clear b6 K3 d0 d1 d2 d3 d4 d5 d6 d7
          obtain ⟨d0, d1, d2, d3, d4, d5, d6, d7⟩ := box_cells (HCC.out w6 B6.out)
          go_wp2_with fail
          go_ret
          exact ⟨by first | rfl | (simp; done), HBF.out⟩
        · rw [if_neg hq1, if_neg hq2] at K3
          simp only at K3
          go_wp2_with fail
          refine K3.out.mono ?_
          rintro e w6 ⟨rfl, b6⟩
          have B6 := Lib.hid (below_on B5.out b6)
          have HBF := Lib.hid (below_on BW.out B6.out)
          clear b6 K3 d0 d1 d2 d3 d4 d5 d6 d7
          obtain ⟨d0, d1, d2, d3, d4, d5, d6, d7⟩ := box_cells (HCC.out w6 B6.out)
          go_wp2_with fail
          go_ret
          exact ⟨by first | rfl | (simp; done), HBF.out⟩
end Go.Proofs.Ytkbjbmhplocdnaa.Dsk
