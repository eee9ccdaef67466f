/- Desk: the law's right; a case opened. -/
import Derived.Test.YtkbjbmhplocdnaaDf
import Derived.ProofKit
set_option linter.unusedVariables false
set_option linter.unusedSimpArgs false
set_option maxRecDepth 100000
namespace Go.Proofs.Ytkbjbmhplocdnaa.Dsk
open Go.RowKit Go.Lib Go.Proofs.Ytkbjbmhplocdnaa.Bx

def inB (A : List Se) : Bool := (List.range A.length).all fun i => decide (0 ≤ (se A i).d ∧ (se A i).d ≤ 1099511627776)
theorem in_iff {A : List Se} : inB A = true ↔ InR A := by
  unfold inB InR
  rw [List.all_eq_true]
  exact ⟨fun h i hi => of_decide_eq_true (h i (List.mem_range.2 hi)), fun h i hi => decide_eq_true (h i (List.mem_range.1 hi))⟩
def rightC (A : List Se) (now ttl : Int) : Bool := inB A && (decide (A.length ≤ 60) && (onceB A && (decide (0 ≤ now) && (decide (now ≤ 1099511627776) && (decide (0 ≤ ttl) && decide (ttl ≤ 1099511627776))))))
theorem right_of {A : List Se} {now ttl : Int} (h : rightC A now ttl = true) : InR A ∧ A.length ≤ 60 ∧ onceB A = true ∧ (0 ≤ now ∧ now ≤ 1099511627776) ∧ 0 ≤ ttl ∧ ttl ≤ 1099511627776 := by
  unfold rightC at h
  simp only [Bool.and_eq_true, decide_eq_true_eq] at h
  obtain ⟨h1, h2, h3, h4, h5, h6, h7⟩ := h
  exact ⟨in_iff.1 h1, h2, h3, ⟨h4, h5⟩, h6, h7⟩
theorem lright_any {v : Value} {A : List Se} (tok : ByteArray) (u q now ttl most : Int) (ans : ByteArray) (w : World) (h : Seats w v A) : Calls Try.prog 8 #[.agg #[v, .string tok, .int .i64 u, .int .i64 q, .int .i64 now, .int .i64 ttl, .int .i64 most, .string ans]] w fun e w' => e = .returned (.bool (rightC A now ttl)) ∧ Below w.heap.size w w' := by
  obtain ⟨a, cap, rfl, hn, hm⟩ := h.is_slice
  have HE := Lib.hid h.cells
  have HCR : Hid (∀ w', Below w.heap.size w w' → Calls Try.prog 22 #[.slice a A.length cap] w' fun e w'' => e = .returned (.bool (onceB A)) ∧ w'' = w') := fun w' hb => rRight_any w' (h.cells.below hb) hn hm
  have HV : Hid (rightC A now ttl = (inB A && (decide (A.length ≤ 60) && (onceB A && (decide (0 ≤ now) && (decide (now ≤ 1099511627776) && (decide (0 ≤ ttl) && decide (ttl ≤ 1099511627776)))))))) := rfl
  have HNO : Hid (∀ i, i < A.length → ¬ (0 ≤ (se A i).d ∧ (se A i).d ≤ 1099511627776) → inB A = false) := fun i hi hne => by
    rw [Bool.eq_false_iff]
    intro h'
    exact hne (in_iff.1 h' i hi)
  have HYE : Hid ((∀ i, i < A.length → 0 ≤ (se A i).d ∧ (se A i).d ≤ 1099511627776) → inB A = true) := fun h' => in_iff.2 h'
  obtain ⟨n, hnn⟩ : ∃ n, n = A.length := ⟨_, rfl⟩
  rw [← hnn] at HE HNO HYE hn HCR HV ⊢
  obtain ⟨r, hr⟩ : ∃ r, r = rightC A now ttl := ⟨_, rfl⟩
  rw [← hr] at HV ⊢
  obtain ⟨ib, hib⟩ : ∃ ib, ib = inB A := ⟨_, rfl⟩
  rw [← hib] at HV HNO HYE
  unfold maxLen at hm
  clear h hnn hr hib
  go_enter Try.func8, Try.ntmps8
  go_upto_region 1 with fail
  obtain ⟨W1, hW1⟩ : ∃ W1, W1 = w.alloc (.cells #[.slice a n cap, .string tok, .int .i64 u, .int .i64 q, .int .i64 now, .int .i64 ttl, .int .i64 most, .string ans] 24) := ⟨_, rfl⟩
  obtain ⟨CB, hCB⟩ : ∃ CB, CB = w.heap.size := ⟨_, rfl⟩
  rw [← hW1, ← hCB]
  have BW : Hid (Below w.heap.size w W1) := by rw [hW1]; exact below_al (Below.refl _ _) _
  have PW : Hid (W1.heap[CB]? = some (.cells #[.slice a n cap, .string tok, .int .i64 u, .int .i64 q, .int .i64 now, .int .i64 ttl, .int .i64 most, .string ans] 24 (0, 0))) := by show _ = _; rw [hW1, hCB]; exact heap_alloc_new _ _
  have HCC : Hid (∀ w', Below W1.heap.size W1 w' → w'.cell? ⟨CB, 0, none⟩ = some (.slice a n cap) ∧ w'.cell? ⟨CB, 4, none⟩ = some (.int .i64 now) ∧ w'.cell? ⟨CB, 5, none⟩ = some (.int .i64 ttl)) := fun w' hb => by
    have hp := (hb.block _ (Array.getElem?_eq_some_iff.1 PW.out).1).trans PW.out
    refine ⟨?_, ?_, ?_⟩ <;> (rw [cell_of_row _ _ _ _ _ _ hp]; rfl)
  clear hW1 hCB
  obtain ⟨d0, d4, d5⟩ := HCC.out W1 (Below.refl _ _)
  go_wp2_with fail
  go_loopg [8] n (fun g i_ wr => ∃ (i : Nat), i ≤ n ∧ n - i ≤ g ∧ i_ = .int .i64 i ∧ Hid (∀ j, j < i → 0 ≤ (se A j).d ∧ (se A j).d ≤ 1099511627776) ∧ Below W1.heap.size W1 wr)
  case atStart => exact ⟨0, by omega, by omega, rfl, fun j hj => absurd hj (by omega), Below.refl _ _⟩
  case round =>
    obtain ⟨i, hi, hg, rfl, HH, hbel⟩ := hrel
    have HB := Lib.hid hbel
    have HBW := Lib.hid (below_on BW.out hbel)
    clear d0 d4 d5
    by_cases hin : i < n
    · have iw : ((i : Nat) : Int) < (n : Int) := by omega
      have n0 : (0 : Int) ≤ (i : Int) := by omega
      obtain ⟨b, off, rfl, hlt, c0, c1, c2, c3, c4, _⟩ := HE.out wr HBW.out i hin
      have HN := Lib.hid (HNO.out i hin)
      have HH2 : Hid ((0 ≤ (se A i).d ∧ (se A i).d ≤ 1099511627776) → ∀ j, j < i + 1 → 0 ≤ (se A j).d ∧ (se A j).d ≤ 1099511627776) := fun h j hj => by
        by_cases e : j = i
        · subst e; exact h
        · exact HH.out j (by omega)
      generalize se A i = y at *
      obtain ⟨yt, yu, yd, yq, ya⟩ := y
      simp only at c0 c1 c2 c3 c4 HN HH2
      have HBA := Lib.hid (below_on HB.out (below_al (Below.refl wr.heap.size wr) (.cells #[.string yt, .int .i64 yu, .int .i64 yd, .int .i64 yq, .string ya] 28)))
      have HBB := Lib.hid (below_on HBW.out (below_al (Below.refl wr.heap.size wr) (.cells #[.string yt, .int .i64 yu, .int .i64 yd, .int .i64 yq, .string ya] 28)))
      clear hbel
      by_cases k1 : yd < 0
      · have hs := HN.out (by omega)
        have hr : r = false := by rw [HV.out, hs]; rfl
        clear HN HH2 HV HNO HYE hs
        go_wp2_with fail
        go_ret
        exact ⟨by first | rfl | (rw [hr]; rfl) | (rw [hr]; done), HBB.out⟩
      · by_cases k2 : 1099511627776 < yd
        · have hs := HN.out (by omega)
          have hr : r = false := by rw [HV.out, hs]; rfl
          clear HN HH2 HV HNO HYE hs
          go_wp2_with fail
          go_ret
          exact ⟨by first | rfl | (rw [hr]; rfl) | (rw [hr]; done), HBB.out⟩
        · have HH3 := Lib.hid (HH2.out (by omega))
          clear HN HH2
          go_wp2_with fail
          go_roundg (n - (i + 1))
          case measure => omega
          case rel => exact ⟨i + 1, by omega, Nat.le_refl _, by go_num, HH3, HBA.out⟩
    · obtain rfl : i = n := by omega
      have iw : ¬ ((i : Int) < (i : Int)) := by omega
      have hs := HYE.out HH.out
      obtain ⟨d0, d4, d5⟩ := HCC.out wr hbel
      have CR := Lib.hid (HCR.out wr HBW.out)
      rw [hs] at HV
      clear hbel hs HNO HYE
      by_cases k60 : i ≤ 60
      · have q60 : (i : Int) ≤ 60 := by omega
        rw [decide_eq_true k60] at HV
        generalize onceB A = ob at *
        cases ob with
        | false =>
          have hr : r = false := by rw [HV.out]; rfl
          clear HV
          go_wp2_with fail
          refine CR.out.mono ?_
          rintro e w2 ⟨rfl, rfl⟩
          go_wp2_with fail
          go_ret
          exact ⟨by first | rfl | (rw [hr]; rfl) | (rw [hr]; done), HBW.out⟩
        | true =>
          have hr : Hid (r = (decide (0 ≤ now) && (decide (now ≤ 1099511627776) && (decide (0 ≤ ttl) && decide (ttl ≤ 1099511627776))))) := by show _ = _; rw [HV.out]; rfl
          clear HV
          go_wp2_with fail
          refine CR.out.mono ?_
          rintro e w2 ⟨rfl, rfl⟩
          clear CR
          by_cases k1 : 0 ≤ now
          · by_cases k2 : now ≤ 1099511627776
            · by_cases k3 : 0 ≤ ttl
              · by_cases k4 : ttl ≤ 1099511627776
                · have hr2 : r = true := by rw [hr.out, decide_eq_true k1, decide_eq_true k2, decide_eq_true k3, decide_eq_true k4]; rfl
                  clear hr
                  go_wp2_with fail
                  go_ret
                  exact ⟨by first | rfl | (rw [hr2]; rfl) | (rw [hr2]; done), HBW.out⟩
                · have hr2 : r = false := by rw [hr.out, decide_eq_false k4]; simp
                  have q4 : decide (ttl ≤ 1099511627776) = false := decide_eq_false k4
                  clear hr
                  go_wp2_with fail
                  go_ret
                  exact ⟨by rw [hr2]; first | rfl | (show Ending.returned (Value.bool (decide (ttl ≤ 1099511627776))) = _; rw [decide_eq_false (by omega)]), HBW.out⟩
              · have hr2 : r = false := by rw [hr.out, decide_eq_false k3]; simp
                clear hr
                go_wp2_with fail
                go_ret
                exact ⟨by first | rfl | (rw [hr2]; rfl) | (rw [hr2]; done), HBW.out⟩
            · have hr2 : r = false := by rw [hr.out, decide_eq_false k2]; simp
              clear hr
              go_wp2_with fail
              go_ret
              exact ⟨by first | rfl | (rw [hr2]; rfl) | (rw [hr2]; done), HBW.out⟩
          · have hr2 : r = false := by rw [hr.out, decide_eq_false k1]; simp
            clear hr
            go_wp2_with fail
            go_ret
            exact ⟨by first | rfl | (rw [hr2]; rfl) | (rw [hr2]; done), HBW.out⟩
      · have q60 : ¬ (i : Int) ≤ 60 := by omega
        have hr : r = false := by rw [HV.out, decide_eq_false k60]; rfl
        clear HV CR
        go_wp2_with fail
        go_ret
        exact ⟨by first | rfl | (rw [hr]; rfl) | (rw [hr]; done), HBW.out⟩
end Go.Proofs.Ytkbjbmhplocdnaa.Dsk
