/- Salt: seal of the plain text; users. -/
import Derived.Test.YtffepndeegbdoaaGreatDoorSs
set_option linter.unusedVariables false
set_option linter.unusedSimpArgs false
set_option maxRecDepth 100000
namespace Go.Proofs.YtffepndeegbdoaaGreatDoor.Slt
open Go.RowKit Go.Lib Go.Proofs.YtffepndeegbdoaaGreatDoor.Bx

def isHex (x : Nat) : Bool := (decide (48 ≤ x) && decide (x ≤ 57)) || (decide (97 ≤ x) && decide (x ≤ 102))
def sealB (l : List Nat) : Bool := l.all isHex && decide (l.length = 64)
theorem seal_no {l : List Nat} {i : Nat} (hi : i < l.length) (h : isHex (l.getD i 0) = false) : sealB l = false := by
  unfold sealB
  have : l.all isHex = false := by
    rw [Bool.eq_false_iff]
    intro h'
    rw [List.all_eq_true] at h'
    rw [List.getD_eq_getElem?_getD, List.getElem?_eq_getElem hi] at h
    have := h' _ (List.getElem_mem hi)
    simp only [Option.getD_some] at h
    rw [h] at this
    cases this
  rw [this]
  rfl
theorem seal_yes {l : List Nat} (h : ∀ i, i < l.length → isHex (l.getD i 0) = true) : sealB l = decide (l.length = 64) := by
  unfold sealB
  have : l.all isHex = true := by
    rw [List.all_eq_true]
    intro x hx
    obtain ⟨j, hj, rfl⟩ := List.getElem_of_mem hx
    have := h j hj
    rw [List.getD_eq_getElem?_getD, List.getElem?_eq_getElem hj] at this
    exact this
  rw [this]
  rfl
set_option maxHeartbeats 8000000 in
theorem rsealb_any (s : ByteArray) (w : World) (hs : s.size ≤ 100000) : Calls Tryz.prog 61 #[.string s] w fun e w' => e = .returned (.bool (sealB (bytesN s))) ∧ Below w.heap.size w w' := by
  obtain ⟨n, hn⟩ : ∃ n, n = s.size := ⟨_, rfl⟩
  have HL : Hid ((bytesN s).length = n) := by show _ = _; rw [bytesN_len, hn]
  have HXI : Hid (∀ i, i < n → ∀ w, (Instr.index 9 (.string s) (.int .i64 (i : Nat))).run Tryz.prog w = .ok (.int .u8 ((bytesN s).getD i 0 : Nat)) w) := fun i hi w => index_at w s .i64 (by omega)
  have HNO : Hid (∀ i, i < n → isHex ((bytesN s).getD i 0) = false → sealB (bytesN s) = false) := fun i hi h => seal_no (by rw [HL.out]; exact hi) h
  have HYE : Hid ((∀ i, i < n → isHex ((bytesN s).getD i 0) = true) → sealB (bytesN s) = decide (n = 64)) := fun h => by
    rw [seal_yes (fun i hi => h i (by rw [HL.out] at hi; exact hi)), HL.out]
  obtain ⟨l, hl⟩ : ∃ l, l = bytesN s := ⟨_, rfl⟩
  rw [← hl] at HXI HNO HYE ⊢
  rw [← hn] at hs
  have hsn : s.size = n := hn.symm
  clear hl hn HL
  go_enter Tryz.func61, Tryz.ntmps61
  go_wp2_with fail
  go_loopg [3] n (fun g i_ wr => ∃ (i : Nat), i ≤ n ∧ n - i ≤ g ∧ i_ = .int .i64 i ∧ Hid (∀ j, j < i → isHex (l.getD j 0) = true) ∧ Below w.heap.size w wr)
  case atStart => exact ⟨0, by omega, by omega, rfl, fun j hj => absurd hj (by omega), Below.refl _ _⟩
  case round =>
    obtain ⟨i, hi, hg, rfl, HH, hbel⟩ := hrel
    have HB := Lib.hid hbel
    by_cases hin : i < n
    · have iw : ((i : Nat) : Int) < (n : Int) := by omega
      have n0 : (0 : Int) ≤ (i : Int) := by omega
      have XI := HXI.out i hin
      have HN := Lib.hid (HNO.out i hin)
      have HH2 : Hid (isHex (l.getD i 0) = true → ∀ j, j < i + 1 → isHex (l.getD j 0) = true) := fun h j hj => by
        by_cases e : j = i
        · subst e; exact h
        · exact HH.out j (by omega)
      generalize l.getD i 0 = x at *
      have HV : Hid (isHex x = ((decide (48 ≤ x) && decide (x ≤ 57)) || (decide (97 ≤ x) && decide (x ≤ 102)))) := rfl
      clear hbel
      by_cases h1 : 48 ≤ x
      · have d1 : decide ((48 : Int) ≤ (x : Int)) = true := decide_eq_true (by omega)
        have k1 : (48 : Int) ≤ (x : Int) := by omega
        by_cases h2 : x ≤ 57
        · have d2 : decide ((x : Int) ≤ 57) = true := decide_eq_true (by omega)
          have k2 : (x : Int) ≤ 57 := by omega
          have hv : isHex x = true := by rw [HV.out]; simp [h1, h2]
          have HH3 := Lib.hid (HH2.out hv)
          clear HH2 HN
          go_wp2_with fail
          go_roundg (n - (i + 1))
          case measure => omega
          case rel => exact ⟨i + 1, by omega, Nat.le_refl _, by go_num, HH3, HB.out⟩
        · have d2 : decide ((x : Int) ≤ 57) = false := decide_eq_false (by omega)
          have k2 : ¬ (x : Int) ≤ 57 := by omega
          by_cases h3 : 97 ≤ x
          · have d3 : decide ((97 : Int) ≤ (x : Int)) = true := decide_eq_true (by omega)
            have k3 : (97 : Int) ≤ (x : Int) := by omega
            by_cases h4 : x ≤ 102
            · have d4 : decide ((x : Int) ≤ 102) = true := decide_eq_true (by omega)
              have k4 : (x : Int) ≤ 102 := by omega
              have hv : isHex x = true := by rw [HV.out]; simp [h3, h4]
              have HH3 := Lib.hid (HH2.out hv)
              clear HH2 HN
              go_wp2_with fail
              go_roundg (n - (i + 1))
              case measure => omega
              case rel => exact ⟨i + 1, by omega, Nat.le_refl _, by go_num, HH3, HB.out⟩
            · have d4 : decide ((x : Int) ≤ 102) = false := decide_eq_false (by omega)
              have k4 : ¬ (x : Int) ≤ 102 := by omega
              have hr := HN.out (by rw [HV.out]; simp [h2, h4])
              clear HH2 HN
              go_wp2_with fail
              go_ret
              exact ⟨by first | rfl | (rw [hr]; rfl) | (rw [hr]; done), HB.out⟩
          · have d3 : decide ((97 : Int) ≤ (x : Int)) = false := decide_eq_false (by omega)
            have k3 : ¬ (97 : Int) ≤ (x : Int) := by omega
            have hr := HN.out (by rw [HV.out]; simp [h2, h3])
            clear HH2 HN
            go_wp2_with fail
            go_ret
            exact ⟨by first | rfl | (rw [hr]; rfl) | (rw [hr]; done), HB.out⟩
      · have d1 : decide ((48 : Int) ≤ (x : Int)) = false := decide_eq_false (by omega)
        have k1 : ¬ (48 : Int) ≤ (x : Int) := by omega
        have d3 : decide ((97 : Int) ≤ (x : Int)) = false := decide_eq_false (by omega)
        have k3 : ¬ (97 : Int) ≤ (x : Int) := by omega
        have hr := HN.out (by rw [HV.out]; simp [h1]; omega)
        clear HH2 HN
        go_wp2_with fail
        go_ret
        exact ⟨by first | rfl | (rw [hr]; rfl) | (rw [hr]; done), HB.out⟩
    · obtain rfl : i = n := by omega
      have iw : ¬ ((i : Int) < (i : Int)) := by omega
      have hr := HYE.out HH.out
      have hr2 : Hid (sealB l = decide ((i : Int) = 64)) := by
        show _ = _
        rw [hr]
        exact decide_eq_decide.2 ⟨fun h => by omega, fun h => by omega⟩
      clear hbel hr
      go_wp2_with fail
      go_ret
      exact ⟨by rw [hr2.out]; first | rfl | (congr 2; done), HB.out⟩
end Go.Proofs.YtffepndeegbdoaaGreatDoor.Slt
