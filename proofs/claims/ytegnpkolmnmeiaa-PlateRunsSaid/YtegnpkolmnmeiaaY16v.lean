/- Plate: the plain text's step, firm, Get, Loose, New. -/
import Derived.Test.YtegnpkolmnmeiaaY16u
set_option linter.unusedVariables false
set_option linter.unusedSimpArgs false
set_option maxRecDepth 100000
namespace Go.Proofs.Ytegnpkolmnmeiaa.Plt
open Go.RowKit Go.Lib Go.Proofs.Ytegnpkolmnmeiaa.Bx

section
variable {base R M1 M2 c : Nat} {w w' : World} {f1 f2 : Lit → Option Value} {u : Nat → Value} {D : DK}
theorem rstep_no {B : Nat} {off : Bool} (w : World) (h : w.cell? ⟨B, 1, none⟩ = some (.int .i64 0)) (h2 : w.cell? ⟨B, 2, none⟩ = some (.bool off)) (f2 : w.frozen? ⟨B, 2, none⟩ = false) (c0 : Value) (h0 : w.cell? ⟨B, 0, none⟩ = some c0) : Calls Try.prog 29 #[.pointer (some ⟨B, 0, none⟩)] w fun e w' => e = .returned (.bool false) ∧ w' = w.setCell ⟨B, 2, none⟩ (.bool true) := by
  go_enter Try.func29, Try.ntmps29
  go_wp2_with fail
  go_ret
  exact ⟨rfl, rfl⟩
theorem rstep_free {B : Nat} {x : Int} (w : World) (h : w.cell? ⟨B, 1, none⟩ = some (.int .i64 x)) (hx : x < 0) (c0 : Value) (h0 : w.cell? ⟨B, 0, none⟩ = some c0) : Calls Try.prog 29 #[.pointer (some ⟨B, 0, none⟩)] w fun e w' => e = .returned (.bool true) ∧ w' = w := by
  have h1 : ¬ x = 0 := by omega
  have h2 : ¬ 0 < x := by omega
  go_enter Try.func29, Try.ntmps29
  go_wp2_with fail
  go_ret
  exact ⟨rfl, rfl⟩
theorem rstep_dec {B : Nat} {x : Int} (w : World) (h : w.cell? ⟨B, 1, none⟩ = some (.int .i64 x)) (hx : 0 < x) (hx2 : x ≤ 9223372036854775807) (f3 : w.frozen? ⟨B, 1, none⟩ = false) (c0 : Value) (h0 : w.cell? ⟨B, 0, none⟩ = some c0) : Calls Try.prog 29 #[.pointer (some ⟨B, 0, none⟩)] w fun e w' => e = .returned (.bool true) ∧ w' = w.setCell ⟨B, 1, none⟩ (.int .i64 (x - 1)) := by
  have h1 : ¬ x = 0 := by omega
  go_enter Try.func29, Try.ntmps29
  go_wp2_with fail
  go_ret
  exact ⟨rfl, rfl⟩
def RStepped (base : Nat) (w : World) (R M1 M2 c : Nat) (f1 f2 : Lit → Option Value) (u : Nat → Value) (D' : DK) (r : Bool) : Ending → World → Prop := fun e w' => e = .returned (.bool r) ∧ Rm base w' R M1 M2 c f1 f2 u D' ∧ Chg (OneB R) w w'
theorem rstep_ko (hd : Rm base w R M1 M2 c f1 f2 u D) (h0 : D.left = 0) : Calls Try.prog 29 #[.pointer (some ⟨R, 0, none⟩)] w (RStepped base w R M1 M2 c f1 f2 u ⟨D.n, D.P, true, D.left⟩ false) := by
  obtain ⟨c0, c1, c2, c3, c4, g1, g2, g4⟩ := hd.cells
  refine (rstep_no w (by rw [c1, h0]) c2 g2 _ c0).mono ?_
  rintro e w' ⟨rfl, rfl⟩
  exact ⟨rfl, hd.set 2 _ true D.left hd.left1 hd.left2 rfl, chg_set _ _ _ _⟩
theorem rstep_ok (hd : Rm base w R M1 M2 c f1 f2 u D) (h0 : D.left ≠ 0) : Calls Try.prog 29 #[.pointer (some ⟨R, 0, none⟩)] w (RStepped base w R M1 M2 c f1 f2 u ⟨D.n, D.P, D.off, dec D.left⟩ true) := by
  obtain ⟨c0, c1, c2, c3, c4, g1, g2, g4⟩ := hd.cells
  have h1 := hd.left1
  have h2 := hd.left2
  rcases Int.lt_or_lt_of_ne h0 with h | h
  · refine (rstep_free w c1 h _ c0).mono ?_
    rintro e w' ⟨rfl, rfl⟩
    have e1 : dec D.left = D.left := if_neg (by omega)
    rw [e1]
    exact ⟨rfl, hd, Chg.refl _ _⟩
  · refine (rstep_dec w c1 h h2 g1 _ c0).mono ?_
    rintro e w' ⟨rfl, rfl⟩
    have e1 : dec D.left = D.left - 1 := if_pos h
    rw [e1]
    exact ⟨rfl, hd.set 1 _ D.off (D.left - 1) (by omega) (by omega) rfl, chg_set _ _ _ _⟩
theorem keyI' {i : Nat} (h : i < D.n) (hn : D.n ≤ 16384) : keyOf Try.prog 3 (.int .i64 (i : Nat)) = some (keyL i) := keyI i (by omega)
theorem look2 (hd : Rm base w R M1 M2 c f1 f2 u D) {i : Nat} (hi : i < D.n) : (Instr.lookup 40 (.map (some M2)) (.int .i64 (i : Nat)) false).run Try.prog w = .ok (u i) w := by
  have := hd.m2.look klawI Try.underlying40 (zeroSS w) (keyI' hi hd.n2) (isKeyI _)
  rw [(hd.k2 i hi).1] at this
  exact this
set_option maxHeartbeats 1000000 in
theorem firm_any (hd : Rm base w R M1 M2 c f1 f2 u D) {i : Nat} (hi : i < D.n) : Calls Try.prog 32 #[.pointer (some ⟨R, 0, none⟩), .int .i64 (i : Nat)] w fun e w' => e = .returned (.string (D.P i).f) ∧ Below w.heap.size w w' := by
  obtain ⟨c0, c1, c2, c3, c4, g1, g2, g4⟩ := hd.cells
  have lk := hd.m1.look_ok klawI Try.underlying39 (zeroS w) (keyI' hi hd.n2) (isKeyI _)
  have HF := Lib.hid (full_any ByteArray.empty w (by decide))
  rcases hd.k1 i hi with e | ⟨e, e2⟩
  · rw [e] at lk
    simp only [Option.getD_some, Option.isSome_some] at lk
    generalize (D.P i).f = r at *
    clear hd c0 c1 c2 c4 g1 g2 g4 e HF
    go_enter Try.func32, Try.ntmps32
    go_wp2_with fail
    go_ret
    exact ⟨rfl, Below.refl _ _⟩
  · rw [e] at lk
    simp only [Option.getD_none, Option.isSome_none] at lk
    have HE : Hid ((D.P i).f = fullB ByteArray.empty) := e2
    clear hd c0 c1 c2 c4 g1 g2 g4 e e2
    go_enter Try.func32, Try.ntmps32
    go_wp2_with fail
    refine HF.out.mono ?_
    rintro e w1 ⟨rfl, b1⟩
    have B1 := Lib.hid b1
    clear b1 HF
    go_wp2_with fail
    go_ret
    exact ⟨by rw [HE.out]; rfl, B1.out⟩
/-- A row of texts that is read. -/
theorem rowr_at {w : World} {v : Value} {X : List ByteArray} (h : Rk.RowK 1 w v (cellsT X)) : ∃ a c, v = .slice a X.length c ∧ X.length ≤ c ∧ c ≤ 9223372036854775807 ∧ ∀ j, j < X.length → ∃ b off, a = some ⟨b, off, none⟩ ∧ b < w.heap.size ∧ w.cell? ⟨b, off + j, none⟩ = some (.string (X.getD j ByteArray.empty)) := by
  obtain ⟨_, a, c, e, h1, h2, h3⟩ := h
  rw [cellsT_len] at e h1
  unfold maxLen at h2
  refine ⟨a, c, e, h1, h2, fun j hj => ?_⟩
  rcases h3 with h3 | ⟨b, off, rfl, hb, hc⟩
  · have := cellsT_len X
    rw [h3] at this
    simp at this
    omega
  · refine ⟨b, off, rfl, hb, ?_⟩
    have := hc j (by rw [cellsT_len]; exact hj) 0
    unfold cellsT at this
    simp only [List.getElem_map, Nat.mul_one, Nat.add_zero] at this
    rw [List.getD_eq_getElem?_getD, List.getElem?_eq_getElem hj]
    exact this _ rfl
theorem last_at {p : PL} (h : p.l.length ≠ 0) : p.last = p.l.getD (p.l.length - 1) ByteArray.empty := by
  show p.l.getD (p.l.length - 1) p.f = _
  rw [List.getD_eq_getElem?_getD, List.getD_eq_getElem?_getD, List.getElem?_eq_getElem (by omega)]
  rfl
set_option maxHeartbeats 2000000 in
theorem rget_any (i : Int) (hd : Rm base w R M1 M2 c f1 f2 u D) : Calls Try.prog 21 #[.pointer (some ⟨R, 0, none⟩), .int .i64 i] w fun e w' => e = .returned (.tuple #[.string (getS D i), .bool (getB D i)]) ∧ Below w.heap.size w w' := by
  obtain ⟨c0, c1, c2, c3, c4, g1, g2, g4⟩ := hd.cells
  have HG := getB_is D i
  cases ho : D.off with
  | true =>
    rw [ho, Bool.not_true, Bool.false_and] at HG
    have HS : getS D i = ByteArray.empty := by unfold getS; rw [HG]; rfl
    rw [HS, HG]
    rw [ho] at c2
    clear HS HG hd c0 c1 c3 c4 g1 g2 g4 ho
    go_enter Try.func21, Try.ntmps21
    go_wp2_with fail
    exact bodyPost_ret (v := .tuple #[.string ByteArray.empty, .bool false]) (by simp [results, Try.results21, go_sem]; rfl) rfl ⟨rfl, Below.refl _ _⟩
  | false =>
    rw [ho, Bool.not_false, Bool.true_and] at HG
    rw [ho] at c2
    cases hin : inB i D.n with
    | false =>
      rw [hin] at HG
      have HS : getS D i = ByteArray.empty := by unfold getS; rw [HG]; rfl
      rw [HS, HG]
      have hr : i < 0 ∨ ((D.n : Nat) : Int) ≤ i := by
        unfold inB at hin
        simp only [Bool.and_eq_false_iff, decide_eq_false_iff_not] at hin
        omega
      generalize D.n = n at *
      clear HS HG hd c1 c3 c4 g1 g2 g4 ho hin
      by_cases hz : i < 0
      · clear hr
        go_enter Try.func21, Try.ntmps21
        go_wp2_with fail
        exact bodyPost_ret (v := .tuple #[.string ByteArray.empty, .bool false]) (by simp [results, Try.results21, go_sem]; rfl) rfl ⟨rfl, Below.refl _ _⟩
      · have hr2 : ((n : Nat) : Int) ≤ i := by omega
        clear hr
        go_enter Try.func21, Try.ntmps21
        go_wp2_with fail
        exact bodyPost_ret (v := .tuple #[.string ByteArray.empty, .bool false]) (by simp [results, Try.results21, go_sem]; rfl) rfl ⟨rfl, Below.refl _ _⟩
    | true =>
      rw [hin] at HG
      obtain ⟨k, rfl, hk⟩ := inB_nat hin
      have HS : getS D (k : Nat) = (D.P k).last := by unfold getS; rw [HG]; rfl
      rw [HS, HG]
      have lk := look2 hd hk
      have CF := Lib.hid (firm_any hd hk)
      obtain ⟨a, cc, hu, hlc, hcm, hx⟩ := rowr_at (hd.k2 k hk).2
      rw [hu] at lk
      have n1 : ¬ ((D.n : Nat) : Int) ≤ (k : Nat) := by omega
      have n0 : ¬ ((k : Nat) : Int) < 0 := by omega
      have n2 : ¬ D.n ≤ k := by omega
      by_cases hl : (D.P k).l.length = 0
      · have e : (D.P k).last = (D.P k).f := by
          show (D.P k).l.getD _ _ = _
          rw [List.eq_nil_of_length_eq_zero hl]
          rfl
        rw [e]
        rw [hl] at lk
        generalize (D.P k).f = r at *
        generalize D.n = n at *
        clear HS HG hd c1 c3 g1 g2 g4 ho hin hu hx hlc hl e hk
        go_enter Try.func21, Try.ntmps21
        go_wp2_with fail
        refine CF.out.mono ?_
        rintro e w1 ⟨rfl, b1⟩
        have B1 := Lib.hid b1
        clear b1 CF
        go_wp2_with fail
        exact bodyPost_ret (v := .tuple #[.string r, .bool true]) (by simp [results, Try.results21, go_sem]) rfl ⟨rfl, B1.out⟩
      · have HV := last_at hl
        obtain ⟨b, off, rfl, _, hb⟩ := hx ((D.P k).l.length - 1) (by omega)
        rw [← HV] at hb
        obtain ⟨m, hm'⟩ : ∃ m, (D.P k).l.length = m + 1 := ⟨(D.P k).l.length - 1, by omega⟩
        rw [hm', Nat.add_sub_cancel] at hb
        rw [hm'] at lk hlc
        generalize (D.P k).last = r at *
        generalize D.n = n at *
        have m1 : (0 : Int) < (m + 1 : Nat) := by omega
        have m2 : ((m + 1 : Nat) : Int) - 1 = (m : Nat) := by omega
        have m3 : (m : Int) < (m + 1 : Nat) := by omega
        have m4 : (0 : Int) ≤ (m : Nat) := by omega
        clear HS HG hd c1 c3 g1 g2 g4 ho hin hu hx hl hk HV hm' CF
        go_enter Try.func21, Try.ntmps21
        go_wp2_with fail
        exact bodyPost_ret (v := .tuple #[.string r, .bool true]) (by simp [results, Try.results21, go_sem]) rfl ⟨rfl, Below.refl _ _⟩
end
end Go.Proofs.Ytegnpkolmnmeiaa.Plt
