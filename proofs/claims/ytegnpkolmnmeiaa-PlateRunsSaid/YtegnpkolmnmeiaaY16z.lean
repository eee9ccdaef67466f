/- Plate: the plain text's Lay. -/
import Derived.Test.YtegnpkolmnmeiaaY16y
set_option linter.unusedVariables false
set_option linter.unusedSimpArgs false
set_option maxRecDepth 100000
namespace Go.Proofs.Ytegnpkolmnmeiaa.Plt
open Go.RowKit Go.Lib Go.Proofs.Ytegnpkolmnmeiaa.Bx

section
variable {base R M1 M2 c : Nat} {w : World} {f1 f2 : Lit → Option Value} {u : Nat → Value} {D : DK}
theorem inB_no {i : Int} {n : Nat} (h : inB i n = false) : i < 0 ∨ ((n : Nat) : Int) ≤ i := by
  unfold inB at h
  simp only [Bool.and_eq_false_iff, decide_eq_false_iff_not] at h
  omega
set_option maxHeartbeats 2000000 in
theorem rlay_no (i : Int) (s : ByteArray) (hs : s.size ≤ 9223372036854775807) (hd : Rm base w R M1 M2 c f1 f2 u D) (hc : canLay D i s = false) : Calls Try.prog 14 #[.pointer (some ⟨R, 0, none⟩), .int .i64 i, .string s] w fun e w' => e = .returned (.bool false) ∧ w = w' := by
  obtain ⟨c0, c1, c2, c3, c4, g1, g2, g4⟩ := hd.cells
  rw [canLay_is] at hc
  cases ho : D.off with
  | true =>
    rw [ho] at c2
    clear hd c1 c3 c4 g1 g2 g4 ho hc
    go_enter Try.func14, Try.ntmps14
    go_wp2_with fail
    go_ret
    exact ⟨rfl, rfl⟩
  | false =>
    rw [ho] at c2
    rw [ho, Bool.not_false, Bool.true_and] at hc
    cases hin : inB i D.n with
    | false =>
      have hr := inB_no hin
      generalize D.n = n at *
      clear hd c1 c3 c4 g1 g2 g4 ho hin hc
      by_cases hz : i < 0
      · clear hr
        go_enter Try.func14, Try.ntmps14
        go_wp2_with fail
        go_ret
        exact ⟨rfl, rfl⟩
      · have hr2 : ((n : Nat) : Int) ≤ i := by omega
        clear hr
        go_enter Try.func14, Try.ntmps14
        go_wp2_with fail
        go_ret
        exact ⟨rfl, rfl⟩
    | true =>
      rw [hin] at hc
      obtain ⟨k, rfl, hk⟩ := inB_nat hin
      have h1 : ¬ s.size ≤ 128 := by simpa using hc
      have h2 : (128 : Int) < (s.size : Nat) := by omega
      have h3 : 128 < s.size := by omega
      have n1 : ¬ ((D.n : Nat) : Int) ≤ (k : Nat) := by omega
      have n0 : ¬ ((k : Nat) : Int) < 0 := by omega
      have n2 : ¬ D.n ≤ k := by omega
      generalize D.n = n at *
      clear hd c1 c3 c4 g1 g2 g4 ho hin hc h1 hk
      go_enter Try.func14, Try.ntmps14
      go_wp2_with fail
      go_ret
      exact ⟨rfl, rfl⟩
set_option maxHeartbeats 2000000 in
theorem rlay_off (i : Int) (s : ByteArray) (hd : Rm base w R M1 M2 c f1 f2 u D) (hc : canLay D i s = true) (h0 : D.left = 0) : Calls Try.prog 14 #[.pointer (some ⟨R, 0, none⟩), .int .i64 i, .string s] w (RStepped base w R M1 M2 c f1 f2 u ⟨D.n, D.P, true, D.left⟩ false) := by
  obtain ⟨c0, c1, c2, c3, c4, g1, g2, g4⟩ := hd.cells
  obtain ⟨ho, hin, hs⟩ := canLay_yes hc
  have CS := Lib.hid (rstep_ko hd h0)
  obtain ⟨k, rfl, hk⟩ := inB_nat hin
  rw [ho] at c2
  have h2 : ¬ (128 : Int) < (s.size : Nat) := by omega
  have h3 : ¬ 128 < s.size := by omega
  have n1 : ¬ ((D.n : Nat) : Int) ≤ (k : Nat) := by omega
  have n0 : ¬ ((k : Nat) : Int) < 0 := by omega
  have n2 : ¬ D.n ≤ k := by omega
  clear hd c1 c3 c4 g1 g2 g4 ho hin hc hk h0 hs
  go_enter Try.func14, Try.ntmps14
  go_wp2_with fail
  refine CS.out.mono ?_
  rintro e w1 ⟨rfl, d1, g1⟩
  have D1 := Lib.hid d1
  have G1 := Lib.hid g1
  clear d1 g1 CS
  go_wp2_with fail
  go_ret
  exact ⟨rfl, D1.out, G1.out⟩
def RLaid (base : Nat) (w : World) (R M1 M2 c : Nat) (f1 : Lit → Option Value) (u : Nat → Value) (D D' : DK) : Ending → World → Prop := fun e w' =>
  e = .returned (.bool true) ∧ ∃ f2' u', Rm base w' R M1 M2 (c + 1) f1 f2' u' D' ∧ Chg (Three R M1 M2) w w' ∧ ∀ g, RFt R M1 M2 u' D.n g → RFt R M1 M2 u D.n g ∨ w.heap.size ≤ g
set_option maxHeartbeats 16000000 in
theorem rlay_yes (i : Int) (s : ByteArray) (hd : Rm base w R M1 M2 c f1 f2 u D) (hcc : c ≤ 10000000) (hc : canLay D i s = true) (h0 : D.left ≠ 0) (hl : ∀ j, j < D.n → (D.P j).l.length ≤ 90000) : Calls Try.prog 14 #[.pointer (some ⟨R, 0, none⟩), .int .i64 i, .string s] w (RLaid base w R M1 M2 c f1 u D ⟨D.n, laidP D i.toNat s, D.off, dec D.left⟩) := by
  obtain ⟨n, P, off, left⟩ := D
  obtain ⟨c0, c1, c2, c3, c4, g1, g2, g4⟩ := hd.cells
  obtain ⟨ho, hin, hs⟩ := canLay_yes hc
  have CS := Lib.hid (rstep_ok hd h0)
  obtain ⟨k, rfl, hk⟩ := inB_nat hin
  simp only at ho hk hl c0 c2 CS ⊢
  subst ho
  have h2 : ¬ (128 : Int) < (s.size : Nat) := by omega
  have h3 : ¬ 128 < s.size := by omega
  have n1 : ¬ ((n : Nat) : Int) ≤ (k : Nat) := by omega
  have n0 : ¬ ((k : Nat) : Int) < 0 := by omega
  have n2 : ¬ n ≤ k := by omega
  have HL := Lib.hid (hl k hk)
  have HK := Lib.hid hk
  have HS := Lib.hid hs
  clear hd c1 c3 c4 g1 g2 g4 hin hc hk h0 hs hl
  go_enter Try.func14, Try.ntmps14
  go_wp2_with fail
  refine CS.out.mono ?_
  rintro e w1 ⟨rfl, d1, g1⟩
  have D1 := Lib.hid d1
  have G1 := Lib.hid g1
  clear d1 g1 CS
  obtain ⟨a, cc, hu, hlc, hcm, _⟩ := rowr_at (D1.out.k2 k HK.out).2
  have lk0 : ∀ w', Below w1.heap.size w1 w' → w'.cell? ⟨R, 4, none⟩ = some (.map (some M2)) ∧ (Instr.lookup 40 (.map (some M2)) (.int .i64 (k : Nat)) false).run Try.prog w' = .ok (.slice a (P k).l.length cc) w' := fun w' hb => by
    have h := D1.out.below hb
    refine ⟨h.cells.2.2.2.2.1, ?_⟩
    have := look2 h (i := k) HK.out
    rw [hu] at this
    exact this
  have LK := Lib.hid lk0
  have RW : Hid (∀ w', Below w1.heap.size w1 w' → Rk.RowK 1 w' (.slice a (P k).l.length cc) (cellsT (P k).l)) := fun w' hb => by
    have := ((D1.out.below hb).k2 k HK.out).2
    rw [hu] at this
    exact this
  have HFB := Lib.hid (fun w5 => full_any s w5 HS.out)
  have FP : Hid (∀ (v9 : Value) (w9 : World), Below w1.heap.size w1 w9 → Row0 w1.heap.size w9 v9 ((P k).l ++ [fullB s]) → ∃ w10, (Instr.mapUpdate 40 (.map (some M2)) (.int .i64 (k : Nat)) v9).run Try.prog w9 = .ok () w10 ∧ Hid (w10.cell? ⟨R, 4, none⟩ = some (.map (some M2))) ∧ Hid (RLaid base w R M1 M2 c f1 u ⟨n, P, false, left⟩ ⟨n, laidP ⟨n, P, false, left⟩ (k : Int).toNat s, false, dec left⟩ (.returned (.bool true)) w10)) := fun v9 w9 hb o9 => by
    obtain ⟨w10, hr, q1, q2, q3⟩ := D1.out.lay hcc HK.out hb v9 _ (by simp) o9 (fullB s) rfl
    refine ⟨w10, hr, q1.cells.2.2.2.2.1, rfl, _, _, q1, ?_, ?_⟩
    · exact (G1.out.mono (fun g e => .inl e)).trans q2 (fun g h => .inl h)
    · intro g h
      rcases q3 g h with h | h
      · exact .inl h
      · exact .inr (Nat.le_trans G1.out.size h)
  have H2 : Hid ((P k).l.length + 1 ≤ 100000) := by show _ ≤ _; have := HL.out; omega
  clear hu lk0 c0 c2
  generalize (P k).l = l at *
  obtain ⟨m, hm⟩ : ∃ m, m = l.length := ⟨_, rfl⟩
  have HM := Lib.hid hm
  rw [← hm] at hlc LK RW H2
  clear hm
  go_upto_region 3 with fail
  have KS : Hid (∀ w', Below w1.heap.size w1 w' → w'.cell? ⟨R, 4, none⟩ = some (.map (some M2))) := fun w' hb => (LK.out w' hb).1
  have la1 := (LK.out w1.drew (Below.drew (Below.refl _ _))).2
  have la2 := (LK.out (w1.alloc (.cells #[] 9)).drew (Below.drew (below_al (Below.refl _ _) _))).2
  have HML : Hid (m ≤ 100000) := by show _ ≤ _; have := H2.out; omega
  have HML2 : Hid (l.length + [fullB s].length ≤ 100000) := by show _ ≤ _; rw [← HM.out]; exact H2.out
  have HML1 : Hid (l.length ≤ 100000) := by show _ ≤ _; rw [← HM.out]; exact HML.out
  have HR1 : Hid (∀ {w' : World} {b : Nat}, w'.heap[b]? = some (.cells #[.string (fullB s)] 9 (0, 0)) → Rk.RowK 1 w' (.slice (some ⟨b, 0, none⟩) 1 1) (cellsT [fullB s])) := fun h => Rk.row_one (e := 9) h rfl
  go_region_held3 (fun w' => w'.cell? ⟨R, 4, none⟩ = some (.map (some M2)))
    ((first | exact C10.out | (refine KS.out _ ?_; focus ((repeat first | with_reducible assumption | with_reducible exact Below.refl _ _ | with_reducible exact K9.out | with_reducible exact K6.out | with_reducible exact K5.out | with_reducible apply Below.drew | with_reducible apply below_drews | with_reducible apply below_al); done))))
    (first
      | (refine step_append_e rfl _ _ rfl w1.heap.size _ _ l rfl rfl ?_ HML1.out ?_ ?_; (focus (refine RW.out _ ?_; (repeat first | with_reducible exact Below.refl _ _ | with_reducible exact K6.out | with_reducible exact K5.out | with_reducible apply Below.drew | with_reducible apply below_drews | with_reducible apply below_al); done)); (focus (refine Below.size (B := w1.heap.size) ?_; (repeat first | with_reducible exact Below.refl _ _ | with_reducible exact K6.out | with_reducible exact K5.out | with_reducible apply Below.drew | with_reducible apply below_drews | with_reducible apply below_al); done)); intro v5 w5 o5 b5 e5; have k5 : Below w1.heap.size w1 w5 := below_on (by (repeat first | with_reducible exact Below.refl _ _ | with_reducible exact K6.out | with_reducible exact K5.out | with_reducible apply Below.drew | with_reducible apply below_drews | with_reducible apply below_al)) b5; (first | (have RB : Hid (w5.heap[w6.heap.size]? = some (.cells #[.string (fullB s)] 9 (0, 0))) := (b5.block _ (by simp)).trans (by first | exact heap_alloc_new _ _ | (simp; done))) | skip); have O5 : Hid (∀ w', Below w5.heap.size w5 w' → Row0 w1.heap.size w' v5 l) := fun w' hb => o5.below hb; have K5 := Lib.hid k5; obtain ⟨a5, c5, rfl⟩ := e5; clear k5 o5 b5)
      | (refine step_append0 rfl _ _ rfl w1.heap.size _ _ l [fullB s] rfl rfl ?_ ?_ HML2.out ?_ ?_; (focus (refine O5.out _ ?_; (repeat first | with_reducible exact Below.refl _ _ | with_reducible exact J6.out | with_reducible apply Below.drew | with_reducible apply below_drews | with_reducible apply below_al); done)); (focus (refine HR1.out ?_; first | exact RB.out | exact heap_alloc_new _ _ | (simp; done))); (focus (refine Below.size (B := w1.heap.size) ?_; (repeat first | with_reducible exact Below.refl _ _ | with_reducible exact K6.out | with_reducible exact K5.out | with_reducible apply Below.drew | with_reducible apply below_drews | with_reducible apply below_al); done)); intro v9 w9 o9 b9 e9; have k9 : Below w1.heap.size w1 w9 := (show Below w1.heap.size w1 _ by (repeat first | with_reducible exact Below.refl _ _ | with_reducible exact K6.out | with_reducible exact K5.out | with_reducible apply Below.drew | with_reducible apply below_drews | with_reducible apply below_al)).trans b9; obtain ⟨w10, hr, C10, FX⟩ := FP.out v9 w9 k9 o9; obtain ⟨a9, c9, rfl⟩ := (show ∃ a c, v9 = .slice a (l.length + 1) c from e9); have K9 := Lib.hid k9; clear k9 o9 b9)
      | (refine step_call rfl 30 _ _ rfl (enters_of Try.func30 (by kernel_rfl) rfl) [.string s] rfl _ (HFB.out _) ?_; rintro e w6 ⟨rfl, b6⟩; refine ⟨_, rfl, ?_⟩; have k6 : Below w1.heap.size w1 w6 := below_on (by (repeat first | with_reducible exact Below.refl _ _ | with_reducible exact K6.out | with_reducible exact K5.out | with_reducible apply Below.drew | with_reducible apply below_drews | with_reducible apply below_al)) b6; (first | (have J6 : Hid (Below w5.heap.size w5 w6) := below_on (by (repeat first | with_reducible exact Below.refl _ _ | with_reducible exact KZ.out | with_reducible exact KZ.out | with_reducible apply Below.drew | with_reducible apply below_drews | with_reducible apply below_al)) b6) | skip); have K6 := Lib.hid k6; have lb1 := (LK.out w6 k6).2; have lb2 := (LK.out (w6.alloc (.cells #[] 9)) (below_al k6 _)).2; have lb3 := (LK.out (w6.alloc (.cells #[.string (fullB s)] 9)) (below_al k6 _)).2; have lb4 := (LK.out ((w6.alloc (.cells #[.string (fullB s)] 9)).alloc (.cells #[] 9)) (below_al (below_al k6 _) _)).2; have lb5 := (LK.out ((w6.alloc (.cells #[] 9)).alloc (.cells #[.string (fullB s)] 9)) (below_al (below_al k6 _) _)).2; clear k6 b6))
  all_goals go_wp2_with fail
  all_goals go_ret
  all_goals exact FX.out
end
end Go.Proofs.Ytegnpkolmnmeiaa.Plt
