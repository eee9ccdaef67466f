/- For every list of pieces, every number and every two numbers: ViewBack answers true, and its arguments read behind the call as before. No condition. -/
import Derived.Test.YtcpdoicbekcpeaaRows
import Derived.Test.YtcpdoicbekcpeaaLift
import Derived.Test.YtcpdoicbekcpeaaVm
import Derived.Deep.RegionHeld3
set_option linter.unusedVariables false
namespace Go.Proofs.Ytcpdoicbekcpeaa.viewBack
open Go.ChangeShapes Go.WideShapes Go.ChangeAt Go.RowKit Go.Lib Go.Proofs.Ytcpdoicbekcpeaa.Lift Go.Proofs.Ytcpdoicbekcpeaa.Rk Go.Proofs.Ytcpdoicbekcpeaa.Vi
open Go.ChangeMaps (open_string shut_string)

theorem own : ownKnob Try.prog.godebug = none := by kernel_rfl
theorem laidOut : laidOutB Try.prog = true := by kernel_rfl

theorem threeO : ofs threeP 2 9 0 = (4, true) := by decide +kernel
theorem nodup_take {A : List Pc} {k : Nat} (hk : k < A.length) (h : ((A.take k).map Pc.i).Nodup) (hn : hasId (A.take k) A[k].i = false) : ((A.take (k + 1)).map Pc.i).Nodup := by
  rw [List.take_succ_eq_append_getElem hk, List.map_append, List.nodup_append]
  refine ⟨h, by simp, fun a ha b hb => ?_⟩
  simp at hb
  subst hb
  rintro rfl
  obtain ⟨y, hy, e⟩ := List.mem_map.1 ha
  have : hasId (A.take k) A[k].i = true := List.any_eq_true.2 ⟨y, hy, by simp [e]⟩
  rw [hn] at this
  cases this
set_option maxHeartbeats 16000000 in
theorem walk {w : World} (v : Value) (A : List Pc) (h : Pcs w v A) (t : Int) (_ : -9223372036854775808 ≤ t) (_ : t ≤ 9223372036854775807) (x z : Int) (hx1 : -9223372036854775808 ≤ x) (hx2 : x ≤ 9223372036854775807) (_ : -9223372036854775808 ≤ z) (_ : z ≤ 9223372036854775807) :
    Calls Try.prog 5 #[v, .int .i64 t, .agg #[.int .i64 x, .int .i64 z]] w fun e w' => e = .returned (.bool true) ∧ Below w.heap.size w w' := by
  have HX : Hid (in64 x) := ⟨hx1, hx2⟩
  obtain ⟨B0, R0, L0⟩ := vbox w #[.int .i64 x, .int .i64 z] 32
  obtain ⟨W0, hW0⟩ : ∃ W0, W0 = w.alloc (.cells #[.int .i64 x, .int .i64 z] 32) := ⟨_, rfl⟩
  rw [← hW0] at B0 R0 L0
  have HW0 := Lib.hid hW0
  have HB0 := Lib.hid B0
  have HR0 : Hid (∀ w', Below W0.heap.size W0 w' → w'.cell? ⟨w.heap.size, 0, none⟩ = some (.int .i64 x) ∧ w'.cell? ⟨w.heap.size, 1, none⟩ = some (.int .i64 z)) := fun w' hb => by
    have := vkeep hb (by omega) R0
    constructor <;> (rw [cell_of_row _ _ _ _ _ _ this]; rfl)
  have HP0 : Hid (Pcs W0 v A) := h.below B0 (Nat.le_refl _)
  have HP : Hid (∀ w', Below W0.heap.size W0 w' → Pcs w' v A) := fun w' hb => HP0.out.below hb (Nat.le_refl _)
  have hmm := @run_makeMap Try.prog
  obtain ⟨a, cap, rfl, hl, hm, hel⟩ := HP0.out.open_
  have HE := Lib.hid hel
  have HF : Hid (∀ w', Below W0.heap.size W0 w' → Below w.heap.size w w') := fun w' hb => below_more' HB0.out hb
  clear h hel hW0 B0 R0 L0 hx1 hx2
  go_enter Try.func5, Try.ntmps5
  go_upto_region 1 with fail
  rw [← HW0.out]
  go_wp2_with fail
  refine (three_any _).mono ?_
  rintro e w1 ⟨u, rfl, p1, b1⟩
  obtain ⟨ua, uc, rfl, _⟩ := p1.open_
  have C1 := Offset_any 2 9 w1 p1 three_right
  rw [threeO] at C1
  simp only at C1
  have HB1 := Lib.hid b1
  clear b1 p1
  go_wp2_with fail
  refine C1.mono ?_
  rintro e w2 ⟨rfl, b2⟩
  have HB2 := Lib.hid (below_more' HB1.out b2)
  clear b2 C1
  go_wp2_with fail
  refine (right_any _ (HP.out _ HB2.out)).mono ?_
  rintro e w3 ⟨b, rfl, hr, b3⟩
  have HB3 := Lib.hid (below_more' HB2.out b3)
  clear b3
  cases b with
  | false =>
    go_wp2_with fail
    go_ret
    exact ⟨by simp, HF.out _ HB3.out⟩
  | true =>
    replace hr := hr rfl
    have HR := Lib.hid hr
    clear hr
    obtain ⟨n, hn⟩ : ∃ n, n = A.length := ⟨_, rfl⟩
    rw [← hn] at HP hl ⊢
    have HN := Lib.hid hn
    have HPz := Lib.hid HP0.out
    clear hn HP0
    unfold maxLen at hm
    have HM0 : Hid (SeenM (w3.alloc (.map #[] 0)) w3.heap.size 0 []) := seen_made w3
    have HBm : Hid (Below W0.heap.size W0 (w3.alloc (.map #[] 0))) := HB3.out.alloc HB3.out.size _
    obtain ⟨B, hB⟩ : ∃ B, B = w3.heap.size := ⟨_, rfl⟩
    have HBB : Hid (W0.heap.size ≤ B) := by show _ ≤ _; rw [hB]; exact HB3.out.size
    rw [← hB] at HM0
    go_upto_region 7 with fail
    rw [← hB]
    clear hB
    go_wp2_with fail
    go_loopg [41] n (fun g i wr => ∃ k : Nat, k ≤ n ∧ n - k ≤ g ∧ i = .int .i64 k ∧ Hid (SeenM wr B k (A.take k)) ∧ Hid (((A.take k).map Pc.i).Nodup) ∧ Below W0.heap.size W0 wr)
    case atStart => exact ⟨0, Nat.zero_le _, by omega, rfl, HM0, (by show List.Nodup _; simp), HBm.out⟩
    case round =>
      obtain ⟨k, hk, hg, rfl, HM, HD, hbel⟩ := hrel
      by_cases hlt : k < n
      · have hkl : k < A.length := by rw [← HN.out]; exact hlt
        obtain ⟨b, off, rfl, hb, hgd, c0, c1, c2, c3⟩ := HE.out k hkl
        have hnd := nodup_take hkl HD.out
        have EQ : Hid (A.take (k + 1) = A.take k ++ [A[k]]) := List.take_succ_eq_append_getElem hkl
        have hyi := hgd.1
        generalize A[k] = y at *
        obtain ⟨yi, yl, yn, yo⟩ := y
        simp only at c0 c1 c2 c3 hnd hyi
        replace c0 := vcell hbel hb c0
        replace c1 := vcell hbel hb c1
        replace c2 := vcell hbel hb c2
        replace c3 := vcell hbel hb c3
        obtain ⟨B1, R1, L1⟩ := vbox wr #[.int .i64 yi, .int .i64 yl, .int .i64 yn, .bool yo] 35
        obtain ⟨W1, hW1⟩ : ∃ W1, W1 = wr.alloc (.cells #[.int .i64 yi, .int .i64 yl, .int .i64 yn, .bool yo] 35) := ⟨_, rfl⟩
        rw [← hW1] at B1 R1 L1
        have HW1 := Lib.hid hW1
        have HBy := Lib.hid (below_more' hbel B1)
        obtain ⟨d0, d1, d2, d3⟩ := v4cells R1
        have HM1 : Hid (SeenM W1 B k (A.take k)) := seen_below HM.out B1
        have LK := seen_look HM1.out hyi
        have HYI := Lib.hid hyi
        have HND := Lib.hid hnd
        have i1 : (k : Int) < (n : Int) := by omega
        clear hbel HE hgd hW1 B1 R1 L1 hyi hnd HM hmm
        cases hq : hasId (A.take k) yi with
        | true =>
          rw [hq] at LK
          clear hq
          go_upto_region 10 with fail
          rw [← HW1.out]
          clear c0 c1 c2 c3
          go_wp2_with fail
          go_ret
          exact ⟨by simp, HF.out _ HBy.out⟩
        | false =>
          rw [hq] at LK
          have HND2 := Lib.hid (HND.out hq)
          obtain ⟨D, hown, hmap, hat⟩ := HM1.out
          have HO := Lib.hid hown
          have HA := Lib.hid (And.intro hmap hat)
          have hk9 : Hid (k < maxLen) := by show _ < _; unfold maxLen; omega
          clear hq HND HM1 hown hmap hat
          go_upto_region 10 with fail
          rw [← HW1.out]
          clear c0 c1 c2 c3
          go_wp2_with (at_mapUpdate; refine wpList_mapUpdate_own _ rfl _ _ _ 33 rfl 3 4 klaw Try.underlying33 _ B k _ rfl HO.out hk9.out _ _ _ rfl rfl (keyI HYI.out) _ [] (plainElem_bool Try.underlying4 true) ?_)
          intro w5 hown5 hg5
          have HM5 : Hid (SeenM w5 B (k + 1) (A.take (k + 1))) := by show SeenM _ _ _ _; rw [EQ.out]; exact seen_put (y := ⟨yi, yl, yn, yo⟩) HA.out.1 HA.out.2 HYI.out hown5
          have HB5 : Hid (Below W0.heap.size W0 w5) := HBy.out.grown hg5 HBy.out.size (fun j hj => by cases hj; exact HBB.out)
          clear hown5 hg5 HO HA d0 d1 d2 d3 LK
          go_wp2_with fail
          go_roundg (n - (k + 1))
          case measure => omega
          case rel => exact ⟨k + 1, by omega, Nat.le_refl _, by go_num, HM5, HND2, HB5.out⟩
      · obtain rfl : k = n := by omega
        have i1 : ¬ ((k : Int) < (k : Int)) := by omega
        have ek : A.take k = A := by rw [HN.out, List.take_length]
        rw [ek] at HM HD
        have HBk := Lib.hid hbel
        clear hbel HE ek hmm
        obtain ⟨W9, hW9⟩ : ∃ W9, W9 = wid A := ⟨_, rfl⟩
        obtain ⟨v1, v2⟩ := wid_all HR.out
        have CW : Hid (∀ w', Below W0.heap.size W0 w' → Calls Try.prog 8 #[.slice a k cap] w' fun e w'' => e = .returned (.int .i64 W9) ∧ Below w'.heap.size w' w'') := fun w' hb => by rw [hW9]; exact Width_any w' (HP.out w' hb) HR.out
        have CA : Hid (∀ (q : Int) w', Below W0.heap.size W0 w' → Calls Try.prog 6 #[.slice a k cap, .int .i64 q] w' fun e w'' => e = .returned (.tuple #[.int .i64 (adr A (clampI q W9)).1, .int .i64 (adr A (clampI q W9)).2.1, .bool (adr A (clampI q W9)).2.2]) ∧ Below w'.heap.size w' w'') := fun q w' hb => by rw [hW9]; exact Address_any q w' (HP.out w' hb) HR.out
        have CO : Hid (∀ (q r : Int) w', Below W0.heap.size W0 w' → Calls Try.prog 12 #[.slice a k cap, .int .i64 q, .int .i64 r] w' fun e w'' => e = .returned (.tuple #[.int .i64 (ofs A q r 0).1, .bool (ofs A q r 0).2]) ∧ Below w'.heap.size w' w'') := fun q r w' hb => Offset_any q r w' (HP.out w' hb) HR.out
        have TB : Hid (∀ q, 0 ≤ q → q ≤ W9 → A ≠ [] → ∃ id u, adr A q = (id, u, true) ∧ ofs A id u 0 = (q, true)) := fun q h0 h1 hne => by
          obtain ⟨id, u, e1, _, e3⟩ := there_back A q 0 (wide_pos HR.out) HD.out hne h0 (by rw [← hW9]; exact h1)
          exact ⟨id, u, e1, by rw [e3, Int.zero_add]⟩
        have OH : Hid ((ofs A x z 0).2 = hasId A x ∧ ((ofs A x z 0).2 = true → 0 ≤ (ofs A x z 0).1 ∧ (ofs A x z 0).1 ≤ W9)) := by
          have := ofs_has A x z 0 (wide_pos HR.out)
          rw [← hW9, Int.zero_add] at this
          exact this
        rw [← hW9] at v1 v2
        obtain ⟨o, hO⟩ : ∃ o, o = clampI t W9 := ⟨_, rfl⟩
        have ho0 := clamp_in (n := t) v1
        rw [← hO] at ho0
        have CA1 := fun w' hb => CA.out t w' hb
        simp only [← hO] at CA1
        replace CA1 := Lib.hid CA1
        have n0 : ¬ W9 < 0 := by omega
        have HC : (t < 0 ∧ 0 = o) ∨ (¬ t < 0 ∧ W9 < t ∧ W9 = o) ∨ (¬ t < 0 ∧ ¬ W9 < t ∧ t = o) := by
          rw [hO]
          unfold clampI
          by_cases h1 : t < 0
          · left; omega
          · right
            by_cases h2 : W9 < t
            · left; omega
            · right; omega
        have SM : Hid (∀ w', Below wr.heap.size wr w' → SeenM w' B k A) := fun w' hb => seen_below HM.out hb
        have SB : Hid (∀ w', Below wr.heap.size wr w' → Below W0.heap.size W0 w') := fun w' hb => below_more' HBk.out hb
        clear hW9 hO HM HD HP HR
        -- what the offset's address is, and where that is
        have HE0 : (A = [] ∧ k = 0) ∨ (A ≠ [] ∧ 0 < k) := by
          rcases Nat.eq_zero_or_pos k with e | e
          · left; exact ⟨List.eq_nil_of_length_eq_zero (by rw [← HN.out]; exact e), e⟩
          · right; exact ⟨fun q => by rw [HN.out, q] at e; simp at e, e⟩
        rcases HC with ⟨g1, rfl⟩ | ⟨g1, g2, rfl⟩ | ⟨g1, g2, rfl⟩
        · go_wp2_with fail
          refine (CW.out _ (SB.out _ (Below.refl _ _))).mono ?_
          rintro e w4 ⟨rfl, b4⟩
          have K4 := Lib.hid b4
          clear b4
          go_wp2_with fail
          refine (CA1.out _ (SB.out _ K4.out)).mono ?_
          rintro e w5 ⟨rfl, b5⟩
          have K5 := Lib.hid (below_more' K4.out b5)
          clear b5 CA1
          rcases HE0 with ⟨hA, hk0⟩ | ⟨hA, hk0⟩
          · -- no pieces
            subst hk0
            subst hA
            have ea : ∀ q, adr [] q = (0, 0, false) := fun q => rfl
            have eo : ∀ q r s, ofs [] q r s = (0, false) := fun q r s => rfl
            simp only [ea]
            have CO1 := fun w' hb => CO.out 0 0 w' hb
            have CO2 := fun w' hb => CO.out x z w' hb
            simp only [eo] at CO1 CO2
            replace CO1 := Lib.hid CO1
            replace CO2 := Lib.hid CO2
            go_wp2_with fail
            refine (CO1.out _ (SB.out _ K5.out)).mono ?_
            rintro e w6 ⟨rfl, b6⟩
            have K6 := Lib.hid (below_more' K5.out b6)
            clear b6
            obtain ⟨x0, x1⟩ := HR0.out _ (SB.out _ K6.out)
            go_wp2_with fail
            refine (CO2.out _ (SB.out _ K6.out)).mono ?_
            rintro e w7 ⟨rfl, b7⟩
            have K7 := Lib.hid (below_more' K6.out b7)
            clear b7 x0 x1
            obtain ⟨x0, x1⟩ := HR0.out _ (SB.out _ K7.out)
            have LK := seen_look (SM.out _ K7.out) HX.out
            have eh : hasId [] x = false := rfl
            rw [eh] at LK
            go_wp2_with fail
            go_ret
            exact ⟨by simp, HF.out _ (SB.out _ K7.out)⟩
          · obtain ⟨id, u, ea, eo⟩ := TB.out 0 ho0.1 ho0.2 hA
            simp only [ea]
            have CO1 := fun w' hb => CO.out id u w' hb
            simp only [eo] at CO1
            replace CO1 := Lib.hid CO1
            have i3 : decide ((0 : Int) < (k : Int)) = true := decide_eq_true (by omega)
            have i4 : decide (0 < k) = true := decide_eq_true hk0
            have HAn := Lib.hid hA
            clear ea eo hA hk0
            go_wp2_with fail
            refine (CO1.out _ (SB.out _ K5.out)).mono ?_
            rintro e w6 ⟨rfl, b6⟩
            have K6 := Lib.hid (below_more' K5.out b6)
            clear b6
            obtain ⟨x0, x1⟩ := HR0.out _ (SB.out _ K6.out)
            have CO2 := fun w' hb => CO.out x z w' hb
            obtain ⟨o1, o2⟩ := OH.out
            rw [o1] at CO2 o2
            generalize (ofs A x z 0).1 = s1 at CO2 o2
            replace CO2 := Lib.hid CO2
            cases hq : hasId A x with
            | false =>
              rw [hq] at CO2
              go_wp2_with fail
              refine (CO2.out _ (SB.out _ K6.out)).mono ?_
              rintro e w7 ⟨rfl, b7⟩
              have K7 := Lib.hid (below_more' K6.out b7)
              clear b7 x0 x1
              obtain ⟨x0, x1⟩ := HR0.out _ (SB.out _ K7.out)
              have LK := seen_look (SM.out _ K7.out) HX.out
              rw [hq] at LK
              clear hq o1 o2
              go_wp2_with fail
              go_ret
              exact ⟨by simp, HF.out _ (SB.out _ K7.out)⟩
            | true =>
              rw [hq] at CO2 o2
              obtain ⟨s2, s3⟩ := o2 rfl
              obtain ⟨id2, u2, ea2, eo2⟩ := TB.out s1 s2 s3 HAn.out
              have CA2 := fun w' hb => CA.out s1 w' hb
              have ec : clampI s1 W9 = s1 := by unfold clampI; omega
              rw [ec, ea2] at CA2
              simp only at CA2
              replace CA2 := Lib.hid CA2
              have CO3 := fun w' hb => CO.out id2 u2 w' hb
              rw [eo2] at CO3
              simp only at CO3
              replace CO3 := Lib.hid CO3
              have j1 : decide (0 ≤ s1) = true := decide_eq_true s2
              have j2 : decide (s1 ≤ W9) = true := decide_eq_true s3
              clear hq o1 o2 ea2 eo2 ec
              go_wp2_with fail
              refine (CO2.out _ (SB.out _ K6.out)).mono ?_
              rintro e w7 ⟨rfl, b7⟩
              have K7 := Lib.hid (below_more' K6.out b7)
              clear b7 x0 x1
              go_wp2_with fail
              refine (CA2.out _ (SB.out _ K7.out)).mono ?_
              rintro e w8 ⟨rfl, b8⟩
              have K8 := Lib.hid (below_more' K7.out b8)
              clear b8
              go_wp2_with fail
              refine (CO3.out _ (SB.out _ K8.out)).mono ?_
              rintro e w9 ⟨rfl, b9⟩
              have K9 := Lib.hid (below_more' K8.out b9)
              clear b9
              go_wp2_with fail
              refine (CW.out _ (SB.out _ K9.out)).mono ?_
              rintro e w10 ⟨rfl, b10⟩
              have K10 := Lib.hid (below_more' K9.out b10)
              clear b10
              go_wp2_with fail
              go_ret
              exact ⟨by simp, HF.out _ (SB.out _ K10.out)⟩
        · go_wp2_with fail
          refine (CW.out _ (SB.out _ (Below.refl _ _))).mono ?_
          rintro e w4 ⟨rfl, b4⟩
          have K4 := Lib.hid b4
          clear b4
          go_wp2_with fail
          refine (CA1.out _ (SB.out _ K4.out)).mono ?_
          rintro e w5 ⟨rfl, b5⟩
          have K5 := Lib.hid (below_more' K4.out b5)
          clear b5 CA1
          rcases HE0 with ⟨hA, hk0⟩ | ⟨hA, hk0⟩
          · -- no pieces
            subst hk0
            subst hA
            have ea : ∀ q, adr [] q = (0, 0, false) := fun q => rfl
            have eo : ∀ q r s, ofs [] q r s = (0, false) := fun q r s => rfl
            simp only [ea]
            have CO1 := fun w' hb => CO.out 0 0 w' hb
            have CO2 := fun w' hb => CO.out x z w' hb
            simp only [eo] at CO1 CO2
            replace CO1 := Lib.hid CO1
            replace CO2 := Lib.hid CO2
            go_wp2_with fail
            refine (CO1.out _ (SB.out _ K5.out)).mono ?_
            rintro e w6 ⟨rfl, b6⟩
            have K6 := Lib.hid (below_more' K5.out b6)
            clear b6
            obtain ⟨x0, x1⟩ := HR0.out _ (SB.out _ K6.out)
            go_wp2_with fail
            refine (CO2.out _ (SB.out _ K6.out)).mono ?_
            rintro e w7 ⟨rfl, b7⟩
            have K7 := Lib.hid (below_more' K6.out b7)
            clear b7 x0 x1
            obtain ⟨x0, x1⟩ := HR0.out _ (SB.out _ K7.out)
            have LK := seen_look (SM.out _ K7.out) HX.out
            have eh : hasId [] x = false := rfl
            rw [eh] at LK
            go_wp2_with fail
            go_ret
            exact ⟨by simp, HF.out _ (SB.out _ K7.out)⟩
          · obtain ⟨id, u, ea, eo⟩ := TB.out W9 ho0.1 ho0.2 hA
            simp only [ea]
            have CO1 := fun w' hb => CO.out id u w' hb
            simp only [eo] at CO1
            replace CO1 := Lib.hid CO1
            have i3 : decide ((0 : Int) < (k : Int)) = true := decide_eq_true (by omega)
            have i4 : decide (0 < k) = true := decide_eq_true hk0
            have HAn := Lib.hid hA
            clear ea eo hA hk0
            go_wp2_with fail
            refine (CO1.out _ (SB.out _ K5.out)).mono ?_
            rintro e w6 ⟨rfl, b6⟩
            have K6 := Lib.hid (below_more' K5.out b6)
            clear b6
            obtain ⟨x0, x1⟩ := HR0.out _ (SB.out _ K6.out)
            have CO2 := fun w' hb => CO.out x z w' hb
            obtain ⟨o1, o2⟩ := OH.out
            rw [o1] at CO2 o2
            generalize (ofs A x z 0).1 = s1 at CO2 o2
            replace CO2 := Lib.hid CO2
            cases hq : hasId A x with
            | false =>
              rw [hq] at CO2
              go_wp2_with fail
              refine (CO2.out _ (SB.out _ K6.out)).mono ?_
              rintro e w7 ⟨rfl, b7⟩
              have K7 := Lib.hid (below_more' K6.out b7)
              clear b7 x0 x1
              obtain ⟨x0, x1⟩ := HR0.out _ (SB.out _ K7.out)
              have LK := seen_look (SM.out _ K7.out) HX.out
              rw [hq] at LK
              clear hq o1 o2
              go_wp2_with fail
              go_ret
              exact ⟨by simp, HF.out _ (SB.out _ K7.out)⟩
            | true =>
              rw [hq] at CO2 o2
              obtain ⟨s2, s3⟩ := o2 rfl
              obtain ⟨id2, u2, ea2, eo2⟩ := TB.out s1 s2 s3 HAn.out
              have CA2 := fun w' hb => CA.out s1 w' hb
              have ec : clampI s1 W9 = s1 := by unfold clampI; omega
              rw [ec, ea2] at CA2
              simp only at CA2
              replace CA2 := Lib.hid CA2
              have CO3 := fun w' hb => CO.out id2 u2 w' hb
              rw [eo2] at CO3
              simp only at CO3
              replace CO3 := Lib.hid CO3
              have j1 : decide (0 ≤ s1) = true := decide_eq_true s2
              have j2 : decide (s1 ≤ W9) = true := decide_eq_true s3
              clear hq o1 o2 ea2 eo2 ec
              go_wp2_with fail
              refine (CO2.out _ (SB.out _ K6.out)).mono ?_
              rintro e w7 ⟨rfl, b7⟩
              have K7 := Lib.hid (below_more' K6.out b7)
              clear b7 x0 x1
              go_wp2_with fail
              refine (CA2.out _ (SB.out _ K7.out)).mono ?_
              rintro e w8 ⟨rfl, b8⟩
              have K8 := Lib.hid (below_more' K7.out b8)
              clear b8
              go_wp2_with fail
              refine (CO3.out _ (SB.out _ K8.out)).mono ?_
              rintro e w9 ⟨rfl, b9⟩
              have K9 := Lib.hid (below_more' K8.out b9)
              clear b9
              go_wp2_with fail
              refine (CW.out _ (SB.out _ K9.out)).mono ?_
              rintro e w10 ⟨rfl, b10⟩
              have K10 := Lib.hid (below_more' K9.out b10)
              clear b10
              go_wp2_with fail
              go_ret
              exact ⟨by simp, HF.out _ (SB.out _ K10.out)⟩
        · go_wp2_with fail
          refine (CW.out _ (SB.out _ (Below.refl _ _))).mono ?_
          rintro e w4 ⟨rfl, b4⟩
          have K4 := Lib.hid b4
          clear b4
          go_wp2_with fail
          refine (CA1.out _ (SB.out _ K4.out)).mono ?_
          rintro e w5 ⟨rfl, b5⟩
          have K5 := Lib.hid (below_more' K4.out b5)
          clear b5 CA1
          rcases HE0 with ⟨hA, hk0⟩ | ⟨hA, hk0⟩
          · -- no pieces
            subst hk0
            subst hA
            have ea : ∀ q, adr [] q = (0, 0, false) := fun q => rfl
            have eo : ∀ q r s, ofs [] q r s = (0, false) := fun q r s => rfl
            simp only [ea]
            have CO1 := fun w' hb => CO.out 0 0 w' hb
            have CO2 := fun w' hb => CO.out x z w' hb
            simp only [eo] at CO1 CO2
            replace CO1 := Lib.hid CO1
            replace CO2 := Lib.hid CO2
            go_wp2_with fail
            refine (CO1.out _ (SB.out _ K5.out)).mono ?_
            rintro e w6 ⟨rfl, b6⟩
            have K6 := Lib.hid (below_more' K5.out b6)
            clear b6
            obtain ⟨x0, x1⟩ := HR0.out _ (SB.out _ K6.out)
            go_wp2_with fail
            refine (CO2.out _ (SB.out _ K6.out)).mono ?_
            rintro e w7 ⟨rfl, b7⟩
            have K7 := Lib.hid (below_more' K6.out b7)
            clear b7 x0 x1
            obtain ⟨x0, x1⟩ := HR0.out _ (SB.out _ K7.out)
            have LK := seen_look (SM.out _ K7.out) HX.out
            have eh : hasId [] x = false := rfl
            rw [eh] at LK
            go_wp2_with fail
            go_ret
            exact ⟨by simp, HF.out _ (SB.out _ K7.out)⟩
          · obtain ⟨id, u, ea, eo⟩ := TB.out t ho0.1 ho0.2 hA
            simp only [ea]
            have CO1 := fun w' hb => CO.out id u w' hb
            simp only [eo] at CO1
            replace CO1 := Lib.hid CO1
            have i3 : decide ((0 : Int) < (k : Int)) = true := decide_eq_true (by omega)
            have i4 : decide (0 < k) = true := decide_eq_true hk0
            have HAn := Lib.hid hA
            clear ea eo hA hk0
            go_wp2_with fail
            refine (CO1.out _ (SB.out _ K5.out)).mono ?_
            rintro e w6 ⟨rfl, b6⟩
            have K6 := Lib.hid (below_more' K5.out b6)
            clear b6
            obtain ⟨x0, x1⟩ := HR0.out _ (SB.out _ K6.out)
            have CO2 := fun w' hb => CO.out x z w' hb
            obtain ⟨o1, o2⟩ := OH.out
            rw [o1] at CO2 o2
            generalize (ofs A x z 0).1 = s1 at CO2 o2
            replace CO2 := Lib.hid CO2
            cases hq : hasId A x with
            | false =>
              rw [hq] at CO2
              go_wp2_with fail
              refine (CO2.out _ (SB.out _ K6.out)).mono ?_
              rintro e w7 ⟨rfl, b7⟩
              have K7 := Lib.hid (below_more' K6.out b7)
              clear b7 x0 x1
              obtain ⟨x0, x1⟩ := HR0.out _ (SB.out _ K7.out)
              have LK := seen_look (SM.out _ K7.out) HX.out
              rw [hq] at LK
              clear hq o1 o2
              go_wp2_with fail
              go_ret
              exact ⟨by simp, HF.out _ (SB.out _ K7.out)⟩
            | true =>
              rw [hq] at CO2 o2
              obtain ⟨s2, s3⟩ := o2 rfl
              obtain ⟨id2, u2, ea2, eo2⟩ := TB.out s1 s2 s3 HAn.out
              have CA2 := fun w' hb => CA.out s1 w' hb
              have ec : clampI s1 W9 = s1 := by unfold clampI; omega
              rw [ec, ea2] at CA2
              simp only at CA2
              replace CA2 := Lib.hid CA2
              have CO3 := fun w' hb => CO.out id2 u2 w' hb
              rw [eo2] at CO3
              simp only at CO3
              replace CO3 := Lib.hid CO3
              have j1 : decide (0 ≤ s1) = true := decide_eq_true s2
              have j2 : decide (s1 ≤ W9) = true := decide_eq_true s3
              clear hq o1 o2 ea2 eo2 ec
              go_wp2_with fail
              refine (CO2.out _ (SB.out _ K6.out)).mono ?_
              rintro e w7 ⟨rfl, b7⟩
              have K7 := Lib.hid (below_more' K6.out b7)
              clear b7 x0 x1
              go_wp2_with fail
              refine (CA2.out _ (SB.out _ K7.out)).mono ?_
              rintro e w8 ⟨rfl, b8⟩
              have K8 := Lib.hid (below_more' K7.out b8)
              clear b8
              go_wp2_with fail
              refine (CO3.out _ (SB.out _ K8.out)).mono ?_
              rintro e w9 ⟨rfl, b9⟩
              have K9 := Lib.hid (below_more' K8.out b9)
              clear b9
              go_wp2_with fail
              refine (CW.out _ (SB.out _ K9.out)).mono ?_
              rintro e w10 ⟨rfl, b10⟩
              have K10 := Lib.hid (below_more' K9.out b10)
              clear b10
              go_wp2_with fail
              go_ret
              exact ⟨by simp, HF.out _ (SB.out _ K10.out)⟩

set_option maxRecDepth 100000 in
theorem lifted (os : Os) (started : os.Started) (H : Type) (enc : TypeId × Value → H) :
    ReturnsInHanded {} Try.checked os 5 .any (Rows.viewBackSpec.pre6 enc Try.prog Try.f5 Rows.viewBackRow.domain false) (Rows.viewBackSpec.post enc Try.prog Try.f5 false true false false) := by
  refine returnsInHanded_of_change (C := Try.checked) own started (by kernel_rfl) Try.func5
    (ChangeSpec.witness6 (enc := enc) (C := Try.checked) false ⟨#[], #[.slice none 0 0, .int .i64 0, .agg #[.int .i64 0, .int .i64 0]], []⟩ 8 (by kernel_rfl) (by kernel_rfl) (by kernel_rfl) (by kernel_rfl)) ?_
  intro W base args ds gs before hval0 hW hcnd _
  have hval : ∀ (j : Nat) t v, Try.f5.params[j]? = some t → args[j]? = some v → Value.okWide Try.prog W .any base t v := hval0
  have hread : ∀ t ∈ Try.f5.params.toList, Try.prog.readableRec t = true ∧ t < Try.prog.types.size := by
    have : (Try.f5.params.toList.all fun t => Try.prog.readableRec t && decide (t < Try.prog.types.size)) = true := by kernel_rfl
    intro t ht
    have := List.all_eq_true.1 this t ht
    simpa using this
  refine law_contract (P := Try.prog) (s := Rows.viewBackSpec) (fn := Try.f5) (tb := 4) laidOut rfl hread rfl Try.underlying4 (fun W' => okWide_bool_mk Try.underlying4 _) ?_ hW ?_
  · intro ds hds
    rw [Try.params5] at hds
    match ds, hds with
    | [d0, d1, d2], _ => rfl
  intro pl hA
  rw [Try.params5] at hA hval
  obtain ⟨v0, vs0, d0, ds0, p0, q0, hargs, rfl, hp0, h0, r0⟩ := trodAll_cons hA
  obtain ⟨v1, vs1, d1, ds1, p1, q1, rfl, rfl, hp1, h1, r1⟩ := trodAll_cons r0
  obtain ⟨v2, vs2, d2, ds2, p2, q2, rfl, rfl, hp2, h2, r2⟩ := trodAll_cons r1
  obtain ⟨rfl, rfl, hpe⟩ := trodAll_nil r2
  obtain rfl : args = #[v0, v1, v2] := by cases args; simp_all
  obtain ⟨l, hL0⟩ := open_pieces (hval 0 22 v0 rfl rfl) h0
  obtain ⟨t, rfl, rfl, _, hw1⟩ := open_int Try.underlying3 (hval 1 3 v1 rfl rfl) h1
  have hb1 : -9223372036854775808 ≤ t ∧ t ≤ 9223372036854775807 := by simpa [Lit.wf, IntKind.min, IntKind.max, IntKind.signed, IntKind.bits] using hw1
  obtain ⟨x, z, rfl, hb2⟩ := open_int2 Try.underlying32 Try.underlying3 (by kernel_rfl) (by kernel_rfl) (hval 2 32 v2 rfl rfl) h2
  exact walk v0 l hL0 t hb1.1 hb1.2 x z hb2.1.1 hb2.1.2 hb2.2.1 hb2.2.2

theorem over : Rows.viewBackRow.holds Try.pinned (OpenSpec.ofChange Rows.viewBackSpec) :=
  OpenClaim.holds_of_wide 5 Try.f5 rfl rfl rfl rfl rfl rfl rfl ⟨rfl, rfl, rfl, rfl, rfl⟩ rfl rfl rfl rfl rfl (by kernel_rfl) Try.func5 (by kernel_rfl)
    (of_decide_eq_true (by kernel_rfl)) (by unfold Func.isWrapper; first | (rw [if_pos (by decide +kernel)]; kernel_rfl) | (rw [if_neg (by decide +kernel)]; exact ⟨rfl, rfl⟩))
    (fun os started H enc _ => lifted os started H enc)

/-- The statement. -/
theorem proved : Rows.ViewBackSaid :=
  over
#print axioms proved
end Go.Proofs.Ytcpdoicbekcpeaa.viewBack
