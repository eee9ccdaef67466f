/- For every list of labels, every deed and every user: RightsApart answers true, and its arguments read behind the call as before. No condition. -/
import Derived.Test.YtefibidkmfcccaaRows
import Derived.Test.YtefibidkmfcccaaLift
import Derived.Test.YtefibidkmfcccaaLaws
import Derived.Deep.DeepCutAuto
import Derived.Deep.CutBlock
import Derived.Deep.LoopGhost
set_option linter.unusedVariables false
namespace Go.Proofs.Ytefibidkmfcccaa.rightsApart
open Go.ChangeShapes Go.WideShapes Go.ChangeAt Go.RowKit Go.Lib Go.Proofs.Ytefibidkmfcccaa.Lift Go.Proofs.Ytefibidkmfcccaa.Rt Go.Proofs.Ytefibidkmfcccaa.Rig
open Go.ChangeMaps (open_string shut_string)

theorem own : ownKnob Try.prog.godebug = none := by kernel_rfl
theorem laidOut : laidOutB Try.prog = true := by kernel_rfl

/-- Is label number k0 in the path? -/
def inF (L : List Lb) (k0 : Nat) : Nat → Nat → Bool
  | 0, _ => false
  | f + 1, k => (k == k0) || (if (lb L k).p < 0 ∨ (k : Int) ≤ (lb L k).p then false else inF L k0 f (lb L k).p.toNat)
theorem inF_fuel (L : List Lb) (k0 : Nat) : ∀ (f g k : Nat), k < f → k < g → inF L k0 f k = inF L k0 g k
  | 0, _, k, h, _ => by omega
  | _ + 1, 0, k, _, h => by omega
  | f + 1, g + 1, k, h1, h2 => by
    unfold inF
    by_cases hp : (lb L k).p < 0 ∨ (k : Int) ≤ (lb L k).p
    · rw [if_pos hp, if_pos hp]
    · rw [if_neg hp, if_neg hp, inF_fuel L k0 f g _ (by omega) (by omega)]
def inP (L : List Lb) (k0 k : Nat) : Bool := inF L k0 (k + 1) k
theorem inP_top {L : List Lb} {k0 k : Nat} (h : (lb L k).p < 0) : inP L k0 k = (k == k0) := by
  unfold inP inF
  rw [if_pos (.inl h), Bool.or_false]
theorem inP_up {L : List Lb} {k0 k : Nat} (h1 : 0 ≤ (lb L k).p) (h2 : (lb L k).p < (k : Int)) : inP L k0 k = ((k == k0) || inP L k0 (lb L k).p.toNat) := by
  unfold inP
  rw [inF, if_neg (by omega)]
  exact congrArg _ (inF_fuel L k0 _ _ _ (by omega) (by omega))
theorem has_set (xs : List Int) {u x : Int} (on : Bool) (h : x ≠ u) : hasB (setL xs u on) x = hasB xs x := by
  rw [hasB_contains, hasB_contains, Bool.eq_iff_iff, List.contains_iff_mem, List.contains_iff_mem, set_mem]
  simp [h]
theorem apart_mayF {L : List Lb} {k0 : Nat} {u u' : Int} {wr on w' : Bool} (hk : k0 < L.length) : ∀ (f k : Nat), (u' ≠ u ∨ w' ≠ wr ∨ inF L k0 f k = false) → mayF (grantL L k0 u wr on) u' w' f k = mayF L u' w' f k
  | 0, k, _ => rfl
  | f + 1, k, hc => by
    have hp := (po_grant u wr on hk k).1
    unfold mayF
    rw [hp]
    have h1 : hasB ((lb (grantL L k0 u wr on) k).own w') u' = hasB ((lb L k).own w') u' := by
      unfold grantL
      by_cases e : k0 = k
      · subst e
        rw [lb_set_self _ hk]
        rcases hc with hc | hc | hc
        · unfold Lb.set Lb.own
          cases wr <;> cases w' <;> simp [has_set _ on hc]
        · unfold Lb.set Lb.own
          cases wr <;> cases w' <;> simp at hc ⊢
        · unfold inF at hc
          simp at hc
      · rw [lb_set_other _ e]
    rw [h1]
    by_cases hq : (lb L k).p < 0 ∨ (k : Int) ≤ (lb L k).p
    · rw [if_pos hq, if_pos hq]
    · rw [if_neg hq, if_neg hq, apart_mayF hk f _ (by
        rcases hc with hc | hc | hc
        · exact .inl hc
        · exact .inr (.inl hc)
        · unfold inF at hc
          rw [if_neg hq, Bool.or_eq_false_iff] at hc
          exact .inr (.inr hc.2))]
theorem apart_may {L : List Lb} {k0 i : Nat} {u u' : Int} {wr on w' : Bool} (hr : rightP L 8) (hk : k0 < L.length) (hi : i < L.length) (hc : u' ≠ u ∨ w' ≠ wr ∨ inP L k0 i = false) : mayB (grantL L k0 u wr on) u' i w' = mayB L u' i w' := by
  rw [mayB_in (by rw [grantL_len]; exact hi), mayB_in hi]
  exact apart_mayF hk _ _ hc

set_option maxRecDepth 100000 in
set_option maxHeartbeats 6000000 in
theorem walk {w : World} (v : Value) (L : List Lb) (hL : Labs w v L) (D : Dd) (hD : D.good) (y : Int) (hy1 : -9223372036854775808 ≤ y) (hy2 : y ≤ 9223372036854775807) :
    Calls Try.prog 7 #[v, .agg D.cells, .int .i64 y] w fun e w' => e = .returned (.bool true) ∧ Below w.heap.size w w' := by
  obtain ⟨b, l, u, dw, on⟩ := D
  obtain ⟨gb, gl, gu⟩ := hD
  show Calls Try.prog 7 #[v, .agg #[.int .i64 b, .int .i64 l, .int .i64 u, .bool dw, .bool on], .int .i64 y] w _
  simp only at gb gl gu
  have C2 : Hid (∀ w, Calls Try.prog 10 #[] w (Gives w two)) := two_any
  have C3 := Lib.hid two_grant
  have C4 := Lib.hid two_may
  have C5 : Hid (∀ w', Below w.heap.size w w' → Calls Try.prog 12 #[v, .int .i64 8] w' fun e w'' => e = .returned (.bool (rightB L 8)) ∧ Below w'.heap.size w' w'') := fun w' hb => rright_any 8 w' (hL.below hb (Nat.le_refl _)) ⟨by decide, by decide⟩
  have GN : Hid (whyG L b l u ≠ 0 → ∀ w', Below w.heap.size w w' → Calls Try.prog 16 #[v, .int .i64 b, .int .i64 l, .int .i64 u, .bool dw, .bool on] w' (NoGrant w' (whyG L b l u))) := fun hz w' hb => grant_no w' (hL.below hb (Nat.le_refl _)) gb gl gu hz
  have GY : Hid (rightP L 8 → whyG L b l u = 0 → ∀ w', Below w.heap.size w w' → Calls Try.prog 16 #[v, .int .i64 b, .int .i64 l, .int .i64 u, .bool dw, .bool on] w' (Grants w' (grantL L l.toNat u dw on))) := fun hr hz w' hb => grant_done w' (hL.below hb (Nat.le_refl _)) hr hz
  have SA : Hid (∀ M w' v1 v2, Labs w' v1 M → Labs w' v2 M → Calls Try.prog 19 #[v1, v2] w' fun e w'' => e = .returned (.bool true) ∧ Below w'.heap.size w' w'') := fun M w' v1 v2 h1 h2 => labs_same w' h1 h2
  have WR := Lib.hid (why_range L b l u)
  have HLs := Lib.hid hL
  obtain ⟨W0, hW0⟩ : ∃ W0, W0 = w.alloc (.cells #[.int .i64 b, .int .i64 l, .int .i64 u, .bool dw, .bool on] 29) := ⟨_, rfl⟩
  have b0 : Below w.heap.size w W0 := by rw [hW0]; exact (Below.refl _ _).alloc (Nat.le_refl _) _
  have hnew : W0.heap[w.heap.size]? = some (.cells #[.int .i64 b, .int .i64 l, .int .i64 u, .bool dw, .bool on] 29 (0, 0)) := by rw [hW0]; exact heap_alloc_new _ _
  have xl : w.heap.size < W0.heap.size := by rw [hW0]; simp
  have DC : Hid (∀ w', Below W0.heap.size W0 w' → w'.cell? ⟨w.heap.size, 0, none⟩ = some (.int .i64 b) ∧ w'.cell? ⟨w.heap.size, 1, none⟩ = some (.int .i64 l) ∧ w'.cell? ⟨w.heap.size, 2, none⟩ = some (.int .i64 u) ∧ w'.cell? ⟨w.heap.size, 3, none⟩ = some (.bool dw) ∧ w'.cell? ⟨w.heap.size, 4, none⟩ = some (.bool on)) := fun w' hb => by
    refine ⟨below_cell hb xl ?_, below_cell hb xl ?_, below_cell hb xl ?_, below_cell hb xl ?_, below_cell hb xl ?_⟩ <;> (rw [cell_of_row _ _ _ _ _ _ hnew]; rfl)
  have HW := Lib.hid hW0
  have B0 := Lib.hid b0
  have GB := Lib.hid gb
  have GU := Lib.hid gu
  obtain ⟨a, cap, rfl, hlc, hcap, hcc⟩ := hL.open_
  have HC := Lib.hid hcc
  obtain ⟨n, hn⟩ : ∃ n, n = L.length := ⟨_, rfl⟩
  rw [← hn] at C5 GN GY HLs hlc ⊢
  have HN := Lib.hid hn
  obtain ⟨rb, hrb⟩ : ∃ rb, rb = rightB L 8 := ⟨_, rfl⟩
  rw [← hrb] at C5
  replace hrb := Lib.hid hrb
  obtain ⟨st, hst⟩ : ∃ st, st = whyG L b l u := ⟨_, rfl⟩
  rw [← hst] at GN GY WR
  have HST := Lib.hid hst
  clear hst hW0 hnew b0 gb gl gu hL hcc hn
  go_enter Try.func7, Try.ntmps7
  go_wp2_with fail
  rw [← HW.out]
  refine (C2.out _).mono ?_
  rintro e w1 ⟨v1, rfl, l1, hb1⟩
  go_wp2_with fail
  refine (C3.out _ _ l1).mono ?_
  rintro e w2 ⟨v2, rfl, l2, hb2⟩
  have g2 := Lib.hid (below_more hb1 hb2)
  clear hb1 hb2 l1
  go_wp2_with fail
  refine (C4.out _ _ l2).mono ?_
  rintro e w4 ⟨rfl, hb4⟩
  have g4 := Lib.hid (below_more g2.out hb4)
  clear hb4 l2 g2 C2 C3 C4
  go_wp2_with fail
  refine (C5.out _ (below_more B0.out g4.out)).mono ?_
  rintro e w5 ⟨rfl, hb5⟩
  have g5 := Lib.hid (below_more g4.out hb5)
  clear hb5 C5
  cases rb with
  | false =>
    clear HC
    go_wp2_with fail
    go_ret
    exact ⟨rfl, below_more B0.out g5.out⟩
  | true =>
    have RP := Lib.hid (rightB_of hrb.out.symm)
    obtain ⟨x0, x1, x2, x3, x4⟩ := DC.out _ g5.out
    by_cases hz : st = 0
    · have hz0 : Hid (whyG L b l u = 0) := by show _ = _; rw [← HST.out]; exact hz
      subst hz
      obtain ⟨q1, q2, q3, q4, q5⟩ := why_zero hz0.out
      obtain ⟨k, rfl⟩ : ∃ k : Nat, l = (k : Int) := ⟨l.toNat, by omega⟩
      rw [Int.toNat_natCast] at GY q5
      have hkl : k < L.length := by omega
      have hkn : k < n := by rw [HN.out]; exact hkl
      obtain ⟨G, hG⟩ : ∃ G, G = grantL L k u dw on := ⟨_, rfl⟩
      have EQ : Hid (∀ (u' : Int) (w' : Bool) (i : Nat), i < L.length → u' ≠ u ∨ w' ≠ dw ∨ inP L k i = false → mayB G u' i w' = mayB L u' i w') := fun u' w' i hi hc => by rw [hG]; exact apart_may RP.out hkl hi hc
      rw [← hG] at GY
      have MG : Hid (∀ (u' : Int) (w' : Bool) (i : Nat) (W : World) (v' : Value), i64 u' → i < n → Labs W v' G → Calls Try.prog 13 #[v', .int .i64 u', .int .i64 i, .bool w'] W fun e W' => e = .returned (.bool (mayB G u' i w')) ∧ Below W.heap.size W W') := fun u' w' i W v' h1 h2 h3 => may_any u' i w' W h3 h1 ⟨by omega, by omega⟩
      have ML : Hid (∀ (u' : Int) (w' : Bool) (i : Nat) (W : World), i64 u' → i < n → Below w.heap.size w W → Calls Try.prog 13 #[.slice a n cap, .int .i64 u', .int .i64 i, .bool w'] W fun e W' => e = .returned (.bool (mayB L u' i w')) ∧ Below W.heap.size W W') := fun u' w' i W h1 h2 h3 => may_any u' i w' W (HLs.out.below h3 (Nat.le_refl _)) h1 ⟨by omega, by omega⟩
      have PA : Hid (∀ j, j < n → -1 ≤ (lb L j).p ∧ (lb L j).p < (j : Int)) := fun j hj => by
        have := RP.out.2.2 j (by rw [← HN.out]; exact hj)
        exact ⟨this.1, this.2.1⟩
      clear hG q1 q2 q5
      go_wp2_with fail
      refine (GY.out RP.out (by trivial) _ (below_more B0.out g5.out)).mono ?_
      rintro e w6 ⟨v6, rfl, l6, hb6⟩
      have g6 := Lib.hid (below_more g5.out hb6)
      have L6 := Lib.hid l6
      obtain ⟨a6, c6, rfl⟩ := l6.is_slice
      clear hb6 GY l6 x0 x1 x2 x3 x4 g5
      generalize hG6 : G.length = n6 at *
      clear hG6
      go_wp2_with fail
      go_loopg [55] n (fun gg t wr => ∃ i : Nat, t = .int .i64 i ∧ i ≤ n ∧ gg = n - i ∧ Below w6.heap.size w6 wr)
      case atStart => exact ⟨0, rfl, Nat.zero_le _, by omega, Below.refl _ _⟩
      case round =>
        obtain ⟨i, rfl, hi, rfl, hbel⟩ := hrel
        have gA := Lib.hid (below_more g6.out hbel)
        have L6A := Lib.hid (L6.out.below hbel (Nat.le_refl _))
        have HBE := Lib.hid hbel
        clear hbel
        by_cases hlt : i < n
        · have hil : i < L.length := by rw [← HN.out]; exact hlt
          obtain ⟨wo, hwo⟩ : ∃ wo : World, wo = wr := ⟨_, rfl⟩
          subst hwo
          have DW := Lib.hid (DC.out _ gA.out)
          have PC : Hid (∀ m, m < n → ∃ bb off, a = some ⟨bb, off, none⟩ ∧ wo.cell? ⟨bb, off + m * 4, none⟩ = some (.int .i64 (lb L m).p) ∧ -1 ≤ (lb L m).p ∧ (lb L m).p < (m : Int)) := fun m hm => by
            obtain ⟨bb, off, e, hbb, rv, sv, _, _, c0, _⟩ := HC.out m (by rw [← HN.out]; exact hm)
            exact ⟨bb, off, e, below_cell (below_more B0.out gA.out) hbb c0, (PA.out m hm).1, (PA.out m hm).2⟩
          have I0 : Hid ((false || (if (0 : Int) ≤ (i : Int) then inP L k (i : Int).toNat else false)) = inP L k i) := by show _ = _; rw [if_pos (by omega), Int.toNat_natCast, Bool.false_or]
          go_wp2_with fail
          go_loopg [12, 13] (i + 1) (fun g2 s12 s13 wx => ∃ (kk : Int) (bb : Bool), s12 = .bool bb ∧ s13 = .int .i64 kk ∧ -1 ≤ kk ∧ kk < n ∧ (kk + 1).toNat ≤ g2 ∧ wo = wx ∧ Hid ((bb || (if 0 ≤ kk then inP L k kk.toNat else false)) = inP L k i))
          case atStart => exact ⟨i, false, rfl, rfl, by omega, by omega, by omega, rfl, I0.out⟩
          case round =>
            obtain ⟨kk, bb, rfl, rfl, hk1, hk2, hg2, rfl, OK⟩ := hrel
            by_cases hk0 : 0 ≤ kk
            · obtain ⟨m, rfl⟩ : ∃ m : Nat, kk = (m : Int) := ⟨kk.toNat, by omega⟩
              obtain ⟨x0, x1, x2, x3, x4⟩ := DW.out
              have OK1 : Hid ((bb || inP L k m) = inP L k i) := by
                have := OK.out
                rw [if_pos hk0, Int.toNat_natCast] at this
                exact this
              obtain ⟨bq, off, rfl, cp, pl1, pl2⟩ := PC.out m (by omega)
              have NX : Hid (∀ b2 : Bool, b2 = (bb || (m == k)) → (b2 || (if 0 ≤ (lb L m).p then inP L k (lb L m).p.toNat else false)) = inP L k i) := fun b2 hb2 => by
                rw [← OK1.out, hb2]
                by_cases hp : 0 ≤ (lb L m).p
                · rw [if_pos hp, inP_up hp pl2, Bool.or_assoc]
                · rw [if_neg hp, inP_top (by omega), Bool.or_false]
              generalize (lb L m).p = p at *
              clear OK OK1 DW PC I0
              by_cases hmk : m = k
              · have e1 : ((m : Int) == (k : Int)) = true := by rw [hmk]; simp
                have e2 : (m == k) = true := by rw [hmk]; simp
                have NY := Lib.hid (NX.out true (by rw [e2, Bool.or_true]))
                clear hmk NX
                cases bb <;>
                · go_wp2_with fail
                  go_roundg (p + 1).toNat
                  case measure => omega
                  case rel => exact ⟨p, true, rfl, rfl, by omega, by omega, by omega, rfl, NY.out⟩
              · have e1 : ((m : Int) == (k : Int)) = false := by rw [beq_eq_false_iff_ne]; omega
                have e2 : (m == k) = false := by rw [beq_eq_false_iff_ne]; omega
                have NY := Lib.hid (NX.out bb (by rw [e2, Bool.or_false]))
                clear NX
                cases bb
                · go_wp2_with fail
                  go_roundg (p + 1).toNat
                  case measure => omega
                  case rel => exact ⟨p, false, rfl, rfl, by omega, by omega, by omega, rfl, NY.out⟩
                · go_wp2_with fail
                  go_roundg (p + 1).toNat
                  case measure => omega
                  case rel => exact ⟨p, true, rfl, rfl, by omega, by omega, by omega, rfl, NY.out⟩
            · have hbb : Hid (bb = inP L k i) := by
                have := OK.out
                rw [if_neg hk0, Bool.or_false] at this
                exact this
              obtain ⟨x0, x1, x2, x3, x4⟩ := DW.out
              obtain ⟨W3, hW3⟩ : ∃ W3, W3 = wo.alloc (.cells #[.bool false, .bool true] 4) := ⟨_, rfl⟩
              have b3 : Below wo.heap.size wo W3 := by rw [hW3]; exact (Below.refl _ _).alloc (Nat.le_refl _) _
              have n3 : W3.heap[wo.heap.size]? = some (.cells #[.bool false, .bool true] 4 (0, 0)) := by rw [hW3]; exact heap_alloc_new _ _
              have l3 : wo.heap.size < W3.heap.size := by rw [hW3]; simp
              have CB : Hid (∀ wx, Below W3.heap.size W3 wx → ∀ j, j < 2 → wx.cell? ⟨wo.heap.size, j, none⟩ = some (.bool (j == 1))) := fun wx hb j hj => by
                refine below_cell hb l3 ?_
                rw [cell_of_row _ _ _ _ _ _ n3]
                match j, hj with
                | 0, _ => rfl
                | 1, _ => rfl
              have HW3 := Lib.hid hW3
              have gB := Lib.hid (below_more gA.out b3)
              have gB6 := Lib.hid (below_more HBE.out b3)
              clear OK b3 n3 hW3 I0 PC DW x0 x1 x2 x3 x4
              go_wp2_with fail
              rw [← HW3.out]
              go_loopg [75] 2 (fun g3 s75 wx => ∃ j : Nat, s75 = .int .i64 j ∧ j ≤ 2 ∧ g3 = 2 - j ∧ Below W3.heap.size W3 wx)
              case atStart => exact ⟨0, rfl, by omega, by omega, Below.refl _ _⟩
              case round =>
                obtain ⟨j, rfl, hj, rfl, hb3⟩ := hrel
                by_cases hj2 : j < 2
                · obtain ⟨wx, hwx⟩ : ∃ wx : World, wx = wr := ⟨_, rfl⟩
                  subst hwx
                  have dj : decide ((j : Int) < 2) = true := by simp; omega
                  have cj := CB.out _ hb3 j hj2
                  generalize (j == 1) = w' at cj
                  have gC := Lib.hid (below_more gB.out hb3)
                  have gC6 := Lib.hid (below_more gB6.out hb3)
                  have H3 := Lib.hid hb3
                  obtain ⟨x0, x1, x2, x3, x4⟩ := DC.out _ gC.out
                  obtain ⟨W4, hW4⟩ : ∃ W4, W4 = wx.alloc (.cells #[.int .i64 y, .int .i64 u] 3) := ⟨_, rfl⟩
                  have b4 : Below wx.heap.size wx W4 := by rw [hW4]; exact (Below.refl _ _).alloc (Nat.le_refl _) _
                  have n4 : W4.heap[wx.heap.size]? = some (.cells #[.int .i64 y, .int .i64 u] 3 (0, 0)) := by rw [hW4]; exact heap_alloc_new _ _
                  have l4 : wx.heap.size < W4.heap.size := by rw [hW4]; simp
                  have CU : Hid (∀ wz, Below W4.heap.size W4 wz → ∀ m, m < 2 → ∃ u', i64 u' ∧ wz.cell? ⟨wx.heap.size, m, none⟩ = some (.int .i64 u')) := fun wz hb m hm => by
                    match m, hm with
                    | 0, _ => exact ⟨y, ⟨hy1, hy2⟩, below_cell hb l4 (by rw [cell_of_row _ _ _ _ _ _ n4]; rfl)⟩
                    | 1, _ => exact ⟨u, GU.out, below_cell hb l4 (by rw [cell_of_row _ _ _ _ _ _ n4]; rfl)⟩
                  have HW4 := Lib.hid hW4
                  have gD := Lib.hid (below_more gC.out b4)
                  have gD6 := Lib.hid (below_more gC6.out b4)
                  have H34 := Lib.hid (below_more hb3 b4)
                  clear b4 n4 hW4 hb3
                  go_wp2_with fail
                  rw [← HW4.out]
                  go_loopg [84] 2 (fun g4 s84 wz => ∃ m : Nat, s84 = .int .i64 m ∧ m ≤ 2 ∧ g4 = 2 - m ∧ Below W4.heap.size W4 wz)
                  case atStart => exact ⟨0, rfl, by omega, by omega, Below.refl _ _⟩
                  case round =>
                    obtain ⟨m, rfl, hm, rfl, hb4⟩ := hrel
                    by_cases hm2 : m < 2
                    · obtain ⟨wz, hwz⟩ : ∃ wz : World, wz = wr := ⟨_, rfl⟩
                      subst hwz
                      obtain ⟨u', ⟨hu1, hu2⟩, cu⟩ := CU.out _ hb4 m hm2
                      have gE := Lib.hid (below_more gD.out hb4)
                      have gE6 := Lib.hid (below_more gD6.out hb4)
                      obtain ⟨x0, x1, x2, x3, x4⟩ := DC.out _ gE.out
                      have LE := Lib.hid (L6.out.below gE6.out (Nat.le_refl _))
                      have gEw := Lib.hid (below_more B0.out gE.out)
                      have dm : decide ((m : Int) < 2) = true := by simp; omega
                      have H4 := Lib.hid hb4
                      have M1 := Lib.hid (MG.out u' w' i _ _ ⟨hu1, hu2⟩ hlt LE.out)
                      have M2 := Lib.hid (fun W => ML.out u' w' i W ⟨hu1, hu2⟩ hlt)
                      have QE := Lib.hid (EQ.out u' w' i hil)
                      clear hb4
                      by_cases c1 : u' ≠ u
                      · have q := QE.out (.inl c1)
                        have d1 : (u' != u) = true := by simpa using c1
                        rw [q] at M1
                        generalize mayB L u' i w' = r at *
                        have rr : (r != r) = false := by simp
                        clear q QE EQ MG ML hbb CU
                        go_wp2_with fail
                        refine M1.out.mono ?_
                        rintro e w8 ⟨rfl, hb8⟩
                        have g8 := Lib.hid (below_more gEw.out hb8)
                        have h8 := Lib.hid (below_more H4.out hb8)
                        clear hb8
                        go_wp2_with fail
                        refine (M2.out _ g8.out).mono ?_
                        rintro e w9 ⟨rfl, hb9⟩
                        have h9 := Lib.hid (below_more h8.out hb9)
                        clear hb9
                        go_wp2_with fail
                        go_roundg (2 - (m + 1))
                        case measure => omega
                        case rel => exact ⟨m + 1, by go_num, by omega, rfl, h9.out⟩
                      · have d1 : (u' != u) = false := by simpa using c1
                        by_cases c2 : w' ≠ dw
                        · have q := QE.out (.inr (.inl c2))
                          have d2 : (w' != dw) = true := by simpa using c2
                          clear c1
                          rw [q] at M1
                          generalize mayB L u' i w' = r at *
                          have rr : (r != r) = false := by simp
                          clear q QE EQ MG ML hbb CU
                          go_wp2_with fail
                          refine M1.out.mono ?_
                          rintro e w8 ⟨rfl, hb8⟩
                          have g8 := Lib.hid (below_more gEw.out hb8)
                          have h8 := Lib.hid (below_more H4.out hb8)
                          clear hb8
                          go_wp2_with fail
                          refine (M2.out _ g8.out).mono ?_
                          rintro e w9 ⟨rfl, hb9⟩
                          have h9 := Lib.hid (below_more h8.out hb9)
                          clear hb9
                          go_wp2_with fail
                          go_roundg (2 - (m + 1))
                          case measure => omega
                          case rel => exact ⟨m + 1, by go_num, by omega, rfl, h9.out⟩
                        · have hu' : u' = u := by simpa using c1
                          have hw' : w' = dw := by simpa using c2
                          subst hu' hw'
                          clear d1
                          have d1 : (u' != u') = false := by simp
                          have d2 : (w' != w') = false := by simp
                          cases bb with
                          | false =>
                            have q := QE.out (.inr (.inr hbb.out.symm))
                            clear c1 c2
                            rw [q] at M1
                            generalize mayB L u' i w' = r at *
                            have rr : (r != r) = false := by simp
                            clear q QE EQ MG ML hbb CU
                            go_wp2_with fail
                            refine M1.out.mono ?_
                            rintro e w8 ⟨rfl, hb8⟩
                            have g8 := Lib.hid (below_more gEw.out hb8)
                            have h8 := Lib.hid (below_more H4.out hb8)
                            clear hb8
                            go_wp2_with fail
                            refine (M2.out _ g8.out).mono ?_
                            rintro e w9 ⟨rfl, hb9⟩
                            have h9 := Lib.hid (below_more h8.out hb9)
                            clear hb9
                            go_wp2_with fail
                            go_roundg (2 - (m + 1))
                            case measure => omega
                            case rel => exact ⟨m + 1, by go_num, by omega, rfl, h9.out⟩
                          | true =>
                            clear c1 c2 QE EQ MG ML M1 M2 hbb CU
                            go_wp2_with fail
                            go_roundg (2 - (m + 1))
                            case measure => omega
                            case rel => exact ⟨m + 1, by go_num, by omega, rfl, H4.out⟩
                    · have H4 := Lib.hid hb4
                      clear hb4 CU
                      go_wp2_with fail
                      go_roundg (2 - (j + 1))
                      case measure => omega
                      case rel => exact ⟨j + 1, by go_num, by omega, rfl, below_more H34.out H4.out⟩
                · have H3 := Lib.hid hb3
                  clear hb3 CB
                  go_wp2_with fail
                  go_roundg (n - (i + 1))
                  case measure => omega
                  case rel => exact ⟨i + 1, by go_num, by omega, rfl, below_more gB6.out H3.out⟩
        · clear EQ MG ML PA HC
          go_wp2_with fail
          go_ret
          exact ⟨rfl, below_more B0.out gA.out⟩
    · have hzb : (st == 0) = false := by simpa using hz
      have hzn : (st != 0) = true := by simpa using hz
      have st1 : -9223372036854775808 ≤ st := by rcases WR.out with h | h | h <;> omega
      have st2 : st ≤ 9223372036854775807 := by rcases WR.out with h | h | h <;> omega
      have HZ := Lib.hid hz
      clear hz HC
      go_wp2_with fail
      refine (GN.out HZ.out _ (below_more B0.out g5.out)).mono ?_
      rintro e w7 ⟨rfl, hb7⟩
      have g7 := Lib.hid (below_more g5.out hb7)
      clear hb7 GN x0 x1 x2 x3 x4
      go_wp2_with fail
      go_ret
      exact ⟨rfl, below_more B0.out g7.out⟩

set_option maxRecDepth 100000 in
theorem lifted (os : Os) (started : os.Started) (H : Type) (enc : TypeId × Value → H) :
    ReturnsInHanded {} Try.checked os 7 .any (Rows.rightsApartSpec.pre6 enc Try.prog Try.f7 Rows.rightsApartRow.domain false) (Rows.rightsApartSpec.post enc Try.prog Try.f7 false true false false) := by
  refine returnsInHanded_of_change (C := Try.checked) own started (by kernel_rfl) Try.func7
    (ChangeSpec.witness6 (enc := enc) (C := Try.checked) false ⟨#[], #[.slice none 0 0, .agg #[.int .i64 0, .int .i64 0, .int .i64 0, .bool false, .bool false], .int .i64 0], []⟩ 8 (by kernel_rfl) (by kernel_rfl) (by kernel_rfl) (by kernel_rfl)) ?_
  intro W base args ds gs before hval0 hW hcnd _
  have hval : ∀ (j : Nat) t v, Try.f7.params[j]? = some t → args[j]? = some v → Value.okWide Try.prog W .any base t v := hval0
  have hread : ∀ t ∈ Try.f7.params.toList, Try.prog.readableRec t = true ∧ t < Try.prog.types.size := by
    have : (Try.f7.params.toList.all fun t => Try.prog.readableRec t && decide (t < Try.prog.types.size)) = true := by kernel_rfl
    intro t ht
    have := List.all_eq_true.1 this t ht
    simpa using this
  refine law_contract (P := Try.prog) (s := Rows.rightsApartSpec) (fn := Try.f7) (tb := 4) laidOut rfl hread rfl Try.underlying4 (fun W' => okWide_bool_mk Try.underlying4 _) ?_ hW ?_
  · intro ds hds
    rw [Try.params7] at hds
    match ds, hds with
    | [d0, d1, d2], _ => rfl
  intro pl hA
  rw [Try.params7] at hA hval
  obtain ⟨v0, vs0, d0, ds0, p0, q0, hargs, rfl, hp0, h0, r0⟩ := trodAll_cons hA
  obtain ⟨v1, vs1, d1, ds1, p1, q1, rfl, rfl, hp1, h1, r1⟩ := trodAll_cons r0
  obtain ⟨v2, vs2, d2, ds2, p2, q2, rfl, rfl, hp2, h2, r2⟩ := trodAll_cons r1
  obtain ⟨rfl, rfl, hpe⟩ := trodAll_nil r2
  obtain rfl : args = #[v0, v1, v2] := by cases args; simp_all
  obtain ⟨L, hL0⟩ := open_labels (hval 0 22 v0 rfl rfl) h0
  obtain ⟨D, rfl, hg1⟩ := open_deed (hval 1 29 v1 rfl rfl) h1
  obtain ⟨y, rfl, rfl, _, hw2⟩ := open_int Try.underlying3 (hval 2 3 v2 rfl rfl) h2
  have hb2 : -9223372036854775808 ≤ y ∧ y ≤ 9223372036854775807 := by simpa [Lit.wf, IntKind.min, IntKind.max, IntKind.signed, IntKind.bits] using hw2
  exact walk v0 L hL0 D hg1 y hb2.1 hb2.2

theorem over : Rows.rightsApartRow.holds Try.pinned (OpenSpec.ofChange Rows.rightsApartSpec) :=
  OpenClaim.holds_of_wide 7 Try.f7 rfl rfl rfl rfl rfl rfl rfl ⟨rfl, rfl, rfl, rfl, rfl⟩ rfl rfl rfl rfl rfl (by kernel_rfl) Try.func7 (by kernel_rfl)
    (of_decide_eq_true (by kernel_rfl)) (by unfold Func.isWrapper; first | (rw [if_pos (by decide +kernel)]; kernel_rfl) | (rw [if_neg (by decide +kernel)]; exact ⟨rfl, rfl⟩))
    (fun os started H enc _ => lifted os started H enc)

/-- The statement. -/
theorem proved : Rows.RightsApartSaid :=
  over
#print axioms proved
end Go.Proofs.Ytefibidkmfcccaa.rightsApart
