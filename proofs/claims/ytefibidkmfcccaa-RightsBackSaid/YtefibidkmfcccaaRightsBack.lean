/- For every list of labels and every deed: RightsBack answers true, and its arguments read behind the call as before. No condition. -/
import Derived.Test.YtefibidkmfcccaaRows
import Derived.Test.YtefibidkmfcccaaLift
import Derived.Test.YtefibidkmfcccaaLaws
set_option linter.unusedVariables false
namespace Go.Proofs.Ytefibidkmfcccaa.rightsBack
open Go.ChangeShapes Go.WideShapes Go.ChangeAt Go.RowKit Go.Lib Go.Proofs.Ytefibidkmfcccaa.Lift Go.Proofs.Ytefibidkmfcccaa.Rt Go.Proofs.Ytefibidkmfcccaa.Rig
open Go.ChangeMaps (open_string shut_string)

theorem own : ownKnob Try.prog.godebug = none := by kernel_rfl
theorem laidOut : laidOutB Try.prog = true := by kernel_rfl

theorem set_self {L : List Lb} {k : Nat} (hk : k < L.length) : L.set k (lb L k) = L := by
  refine lb_ext (by simp) fun j hj => ?_
  by_cases e : k = j
  · subst e; rw [lb_set_self _ hk]
  · rw [lb_set_other _ e]
theorem back_has {L : List Lb} (h : rightP L 8) {k : Nat} (hk : k < L.length) {u : Int} {wr : Bool} (hb : hasB ((lb L k).own wr) u = true) : grantL L k u wr true = L := by
  obtain ⟨h1, h2⟩ := right_us h hk
  have e : (lb L k).set u wr true = lb L k := by
    rw [hasB_contains] at hb
    cases wr with
    | true => unfold Lb.set; rw [if_pos rfl, set_on h2.1 hb]
    | false => unfold Lb.set; rw [if_neg (by simp), set_on h1.1 hb]
  unfold grantL
  rw [e, set_self hk]
theorem back_not {L : List Lb} (h : rightP L 8) {k : Nat} (hk : k < L.length) {u : Int} {wr : Bool} (hb : hasB ((lb L k).own wr) u = false) : grantL (grantL L k u wr true) k u wr false = L := by
  obtain ⟨h1, h2⟩ := right_us h hk
  have e : ((lb L k).set u wr true).set u wr false = lb L k := by
    rw [hasB_contains] at hb
    cases wr with
    | true => unfold Lb.set; rw [if_pos rfl, if_pos rfl, set_back h2.1 hb]
    | false => unfold Lb.set; rw [if_neg (by simp), if_neg (by simp), set_back h1.1 hb]
  unfold grantL
  rw [lb_set_self _ hk, e, List.set_set, set_self hk]

set_option maxRecDepth 100000 in
set_option maxHeartbeats 2000000 in
theorem walk {w : World} (v : Value) (L : List Lb) (hL : Labs w v L) (D : Dd) (hD : D.good) :
    Calls Try.prog 8 #[v, .agg D.cells] w fun e w' => e = .returned (.bool true) ∧ Below w.heap.size w w' := by
  obtain ⟨b, l, u, wr, on⟩ := D
  obtain ⟨gb, gl, gu⟩ := hD
  show Calls Try.prog 8 #[v, .agg #[.int .i64 b, .int .i64 l, .int .i64 u, .bool wr, .bool on]] w _
  simp only at gb gl gu
  have C2 : Hid (∀ w, Calls Try.prog 10 #[] w (Gives w two)) := two_any
  have C3 := Lib.hid two_grant
  have C4 := Lib.hid two_may
  have C5 : Hid (∀ w', Below w.heap.size w w' → Calls Try.prog 12 #[v, .int .i64 8] w' fun e w'' => e = .returned (.bool (rightB L 8)) ∧ Below w'.heap.size w' w'') := fun w' hb => rright_any 8 w' (hL.below hb (Nat.le_refl _)) ⟨by decide, by decide⟩
  have GN : Hid (whyG L b l u ≠ 0 → ∀ w', Below w.heap.size w w' → Calls Try.prog 16 #[v, .int .i64 b, .int .i64 l, .int .i64 u, .bool wr, .bool true] w' (NoGrant w' (whyG L b l u))) := fun hz w' hb => grant_no w' (hL.below hb (Nat.le_refl _)) gb gl gu hz
  have GY : Hid (rightP L 8 → whyG L b l u = 0 → ∀ w', Below w.heap.size w w' → Calls Try.prog 16 #[v, .int .i64 b, .int .i64 l, .int .i64 u, .bool wr, .bool true] w' (Grants w' (grantL L l.toNat u wr true))) := fun hr hz w' hb => grant_done w' (hL.below hb (Nat.le_refl _)) hr hz
  have SA : Hid (∀ M w' v1 v2, Labs w' v1 M → Labs w' v2 M → Calls Try.prog 19 #[v1, v2] w' fun e w'' => e = .returned (.bool true) ∧ Below w'.heap.size w' w'') := fun M w' v1 v2 h1 h2 => labs_same w' h1 h2
  have WR := Lib.hid (why_range L b l u)
  have HLs := Lib.hid hL
  obtain ⟨W0, hW0⟩ : ∃ W0, W0 = w.alloc (.cells #[.int .i64 b, .int .i64 l, .int .i64 u, .bool wr, .bool on] 29) := ⟨_, rfl⟩
  have b0 : Below w.heap.size w W0 := by rw [hW0]; exact (Below.refl _ _).alloc (Nat.le_refl _) _
  have hnew : W0.heap[w.heap.size]? = some (.cells #[.int .i64 b, .int .i64 l, .int .i64 u, .bool wr, .bool on] 29 (0, 0)) := by rw [hW0]; exact heap_alloc_new _ _
  have xl : w.heap.size < W0.heap.size := by rw [hW0]; simp
  have DC : Hid (∀ w', Below W0.heap.size W0 w' → w'.cell? ⟨w.heap.size, 0, none⟩ = some (.int .i64 b) ∧ w'.cell? ⟨w.heap.size, 1, none⟩ = some (.int .i64 l) ∧ w'.cell? ⟨w.heap.size, 2, none⟩ = some (.int .i64 u) ∧ w'.cell? ⟨w.heap.size, 3, none⟩ = some (.bool wr) ∧ w'.cell? ⟨w.heap.size, 4, none⟩ = some (.bool on)) := fun w' hb => by
    refine ⟨below_cell hb xl ?_, below_cell hb xl ?_, below_cell hb xl ?_, below_cell hb xl ?_, below_cell hb xl ?_⟩ <;> (rw [cell_of_row _ _ _ _ _ _ hnew]; rfl)
  have HW := Lib.hid hW0
  have B0 := Lib.hid b0
  have GB := Lib.hid gb
  have GU := Lib.hid gu
  obtain ⟨a, cap, rfl, hlc, hcap, hcc⟩ := hL.open_
  have HC := Lib.hid hcc
  obtain ⟨n, hn⟩ : ∃ n, n = L.length := ⟨_, rfl⟩
  rw [← hn] at C5 GN GY HLs hlc ⊢
  have HN := Lib.hid hn
  obtain ⟨rb, hrb⟩ : ∃ rb, rb = rightB L 8 := ⟨_, rfl⟩
  rw [← hrb] at C5
  replace hrb := Lib.hid hrb
  obtain ⟨st, hst⟩ : ∃ st, st = whyG L b l u := ⟨_, rfl⟩
  rw [← hst] at GN GY WR
  have HST := Lib.hid hst
  clear hst hW0 hnew b0 gb gl gu hL hcc hn
  go_enter Try.func8, Try.ntmps8
  go_wp2_with fail
  rw [← HW.out]
  refine (C2.out _).mono ?_
  rintro e w1 ⟨v1, rfl, l1, hb1⟩
  go_wp2_with fail
  refine (C3.out _ _ l1).mono ?_
  rintro e w2 ⟨v2, rfl, l2, hb2⟩
  have g2 := Lib.hid (below_more hb1 hb2)
  clear hb1 hb2 l1
  go_wp2_with fail
  refine (C4.out _ _ l2).mono ?_
  rintro e w4 ⟨rfl, hb4⟩
  have g4 := Lib.hid (below_more g2.out hb4)
  clear hb4 l2 g2 C2 C3 C4
  go_wp2_with fail
  refine (C5.out _ (below_more B0.out g4.out)).mono ?_
  rintro e w5 ⟨rfl, hb5⟩
  have g5 := Lib.hid (below_more g4.out hb5)
  clear hb5 C5
  cases rb with
  | false =>
    clear HC
    go_wp2_with fail
    go_ret
    exact ⟨rfl, below_more B0.out g5.out⟩
  | true =>
    have RP := Lib.hid (rightB_of hrb.out.symm)
    obtain ⟨x0, x1, x2, x3, x4⟩ := DC.out _ g5.out
    by_cases hz : st = 0
    · have hz0 : Hid (whyG L b l u = 0) := by show _ = _; rw [← HST.out]; exact hz
      subst hz
      obtain ⟨q1, q2, q3, q4, q5⟩ := why_zero hz0.out
      obtain ⟨k, rfl⟩ : ∃ k : Nat, l = (k : Int) := ⟨l.toNat, by omega⟩
      rw [Int.toNat_natCast] at GY q5
      have hkl : k < L.length := by omega
      have hkn : k < n := by rw [HN.out]; exact hkl
      have G2 : Hid (∀ w' v', Labs w' v' (grantL L k u wr true) → Calls Try.prog 16 #[v', .int .i64 b, .int .i64 k, .int .i64 u, .bool wr, .bool false] w' (Grants w' (grantL (grantL L k u wr true) k u wr false))) := fun w' v' h => by
        have := grant_ok (k := k) (u := u) (wr := wr) (on := false) w' h (right_grant RP.out wr true q3 q4 hkl) (by rw [grantL_len]; exact hkl) q3 q4
        rw [(po_grant u wr true hkl k).2, ← q5] at this
        exact this
      have BH := Lib.hid (back_has (u := u) (wr := wr) RP.out hkl)
      have BN := Lib.hid (back_not (u := u) (wr := wr) RP.out hkl)
      obtain ⟨bb, off, rfl, hbb, rv, sv, ⟨p1, p2⟩, ⟨o1, o2⟩, c0, c1, c2, c3, hr, hs⟩ := HC.out k hkl
      have CH : Hid (∀ w', Below w.heap.size w w' → Calls Try.prog 20 #[if wr then sv else rv, .int .i64 u] w' fun e w'' => e = .returned (.bool (hasB ((lb L k).own wr) u)) ∧ w' = w'') := fun w' hb => by
        cases wr with
        | true => exact has_any u w' (hs.below hb (Nat.le_refl _)) GU.out
        | false => exact has_any u w' (hr.below hb (Nat.le_refl _)) GU.out
      obtain ⟨ra, rc, rfl⟩ := hr.is_slice
      obtain ⟨sa, sc, rfl⟩ := hs.is_slice
      generalize (lb L k).r.length = l1 at *
      generalize (lb L k).s.length = l2 at *
      generalize (lb L k).p = p at *
      obtain ⟨G, hG⟩ : ∃ G, G = grantL L k u wr true := ⟨_, rfl⟩
      rw [← hG] at GY G2 BH BN
      obtain ⟨GG, hGG⟩ : ∃ GG, GG = grantL G k u wr false := ⟨_, rfl⟩
      rw [← hGG] at G2 BN
      obtain ⟨hh, hhh⟩ : ∃ hh, hh = hasB ((lb L k).own wr) u := ⟨_, rfl⟩
      rw [← hhh] at CH BH BN
      clear hG hGG hhh hr hs HC q1 q2 q5
      go_wp2_with fail
      refine (GY.out RP.out (by trivial) _ (below_more B0.out g5.out)).mono ?_
      rintro e w6 ⟨v6, rfl, l6, hb6⟩
      have g6 := Lib.hid (below_more g5.out hb6)
      have L6 := Lib.hid l6
      obtain ⟨a6, c6, rfl⟩ := l6.is_slice
      clear hb6 GY l6 x0 x1 x2 x3 x4
      obtain ⟨x0, x1, x2, x3, x4⟩ := DC.out _ g6.out
      generalize hG6 : G.length = n6 at *
      go_wp2_with fail
      refine (G2.out _ _ L6.out).mono ?_
      rintro e w7 ⟨v7, rfl, l7, hb7⟩
      have g7 := Lib.hid (below_more g6.out hb7)
      have L67 := Lib.hid (L6.out.below hb7 (Nat.le_refl _))
      have L7 := Lib.hid l7
      obtain ⟨a7, c7, rfl⟩ := l7.is_slice
      clear hb7 G2 l7 x0 x1 x2 x3 x4 hG6
      obtain ⟨x0, x1, x2, x3, x4⟩ := DC.out _ g7.out
      have gw7 := below_more B0.out g7.out
      replace c0 := below_cell gw7 hbb c0
      replace c1 := below_cell gw7 hbb c1
      replace c2 := below_cell gw7 hbb c2
      replace c3 := below_cell gw7 hbb c3
      have GW7 := Lib.hid gw7
      generalize GG.length = n7 at *
      clear gw7
      cases hh with
      | true =>
        have eG := BH.out rfl
        subst eG
        cases wr <;>
        · go_wp2_with fail
          refine (CH.out _ GW7.out).mono ?_
          rintro e w8 ⟨rfl, rfl⟩
          go_wp2_with fail
          refine (SA.out _ _ _ _ L67.out (HLs.out.below GW7.out (Nat.le_refl _))).mono ?_
          rintro e w9 ⟨rfl, hb9⟩
          have g9 := Lib.hid (below_more GW7.out hb9)
          clear hb9
          go_wp2_with fail
          go_ret
          exact ⟨rfl, g9.out⟩
      | false =>
        have eG := BN.out rfl
        subst eG
        cases wr <;>
        · go_wp2_with fail
          refine (CH.out _ GW7.out).mono ?_
          rintro e w8 ⟨rfl, rfl⟩
          go_wp2_with fail
          refine (CH.out _ GW7.out).mono ?_
          rintro e w8 ⟨rfl, rfl⟩
          go_wp2_with fail
          refine (SA.out _ _ _ _ L7.out (HLs.out.below GW7.out (Nat.le_refl _))).mono ?_
          rintro e w9 ⟨rfl, hb9⟩
          have g9 := Lib.hid (below_more GW7.out hb9)
          clear hb9
          go_wp2_with fail
          go_ret
          exact ⟨rfl, g9.out⟩
    · have hzb : (st == 0) = false := by simpa using hz
      have hzn : (st != 0) = true := by simpa using hz
      have st1 : -9223372036854775808 ≤ st := by rcases WR.out with h | h | h <;> omega
      have st2 : st ≤ 9223372036854775807 := by rcases WR.out with h | h | h <;> omega
      have HZ := Lib.hid hz
      clear hz HC
      go_wp2_with fail
      refine (GN.out HZ.out _ (below_more B0.out g5.out)).mono ?_
      rintro e w7 ⟨rfl, hb7⟩
      have g7 := Lib.hid (below_more g5.out hb7)
      clear hb7 GN x0 x1 x2 x3 x4
      go_wp2_with fail
      go_ret
      exact ⟨rfl, below_more B0.out g7.out⟩

set_option maxRecDepth 100000 in
theorem lifted (os : Os) (started : os.Started) (H : Type) (enc : TypeId × Value → H) :
    ReturnsInHanded {} Try.checked os 8 .any (Rows.rightsBackSpec.pre6 enc Try.prog Try.f8 Rows.rightsBackRow.domain false) (Rows.rightsBackSpec.post enc Try.prog Try.f8 false true false false) := by
  refine returnsInHanded_of_change (C := Try.checked) own started (by kernel_rfl) Try.func8
    (ChangeSpec.witness6 (enc := enc) (C := Try.checked) false ⟨#[], #[.slice none 0 0, .agg #[.int .i64 0, .int .i64 0, .int .i64 0, .bool false, .bool false]], []⟩ 8 (by kernel_rfl) (by kernel_rfl) (by kernel_rfl) (by kernel_rfl)) ?_
  intro W base args ds gs before hval0 hW hcnd _
  have hval : ∀ (j : Nat) t v, Try.f8.params[j]? = some t → args[j]? = some v → Value.okWide Try.prog W .any base t v := hval0
  have hread : ∀ t ∈ Try.f8.params.toList, Try.prog.readableRec t = true ∧ t < Try.prog.types.size := by
    have : (Try.f8.params.toList.all fun t => Try.prog.readableRec t && decide (t < Try.prog.types.size)) = true := by kernel_rfl
    intro t ht
    have := List.all_eq_true.1 this t ht
    simpa using this
  refine law_contract (P := Try.prog) (s := Rows.rightsBackSpec) (fn := Try.f8) (tb := 4) laidOut rfl hread rfl Try.underlying4 (fun W' => okWide_bool_mk Try.underlying4 _) ?_ hW ?_
  · intro ds hds
    rw [Try.params8] at hds
    match ds, hds with
    | [d0, d1], _ => rfl
  intro pl hA
  rw [Try.params8] at hA hval
  obtain ⟨v0, vs0, d0, ds0, p0, q0, hargs, rfl, hp0, h0, r0⟩ := trodAll_cons hA
  obtain ⟨v1, vs1, d1, ds1, p1, q1, rfl, rfl, hp1, h1, r1⟩ := trodAll_cons r0
  obtain ⟨rfl, rfl, hpe⟩ := trodAll_nil r1
  obtain rfl : args = #[v0, v1] := by cases args; simp_all
  obtain ⟨L, hL0⟩ := open_labels (hval 0 22 v0 rfl rfl) h0
  obtain ⟨D, rfl, hg1⟩ := open_deed (hval 1 29 v1 rfl rfl) h1
  exact walk v0 L hL0 D hg1

theorem over : Rows.rightsBackRow.holds Try.pinned (OpenSpec.ofChange Rows.rightsBackSpec) :=
  OpenClaim.holds_of_wide 8 Try.f8 rfl rfl rfl rfl rfl rfl rfl ⟨rfl, rfl, rfl, rfl, rfl⟩ rfl rfl rfl rfl rfl (by kernel_rfl) Try.func8 (by kernel_rfl)
    (of_decide_eq_true (by kernel_rfl)) (by unfold Func.isWrapper; first | (rw [if_pos (by decide +kernel)]; kernel_rfl) | (rw [if_neg (by decide +kernel)]; exact ⟨rfl, rfl⟩))
    (fun os started H enc _ => lifted os started H enc)

/-- The statement. -/
theorem proved : Rows.RightsBackSaid :=
  over
#print axioms proved
end Go.Proofs.Ytefibidkmfcccaa.rightsBack
