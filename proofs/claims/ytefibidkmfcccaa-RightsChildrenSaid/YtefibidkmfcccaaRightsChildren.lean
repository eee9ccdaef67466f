/- For every list of labels, every user and either right: RightsChildren answers true, and its arguments read behind the call as before. No condition. -/
import Derived.Test.YtefibidkmfcccaaRows
import Derived.Test.YtefibidkmfcccaaLift
import Derived.Test.YtefibidkmfcccaaMay
set_option linter.unusedVariables false
namespace Go.Proofs.Ytefibidkmfcccaa.rightsChildren
open Go.ChangeShapes Go.WideShapes Go.ChangeAt Go.RowKit Go.Lib Go.Proofs.Ytefibidkmfcccaa.Lift Go.Proofs.Ytefibidkmfcccaa.Rt Go.Proofs.Ytefibidkmfcccaa.Rig
open Go.ChangeMaps (open_string shut_string)

theorem own : ownKnob Try.prog.godebug = none := by kernel_rfl
theorem laidOut : laidOutB Try.prog = true := by kernel_rfl

theorem k1 : mayB two 0 1 false = true := by decide
theorem k2 : mayB two 2 1 false = false := by decide
theorem up {L : List Lb} {u : Int} {b : Bool} {k : Nat} (hk : k < L.length) (h : mayB L u k b = true) (h1 : 0 ≤ (lb L k).p) (h2 : (lb L k).p < (k : Int)) : mayB L u (lb L k).p b = true := by
  rw [mayB_in hk] at h
  obtain ⟨q, hq⟩ : ∃ q : Nat, (lb L k).p = (q : Int) := ⟨(lb L k).p.toNat, by omega⟩
  have h3 : hasB ((lb L k).own b) u = true := by
    cases hh : hasB ((lb L k).own b) u with
    | true => rfl
    | false => rw [mayK_no hh] at h; cases h
  rw [mayK_up h3 h1 h2] at h
  rw [hq] at h ⊢
  rw [mayB_in (by omega)]
  simpa using h

set_option maxRecDepth 100000 in
set_option maxHeartbeats 1000000 in
theorem walk {w : World} (v : Value) (L : List Lb) (hL : Labs w v L) (u : Int) (hu1 : -9223372036854775808 ≤ u) (hu2 : u ≤ 9223372036854775807) (b : Bool) :
    Calls Try.prog 6 #[v, .int .i64 u, .bool b] w fun e w' => e = .returned (.bool true) ∧ Below w.heap.size w w' := by
  have C2 : Hid (∀ w, Calls Try.prog 10 #[] w (Gives w two)) := two_any
  have C3 : Hid (∀ w v, Labs w v two → Calls Try.prog 13 #[v, .int .i64 0, .int .i64 1, .bool false] w fun e w' => e = .returned (.bool true) ∧ Below w.heap.size w w') := fun w v h => by
    have := may_any 0 1 false w h ⟨by decide, by decide⟩ ⟨by decide, by decide⟩
    rw [k1] at this
    exact this
  have C4 : Hid (∀ w v, Labs w v two → Calls Try.prog 13 #[v, .int .i64 2, .int .i64 1, .bool false] w fun e w' => e = .returned (.bool false) ∧ Below w.heap.size w w') := fun w v h => by
    have := may_any 2 1 false w h ⟨by decide, by decide⟩ ⟨by decide, by decide⟩
    rw [k2] at this
    exact this
  have C5 : Hid (∀ w', Below w.heap.size w w' → Calls Try.prog 12 #[v, .int .i64 8] w' fun e w'' => e = .returned (.bool (rightB L 8)) ∧ Below w'.heap.size w' w'') := fun w' hb => rright_any 8 w' (hL.below hb (Nat.le_refl _)) ⟨by decide, by decide⟩
  have C6 : Hid (∀ i w', i64 i → Below w.heap.size w w' → Calls Try.prog 13 #[v, .int .i64 u, .int .i64 i, .bool b] w' fun e w'' => e = .returned (.bool (mayB L u i b)) ∧ Below w'.heap.size w' w'') := fun i w' hi hb => may_any u i b w' (hL.below hb (Nat.le_refl _)) ⟨hu1, hu2⟩ hi
  obtain ⟨a, cap, rfl, hlc, hcap, hc⟩ := hL.open_
  have H := Lib.hid hc
  clear hc hL
  obtain ⟨n, hn⟩ : ∃ n, n = L.length := ⟨_, rfl⟩
  rw [← hn] at hlc C5 C6 ⊢
  replace hn := Lib.hid hn
  obtain ⟨rb, hrb⟩ : ∃ rb, rb = rightB L 8 := ⟨_, rfl⟩
  rw [← hrb] at C5
  replace hrb := Lib.hid hrb
  go_enter Try.func6, Try.ntmps6
  go_wp2_with fail
  refine (C2.out _).mono ?_
  rintro e w1 ⟨v1, rfl, l1, hb1⟩
  go_wp2_with fail
  refine (C3.out _ _ l1).mono ?_
  rintro e w2 ⟨rfl, hb2⟩
  have g2 := Lib.hid (below_more hb1 hb2)
  clear hb1 hb2 l1
  go_wp2_with fail
  refine (C2.out _).mono ?_
  rintro e w3 ⟨v3, rfl, l3, hb3⟩
  go_wp2_with fail
  refine (C4.out _ _ l3).mono ?_
  rintro e w4 ⟨rfl, hb4⟩
  have g4 := Lib.hid (below_more (below_more g2.out hb3) hb4)
  clear hb3 hb4 l3 g2 C2 C3 C4
  go_wp2_with fail
  refine (C5.out _ g4.out).mono ?_
  rintro e w5 ⟨rfl, hb5⟩
  have g5 := Lib.hid (below_more g4.out hb5)
  clear hb5 C5
  cases rb with
  | false =>
    go_wp2_with fail
    go_ret
    exact ⟨rfl, g5.out⟩
  | true =>
    have RP := Lib.hid (rightB_of hrb.out.symm).2.2
    clear hrb
    go_wp2_with fail
    go_loopw [21] (fun t wr => ∃ k : Nat, k ≤ n ∧ t = .int .i64 k ∧ Below w.heap.size w wr) (fun t _ => n - (intOf t).toNat)
    case atStart => exact ⟨0, Nat.zero_le _, rfl, g5.out⟩
    case round =>
      obtain ⟨k, hk, rfl, hbel⟩ := hrel
      by_cases hlt : k < n
      · have hkl : k < L.length := by rw [← hn.out]; exact hlt
        obtain ⟨bk, off, rfl, hb, rv, sv, ⟨p1, p2⟩, ⟨o1, o2⟩, c0, c1, c2, c3, hr, hs⟩ := H.out k hkl
        obtain ⟨_, r2, _⟩ := RP.out k hkl
        have UP := Lib.hid (up (L := L) (u := u) (b := b) hkl)
        generalize lb L k = x at *
        obtain ⟨p, o, r, s⟩ := x
        simp only at p1 p2 o1 o2 c0 c1 c2 c3 hr hs r2 UP
        replace c0 := below_cell hbel hb c0
        replace c1 := below_cell hbel hb c1
        replace c2 := below_cell hbel hb c2
        replace c3 := below_cell hbel hb c3
        obtain ⟨ra, rc, rfl⟩ := hr.is_slice
        obtain ⟨sa, sc, rfl⟩ := hs.is_slice
        generalize r.length = l1 at *
        generalize s.length = l2 at *
        have CK := Lib.hid (C6.out (k : Int) · ⟨by omega, by omega⟩)
        have CP := Lib.hid (C6.out p · ⟨by omega, by omega⟩)
        have HB := Lib.hid hbel
        have KA : Hid (∀ o, Below w.heap.size w (wr.alloc o)) := fun o => below_more hbel ((Below.refl _ _).alloc (Nat.le_refl _) _)
        clear hr hs H hbel C6
        cases hm : mayB L u k b with
        | false =>
          rw [hm] at CK
          clear hm UP
          go_wp2_with fail
          refine (CK.out _ (KA.out _)).mono ?_
          rintro e w6 ⟨rfl, hb6⟩
          have g6 := Lib.hid (below_more (KA.out _) hb6)
          clear hb6
          go_wp2_with fail
          go_roundw
          case rel => exact ⟨k + 1, by omega, by go_num, g6.out⟩
          case measure => simp [intOf]; omega
        | true =>
          rw [hm] at CK
          by_cases q : p < 0
          · have d : decide ((0 : Int) ≤ p) = false := by simp; omega
            clear hm UP
            go_wp2_with fail
            refine (CK.out _ (KA.out _)).mono ?_
            rintro e w6 ⟨rfl, hb6⟩
            have g6 := Lib.hid (below_more (KA.out _) hb6)
            obtain ⟨hc6, hf6⟩ := bcell hb6
            go_wp2_with fail
            go_roundw
            case rel => exact ⟨k + 1, by omega, by go_num, g6.out⟩
            case measure => simp [intOf]; omega
          · have d : decide ((0 : Int) ≤ p) = true := by simp; omega
            have hp := UP.out hm (by omega) (by omega)
            rw [hp] at CP
            clear hm UP hp
            go_wp2_with fail
            refine (CK.out _ (KA.out _)).mono ?_
            rintro e w6 ⟨rfl, hb6⟩
            have g6 := Lib.hid (below_more (KA.out _) hb6)
            obtain ⟨hc6, hf6⟩ := bcell hb6
            go_wp2_with fail
            refine (CP.out _ g6.out).mono ?_
            rintro e w7 ⟨rfl, hb7⟩
            have g7 := Lib.hid (below_more g6.out hb7)
            clear hc6 hf6 hb6 hb7
            go_wp2_with fail
            go_roundw
            case rel => exact ⟨k + 1, by omega, by go_num, g7.out⟩
            case measure => simp [intOf]; omega
      · clear H
        go_wp2_with fail
        go_ret
        exact ⟨rfl, hbel⟩

set_option maxRecDepth 100000 in
theorem lifted (os : Os) (started : os.Started) (H : Type) (enc : TypeId × Value → H) :
    ReturnsInHanded {} Try.checked os 6 .any (Rows.rightsChildrenSpec.pre6 enc Try.prog Try.f6 Rows.rightsChildrenRow.domain false) (Rows.rightsChildrenSpec.post enc Try.prog Try.f6 false true false false) := by
  refine returnsInHanded_of_change (C := Try.checked) own started (by kernel_rfl) Try.func6
    (ChangeSpec.witness6 (enc := enc) (C := Try.checked) false ⟨#[], #[.slice none 0 0, .int .i64 0, .bool false], []⟩ 8 (by kernel_rfl) (by kernel_rfl) (by kernel_rfl) (by kernel_rfl)) ?_
  intro W base args ds gs before hval0 hW hcnd _
  have hval : ∀ (j : Nat) t v, Try.f6.params[j]? = some t → args[j]? = some v → Value.okWide Try.prog W .any base t v := hval0
  have hread : ∀ t ∈ Try.f6.params.toList, Try.prog.readableRec t = true ∧ t < Try.prog.types.size := by
    have : (Try.f6.params.toList.all fun t => Try.prog.readableRec t && decide (t < Try.prog.types.size)) = true := by kernel_rfl
    intro t ht
    have := List.all_eq_true.1 this t ht
    simpa using this
  refine law_contract (P := Try.prog) (s := Rows.rightsChildrenSpec) (fn := Try.f6) (tb := 4) laidOut rfl hread rfl Try.underlying4 (fun W' => okWide_bool_mk Try.underlying4 _) ?_ hW ?_
  · intro ds hds
    rw [Try.params6] at hds
    match ds, hds with
    | [d0, d1, d2], _ => rfl
  intro pl hA
  rw [Try.params6] at hA hval
  obtain ⟨v0, vs0, d0, ds0, p0, q0, hargs, rfl, hp0, h0, r0⟩ := trodAll_cons hA
  obtain ⟨v1, vs1, d1, ds1, p1, q1, rfl, rfl, hp1, h1, r1⟩ := trodAll_cons r0
  obtain ⟨v2, vs2, d2, ds2, p2, q2, rfl, rfl, hp2, h2, r2⟩ := trodAll_cons r1
  obtain ⟨rfl, rfl, hpe⟩ := trodAll_nil r2
  obtain rfl : args = #[v0, v1, v2] := by cases args; simp_all
  obtain ⟨L, hL0⟩ := open_labels (hval 0 22 v0 rfl rfl) h0
  obtain ⟨u, rfl, rfl, _, hw1⟩ := open_int Try.underlying3 (hval 1 3 v1 rfl rfl) h1
  have hb1 : -9223372036854775808 ≤ u ∧ u ≤ 9223372036854775807 := by simpa [Lit.wf, IntKind.min, IntKind.max, IntKind.signed, IntKind.bits] using hw1
  obtain ⟨b, rfl, rfl, _⟩ := open_bool Try.underlying4 (hval 2 4 v2 rfl rfl) h2
  exact walk v0 L hL0 u hb1.1 hb1.2 b

theorem over : Rows.rightsChildrenRow.holds Try.pinned (OpenSpec.ofChange Rows.rightsChildrenSpec) :=
  OpenClaim.holds_of_wide 6 Try.f6 rfl rfl rfl rfl rfl rfl rfl ⟨rfl, rfl, rfl, rfl, rfl⟩ rfl rfl rfl rfl rfl (by kernel_rfl) Try.func6 (by kernel_rfl)
    (of_decide_eq_true (by kernel_rfl)) (by unfold Func.isWrapper; first | (rw [if_pos (by decide +kernel)]; kernel_rfl) | (rw [if_neg (by decide +kernel)]; exact ⟨rfl, rfl⟩))
    (fun os started H enc _ => lifted os started H enc)

/-- The statement. -/
theorem proved : Rows.RightsChildrenSaid :=
  over
#print axioms proved
end Go.Proofs.Ytefibidkmfcccaa.rightsChildren
