/- For every list of entries, every entry and every number: AuditAdds answers true, and its arguments read behind the call as before. No condition. -/
import Derived.Test.YtfahfjhibffdkaaRows
import Derived.Test.YtfahfjhibffdkaaLift
import Derived.Test.YtfahfjhibffdkaaEp
import Derived.Deep.RegionHeld3
set_option linter.unusedVariables false
namespace Go.Proofs.Ytfahfjhibffdkaa.auditAdds
open Go.ChangeShapes Go.WideShapes Go.ChangeAt Go.RowKit Go.Lib Go.Proofs.Ytfahfjhibffdkaa.Lift Go.Proofs.Ytfahfjhibffdkaa.Rt Go.Proofs.Ytfahfjhibffdkaa.Rig Go.Proofs.Ytfahfjhibffdkaa.Bx Go.Proofs.Ytfahfjhibffdkaa.Aud
open Go.ChangeMaps (open_string shut_string)

theorem own : ownKnob Try.prog.godebug = none := by kernel_rfl
theorem laidOut : laidOutB Try.prog = true := by kernel_rfl

theorem one_ens {P : Nat → Prop} {w : World} {b : Nat} {x0 x1 x2 x3 x4 : Value} {y : En} (h : w.heap[b]? = some (.cells #[x0, x1, x2, x3, x4] 25 (0, 0))) (hy : EnP P w [x0, x1, x2, x3, x4] y) : EnsP P w (.slice (some ⟨b, 0, none⟩) 1 1) [y] :=
  ⟨[([x0, x1, x2, x3, x4], y)], rfl, Rk.row_one (e := 25) h rfl, fun x hx => by simp only [List.mem_singleton] at hx; subst hx; exact hy⟩
def e3 : En := ⟨0, 3, 0, [], []⟩
theorem add3 : addE [] e3 1 = [e3] := by simp [addE]
theorem e3_ok (w : World) : EnP (· < w.heap.size) w [.int .i64 0, .int .i64 3, .int .i64 0, .slice none 0 0, .slice none 0 0] e3 := ⟨_, _, rfl, ⟨⟨by decide, by decide⟩, ⟨by decide, by decide⟩, ⟨by decide, by decide⟩⟩, IntsP.nil_ _ _, IntsP.nil_ _ _⟩
theorem add_e3 (w : World) : Calls Try.prog 7 #[.slice none 0 0, .agg #[.int .i64 0, .int .i64 3, .int .i64 0, .slice none 0 0, .slice none 0 0], .int .i64 1] w fun e w' => ∃ b off c, e = .returned (.tuple #[.slice (some ⟨b, off, none⟩) 1 c, .bool true]) ∧ 1 ≤ c ∧ c ≤ maxLen ∧ w'.cell? ⟨b, off, none⟩ = some (.int .i64 0) ∧ w'.cell? ⟨b, off + 1, none⟩ = some (.int .i64 3) ∧ Below w.heap.size w w' := by
  refine (add_at (A := []) (y := e3) 1 w (EnsP.nil_ _ _) (e3_ok w) (fun _ h => h) (by decide) ⟨by decide, by decide⟩ short_nil (fun y hy => by simp only [List.mem_singleton] at hy; subst hy; simp [e3])).mono ?_
  rintro e w' ⟨s, rfl, h, hb⟩
  rw [add3] at h
  obtain ⟨a, c, rfl, h1, h2⟩ := h.is_slice
  obtain ⟨b, off, sa, sn, sc, la, ln, lc, rfl, _, _, c0, c1, _⟩ := h.get (show 0 < [e3].length by decide)
  exact ⟨b, off, c, rfl, h1, h2, by simpa [e3] using c0, by simpa [e3] using c1, hb⟩
set_option maxRecDepth 100000 in
set_option maxHeartbeats 8000000 in
theorem walk {w : World} (v : Value) (A : List En) (hA : EnsP (· < w.heap.size) w v A) (y : En) (sv lv : Value) (hy : EnP (· < w.heap.size) w [.int .i64 y.u, .int .i64 y.o, .int .i64 y.s, sv, lv] y) (most : Int) (m1 : -9223372036854775808 ≤ most) (m2 : most ≤ 9223372036854775807) :
    Calls Try.prog 3 #[v, .agg #[.int .i64 y.u, .int .i64 y.o, .int .i64 y.s, sv, lv], .int .i64 most] w fun e w' => e = .returned (.bool true) ∧ Below w.heap.size w w' := by
  obtain ⟨a, cap, rfl, hl, hm⟩ := hA.is_slice
  obtain ⟨sa, sn, sc, la, ln, lc, rfl, rfl⟩ : ∃ sa sn sc la ln lc, sv = .slice sa sn sc ∧ lv = .slice la ln lc := by
    obtain ⟨s', l', e, _, h1, h2⟩ := hy
    obtain ⟨rfl, rfl⟩ : sv = s' ∧ lv = l' := by simpa using e
    obtain ⟨sa, sc, rfl⟩ := h1.1.is_slice
    obtain ⟨la, lc, rfl⟩ := h2.1.is_slice
    exact ⟨_, _, _, _, _, _, rfl, rfl⟩
  obtain ⟨n, hn⟩ : ∃ n, n = A.length := ⟨_, rfl⟩
  obtain ⟨B0, R0, L0⟩ := box1 w #[.int .i64 y.u, .int .i64 y.o, .int .i64 y.s, .slice sa sn sc, .slice la ln lc] 25
  obtain ⟨W0, hW0⟩ : ∃ W0, W0 = w.alloc (.cells #[.int .i64 y.u, .int .i64 y.o, .int .i64 y.s, .slice sa sn sc, .slice la ln lc] 25) := ⟨_, rfl⟩
  rw [← hW0] at B0 R0 L0
  have HB0 := Lib.hid B0
  have HW0 := Lib.hid hW0
  have HN := Lib.hid hn
  have HE : Hid (∀ w', Below W0.heap.size W0 w' → EnsP (· < w.heap.size) w' (.slice a n cap) A) := fun w' hb => by rw [hn]; exact hA.below (below_more B0 hb)
  have HY : Hid (∀ w', Below W0.heap.size W0 w' → EnP (· < w.heap.size) w' [.int .i64 y.u, .int .i64 y.o, .int .i64 y.s, .slice sa sn sc, .slice la ln lc] y) := fun w' hb => hy.below (below_more B0 hb)
  obtain ⟨b4, hb4⟩ : ∃ b4, b4 = w.heap.size := ⟨_, rfl⟩
  rw [← hb4] at R0 L0
  have HL4 : Hid (b4 < W0.heap.size) := by show _ < _; omega
  have KZ : Hid (Below W0.heap.size W0 W0) := Below.refl _ _
  have HWS : Hid (∀ w', Below W0.heap.size W0 w' → w.heap.size ≤ w'.heap.size) := fun w' hb => Nat.le_trans B0.size hb.size
  have HR4 := Lib.hid R0
  have HIM : Hid (i64 most) := ⟨m1, m2⟩
  rw [← hn] at hl ⊢
  unfold maxLen at hm
  clear hA hy hn hW0 B0 R0 L0 m1 m2
  obtain ⟨yu, yo, ys, yS, yL⟩ := y
  simp only at HY HR4 HW0 ⊢
  have BX : Hid (∀ w', Below W0.heap.size W0 w' → w'.cell? ⟨b4, 0, none⟩ = some (.int .i64 yu) ∧ w'.cell? ⟨b4, 1, none⟩ = some (.int .i64 yo) ∧ w'.cell? ⟨b4, 2, none⟩ = some (.int .i64 ys) ∧ w'.cell? ⟨b4, 3, none⟩ = some (.slice sa sn sc) ∧ w'.cell? ⟨b4, 4, none⟩ = some (.slice la ln lc)) := fun w' hb => five_cells ((hb.block _ HL4.out).trans HR4.out)
  go_enter Try.func3, Try.ntmps3
  go_upto_region 1 with fail
  rw [← hb4, ← HW0.out]
  clear hb4
  go_wp2_with fail
  refine (add_e3 W0).mono ?_
  rintro e w1 ⟨xb, xo, xc, rfl, xc1, xc2, xe0, xe1, b1⟩
  have K1 := Lib.hid b1
  unfold maxLen at xc2
  clear b1
  have C2 := Lib.hid (esmall_any w1 (HE.out w1 K1.out))
  go_wp2_with fail
  refine (C2.out).mono ?_
  rintro e w2 ⟨rfl, b2⟩
  have K2 := Lib.hid (below_more K1.out b2)
  clear b2 C2 xe0 xe1
  cases hsm : smallE A with
  | false =>
    clear hsm
    go_wp2_with fail
    go_ret
    exact ⟨by simp, below_more HB0.out K2.out⟩
  | true =>
    have HS : Hid (n ≤ 300) := by show _ ≤ _; rw [HN.out]; exact (of_decide_eq_true hsm).2
    have HSH : Hid (Short A) := short_small hsm
    obtain ⟨z0, z1, z2, z3, z4⟩ := BX.out w2 K2.out
    have C3 : Hid (Calls Try.prog 8 #[.slice (some ⟨w2.heap.size, 0, none⟩) 1 1] (w2.alloc (.cells #[.int .i64 yu, .int .i64 yo, .int .i64 ys, .slice sa sn sc, .slice la ln lc] 25)) fun e w' => e = .returned (.bool (smallE [⟨yu, yo, ys, yS, yL⟩])) ∧ Below (w2.alloc (.cells #[.int .i64 yu, .int .i64 yo, .int .i64 ys, .slice sa sn sc, .slice la ln lc] 25)).heap.size (w2.alloc (.cells #[.int .i64 yu, .int .i64 yo, .int .i64 ys, .slice sa sn sc, .slice la ln lc] 25)) w') := esmall_any _ (one_ens (heap_alloc_new _ _) (HY.out _ (below_al K2.out _)))
    clear hsm
    go_wp2_with fail
    refine (C3.out).mono ?_
    rintro e w3 ⟨rfl, b3⟩
    have K3 := Lib.hid (below_more (below_al K2.out _) b3)
    clear b3 C3 z0 z1 z2 z3 z4
    cases hs1 : smallE [⟨yu, yo, ys, yS, yL⟩] with
    | false =>
      clear hs1
      go_wp2_with fail
      go_ret
      exact ⟨by simp, below_more HB0.out K3.out⟩
    | true =>
      have HSY : Hid (Short [⟨yu, yo, ys, yS, yL⟩]) := short_small hs1
      clear hs1
      obtain ⟨z0, z1, z2, z3, z4⟩ := BX.out w3 K3.out
      obtain ⟨q, hq⟩ : ∃ q, q = decide ((A.length : Int) < most) := ⟨_, rfl⟩
      have C4 : Hid (∀ w', Below W0.heap.size W0 w' → Calls Try.prog 7 #[.slice a n cap, .agg #[.int .i64 yu, .int .i64 yo, .int .i64 ys, .slice sa sn sc, .slice la ln lc], .int .i64 most] w' fun e w'' => ∃ a' n' c', e = .returned (.tuple #[.slice a' n' c', .bool q]) ∧ EnsP (fun _ => True) w'' (.slice a' n' c') (addE A ⟨yu, yo, ys, yS, yL⟩ most) ∧ Below w'.heap.size w' w'') := fun w' hb => by
        refine (add_at (y := ⟨yu, yo, ys, yS, yL⟩) most w' (HE.out w' hb) (HY.out w' hb) (fun b h => Nat.lt_of_lt_of_le h (HWS.out w' hb)) (by rw [← HN.out]; have := HS.out; omega) HIM.out HSH.out HSY.out).mono ?_
        rintro e w'' ⟨s, rfl, h, hb⟩
        obtain ⟨a', c', rfl, _⟩ := h.is_slice
        exact ⟨_, _, _, by rw [hq], h, hb⟩
      have C5 : Hid (∀ w', Below W0.heap.size W0 w' → Calls Try.prog 9 #[.slice a n cap, .agg #[.int .i64 yu, .int .i64 yo, .int .i64 ys, .slice sa sn sc, .slice la ln lc], .int .i64 most] w' fun e w'' => ∃ a' n' c', e = .returned (.tuple #[.slice a' n' c', .bool q]) ∧ EnsP (· < w.heap.size) w'' (.slice a' n' c') (addE A ⟨yu, yo, ys, yS, yL⟩ most) ∧ Below w'.heap.size w' w'') := fun w' hb => by
        refine (radd_any (y := ⟨yu, yo, ys, yS, yL⟩) most w' (HE.out w' hb) (HY.out w' hb) (fun b h => Nat.lt_of_lt_of_le h (HWS.out w' hb)) (by rw [← HN.out]; have := HS.out; omega) HIM.out).mono ?_
        rintro e w'' ⟨s, rfl, h, hb⟩
        obtain ⟨a', c', rfl, _⟩ := h.is_slice
        exact ⟨_, _, _, by rw [hq], h, hb⟩
      have C41 := Lib.hid (C4.out w3 K3.out)
      clear hq C4
      go_wp2_with fail
      refine (C41.out).mono ?_
      rintro e w4 ⟨a4, n4, c4, rfl, h4, b4'⟩
      have K4 := Lib.hid (below_more K3.out b4')
      have H4 : Hid (∀ w', Below w4.heap.size w4 w' → EnsP (fun _ => True) w' (.slice a4 n4 c4) (addE A ⟨yu, yo, ys, yS, yL⟩ most)) := fun w' hb => h4.below hb
      have C51 := Lib.hid (C5.out w4 K4.out)
      clear h4 b4' C41 C5 z0 z1 z2 z3 z4
      obtain ⟨z0, z1, z2, z3, z4⟩ := BX.out w4 K4.out
      go_wp2_with fail
      refine (C51.out).mono ?_
      rintro e w5 ⟨a5, n5, c5, rfl, h5, b5⟩
      have K5 := Lib.hid (below_more K4.out b5)
      have C6 := Lib.hid (esame_any w5 (H4.out w5 b5) h5)
      clear h5 b5 C51 z0 z1 z2 z3 z4
      cases q with
      | true =>
        go_wp2_with fail
        refine (C6.out).mono ?_
        rintro e w6 ⟨rfl, b6⟩
        have K6 := Lib.hid (below_more K5.out b6)
        clear b6 C6
        go_wp2_with fail
        go_ret
        exact ⟨by simp, below_more HB0.out K6.out⟩
      | false =>
        go_wp2_with fail
        refine (C6.out).mono ?_
        rintro e w6 ⟨rfl, b6⟩
        have K6 := Lib.hid (below_more K5.out b6)
        clear b6 C6
        go_wp2_with fail
        go_ret
        exact ⟨by simp, below_more HB0.out K6.out⟩

set_option maxRecDepth 100000 in
theorem lifted (os : Os) (started : os.Started) (H : Type) (enc : TypeId × Value → H) :
    ReturnsInHanded {} Try.checked os 3 .any (Rows.auditAddsSpec.pre6 enc Try.prog Try.f3 Rows.auditAddsRow.domain false) (Rows.auditAddsSpec.post enc Try.prog Try.f3 false true false false) := by
  refine returnsInHanded_of_change (C := Try.checked) own started (by kernel_rfl) Try.func3
    (ChangeSpec.witness6 (enc := enc) (C := Try.checked) false ⟨#[], #[.slice none 0 0, .agg #[.int .i64 0, .int .i64 0, .int .i64 0, .slice none 0 0, .slice none 0 0], .int .i64 0], []⟩ 8 (by kernel_rfl) (by kernel_rfl) (by kernel_rfl) (by kernel_rfl)) ?_
  intro W base args ds gs before hval0 hW hcnd _
  have hval : ∀ (j : Nat) t v, Try.f3.params[j]? = some t → args[j]? = some v → Value.okWide Try.prog W .any base t v := hval0
  have hread : ∀ t ∈ Try.f3.params.toList, Try.prog.readableRec t = true ∧ t < Try.prog.types.size := by
    have : (Try.f3.params.toList.all fun t => Try.prog.readableRec t && decide (t < Try.prog.types.size)) = true := by kernel_rfl
    intro t ht
    have := List.all_eq_true.1 this t ht
    simpa using this
  refine law_contract (P := Try.prog) (s := Rows.auditAddsSpec) (fn := Try.f3) (tb := 4) laidOut rfl hread rfl Try.underlying4 (fun W' => okWide_bool_mk Try.underlying4 _) ?_ hW ?_
  · intro ds hds
    rw [Try.params3] at hds
    match ds, hds with
    | [d0, d1, d2], _ => rfl
  intro pl hA
  rw [Try.params3] at hA hval
  obtain ⟨v0, vs0, d0, ds0, p0, q0, hargs, rfl, hp0, h0, r0⟩ := trodAll_cons hA
  obtain ⟨v1, vs1, d1, ds1, p1, q1, rfl, rfl, hp1, h1, r1⟩ := trodAll_cons r0
  obtain ⟨v2, vs2, d2, ds2, p2, q2, rfl, rfl, hp2, h2, r2⟩ := trodAll_cons r1
  obtain ⟨rfl, rfl, hpe⟩ := trodAll_nil r2
  obtain rfl : args = #[v0, v1, v2] := by cases args; simp_all
  obtain ⟨A, hL0⟩ := open_entries (hval 0 22 v0 rfl rfl) h0
  obtain ⟨y, sy, ly, rfl, hE1⟩ := open_entry (hval 1 25 v1 rfl rfl) h1
  obtain ⟨most, rfl, rfl, _, hw2⟩ := open_int Try.underlying3 (hval 2 3 v2 rfl rfl) h2
  have hb2 : -9223372036854775808 ≤ most ∧ most ≤ 9223372036854775807 := by simpa [Lit.wf, IntKind.min, IntKind.max, IntKind.signed, IntKind.bits] using hw2
  exact walk v0 A hL0 y sy ly hE1 most hb2.1 hb2.2

theorem over : Rows.auditAddsRow.holds Try.pinned (OpenSpec.ofChange Rows.auditAddsSpec) :=
  OpenClaim.holds_of_wide 3 Try.f3 rfl rfl rfl rfl rfl rfl rfl ⟨rfl, rfl, rfl, rfl, rfl⟩ rfl rfl rfl rfl rfl (by kernel_rfl) Try.func3 (by kernel_rfl)
    (of_decide_eq_true (by kernel_rfl)) (by unfold Func.isWrapper; first | (rw [if_pos (by decide +kernel)]; kernel_rfl) | (rw [if_neg (by decide +kernel)]; exact ⟨rfl, rfl⟩))
    (fun os started H enc _ => lifted os started H enc)

/-- The statement. -/
theorem proved : Rows.AuditAddsSaid :=
  over
#print axioms proved
end Go.Proofs.Ytfahfjhibffdkaa.auditAdds
