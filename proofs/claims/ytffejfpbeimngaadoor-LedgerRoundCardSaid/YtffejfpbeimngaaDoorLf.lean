/- Ledger: the record that begins behind the last one. -/
import Derived.Test.YtffejfpbeimngaaDoorLe
set_option linter.unusedVariables false
set_option linter.unusedSimpArgs false
set_option maxRecDepth 100000
namespace Go.Proofs.YtffejfpbeimngaaDoor.Ldg
open Go.RowKit Go.Lib Go.Proofs.YtffejfpbeimngaaDoor.Bx Go.Proofs.YtffejfpbeimngaaDoor.Frm Go.Proofs.YtffejfpbeimngaaDoor.Wds Go.Proofs.YtffejfpbeimngaaDoor.Plt

set_option maxHeartbeats 8000000 in
theorem read_any {base : Nat} {w : World} {X B : Nat} {F : Nat → Prop} {D : DK} {l : LS} (hl : Led w X B l) (ok : l.Ok) (hd : Disk base w B F D) (r : Rg D l) : Calls Tryd.prog 24 #[.pointer (some ⟨X, 0, none⟩)] w fun e w' => OptE (recOf (ring D l.first) l.n l.p l.number (l.n - l.taken)) e ∧ Below w.heap.size w w' := by
  have CL := Lib.hid (length_any hl ok hd r)
  obtain ⟨m0, hm0⟩ : ∃ m, m = lenOf (ring D l.first l.p) := ⟨_, rfl⟩
  have hm65 : m0 ≤ 65535 := by rw [hm0]; exact lenOf_le _
  obtain ⟨k, hk⟩ : ∃ k, k = bodN m0 := ⟨_, rfl⟩
  have hk1 : k ≤ 600 := by rw [hk]; unfold bodN; omega
  have CB : Hid (∀ w, Calls Tryd.prog 32 #[.int .i64 (m0 : Nat)] w fun e w' => e = .returned (.int .i64 (k : Nat)) ∧ w' = w) := fun w => by rw [hk]; exact bodies_any m0 (by omega) w
  obtain ⟨rm, hrm⟩ : ∃ rm, rm = l.n - l.taken := ⟨_, rfl⟩
  have hrm1 : rm ≤ 16384 := by rw [hrm]; have := ok.n2; omega
  have CR : Hid (∀ w', Below w.heap.size w w' → Calls Tryd.prog 15 #[.pointer (some ⟨X, 0, none⟩)] w' fun e w2 => e = .returned (.int .i64 (rm : Nat)) ∧ Below w'.heap.size w' w2) := fun w' hb => by
    rw [hrm]
    refine (room_any (hl.below hb hl.lt) ok).mono ?_
    rintro e w2 ⟨rfl, q, rfl⟩
    exact ⟨rfl, Wds.d_drews (Below.refl _ _) _⟩
  have CT : Hid (0 < m0 → ∀ w', Below w.heap.size w w' → Calls Tryd.prog 33 #[.pointer (some ⟨X, 0, none⟩), .int .i64 (m0 : Nat)] w' fun e w2 => OptE (textOf (ring D l.first) l.n l.p m0) e ∧ Below w'.heap.size w' w2) := fun h0 w' hb => text_any (hl.below hb hl.lt) ok (hd.below hb) r m0 h0 hm65
  have RN : Hid (isHead (ring D l.first l.p) l.number = false → recOf (ring D l.first) l.n l.p l.number rm = none) := fun h => rec_no h
  have RF : Hid (rm < 1 + k → recOf (ring D l.first) l.n l.p l.number rm = none) := fun h => rec_full (by rw [← hm0, ← hk]; exact h)
  have RT : Hid (isHead (ring D l.first l.p) l.number = true → 1 + k ≤ rm → recOf (ring D l.first) l.n l.p l.number rm = textOf (ring D l.first) l.n l.p m0) := fun h1 h2 => by
    rw [hm0]
    exact rec_text h1 (by rw [← hm0, ← hk]; exact h2)
  have R0 : Hid (isHead (ring D l.first l.p) l.number = true → 0 < m0) := fun h => by rw [hm0]; exact (isHead_is h).2.1
  rw [← hrm]
  rw [← hm0] at CL
  generalize recOf (ring D l.first) l.n l.p l.number rm = o at *
  generalize textOf (ring D l.first) l.n l.p m0 = ot at *
  generalize isHead (ring D l.first l.p) l.number = hh at *
  clear hm0 hk hrm hl ok hd r
  go_enter Tryd.func24, Tryd.ntmps24
  go_wp2_with fail
  refine CL.out.mono ?_
  rintro e w1 ⟨⟨m, rfl, hm1, hm2⟩, b1⟩
  have B1 := Lib.hid b1
  clear b1 CL
  cases hh with
  | false =>
    obtain rfl := RN.out rfl
    clear hm1
    go_wp2_with fail
    all_goals exact bodyPost_ret (v := .tuple #[.string ⟨#[]⟩, .bool false]) (by simp [results, Tryd.results24, go_sem]) rfl ⟨rfl, B1.out⟩
  | true =>
    obtain rfl := hm1 rfl
    have h0 := R0.out rfl
    go_wp2_with fail
    refine (CB.out _).mono ?_
    rintro e w2 ⟨rfl, rfl⟩
    go_wp2_with fail
    refine (CR.out _ B1.out).mono ?_
    rintro e w3 ⟨rfl, b3⟩
    have B3 := Lib.hid (below_on B1.out b3)
    clear b3 B1 CR
    by_cases hr : rm < 1 + k
    · have g1 : decide ((rm : Int) < 1 + (k : Int)) = true := decide_eq_true (by omega)
      obtain rfl := RF.out hr
      go_wp2_with fail
      all_goals exact bodyPost_ret (v := .tuple #[.string ⟨#[]⟩, .bool false]) (by simp [results, Tryd.results24, go_sem]) rfl ⟨rfl, B3.out⟩
    · have g1 : decide ((rm : Int) < 1 + (k : Int)) = false := decide_eq_false (by omega)
      obtain rfl := RT.out trivial (by omega)
      have CT2 := Lib.hid (CT.out h0 w3 B3.out)
      clear RN RF RT R0 CT
      go_wp2_with fail
      refine CT2.out.mono ?_
      rintro e w4 ⟨he, b4⟩
      have B4 := Lib.hid (below_on B3.out b4)
      clear b4 B3 CT2
      unfold OptE at he
      subst he
      go_wp2_with fail
      all_goals exact bodyPost_ret (v := .tuple #[.string (mkB (o.getD [])), .bool o.isSome]) (by simp [results, Tryd.results24, go_sem]) rfl ⟨rfl, B4.out⟩
end Go.Proofs.YtffejfpbeimngaaDoor.Ldg
