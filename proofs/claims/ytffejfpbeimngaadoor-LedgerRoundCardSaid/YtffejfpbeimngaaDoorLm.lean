/- Ledger: Append of a record for which there is room. -/
import Derived.Test.YtffejfpbeimngaaDoorLl
set_option linter.unusedVariables false
set_option linter.unusedSimpArgs false
set_option maxRecDepth 100000
namespace Go.Proofs.YtffejfpbeimngaaDoor.Ldg
open Go.RowKit Go.Lib Go.Proofs.YtffejfpbeimngaaDoor.Bx Go.Proofs.YtffejfpbeimngaaDoor.Frm Go.Proofs.YtffejfpbeimngaaDoor.Wds Go.Proofs.YtffejfpbeimngaaDoor.Plt

/-- A ledger on its disk, and what else was turned since w. -/
def Lg (base : Nat) (w : World) (F : Nat → Prop) (X B : Nat) (l : LS) (D : DK) (w' : World) : Prop :=
  ∃ F', Disk base w' B F' D ∧ Chg (fun g => F g ∨ g = X) w w' ∧ (∀ g, F' g → F g ∨ w.heap.size ≤ g) ∧ Led w' X B l
theorem St.lg {base X B : Nat} {w w1 : World} {F : Nat → Prop} {D : DK} {l : LS} (h : St base w F X B l D w1) : Lg base w F X B l D w1 := by
  obtain ⟨F', a, b, c, d⟩ := h
  exact ⟨F', a, b.mono (fun g q => .inl q), c, d⟩
theorem Lg.wrote {base X B : Nat} {w w1 w2 : World} {F : Nat → Prop} {D : DK} {l l' : LS} {e : Ending} (h : Lg base w F X B l D w1) (k : Wrote w1 X B l' e w2) : e = .returned (.tuple #[]) ∧ Lg base w F X B l' D w2 := by
  obtain ⟨F', a, b, c, d⟩ := h
  obtain ⟨rfl, k1, k2⟩ := k
  exact ⟨rfl, F', a.chg k2 (fun g hg (e : g = X) => disk_not a d (e ▸ hg)), b.trans k2 (fun g (e : g = X) => .inl (.inr e)), c, k1⟩
set_option maxHeartbeats 8000000 in
theorem append_any {base : Nat} {w : World} {X B : Nat} {F : Nat → Prop} {D : DK} {l : LS} (hl : Led w X B l) (ok : l.Ok) (hd : Disk base w B F D) (hF : Fine D) (hC : Clean D) (hf : l.first + l.n ≤ D.n) (hnum : l.number < 1099511627776) (s : List UInt8) (h0 : 0 < s.length) (h1 : s.length ≤ 65535) (hr : platesN s.length ≤ l.n - l.taken) : Calls Tryd.prog 13 #[.pointer (some ⟨X, 0, none⟩), .string (mkB s)] w fun e w' => e = .returned (.int .i64 0) ∧ Lg base w F X B (l.past (platesN s.length)) (layAll D l.first l.n l.p l.number s) w' := by
  have hk := plates_pos h0 h1
  have CPL : Hid (∀ w, Calls Tryd.prog 26 #[.string (mkB s)] w fun e w' => e = .returned (.int .i64 (platesN s.length : Nat)) ∧ w' = w) := fun w => by
    have h := plates_any (mkB s) (by rw [mkB_size]; omega) w
    rw [mkB_size] at h
    exact h
  have C1 : Hid (Calls Tryd.prog 18 #[.pointer (some ⟨B, 0, none⟩)] w fun e w' => e = .returned (.bool true) ∧ w' = w) := (onX hd).mono fun e w' h => by
    rw [hF.on] at h
    exact ⟨h.1, h.2.symm⟩
  have CR := Lib.hid (room_any hl ok)
  have CL : Hid (∀ m, Calls Tryd.prog 27 #[.pointer (some ⟨X, 0, none⟩), .string (mkB s)] (w.drewN m) fun e w' => e = .returned (.bool true) ∧ St base (w.drewN m) F X B l (layAll D l.first l.n l.p l.number s) w') := fun m => lay_any (w := w.drewN m) hl ok (hd.below (Wds.d_drews (Below.refl _ _) m)) hF hC hf hnum s h0 h1
  have CS : Hid (∀ m w', St base (w.drewN m) F X B l (layAll D l.first l.n l.p l.number s) w' → Calls Tryd.prog 25 #[.pointer (some ⟨X, 0, none⟩), .string (mkB s)] w' fun e w2 => e = .returned (.tuple #[]) ∧ Lg base w F X B (l.past (platesN s.length)) (layAll D l.first l.n l.p l.number s) w2) := fun m w' h => by
    have hg := h.lg
    obtain ⟨F', a, b, c, d⟩ := h
    refine (pass_any d ok (mkB s) (by rw [mkB_size]; omega)).mono ?_
    intro e w2 k
    rw [mkB_size] at k
    obtain ⟨e1, F2, a2, b2, c2, d2⟩ := hg.wrote k
    exact ⟨e1, F2, a2, chgD b2, c2, d2⟩
  obtain ⟨c0, _, _, _, c4, _⟩ := hl.cells
  have hk2 : platesN s.length ≤ 600 := by rw [hk]; unfold bodN; omega
  have hk1 : 1 ≤ platesN s.length := by omega
  generalize layAll D l.first l.n l.p l.number s = D2 at *
  generalize hl2 : l.past (platesN s.length) = l2 at *
  clear hl2
  generalize platesN s.length = k at *
  obtain ⟨rm, hrm⟩ : ∃ rm, rm = l.n - l.taken := ⟨_, rfl⟩
  rw [← hrm] at CR hr
  have hrm1 : rm ≤ 16384 := by rw [hrm]; have := ok.n2; omega
  obtain ⟨num, hn⟩ : ∃ num, num = l.number := ⟨_, rfl⟩
  rw [← hn] at c4 hnum
  clear hrm hn hk hl ok hd hF hC hf
  generalize mkB s = sb at *
  have g1 : decide ((k : Int) = 0) = false := decide_eq_false (by omega)
  have g1' : ¬ (k : Int) = 0 := by omega
  have g2 : decide ((rm : Int) < (k : Int)) = false := decide_eq_false (by omega)
  have g3 : decide ((1099511627776 : Int) ≤ (num : Int)) = false := decide_eq_false (by omega)
  go_enter Tryd.func13, Tryd.ntmps13
  go_wp2_with fail
  refine (CPL.out _).mono ?_
  rintro e w1 ⟨rfl, rfl⟩
  go_wp2_with fail
  refine C1.out.mono ?_
  rintro e w2 ⟨rfl, rfl⟩
  go_wp2_with fail
  refine CR.out.mono ?_
  rintro e w3 ⟨rfl, m, rfl⟩
  have c4' : (w2.drewN m).cell? ⟨X, 4, none⟩ = some (.int .i64 (num : Nat)) := c4
  go_wp2_with fail
  refine (CL.out m).mono ?_
  rintro e w4 ⟨rfl, hst⟩
  have C5 := Lib.hid (CS.out m w4 hst)
  clear hst CS CL CR c0 c4 c4'
  go_wp2_with fail
  refine C5.out.mono ?_
  rintro e w5 ⟨rfl, hlg⟩
  have HLG := Lib.hid hlg
  clear hlg C5
  go_wp2_with fail
  go_ret
  exact ⟨rfl, HLG.out⟩
end Go.Proofs.YtffejfpbeimngaaDoor.Ldg
