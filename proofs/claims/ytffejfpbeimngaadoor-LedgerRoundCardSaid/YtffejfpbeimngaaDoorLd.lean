/- Ledger: what the head behind the last record says. -/
import Derived.Test.YtffejfpbeimngaaDoorLc
import Derived.Test.YtffejfpbeimngaaDoorFb
set_option linter.unusedVariables false
set_option linter.unusedSimpArgs false
set_option maxRecDepth 100000
namespace Go.Proofs.YtffejfpbeimngaaDoor.Ldg
open Go.RowKit Go.Lib Go.Proofs.YtffejfpbeimngaaDoor.Bx Go.Proofs.YtffejfpbeimngaaDoor.Frm Go.Proofs.YtffejfpbeimngaaDoor.Wds Go.Proofs.YtffejfpbeimngaaDoor.Plt

/-- What the plates of a ring hold, place by place. -/
def ring (D : DK) (first : Nat) (q : Nat) : List UInt8 := (D.P (first + q)).last.data.toList
structure Rg (D : DK) (l : LS) : Prop where
  on : D.off = false
  fit : l.first + l.n ≤ D.n
  full : ∀ q, q < l.n → (ring D l.first q).length = 128
theorem mkB_back (s : ByteArray) : mkB s.data.toList = s := by
  obtain ⟨⟨l⟩⟩ := s
  rfl
theorem ring_mk (D : DK) (first q : Nat) : mkB (ring D first q) = (D.P (first + q)).last := mkB_back _
section
variable {base w X B F D l} 
theorem get_ring {base : Nat} {w : World} {B : Nat} {F : Nat → Prop} {D : DK} {l : LS} (h : Disk base w B F D) (r : Rg D l) (q : Nat) (hq : q < l.n) (m : Nat) : Calls Tryd.prog 8 #[.pointer (some ⟨B, 0, none⟩), .int .i64 ((l.first + q : Nat) : Int)] (w.drewN m) fun e w' => e = .returned (.tuple #[.string (mkB (ring D l.first q)), .bool true]) ∧ w' = w.drewN m := by
  have h1 : Disk base (w.drewN m) B F D := h.below (Wds.d_drews (Below.refl _ _) _)
  refine (getX ((l.first + q : Nat) : Int) h1).mono ?_
  rintro e w' ⟨rfl, rfl⟩
  have hB : getB D ((l.first + q : Nat) : Int) = true := by
    unfold getB
    rw [r.on, decide_eq_true (by omega), decide_eq_true (by have := r.fit; omega)]
    rfl
  have hS : getS D ((l.first + q : Nat) : Int) = mkB (ring D l.first q) := by
    unfold getS
    rw [hB, ring_mk]
    rfl
  rw [hB, hS]
  exact ⟨rfl, rfl⟩
end
/-- What length answers: the length that the head tells, and whether it is a head of the next number. -/
def Told (m0 : Nat) (bb : Bool) : Ending → Prop := fun e => ∃ m : Nat, e = .returned (.tuple #[.int .i64 (m : Nat), .bool bb]) ∧ (bb = true → m = m0) ∧ m ≤ 65535
set_option maxHeartbeats 8000000 in
theorem length_any {base : Nat} {w : World} {X B : Nat} {F : Nat → Prop} {D : DK} {l : LS} (hl : Led w X B l) (ok : l.Ok) (hd : Disk base w B F D) (r : Rg D l) : Calls Tryd.prog 31 #[.pointer (some ⟨X, 0, none⟩)] w fun e w' => Told (lenOf (ring D l.first l.p)) (isHead (ring D l.first l.p) l.number) e ∧ Below w.heap.size w w' := by
  have CP : Hid (∀ m, Calls Tryd.prog 34 #[.pointer (some ⟨X, 0, none⟩), .int .i64 0] (w.drewN m) fun e w' => e = .returned (.int .i64 ((l.first + l.p : Nat) : Int)) ∧ ∃ q, w' = (w.drewN m).drewN q) := fun m => by
    have h := plate_any (w := w.drewN m) (B := B) hl ok 0 (by omega)
    rw [Nat.add_zero, Nat.mod_eq_of_lt ok.p] at h
    exact h
  have CG := Lib.hid (get_ring hd r l.p ok.p)
  obtain ⟨c0, c1, c2, c3, c4, c5⟩ := hl.cells
  have hnum := ok.num
  obtain ⟨h, hh⟩ : ∃ h, h = ring D l.first l.p := ⟨_, rfl⟩
  have hh128 : h.length = 128 := by rw [hh]; exact r.full _ ok.p
  obtain ⟨number, hnu⟩ : ∃ n, n = l.number := ⟨_, rfl⟩
  rw [← hh] at CG
  rw [← hh, ← hnu]
  rw [← hnu] at c4 hnum
  obtain ⟨a, ha⟩ : ∃ a, a = (h.getD 9 0).toNat := ⟨_, rfl⟩
  obtain ⟨b, hb⟩ : ∃ b, b = (h.getD 10 0).toNat := ⟨_, rfl⟩
  obtain ⟨m, hm⟩ : ∃ m, m = lenOf h := ⟨_, rfl⟩
  have x8 : a < 256 := by rw [ha]; exact UInt8.toNat_lt _
  have y8 : b < 256 := by rw [hb]; exact UInt8.toNat_lt _
  have hxy : a * 256 + b = m := by rw [ha, hb, hm]; rfl
  have hxi : bits .or .i64 ((a : Int) * 256) (b : Int) = (m : Nat) := by
    rw [bits_join .i64 16 (by decide) (fun n h0 h1 => IntWalk.i64_in n (by omega)) 8 _ _ (by omega) (by omega) (by omega) (by omega) (by omega) (by omega)]
    omega
  have XI0 : ∀ w, (Instr.index 9 (.string (mkB h)) (.int .i64 9)).run Tryd.prog w = .ok (.int .u8 (a : Nat)) w := fun w => by
    rw [ha]
    exact byte_run w h .i64 (i := 9) (by omega)
  have XI1 : ∀ w, (Instr.index 9 (.string (mkB h)) (.int .i64 10)).run Tryd.prog w = .ok (.int .u8 (b : Nat)) w := fun w => by
    rw [hb]
    exact byte_run w h .i64 (i := 10) (by omega)
  have hm2 : m ≤ 65535 := by rw [hm]; exact lenOf_le h
  have CH := Lib.hid (fun w => head_any number m hnum hm2 w)
  have SQ := str_eq (mkB h) (mkB (headL number m))
  have HI : Hid (isHead h number = (decide (number < 1099511627776) && (decide (0 < m) && decide (mkB h = mkB (headL number m))))) := by
    show _ = _
    unfold isHead
    rw [← hm]
    congr 2
    exact decide_eq_decide.2 ⟨fun e => by rw [← e], fun e => by have := congrArg (fun s => s.data.toList) e; exact this⟩
  rw [← hm]
  generalize isHead h number = bb at *
  generalize mkB h = s at *
  generalize mkB (headL number m) = t at *
  clear hh hh128 ha hb hm hnu c1 c2 c3 c5 hd r ok hl
  go_enter Tryd.func31, Tryd.ntmps31
  go_wp2_with fail
  obtain ⟨i0, hi0⟩ : ∃ i : Nat, i = l.first + l.p := ⟨_, rfl⟩
  rw [← hi0] at CP CG
  clear hi0
  go_quiet (first | (go_at_call 34; with_reducible exact Calls.quiet_of (CP.out _)) | (go_at_call 8; with_reducible exact Calls.quiet_of_same (CG.out _)))
  have KD := Lib.hid (Wds.d_drews (Below.refl w.heap.size w) nq)
  have c4' : (w.drewN nq).cell? ⟨X, 4, none⟩ = some (.int .i64 (number : Nat)) := c4
  generalize w.drewN nq = w1 at KD c4' ⊢
  clear c0 c4 CP CG
  by_cases hb0 : number < 1099511627776
  · have g1 : decide ((1099511627776 : Int) ≤ (number : Int)) = false := decide_eq_false (by omega)
    go_wp2_with fail
    go_quiet (fail)
    have KD2 := Lib.hid (below_on KD.out (Wds.d_drews (Below.refl w1.heap.size w1) nq))
    have c5' : (w1.drewN nq).cell? ⟨X, 4, none⟩ = some (.int .i64 (number : Nat)) := c4'
    generalize w1.drewN nq = w2 at KD2 c5' ⊢
    clear XI0 XI1 hxi hxy KD c4'
    by_cases hm0 : 0 < m
    · have g2 : decide ((0 : Int) < (m : Int)) = true := decide_eq_true (by omega)
      go_wp2_with fail
      refine (CH.out _).mono ?_
      rintro e w3 ⟨rfl, b3⟩
      have KD3 := Lib.hid (below_on KD2.out b3)
      clear b3 KD2 CH
      by_cases hst : s = t
      · subst hst
        have hbb : bb = true := by rw [HI.out, decide_eq_true hb0, decide_eq_true hm0, decide_eq_true rfl]; rfl
        subst hbb
        clear HI SQ
        go_wp2_with fail
        all_goals exact bodyPost_ret (v := .tuple #[.int .i64 (m : Nat), .bool true]) (by simp [results, Tryd.results31, go_sem]) rfl ⟨⟨m, rfl, fun _ => rfl, hm2⟩, KD3.out⟩
      · have hbb : bb = false := by rw [HI.out, decide_eq_false hst, Bool.and_false, Bool.and_false]
        rw [decide_eq_false hst] at SQ
        subst hbb
        clear HI
        go_wp2_with fail
        all_goals exact bodyPost_ret (v := .tuple #[.int .i64 (m : Nat), .bool false]) (by simp [results, Tryd.results31, go_sem]) rfl ⟨⟨m, rfl, fun h => (by cases h), hm2⟩, KD3.out⟩
    · have g2 : decide ((0 : Int) < (m : Int)) = false := decide_eq_false (by omega)
      have hbb : bb = false := by rw [HI.out, decide_eq_false hm0, Bool.false_and, Bool.and_false]
      subst hbb
      clear HI
      go_wp2_with fail
      all_goals exact bodyPost_ret (v := .tuple #[.int .i64 (m : Nat), .bool false]) (by simp [results, Tryd.results31, go_sem]) rfl ⟨⟨m, rfl, fun h => (by cases h), hm2⟩, KD2.out⟩
  · have g1 : decide ((1099511627776 : Int) ≤ (number : Int)) = true := decide_eq_true (by omega)
    have hbb : bb = false := by rw [HI.out, decide_eq_false hb0]; rfl
    clear HI
    subst hbb
    go_wp2_with fail
    all_goals exact bodyPost_ret (v := .tuple #[.int .i64 0, .bool false]) (by simp [results, Tryd.results31, go_sem]) rfl ⟨⟨0, rfl, fun h => (by cases h), by omega⟩, KD.out⟩
end Go.Proofs.YtffejfpbeimngaaDoor.Ldg
