/- View: Width, of the program and of the plain text. -/
import Derived.Test.YtcpdoicbekcpeaaDoorVd
set_option linter.unusedVariables false
set_option linter.unusedSimpArgs false
set_option maxRecDepth 100000
namespace Go.Proofs.YtcpdoicbekcpeaaDoor.Vi
open Go.RowKit Go.Lib Go.Proofs.YtcpdoicbekcpeaaDoor.Rk

theorem vcell {w w' : World} {b o : Nat} {v : Value} {B : Nat} (hb : Below B w w') (hlt : b < B) (h : w.cell? ⟨b, o, none⟩ = some v) : w'.cell? ⟨b, o, none⟩ = some v := by
  rw [hb.cell (p := ⟨b, o, none⟩) hlt]; exact h
theorem below_more' {w w1 w2 : World} (h1 : Below w.heap.size w w1) (h2 : Below w1.heap.size w1 w2) : Below w.heap.size w w2 := h1.trans (h2.mono h1.size)
set_option maxHeartbeats 4000000 in
theorem Width_any {v : Value} {A : List Pc} (w : World) (h : Pcs w v A) (hr : rightPc A) : Calls Tryd.prog 55 #[v] w fun e w' => e = .returned (.int .i64 (wid A)) ∧ Below w.heap.size w w' := by
  obtain ⟨a, cap, rfl, hl, hm, hel⟩ := h.open_
  obtain ⟨n, hn⟩ : ∃ n, n = A.length := ⟨_, rfl⟩
  rw [← hn] at hl ⊢
  have HN := Lib.hid hn
  have HE := Lib.hid hel
  have HR := Lib.hid hr
  unfold maxLen at hm
  have ES : Hid (wid (A.take n) = wid A) := by show _ = _; rw [hn, List.take_length]
  clear h hel hn hr
  go_enter Tryd.func55, Tryd.ntmps55
  go_wp2_with fail
  go_loopg [3, 8] n (fun g s i wr => ∃ k : Nat, k ≤ n ∧ n - k ≤ g ∧ i = .int .i64 k ∧ s = .int .i64 (wid (A.take k)) ∧ Below w.heap.size w wr)
  case atStart => exact ⟨0, Nat.zero_le _, by omega, rfl, by simp [wid], Below.refl _ _⟩
  case round =>
    obtain ⟨k, hk, hg, rfl, rfl, hbel⟩ := hrel
    by_cases hlt : k < n
    · have hkl : k < A.length := by rw [← HN.out]; exact hlt
      obtain ⟨b, off, rfl, hb, hgd, c0, c1, c2, c3⟩ := HE.out k hkl
      have et := wid_take A hkl
      have b1 := wid_le HR.out (k := k) (by omega)
      have b2 := wide_in HR.out hkl
      generalize A[k] = y at *
      obtain ⟨yi, yl, yn, yo⟩ := y
      simp only at c0 c1 c2 c3
      replace c0 := vcell hbel hb c0
      replace c1 := vcell hbel hb c1
      replace c2 := vcell hbel hb c2
      replace c3 := vcell hbel hb c3
      have C := fun w' => width_any ⟨yi, yl, yn, yo⟩ w'
      unfold Pc.val at C
      simp only at C
      generalize Pc.wide ⟨yi, yl, yn, yo⟩ = z at *
      have HB := Lib.hid (hbel.alloc hbel.size (.cells #[.int .i64 yi, .int .i64 yl, .int .i64 yn, .bool yo] 89))
      have ET := Lib.hid et
      obtain ⟨sk, hsk⟩ : ∃ sk, sk = wid (A.take k) := ⟨_, rfl⟩
      rw [← hsk] at ET b1 ⊢
      have z1 : IntKind.i64.wrap (sk + z) = sk + z := IntWalk.i64_in _ (by omega)
      have i1 : (k : Int) < (n : Int) := by omega
      clear hbel HE hsk et hgd
      go_wp2_with fail
      refine (C _).mono ?_
      rintro e w1 ⟨rfl, q1⟩
      have K1 := Lib.hid (below_more' HB.out q1)
      clear q1
      go_wp2_with fail
      go_roundg (n - (k + 1))
      case measure => omega
      case rel => exact ⟨k + 1, by omega, Nat.le_refl _, by go_num, by rw [ET.out], K1.out⟩
    · obtain rfl : k = n := by omega
      have HB := Lib.hid hbel
      have i1 : ¬ ((k : Int) < (k : Int)) := by omega
      clear hbel HE
      go_wp2_with fail
      go_ret
      exact ⟨by rw [ES.out]; rfl, HB.out⟩
end Go.Proofs.YtcpdoicbekcpeaaDoor.Vi
