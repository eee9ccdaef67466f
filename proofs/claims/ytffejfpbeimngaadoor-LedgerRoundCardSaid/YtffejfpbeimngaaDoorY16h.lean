/- Plate: the program's Fall. -/
import Derived.Test.YtffejfpbeimngaaDoorY16g
set_option linter.unusedVariables false
set_option linter.unusedSimpArgs false
set_option maxRecDepth 100000
namespace Go.Proofs.YtffejfpbeimngaaDoor.Plt
open Go.RowKit Go.Lib Go.Proofs.YtffejfpbeimngaaDoor.Bx

section
variable {base B G : Nat} {w w' : World} {v : Value} {u : Nat → Value} {L : List Nat} {D : DK} {M : Nat → Prop}
theorem rowk_same {k : Nat} {v : Value} {xs : List (List Value)} (h : Rk.RowK k w v xs) (hs : w.heap.size ≤ w'.heap.size) (hb : ∀ b, v.ownBlock = some b → w'.heap[b]? = w.heap[b]?) : Rk.RowK k w' v xs := by
  obtain ⟨h0, a, c, rfl, h1, h2, h3⟩ := h
  refine ⟨h0, a, c, rfl, h1, h2, ?_⟩
  rcases h3 with h3 | ⟨b, off, rfl, hlt, hc⟩
  · exact .inl h3
  · refine .inr ⟨b, off, rfl, by omega, fun j hj i u hu => ?_⟩
    rw [World.cell?_of_block (w := w) (hb b rfl)]
    exact hc j hj i u hu
def cellsZ (pk : List Int) : List (List Value) := pk.map fun x => [Value.int .i64 x]
theorem cellsZ_len (pk : List Int) : (cellsZ pk).length = pk.length := List.length_map _
theorem row_z {w : World} {v : Value} {pk : List Int} (h : Rk.RowK 1 w v (cellsZ pk)) : ∃ a c, v = .slice a pk.length c ∧ pk.length ≤ c ∧ c ≤ 9223372036854775807 := by
  obtain ⟨_, a, c, e, h1, h2, h3⟩ := h
  rw [cellsZ_len] at e h1
  unfold maxLen at h2
  exact ⟨a, c, e, h1, h2⟩
theorem row_z_at {w : World} {a : Option Addr} {n c : Nat} {pk : List Int} (h : Rk.RowK 1 w (.slice a n c) (cellsZ pk)) {j : Nat} (hj : j < pk.length) : ∃ b off, a = some ⟨b, off, none⟩ ∧ b < w.heap.size ∧ w.cell? ⟨b, off + j, none⟩ = some (.int .i64 (pk.getD j 0)) := by
  obtain ⟨_, a', c', e, h1, h2, h3⟩ := h
  injection e with e1 e2 e3
  subst e1
  rcases h3 with h3 | ⟨b, off, rfl, hb, hc⟩
  · have := cellsZ_len pk
    rw [h3] at this
    simp at this
    omega
  · refine ⟨b, off, rfl, hb, ?_⟩
    have := hc j (by rw [cellsZ_len]; exact hj) 0
    unfold cellsZ at this
    simp only [List.getElem_map, Nat.mul_one, Nat.add_zero] at this
    rw [List.getD_eq_getElem?_getD, List.getElem?_eq_getElem hj]
    exact this _ rfl
def Fell (base : Nat) (w : World) (B G : Nat) (v : Value) (u : Nat → Value) (D D' : DK) : Ending → World → Prop := fun e w' =>
  e = .returned (.tuple #[]) ∧ ∃ v' u' L', Dm base w' B G v' u' L' D' ∧ Chg (Ft B G v u D.n) w w' ∧ ∀ g, Ft B G v' u' D.n g → Ft B G v u D.n g ∨ w.heap.size ≤ g
set_option maxHeartbeats 8000000 in
theorem fall_any {pv : Value} (pk : List Int) (hp : Rk.RowK 1 w pv (cellsZ pk)) (hz : ∀ x ∈ pk, -9223372036854775808 ≤ x ∧ x ≤ 9223372036854775807) (hpb : pk ≠ [] → ∀ b, pv.ownBlock = some b → ¬ Ft B G v u D.n b) (hd : Dm base w B G v u L D) (hl : ∀ j, j < D.n → (D.P j).l.length ≤ 90000) : Calls Tryd.prog 16 #[.pointer (some ⟨B, 0, none⟩), pv] w (Fell base w B G v u D (fallD D pk)) := by
  obtain ⟨pa, pc, rfl, hpl, hpc⟩ := row_z hp
  have CL := Lib.hid (loose_any hd)
  have HD := Lib.hid hd
  have HLL := fun k (h : k < (looseL D).length) => loose_lt D h
  have HLN := loose_nodup D
  have HLO := fun j (h : (D.P j).l = []) => loose_none (D := D) h
  have HLM := loose_mem D
  have HF : Hid (fallD D pk = ⟨D.n, fallP D.P (looseL D) pk (looseL D).length, false, -1⟩) := rfl
  rw [HF.out]
  generalize looseL D = LL at *
  obtain ⟨n, P, off, left⟩ := D
  simp only at HLL HLO HLM hl ⊢
  obtain ⟨m, hm⟩ : ∃ m, m = LL.length := ⟨_, rfl⟩
  obtain ⟨q, hq⟩ : ∃ q, q = pk.length := ⟨_, rfl⟩
  have HM := Lib.hid hm
  have HQ := Lib.hid hq
  have HP := Lib.hid hp
  have HZ := Lib.hid hz
  have HPB := Lib.hid hpb
  have HL := Lib.hid hl
  have HLL' := Lib.hid HLL
  have HLN' := Lib.hid HLN
  have HLO' := Lib.hid HLO
  have HLM' := Lib.hid HLM
  rw [← hq] at HP hpl ⊢
  rw [← hm]
  clear hd hp hz hpb hl HLL HLN HLO HLM hm hq HF
  go_enter Tryd.func16, Tryd.ntmps16
  go_wp2_with fail
  refine CL.out.mono ?_
  rintro e w1 ⟨v1, rfl, r1, s1, b1⟩
  have B1 := Lib.hid b1
  have D1 := Lib.hid (Dx.below HD.out b1)
  obtain ⟨va, vc, hv, hvc, hvm, _⟩ := row_ints r1
  subst hv
  rw [← HM.out] at hvc r1 s1 ⊢
  have R1 := Lib.hid r1
  have S1 : Hid (∀ b, (Value.slice va m vc).ownBlock = some b → w.heap.size ≤ b) := s1
  clear r1 s1 b1 CL
  go_wp2_with fail
  go_loopg [4, 5, 6, 12] m (fun g _ _ _ i_ wr => ∃ (t : Nat) (ut : Nat → Value), t ≤ m ∧ m - t ≤ g ∧ i_ = .int .i64 t ∧ Hid (Dx base wr B G v ut L ⟨n, fallP P LL pk t, off, left⟩ (Loo ⟨n, P, off, left⟩)) ∧ Hid (Chg (Ft B G v u n) w1 wr) ∧ Hid (∀ g, Ft B G v ut n g → Ft B G v u n g))
  case atStart => exact ⟨0, u, by omega, by omega, rfl, D1.out, Chg.refl _ _, fun g h => h⟩
  case round =>
    obtain ⟨t, ut, ht, hg, rfl, DX, HC, HN⟩ := hrel
    by_cases hlt : t < m
    · have htl : t < LL.length := by rw [← HM.out]; exact hlt
      have iw : (t : Int) < (m : Nat) := by omega
      have n0 : (0 : Int) ≤ (t : Nat) := by omega
      have RW := rowk_same R1.out HC.out.size (fun b e => HC.out.block b (by
        have := R1.out
        obtain ⟨_, a', c', e', _, _, h3⟩ := this
        injection e' with e1 e2 e3
        subst e1
        rcases h3 with h3 | ⟨b', off', rfl, hlt', _⟩
        · have := cellsN_len LL
          rw [h3] at this
          simp at this
          omega
        · have e9 : b' = b := by simpa [Value.ownBlock] using e
          rw [← e9]
          exact hlt') (fun hF => by
        have h1 := S1.out b e
        have h2 := (Dx.lt HD.out b hF).2
        omega))
      obtain ⟨b, of1, rfl, hb, hcl⟩ := row_ints_at RW htl
      have hk : LL.getD t 0 < n := (HLL'.out _ htl).1
      have hP : fallP P LL pk t (LL.getD t 0) = P (LL.getD t 0) := fallP_other t (fun i hi e => by have := getD_inj HLN'.out (by omega) htl e; omega)
      obtain ⟨x0, _⟩ := Dx.cells DX.out
      simp only at x0
      have hx1 : -9223372036854775808 ≤ pk.getD t 0 ∧ pk.getD t 0 ≤ 9223372036854775807 := by
        rw [List.getD_eq_getElem?_getD]
        by_cases h : t < pk.length
        · rw [List.getElem?_eq_getElem h]
          exact HZ.out _ (List.getElem_mem h)
        · rw [List.getElem?_eq_none (by omega)]
          exact ⟨by decide, by decide⟩
      have LS : Hid (∀ w', Below wr.heap.size wr w' → Calls Tryd.prog 30 #[.pointer (some ⟨G, LL.getD t 0 * 2, none⟩), .int .i64 (pk.getD t 0)] w' fun e w'' => e = .returned (.string ((P (LL.getD t 0)).held (pk.getD t 0))) ∧ w' = w'') := fun w' hb' => by
        have DW := DX.out.below hb'
        obtain ⟨z0, z1, _, _⟩ := DW.pl.cells hk
        have h1 := DW.row _ hk
        simp only at z0 z1 h1
        rw [hP] at z0 h1
        exact held_any _ hx1.1 hx1.2 w' z0 z1 h1 (Nat.le_trans (HL.out _ hk) (by omega))
      have SS : Hid (∀ w', Below wr.heap.size wr w' → Calls Tryd.prog 29 #[.pointer (some ⟨G, LL.getD t 0 * 2, none⟩), .string ((P (LL.getD t 0)).held (pk.getD t 0))] w' fun e w'' => e = .returned (.tuple #[]) ∧ Hid (Dx base w'' B G v (upd ut (LL.getD t 0) nilV) L ⟨n, fallP P LL pk (t + 1), off, left⟩ (Loo ⟨n, P, off, left⟩) ∧ Chg (Ft B G v u n) w1 w'' ∧ ∀ g, Ft B G v (upd ut (LL.getD t 0) nilV) n g → Ft B G v u n g)) := fun w' hb' => by
        have DW := DX.out.below hb'
        obtain ⟨z0, z1, y0, y1⟩ := DW.pl.cells hk
        refine (settle_any w' z0 z1 y0 y1).mono ?_
        rintro e w'' ⟨rfl, rfl⟩
        refine ⟨rfl, DW.settle hk _, ?_, fun g h => HN.out g (Ft_nil g h)⟩
        exact (HC.out.trans (Chg.of_below (F := OneB G) hb') (fun g h => .inl (Ft_G g h))).trans (chg_set2 w' G _ _ _ _) (fun g h => .inl (Ft_G g h))
      have k0 : (0 : Int) ≤ ((LL.getD t 0 : Nat) : Int) := by omega
      have kn : ((LL.getD t 0 : Nat) : Int) < (n : Nat) := by omega
      have PC : t < q → ∃ b off, pa = some ⟨b, off, none⟩ ∧ wr.cell? ⟨b, off + t, none⟩ = some (.int .i64 (pk.getD t 0)) := fun h => by
        obtain ⟨b', off', e, h1, h2⟩ := row_z_at HP.out (by rw [← HQ.out]; exact h)
        subst e
        have h4 := vcell B1.out h1 h2
        refine ⟨b', off', rfl, ?_⟩
        rw [World.cell?_of_block (w := w1) (HC.out.block b' (Nat.lt_of_lt_of_le h1 B1.out.size) (HPB.out (fun e => by have := HQ.out; rw [e] at this; simp at this; omega) b' rfl))]
        exact h4
      have PN : ¬ t < q → pk.getD t 0 = 0 := fun h => by
        rw [List.getD_eq_getElem?_getD, List.getElem?_eq_none (by rw [← HQ.out]; omega)]
        rfl
      generalize (P (LL.getD t 0)).held (pk.getD t 0) = r at *
      generalize LL.getD t 0 = k at *
      generalize pk.getD t 0 = x at *
      clear hP htl hk hb hlt hx1 RW
      by_cases hpq : t < q
      · have i1 : (t : Int) < (q : Nat) := by omega
        obtain ⟨b', off', rfl, hpx⟩ := PC hpq
        clear PC PN
        go_upto_region 7 with fail
        go_region_law (first
          | (refine step_call rfl 30 _ _ rfl (enters_of Tryd.func30 (by kernel_rfl) rfl) [.pointer (some ⟨G, k * 2, none⟩), .int .i64 x] rfl _ (LS.out _ (by first | exact Below.refl _ _ | exact Below.drew (Below.refl _ _))) ?_; rintro e w5 ⟨rfl, rfl⟩; refine ⟨_, rfl, ?_⟩)
          | (refine step_call rfl 29 _ _ rfl (enters_of Tryd.func29 (by kernel_rfl) rfl) [.pointer (some ⟨G, k * 2, none⟩), .string r] rfl _ (SS.out _ (by first | exact Below.refl _ _ | exact Below.drew (Below.refl _ _))) ?_; rintro e w5 ⟨rfl, QX⟩; refine ⟨_, rfl, ?_⟩))
        all_goals (
          clear LS SS
          go_wp2_with fail
          go_roundg (m - (t + 1)))
        all_goals first
          | (case measure => omega)
          | (case rel => exact ⟨t + 1, _, by omega, Nat.le_refl _, by go_num, QX.out.1, QX.out.2.1, QX.out.2.2⟩)
      · have i1 : ¬ (t : Int) < (q : Nat) := by omega
        obtain rfl := PN hpq
        clear PC PN
        go_upto_region 7 with fail
        go_region_law (first
          | (refine step_call rfl 30 _ _ rfl (enters_of Tryd.func30 (by kernel_rfl) rfl) [.pointer (some ⟨G, k * 2, none⟩), .int .i64 0] rfl _ (LS.out _ (by first | exact Below.refl _ _ | exact Below.drew (Below.refl _ _))) ?_; rintro e w5 ⟨rfl, rfl⟩; refine ⟨_, rfl, ?_⟩)
          | (refine step_call rfl 29 _ _ rfl (enters_of Tryd.func29 (by kernel_rfl) rfl) [.pointer (some ⟨G, k * 2, none⟩), .string r] rfl _ (SS.out _ (by first | exact Below.refl _ _ | exact Below.drew (Below.refl _ _))) ?_; rintro e w5 ⟨rfl, QX⟩; refine ⟨_, rfl, ?_⟩))
        all_goals (
          clear LS SS
          go_wp2_with fail
          go_roundg (m - (t + 1)))
        all_goals first
          | (case measure => omega)
          | (case rel => exact ⟨t + 1, _, by omega, Nat.le_refl _, by go_num, QX.out.1, QX.out.2.1, QX.out.2.2⟩)
    · obtain rfl : t = m := by omega
      have iw : ¬ ((t : Int) < (t : Nat)) := by omega
      obtain ⟨x0, x1, x2, x3, y0, y1, y2, y3⟩ := Dx.cells DX.out
      have hall : ∀ i, i < n → (fallP P LL pk t i).l = [] := fun i hi => by
        rw [HM.out]
        by_cases h : (P i).l = []
        · rw [fallP_other _ (fun j hj => HLO'.out i h j hj)]
          exact h
        · obtain ⟨j, hj, e⟩ := getD_of_mem ((HLM'.out i).2 ⟨hi, h⟩)
          rw [← e, fallP_at HLN'.out _ (Nat.le_refl _) hj]
      have FN : Hid (Fell base w B G v u ⟨n, P, off, left⟩ ⟨n, fallP P LL pk t, false, -1⟩ (.returned (.tuple #[])) (((wr.setCell ⟨B, 1, none⟩ (.slice none 0 0)).setCell ⟨B, 2, none⟩ (.bool false)).setCell ⟨B, 3, none⟩ (.int .i64 (-1)))) := by
        have h1 : Dm base (wr.setCell ⟨B, 1, none⟩ (.slice none 0 0)) B G (.slice none 0 0) ut [] ⟨n, fallP P LL pk t, off, left⟩ :=
          DX.out.set 1 (.slice none 0 0) (.slice none 0 0) ⟨n, fallP P LL pk t, off, left⟩ rfl rfl DX.out.left1 DX.out.left2 [] _ (by simp) (fun i => by
            constructor
            · intro h
              simp at h
            · rintro ⟨hi, h⟩
              exact absurd (hall i hi) h) rfl (Rk.OwnK.nil_ _ _ _ _) (fun e => by cases e)
        have h2 : Dm base _ B G (.slice none 0 0) ut [] ⟨n, fallP P LL pk t, false, left⟩ := Dx.set h1 2 (.bool false) (.slice none 0 0) ⟨n, fallP P LL pk t, false, left⟩ rfl rfl DX.out.left1 DX.out.left2 [] _ h1.nod h1.mem rfl h1.own h1.neBv
        have h3 : Dm base _ B G (.slice none 0 0) ut [] ⟨n, fallP P LL pk t, false, -1⟩ := Dx.set h2 3 (.int .i64 (-1)) (.slice none 0 0) ⟨n, fallP P LL pk t, false, -1⟩ rfl rfl (by show (-1 : Int) ≤ -1; omega) (by show (-1 : Int) ≤ _; omega) [] _ h2.nod h2.mem rfl h2.own h2.neBv
        refine ⟨rfl, .slice none 0 0, ut, [], h3, ?_, ?_⟩
        · exact (Chg.of_below B1.out).trans (((HC.out.set (.inl (.inl rfl)) _).set (.inl (.inl rfl)) _).set (.inl (.inl rfl)) _) (fun g h => .inl h)
        · rintro g (h | h | h | h)
          · exact .inl (.inl h)
          · exact .inl (.inr (.inl h))
          · cases h
          · exact .inl (HN.out g (.inr (.inr (.inr h))))
      clear hall y0
      go_wp2_with fail
      exact bodyPost_end (v := .tuple #[]) (by simp [results, Tryd.results16, go_sem]) rfl FN.out
end
end Go.Proofs.YtffejfpbeimngaaDoor.Plt
