/- Contracts: moved and join of the program. -/
import Derived.Test.YtengmiolcfgdiaaDoorPpart
set_option linter.unusedVariables false
namespace Go.Proofs.YtengmiolcfgdiaaDoor.Rig
open Go.RowKit Go.Lib Go.Proofs.YtengmiolcfgdiaaDoor.Rt

def GivesSp1 (w : World) (m f t : Int) (e : Ending) (w' : World) : Prop := e = .returned (.agg #[.int .i64 m, .int .i64 f, .int .i64 t]) ∧ Below w.heap.size w w'
set_option maxRecDepth 100000 in
set_option maxHeartbeats 1000000 in
theorem moved_any (m f t d : Int) (w : World) (hm : i64 m) (hf : 0 ≤ f ∧ f ≤ 100000) (ht : 0 ≤ t ∧ t ≤ 100000) (hd : 0 ≤ d ∧ d ≤ 200000) :
    Calls Tryd.prog 92 #[.agg #[.int .i64 m, .int .i64 f, .int .i64 t], .int .i64 d] w (GivesSp1 w m (f + d) (t + d)) := by
  obtain ⟨m1, m2⟩ := hm
  obtain ⟨f1, f2⟩ := hf
  obtain ⟨t1, t2⟩ := ht
  obtain ⟨d1, d2⟩ := hd
  go_enter Tryd.func92, Tryd.ntmps92
  go_wp2_with fail
  exact bodyPost_ret (v := .agg #[.int .i64 m, .int .i64 (f + d), .int .i64 (t + d)]) (by simp [results, Tryd.results92, go_sem]) rfl ⟨rfl, ((Below.refl _ _).alloc (Nat.le_refl _) _).alloc (by simp) _⟩

/-- It hands back a row of the call's own, where v's lay or in a new block; nothing else has turned. -/
def Joined (base : Nat) (w : World) (v : Value) (R : List Sp) (e : Ending) (w' : World) : Prop := ∃ v', e = .returned v' ∧ OwnSp base w' v' R ∧ w.grownBy w' v.ownBlock ∧ (v'.ownBlock = v.ownBlock ∨ ∃ g, v'.ownBlock = some g ∧ w.heap.size ≤ g)
theorem grown_alloc (w : World) (o : Obj) (row : Option Nat) : w.grownBy (w.alloc o) row := grown_below ((Below.refl _ w).alloc (Nat.le_refl _) o) row
theorem joinL_new {R : List Sp} {x : Sp} (h : ¬ (0 < R.length ∧ (sp R (R.length - 1)).t = x.f ∧ (sp R (R.length - 1)).m = x.m)) : joinL R x = R ++ [x] := by unfold joinL; rw [if_neg h]
theorem joinL_long {R : List Sp} {x : Sp} (h0 : 0 < R.length) (h1 : (sp R (R.length - 1)).t = x.f) (h2 : (sp R (R.length - 1)).m = x.m) : joinL R x = R.set (R.length - 1) ⟨(sp R (R.length - 1)).m, (sp R (R.length - 1)).f, x.t⟩ := by unfold joinL; rw [if_pos ⟨h0, h1, h2⟩]

set_option maxRecDepth 100000 in
set_option maxHeartbeats 8000000 in
theorem join_any {base : Nat} {v : Value} {R : List Sp} (m f t : Int) (w : World) (hO : OwnSp base w v R) (hbase : base ≤ w.heap.size) (hn : R.length ≤ 90000) (hm : i64 m) (hf : i64 f) (ht : i64 t) :
    Calls Tryd.prog 91 #[v, .agg #[.int .i64 m, .int .i64 f, .int .i64 t]] w (Joined base w v (joinL R ⟨m, f, t⟩)) := by
  obtain ⟨m1, m2⟩ := hm
  obtain ⟨f1, f2⟩ := hf
  obtain ⟨t1, t2⟩ := ht
  obtain ⟨ao, co, rfl⟩ := hO.is_slice
  have HO := Lib.hid hO
  obtain ⟨W0, hW0⟩ : ∃ W0, W0 = w.alloc (.cells #[.int .i64 m, .int .i64 f, .int .i64 t] 104) := ⟨_, rfl⟩
  have HX : W0.heap[w.heap.size]? = some (.cells #[.int .i64 m, .int .i64 f, .int .i64 t] 104 (0, 0)) := by rw [hW0]; exact heap_alloc_new _ _
  have c0 : W0.cell? ⟨w.heap.size, 0, none⟩ = some (.int .i64 m) := by rw [cell_of_row _ _ _ _ _ _ HX]; rfl
  have c1 : W0.cell? ⟨w.heap.size, 1, none⟩ = some (.int .i64 f) := by rw [cell_of_row _ _ _ _ _ _ HX]; rfl
  have c2 : W0.cell? ⟨w.heap.size, 2, none⟩ = some (.int .i64 t) := by rw [cell_of_row _ _ _ _ _ _ HX]; rfl
  have sz : W0.heap.size = w.heap.size + 1 := by rw [hW0]; simp
  have SZ := Lib.hid sz
  have B0 : Hid (Below w.heap.size w W0) := by show Below _ _ _; rw [hW0]; exact (Below.refl _ _).alloc (Nat.le_refl _) _
  have HO0 : Hid (OwnSp base W0 (.slice ao R.length co) R) := OwnF.below HO.out B0.out
  have G0 : Hid (w.grownBy W0 (Value.slice ao R.length co).ownBlock) := grown_below B0.out _
  have HW0 := Lib.hid hW0
  clear hW0 hO sz HX
  by_cases hr0 : R.length = 0
  · obtain rfl : R = [] := List.eq_nil_of_length_eq_zero hr0
    have EN : Hid (joinL [] ⟨m, f, t⟩ = [] ++ [⟨m, f, t⟩]) := rfl
    have LB : Hid (∀ W2, Below W0.heap.size W0 W2 → W2.cell? ⟨w.heap.size, 0, none⟩ = some (.int .i64 m) ∧ W2.cell? ⟨w.heap.size, 1, none⟩ = some (.int .i64 f) ∧ W2.cell? ⟨w.heap.size, 2, none⟩ = some (.int .i64 t) ∧
        Hid (OwnSp base (W2.alloc (.cells #[.int .i64 m, .int .i64 f, .int .i64 t] 104)) (.slice ao ([] : List Sp).length co) []) ∧ Hid (base ≤ (W2.alloc (.cells #[.int .i64 m, .int .i64 f, .int .i64 t] 104)).heap.size) ∧ Hid (w.grownBy (W2.alloc (.cells #[.int .i64 m, .int .i64 f, .int .i64 t] 104)) (Value.slice ao ([] : List Sp).length co).ownBlock)) := fun W2 b2 => by
      refine ⟨below_cell b2 (by have := SZ.out; omega) c0, below_cell b2 (by have := SZ.out; omega) c1, below_cell b2 (by have := SZ.out; omega) c2, ?_, ?_, ?_⟩
      · exact OwnF.below (HO0.out.below b2) ((Below.refl _ W2).alloc (Nat.le_refl _) _)
      · show _ ≤ _
        have := b2.size
        have := SZ.out
        simp
        omega
      · exact grown_trans (grown_trans G0.out (grown_below b2 _)) (grown_alloc _ _ _)
    have A3 : Hid (([] : List Sp).length ≤ 100000) := by show _ ≤ _; omega
    have A5 : Hid (∀ q ∈ [m, f, t], i64 q) := good3 ⟨m1, m2⟩ ⟨f1, f2⟩ ⟨t1, t2⟩
    go_enter Tryd.func91, Tryd.ntmps91
    go_wp2_with fail
    rw [← HW0.out]
    go_quiet (fail)
    obtain ⟨W2, hW2⟩ : ∃ W2, W2 = W0.drewN nq := ⟨_, rfl⟩
    rw [← hW2]
    have b2 : Below W0.heap.size W0 W2 := by rw [hW2]; exact below_drews (Below.refl _ _) _
    obtain ⟨y0, y1, y2, A1, A4, G4⟩ := LB.out W2 b2
    have A2 := Lib.hid (heap_alloc_new W2 (.cells #[.int .i64 m, .int .i64 f, .int .i64 t] 104))
    have SW : Hid (w.heap.size ≤ W2.heap.size) := by show _ ≤ _; have := b2.size; have := SZ.out; omega
    clear b2 hW2 c0 c1 c2 LB
    go_wp2_with (at_builtin; refine wpList_append_at rfl _ _ 22 104 3 24 _ Tryd.underlying22 infoSpan rfl (by decide) (by decide) rfl base _ ([] : List Sp).length _ rfl A1.out W2.heap.size [m, f, t] rfl A2.out rfl A5.out A3.out A4.out ?_)
    intro v6 w6 h5 g5 hat
    have K6 : Hid (OwnSp base w6 v6 (joinL [] ⟨m, f, t⟩)) := by
      show OwnF _ _ _ _ _ _ _
      rw [EN.out, fl3_app, List.length_append]
      exact h5
    have G6 : Hid (w.grownBy w6 (Value.slice ao ([] : List Sp).length co).ownBlock) := grown_trans G4.out g5
    have HAT : Hid (v6.ownBlock = (Value.slice ao ([] : List Sp).length co).ownBlock ∨ ∃ g, v6.ownBlock = some g ∧ w.heap.size ≤ g) := by
      rcases hat with h | h
      · exact .inl h
      · exact .inr ⟨_, h, by have := SW.out; simp; omega⟩
    obtain ⟨a6, c6, rfl⟩ := K6.out.is_slice
    clear h5 g5 hat A1 A2 A3 A4 A5 EN
    go_wp2_with fail
    go_ret
    exact ⟨_, rfl, K6.out, G6.out, HAT.out⟩
  · obtain ⟨g, rfl⟩ : ∃ g, ao = some ⟨g, 0, none⟩ := by
      rcases HO.out.1.2 with ⟨_, h0⟩ | ⟨g, cap', cur, hv, _⟩
      · exact absurd h0 hr0
      · injection hv with hv
        exact ⟨g, hv⟩
    have hrp : 0 < R.length := by omega
    obtain ⟨b', off', e', hb', ⟨⟨g1, g2⟩, ⟨g3, g4⟩, ⟨g5, g6⟩⟩, p0, p1, p2⟩ : ∃ b off, some (⟨g, 0, none⟩ : Addr) = some ⟨b, off, none⟩ ∧ b < W0.heap.size ∧ Sp.good (sp R (R.length - 1)) ∧
        W0.cell? ⟨b, off + (R.length - 1) * 3, none⟩ = some (.int .i64 (sp R (R.length - 1)).m) ∧ W0.cell? ⟨b, off + (R.length - 1) * 3 + 1, none⟩ = some (.int .i64 (sp R (R.length - 1)).f) ∧ W0.cell? ⟨b, off + (R.length - 1) * 3 + 2, none⟩ = some (.int .i64 (sp R (R.length - 1)).t) := by
      obtain ⟨a, cap, hv, _, _, hq⟩ := HO0.out.spans.open_
      injection hv with hv
      obtain ⟨b, off, e, r⟩ := hq (R.length - 1) (by omega)
      exact ⟨b, off, hv.trans e, r⟩
    injection e' with e'
    injection e' with e1 e2
    subst e1 e2
    rw [Nat.zero_add] at p0 p1 p2
    have RL := Lib.hid (joinL_long (R := R) (x := ⟨m, f, t⟩) hrp)
    have RN := Lib.hid (joinL_new (R := R) (x := ⟨m, f, t⟩))
    have OS := Lib.hid (fun (W : World) (hO : OwnSp base W (.slice (some ⟨g, 0, none⟩) R.length co) R) => hO.set_ (j := R.length - 1) (by omega) (t := t) ⟨by omega, by omega⟩)
    generalize hlast : sp R (R.length - 1) = s at *
    obtain ⟨pm, pf, pt⟩ := s
    simp only at g1 g2 g3 g4 g5 g6 p0 p1 p2 RL RN OS
    have ed : decide ((0 : Int) ≤ (R.length : Int) - 1) = true := by simp; omega
    have z7 : decide ((1 : Int) ≤ (R.length : Int)) = true := by simp; omega
    have z1 : IntKind.i64.wrap ((R.length : Int) - 1) = (R.length : Int) - 1 := IntWalk.i64_in _ (by omega)
    have z6 : (1 : Int) ≤ (R.length : Int) := by omega
    have z3 : (0 : Int) ≤ (R.length : Int) - 1 := by omega
    have z5 : (R.length : Int) - 1 < (R.length : Int) := by omega
    have z4 : ((R.length : Int) - 1).toNat = R.length - 1 := by omega
    by_cases c3 : pt = f
    · have d1 : (pt == f) = true := by simpa using c3
      by_cases c4 : pm = m
      · have d2 : (pm == m) = true := by simpa using c4
        have EN := Lib.hid (RL.out c3 c4)
        have LB : Hid (∀ W2, Below W0.heap.size W0 W2 → W2.frozen? ⟨g, (R.length - 1) * 3 + 2, none⟩ = false ∧ W2.cell? ⟨g, (R.length - 1) * 3 + 2, none⟩ = some (.int .i64 pt) ∧ W2.cell? ⟨w.heap.size, 0, none⟩ = some (.int .i64 m) ∧ W2.cell? ⟨w.heap.size, 2, none⟩ = some (.int .i64 t) ∧
            Hid (OwnSp base (W2.setCell ⟨g, (R.length - 1) * 3 + 2, none⟩ (.int .i64 t)) (.slice (some ⟨g, 0, none⟩) R.length co) (joinL R ⟨m, f, t⟩)) ∧ Hid (w.grownBy (W2.setCell ⟨g, (R.length - 1) * 3 + 2, none⟩ (.int .i64 t)) (some g))) := fun W2 b2 => by
          refine ⟨World.ownsRow.frozenAt (HO0.out.below b2).1 _, below_cell b2 hb' p2, below_cell b2 (by have := SZ.out; omega) c0, below_cell b2 (by have := SZ.out; omega) c2, ?_, ?_⟩
          · show OwnSp _ _ _ _
            rw [EN.out]
            exact OS.out W2 (HO0.out.below b2)
          · exact grown_trans (grown_trans G0.out (grown_below b2 _)) (grown_setCell _ _ _)
        clear RL RN EN OS c3 c4 hr0 hlast
        go_enter Tryd.func91, Tryd.ntmps91
        go_wp2_with fail
        rw [← HW0.out]
        go_quiet (fail)
        obtain ⟨W2, hW2⟩ : ∃ W2, W2 = W0.drewN nq := ⟨_, rfl⟩
        rw [← hW2]
        have b2 : Below W0.heap.size W0 W2 := by rw [hW2]; exact below_drews (Below.refl _ _) _
        obtain ⟨fz, y2, y3, y4, K5, K6⟩ := LB.out W2 b2
        clear b2 hW2 p0 p1 p2 c0 c1 c2 LB
        go_wp2_with fail
        go_ret
        exact ⟨_, rfl, K5.out, K6.out, .inl rfl⟩
      · have d2 : (pm == m) = false := by simpa using c4
        have EN := Lib.hid (RN.out (fun hc => c4 hc.2.2))
        clear RL RN OS c3 c4 hr0 hlast
        have LB : Hid (∀ W2, Below W0.heap.size W0 W2 → W2.cell? ⟨w.heap.size, 0, none⟩ = some (.int .i64 m) ∧ W2.cell? ⟨w.heap.size, 1, none⟩ = some (.int .i64 f) ∧ W2.cell? ⟨w.heap.size, 2, none⟩ = some (.int .i64 t) ∧
            Hid (OwnSp base (W2.alloc (.cells #[.int .i64 m, .int .i64 f, .int .i64 t] 104)) (.slice (some ⟨g, 0, none⟩) R.length co) R) ∧ Hid (base ≤ (W2.alloc (.cells #[.int .i64 m, .int .i64 f, .int .i64 t] 104)).heap.size) ∧ Hid (w.grownBy (W2.alloc (.cells #[.int .i64 m, .int .i64 f, .int .i64 t] 104)) (Value.slice (some ⟨g, 0, none⟩) R.length co).ownBlock)) := fun W2 b2 => by
          refine ⟨below_cell b2 (by have := SZ.out; omega) c0, below_cell b2 (by have := SZ.out; omega) c1, below_cell b2 (by have := SZ.out; omega) c2, ?_, ?_, ?_⟩
          · exact OwnF.below (HO0.out.below b2) ((Below.refl _ W2).alloc (Nat.le_refl _) _)
          · show _ ≤ _
            have := b2.size
            have := SZ.out
            simp
            omega
          · exact grown_trans (grown_trans G0.out (grown_below b2 _)) (grown_alloc _ _ _)
        have A3 : Hid (R.length ≤ 100000) := by show _ ≤ _; omega
        have A5 : Hid (∀ q ∈ [m, f, t], i64 q) := good3 ⟨m1, m2⟩ ⟨f1, f2⟩ ⟨t1, t2⟩
        go_enter Tryd.func91, Tryd.ntmps91
        go_wp2_with fail
        rw [← HW0.out]
        go_quiet (fail)
        obtain ⟨W2, hW2⟩ : ∃ W2, W2 = W0.drewN nq := ⟨_, rfl⟩
        rw [← hW2]
        have b2 : Below W0.heap.size W0 W2 := by rw [hW2]; exact below_drews (Below.refl _ _) _
        obtain ⟨y0, y1, y2, A1, A4, G4⟩ := LB.out W2 b2
        have A2 := Lib.hid (heap_alloc_new W2 (.cells #[.int .i64 m, .int .i64 f, .int .i64 t] 104))
        have SW : Hid (w.heap.size ≤ W2.heap.size) := by show _ ≤ _; have := b2.size; have := SZ.out; omega
        clear b2 hW2 c0 c1 c2 LB
        go_wp2_with (at_builtin; refine wpList_append_at rfl _ _ 22 104 3 24 _ Tryd.underlying22 infoSpan rfl (by decide) (by decide) rfl base _ R.length _ rfl A1.out W2.heap.size [m, f, t] rfl A2.out rfl A5.out A3.out A4.out ?_)
        intro v6 w6 h5 g5 hat
        have K6 : Hid (OwnSp base w6 v6 (joinL R ⟨m, f, t⟩)) := by
          show OwnF _ _ _ _ _ _ _
          rw [EN.out, fl3_app, List.length_append]
          exact h5
        have G6 : Hid (w.grownBy w6 (Value.slice (some ⟨g, 0, none⟩) R.length co).ownBlock) := grown_trans G4.out g5
        have HAT : Hid (v6.ownBlock = (Value.slice (some ⟨g, 0, none⟩) R.length co).ownBlock ∨ ∃ g, v6.ownBlock = some g ∧ w.heap.size ≤ g) := by
          rcases hat with h | h
          · exact .inl h
          · exact .inr ⟨_, h, by have := SW.out; simp; omega⟩
        obtain ⟨a6, c6, rfl⟩ := K6.out.is_slice
        clear h5 g5 hat A1 A2 A3 A4 A5 EN
        go_wp2_with fail
        go_ret
        exact ⟨_, rfl, K6.out, G6.out, HAT.out⟩
    · have d1 : (pt == f) = false := by simpa using c3
      have EN := Lib.hid (RN.out (fun hc => c3 hc.2.1))
      clear RL RN OS c3 hr0 hlast
      have LB : Hid (∀ W2, Below W0.heap.size W0 W2 → W2.cell? ⟨w.heap.size, 0, none⟩ = some (.int .i64 m) ∧ W2.cell? ⟨w.heap.size, 1, none⟩ = some (.int .i64 f) ∧ W2.cell? ⟨w.heap.size, 2, none⟩ = some (.int .i64 t) ∧
          Hid (OwnSp base (W2.alloc (.cells #[.int .i64 m, .int .i64 f, .int .i64 t] 104)) (.slice (some ⟨g, 0, none⟩) R.length co) R) ∧ Hid (base ≤ (W2.alloc (.cells #[.int .i64 m, .int .i64 f, .int .i64 t] 104)).heap.size) ∧ Hid (w.grownBy (W2.alloc (.cells #[.int .i64 m, .int .i64 f, .int .i64 t] 104)) (Value.slice (some ⟨g, 0, none⟩) R.length co).ownBlock)) := fun W2 b2 => by
        refine ⟨below_cell b2 (by have := SZ.out; omega) c0, below_cell b2 (by have := SZ.out; omega) c1, below_cell b2 (by have := SZ.out; omega) c2, ?_, ?_, ?_⟩
        · exact OwnF.below (HO0.out.below b2) ((Below.refl _ W2).alloc (Nat.le_refl _) _)
        · show _ ≤ _
          have := b2.size
          have := SZ.out
          simp
          omega
        · exact grown_trans (grown_trans G0.out (grown_below b2 _)) (grown_alloc _ _ _)
      have A3 : Hid (R.length ≤ 100000) := by show _ ≤ _; omega
      have A5 : Hid (∀ q ∈ [m, f, t], i64 q) := good3 ⟨m1, m2⟩ ⟨f1, f2⟩ ⟨t1, t2⟩
      go_enter Tryd.func91, Tryd.ntmps91
      go_wp2_with fail
      rw [← HW0.out]
      go_quiet (fail)
      obtain ⟨W2, hW2⟩ : ∃ W2, W2 = W0.drewN nq := ⟨_, rfl⟩
      rw [← hW2]
      have b2 : Below W0.heap.size W0 W2 := by rw [hW2]; exact below_drews (Below.refl _ _) _
      obtain ⟨y0, y1, y2, A1, A4, G4⟩ := LB.out W2 b2
      have A2 := Lib.hid (heap_alloc_new W2 (.cells #[.int .i64 m, .int .i64 f, .int .i64 t] 104))
      have SW : Hid (w.heap.size ≤ W2.heap.size) := by show _ ≤ _; have := b2.size; have := SZ.out; omega
      clear b2 hW2 c0 c1 c2 LB
      go_wp2_with (at_builtin; refine wpList_append_at rfl _ _ 22 104 3 24 _ Tryd.underlying22 infoSpan rfl (by decide) (by decide) rfl base _ R.length _ rfl A1.out W2.heap.size [m, f, t] rfl A2.out rfl A5.out A3.out A4.out ?_)
      intro v6 w6 h5 g5 hat
      have K6 : Hid (OwnSp base w6 v6 (joinL R ⟨m, f, t⟩)) := by
        show OwnF _ _ _ _ _ _ _
        rw [EN.out, fl3_app, List.length_append]
        exact h5
      have G6 : Hid (w.grownBy w6 (Value.slice (some ⟨g, 0, none⟩) R.length co).ownBlock) := grown_trans G4.out g5
      have HAT : Hid (v6.ownBlock = (Value.slice (some ⟨g, 0, none⟩) R.length co).ownBlock ∨ ∃ g, v6.ownBlock = some g ∧ w.heap.size ≤ g) := by
        rcases hat with h | h
        · exact .inl h
        · exact .inr ⟨_, h, by have := SW.out; simp; omega⟩
      obtain ⟨a6, c6, rfl⟩ := K6.out.is_slice
      clear h5 g5 hat A1 A2 A3 A4 A5 EN
      go_wp2_with fail
      go_ret
      exact ⟨_, rfl, K6.out, G6.out, HAT.out⟩
end Go.Proofs.YtengmiolcfgdiaaDoor.Rig
