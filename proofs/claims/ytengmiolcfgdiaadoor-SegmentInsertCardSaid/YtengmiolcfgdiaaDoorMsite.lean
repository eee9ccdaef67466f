/- Contract: site, of the plain text: a site in its place. -/
import Derived.Test.YtengmiolcfgdiaaDoorMsame
set_option linter.unusedVariables false
namespace Go.Proofs.YtengmiolcfgdiaaDoor.Rig
open Go.RowKit Go.Lib Go.Proofs.YtengmiolcfgdiaaDoor.Rt

/-- It hands sites back; nothing old has turned. -/
def GivesSt (w : World) (T : List St) (e : Ending) (w' : World) : Prop := ∃ v', e = .returned v' ∧ Sites w' v' T ∧ Below w.heap.size w w'

set_option maxRecDepth 100000 in
set_option maxHeartbeats 8000000 in
theorem site_any {v : Value} {T : List St} (s : St) (w : World) (h : Sites w v T) (hs : St.good s) (hn : T.length ≤ 10000) :
    Calls Tryd.prog 77 #[v, .agg #[.int .i64 s.m, .int .i64 s.a]] w (GivesSt w (siteL T s)) := by
  have HV := Lib.hid h
  obtain ⟨ta, tc, rfl, hlc, hcap, hc⟩ := h.open_
  have H := Lib.hid hc
  obtain ⟨n, hnn⟩ : ∃ n, n = T.length := ⟨_, rfl⟩
  have HLn := Lib.hid (outS_len T s)
  have SY : Hid (s ∈ T → siteL T s = T) := fun h => by unfold siteL; rw [if_pos h]
  have SN : Hid (s ∉ T → siteL T s = outS T s n ++ (if dnS T s n then [] else [s])) := fun h => by unfold siteL; rw [if_neg h, hnn]
  rw [← hnn] at hlc hn HV ⊢
  replace hnn := Lib.hid hnn
  obtain ⟨⟨sm1, sm2⟩, ⟨sa1, sa2⟩⟩ := hs
  obtain ⟨sm, hsm⟩ : ∃ x, x = s.m := ⟨_, rfl⟩
  obtain ⟨sa, hsa⟩ : ∃ x, x = s.a := ⟨_, rfl⟩
  have HS : Hid (s = ⟨sm, sa⟩) := by rw [hsm, hsa]; exact rfl
  rw [← hsm] at sm1 sm2 ⊢
  rw [← hsa] at sa1 sa2 ⊢
  obtain ⟨W0, hW0⟩ : ∃ W0, W0 = w.alloc (.cells #[.int .i64 sm, .int .i64 sa] 120) := ⟨_, rfl⟩
  have b0 : Below w.heap.size w W0 := by rw [hW0]; exact (Below.refl _ _).alloc (Nat.le_refl _) _
  have h0 : W0.heap[w.heap.size]? = some (.cells #[.int .i64 sm, .int .i64 sa] 120 (0, 0)) := by rw [hW0]; exact heap_alloc_new _ _
  have l0 : w.heap.size < W0.heap.size := by rw [hW0]; simp
  have HW0 := Lib.hid hW0
  have B0 := Lib.hid b0
  have H0 := Lib.hid h0
  have GS := guard_site
  clear hc h h0 hW0 b0 hsm hsa
  go_enter Tryd.func77, Tryd.ntmps77
  go_wp2_with fail
  rw [← HW0.out]
  go_loopw [5, 6, 7] (fun t dd i wr => ∃ (k : Nat) (d : Bool), k ≤ n ∧ i = .int .i64 k ∧ dd = .bool d ∧ Hid (OwnSt W0.heap.size wr t (outS T s k)) ∧ Hid (d = true ↔ dnS T s k) ∧ Hid (∀ j, j < k → st T j ≠ s) ∧ Below W0.heap.size W0 wr) (fun _ _ i _ => n - (RowKit.intOf i).toNat)
  case atStart => exact ⟨0, false, Nat.zero_le _, rfl, rfl, OwnF.nil_ _ _ _ _, ⟨fun h => (by cases h), fun ⟨j, h, _⟩ => absurd h (by omega)⟩, fun j hj => absurd hj (by omega), Below.refl _ _⟩
  case round =>
    obtain ⟨k, d, hk, rfl, rfl, HO, HD, NE, hbel⟩ := hrel
    obtain ⟨R, hRR⟩ : ∃ R, R = outS T s k := ⟨_, rfl⟩
    have hrl : R.length ≤ k + 1 := by
      have := HLn.out k
      rw [hRR]
      split at this <;> omega
    rw [← hRR] at HO
    obtain ⟨ao, co, rfl⟩ := HO.out.is_slice
    have HBwr := Lib.hid hbel
    by_cases hlt : k < n
    · have hkl : k < T.length := by rw [← hnn.out]; exact hlt
      obtain ⟨b, off, rfl, hb, ⟨⟨m1, m2⟩, ⟨a1, a2⟩⟩, c0, c1⟩ := H.out k hkl
      have EQ : Hid (outS T s (k + 1) = (R ++ (if ¬ dnS T s k ∧ gtS (st T k) s then [s] else [])) ++ [st T k]) := by show _ = _; rw [hRR]; rfl
      have IN : Hid (st T k = s → siteL T s = T) := fun e => SY.out (by rw [← e, st_get hkl]; exact List.getElem_mem hkl)
      have NX : Hid (st T k ≠ s → ∀ j, j < k + 1 → st T j ≠ s) := fun hne j hj => by
        by_cases e : j = k
        · subst e; exact hne
        · exact NE.out j (by omega)
      have hst : ∃ e, e = st T k := ⟨_, rfl⟩
      obtain ⟨e, he⟩ := hst
      have HE := Lib.hid he
      rw [← he] at m1 m2 a1 a2 c0 c1 EQ IN NX
      obtain ⟨m, a⟩ := e
      simp only at m1 m2 a1 a2 c0 c1
      have CC : Hid (∀ w', Below W0.heap.size W0 w' → w'.cell? ⟨b, off + k * 2, none⟩ = some (.int .i64 m) ∧ w'.cell? ⟨b, off + k * 2 + 1, none⟩ = some (.int .i64 a) ∧ w'.cell? ⟨w.heap.size, 0, none⟩ = some (.int .i64 sm) ∧ w'.cell? ⟨w.heap.size, 1, none⟩ = some (.int .i64 sa)) := fun w' hb' => by
        have q := below_more B0.out hb'
        refine ⟨below_cell q hb c0, below_cell q hb c1, below_cell hb' l0 ?_, below_cell hb' l0 ?_⟩ <;> (rw [cell_of_row _ _ _ _ _ _ H0.out]; rfl)
      have GT : Hid (gtS ⟨m, a⟩ s ↔ (sa < a ∨ a = sa ∧ sm < m)) := by show _ ↔ _; rw [HS.out]; exact Iff.rfl
      obtain ⟨x0, x1, y0, y1⟩ := CC.out _ hbel
      have i0 : (0 : Int) ≤ (k : Int) := by omega
      have i1 : (k : Int) < (n : Int) := by omega
      clear hbel hRR he NE H c0 c1
      by_cases q0 : m = sm ∧ a = sa
      · obtain ⟨q1, q2⟩ := q0
        have EE := Lib.hid (IN.out (by rw [HS.out, q1, q2]))
        have NQ : ∀ w, (binOp .eql 120 (.agg #[.int .i64 m, .int .i64 a]) (.agg #[.int .i64 sm, .int .i64 sa])).run Tryd.prog w = .ok (.bool true) w := fun w => by rw [eql_site, q1, q2]; simp
        clear q1 q2 EQ IN NX HD GT HO
        go_wp2_with fail
        go_quiet (fail)
        have HBD := Lib.hid (below_drews HBwr.out nq)
        go_wp2_with fail
        go_ret
        refine ⟨_, rfl, ?_, below_more B0.out HBD.out⟩
        rw [EE.out]
        exact HV.out.below (below_more B0.out HBD.out) (Nat.le_refl _)
      · have NN := Lib.hid (NX.out (fun e => q0 (by rw [HS.out] at e; injection e with e1 e2; exact ⟨e1, e2⟩)))
        have NQ : ∀ w, (binOp .eql 120 (.agg #[.int .i64 m, .int .i64 a]) (.agg #[.int .i64 sm, .int .i64 sa])).run Tryd.prog w = .ok (.bool false) w := fun w => by
          rw [eql_site]
          by_cases h1 : m = sm <;> by_cases h2 : a = sa <;> simp [h1, h2]
          exact q0 ⟨h1, h2⟩
        clear IN NX q0
        go_wp2_with fail
        go_quiet (fail)
        obtain ⟨W2, hW2⟩ : ∃ W, W = wr.drewN nq := ⟨_, rfl⟩
        rw [← hW2]
        have bW2 : Below wr.heap.size wr W2 := by rw [hW2]; exact below_drews (Below.refl _ _) _
        have HBW2 := Lib.hid (below_more HBwr.out bW2)
        obtain ⟨x0, x1, y0, y1⟩ := CC.out _ HBW2.out
        clear hW2
        have OW2 := Lib.hid (OwnF.below HO.out bW2)
        clear bW2 HO
        cases d with
        | true =>
          have EN : Hid (outS T s (k + 1) = R ++ [⟨m, a⟩]) := by
            show _ = _
            rw [EQ.out, if_neg (fun hc => by have := HD.out.1 rfl; exact hc.1 this), List.append_nil]
          have ED : Hid (dnS T s (k + 1)) := dnS_succ.2 (.inl (HD.out.1 rfl))
          clear EQ HD GT
          go_wp2_with fail
          go_quiet (fail)
          obtain ⟨W3, hW3⟩ : ∃ W, W = W2.drewN nq := ⟨_, rfl⟩
          rw [← hW3]
          have bW3 : Below W2.heap.size W2 W3 := by rw [hW3]; exact below_drews (Below.refl _ _) _
          have HBW3 := Lib.hid (below_more HBW2.out bW3)
          obtain ⟨x0, x1, y0, y1⟩ := CC.out _ HBW3.out
          clear hW3
          have OW3 := Lib.hid (OwnF.below OW2.out bW3)
          clear bW3 OW2
          have A1 := Lib.hid (OwnF.below OW3.out ((Below.refl _ W3).alloc (Nat.le_refl _) (.cells #[.int .i64 m, .int .i64 a] 120)))
          have A2 := Lib.hid (heap_alloc_new W3 (.cells #[.int .i64 m, .int .i64 a] 120))
          have A3 : Hid (R.length ≤ 100000) := by show _ ≤ _; omega
          have A4 : Hid (W0.heap.size ≤ (W3.alloc (.cells #[.int .i64 m, .int .i64 a] 120)).heap.size) := by show _ ≤ _; have := HBW3.out.size; have := l0; simp; omega
          have A5 : Hid (∀ q ∈ [m, a], i64 q) := fun q hq => by
            simp at hq
            rcases hq with rfl | rfl
            · exact ⟨by omega, by omega⟩
            · exact ⟨by omega, by omega⟩
          go_wp2_with (at_builtin; refine wpList_append_rec rfl _ _ 23 120 2 16 _ Tryd.underlying23 infoSite rfl (by decide) (by decide) rfl W0.heap.size _ R.length _ rfl A1.out W3.heap.size [m, a] rfl A2.out rfl A5.out A3.out A4.out ?_)
          intro v6 w6 h5 g5
          obtain ⟨R6, hR6⟩ : ∃ q, q = R ++ [⟨m, a⟩] := ⟨_, rfl⟩
          have Ow6 : Hid (OwnSt W0.heap.size w6 v6 R6) := by
            rw [hR6]
            unfold OwnSt
            rw [fl2_app, List.length_append]
            exact h5
          have HBw6 := Lib.hid ((HBW3.out.alloc HBW3.out.size _).grown g5 A4.out (fun q e => (A1.out.block q e).1))
          have lR6 : R6.length ≤ R.length + 1 := by rw [hR6]; simp
          have HR6 := Lib.hid hR6
          obtain ⟨av6, cv6, rfl⟩ := Ow6.out.is_slice
          clear h5 g5 A1 A2 A3 A4 A5 hR6
          have K6 : Hid (OwnSt W0.heap.size w6 (.slice av6 R6.length cv6) (outS T s (k + 1))) := by
            have q := Ow6.out
            have e : R6 = outS T s (k + 1) := by rw [EN.out, HR6.out]
            rw [← e]
            exact q
          clear Ow6 HR6 EN OW3
          go_wp2_with fail
          go_roundw
          case rel => exact ⟨k + 1, true, by omega, by go_num, rfl, K6.out, ⟨fun _ => ED.out, fun _ => rfl⟩, NN.out, HBw6.out⟩
          case measure => simp [RowKit.intOf]; omega
        | false =>
          by_cases c1 : sa < a
          · have d1 : decide (sa < a) = true := by simpa using c1
            have GG : Hid (gtS ⟨m, a⟩ s) := GT.out.2 (by omega)
            have EN : Hid (outS T s (k + 1) = (R ++ [⟨sm, sa⟩]) ++ [⟨m, a⟩]) := by
              show _ = _
              rw [EQ.out, if_pos ⟨fun hc => (by have := HD.out.2 hc; cases this), GG.out⟩, HS.out]
            have ED : Hid (dnS T s (k + 1)) := dnS_succ.2 (.inr (by rw [← HE.out]; exact GG.out))
            clear EQ HD GT GG
            go_wp2_with fail
            go_quiet (fail)
            obtain ⟨W3, hW3⟩ : ∃ W, W = W2.drewN nq := ⟨_, rfl⟩
            rw [← hW3]
            have bW3 : Below W2.heap.size W2 W3 := by rw [hW3]; exact below_drews (Below.refl _ _) _
            have HBW3 := Lib.hid (below_more HBW2.out bW3)
            obtain ⟨x0, x1, y0, y1⟩ := CC.out _ HBW3.out
            clear hW3
            have OW3 := Lib.hid (OwnF.below OW2.out bW3)
            clear bW3 OW2
            have A1 := Lib.hid (OwnF.below OW3.out ((Below.refl _ W3).alloc (Nat.le_refl _) (.cells #[.int .i64 sm, .int .i64 sa] 120)))
            have A2 := Lib.hid (heap_alloc_new W3 (.cells #[.int .i64 sm, .int .i64 sa] 120))
            have A3 : Hid (R.length ≤ 100000) := by show _ ≤ _; omega
            have A4 : Hid (W0.heap.size ≤ (W3.alloc (.cells #[.int .i64 sm, .int .i64 sa] 120)).heap.size) := by show _ ≤ _; have := HBW3.out.size; have := l0; simp; omega
            have A5 : Hid (∀ q ∈ [sm, sa], i64 q) := fun q hq => by
              simp at hq
              rcases hq with rfl | rfl
              · exact ⟨by omega, by omega⟩
              · exact ⟨by omega, by omega⟩
            go_wp2_with (at_builtin; refine wpList_append_rec rfl _ _ 23 120 2 16 _ Tryd.underlying23 infoSite rfl (by decide) (by decide) rfl W0.heap.size _ R.length _ rfl A1.out W3.heap.size [sm, sa] rfl A2.out rfl A5.out A3.out A4.out ?_)
            intro v5 w5 h5 g5
            obtain ⟨R5, hR5⟩ : ∃ q, q = R ++ [⟨sm, sa⟩] := ⟨_, rfl⟩
            have Ow5 : Hid (OwnSt W0.heap.size w5 v5 R5) := by
              rw [hR5]
              unfold OwnSt
              rw [fl2_app, List.length_append]
              exact h5
            have HBw5 := Lib.hid ((HBW3.out.alloc HBW3.out.size _).grown g5 A4.out (fun q e => (A1.out.block q e).1))
            have lR5 : R5.length ≤ R.length + 1 := by rw [hR5]; simp
            have HR5 := Lib.hid hR5
            obtain ⟨av5, cv5, rfl⟩ := Ow5.out.is_slice
            clear h5 g5 A1 A2 A3 A4 A5 hR5
            clear x0 x1 y0 y1 OW3
            obtain ⟨x0, x1, y0, y1⟩ := CC.out _ HBw5.out
            have A1 := Lib.hid (OwnF.below Ow5.out ((Below.refl _ w5).alloc (Nat.le_refl _) (.cells #[.int .i64 m, .int .i64 a] 120)))
            have A2 := Lib.hid (heap_alloc_new w5 (.cells #[.int .i64 m, .int .i64 a] 120))
            have A3 : Hid (R5.length ≤ 100000) := by show _ ≤ _; omega
            have A4 : Hid (W0.heap.size ≤ (w5.alloc (.cells #[.int .i64 m, .int .i64 a] 120)).heap.size) := by show _ ≤ _; have := HBw5.out.size; have := l0; simp; omega
            have A5 : Hid (∀ q ∈ [m, a], i64 q) := fun q hq => by
              simp at hq
              rcases hq with rfl | rfl
              · exact ⟨by omega, by omega⟩
              · exact ⟨by omega, by omega⟩
            go_wp2_with (at_builtin; refine wpList_append_rec rfl _ _ 23 120 2 16 _ Tryd.underlying23 infoSite rfl (by decide) (by decide) rfl W0.heap.size _ R5.length _ rfl A1.out w5.heap.size [m, a] rfl A2.out rfl A5.out A3.out A4.out ?_)
            intro v6 w6 h5 g5
            obtain ⟨R6, hR6⟩ : ∃ q, q = R5 ++ [⟨m, a⟩] := ⟨_, rfl⟩
            have Ow6 : Hid (OwnSt W0.heap.size w6 v6 R6) := by
              rw [hR6]
              unfold OwnSt
              rw [fl2_app, List.length_append]
              exact h5
            have HBw6 := Lib.hid ((HBw5.out.alloc HBw5.out.size _).grown g5 A4.out (fun q e => (A1.out.block q e).1))
            have lR6 : R6.length ≤ R5.length + 1 := by rw [hR6]; simp
            have HR6 := Lib.hid hR6
            obtain ⟨av6, cv6, rfl⟩ := Ow6.out.is_slice
            clear h5 g5 A1 A2 A3 A4 A5 hR6
            have K6 : Hid (OwnSt W0.heap.size w6 (.slice av6 R6.length cv6) (outS T s (k + 1))) := by
              have q := Ow6.out
              have e : R6 = outS T s (k + 1) := by rw [EN.out, HR6.out, HR5.out]
              rw [← e]
              exact q
            clear Ow6 HR6 EN Ow5 HR5
            go_wp2_with fail
            go_roundw
            case rel => exact ⟨k + 1, true, by omega, by go_num, rfl, K6.out, ⟨fun _ => ED.out, fun _ => rfl⟩, NN.out, HBw6.out⟩
            case measure => simp [RowKit.intOf]; omega
          · have d1 : decide (sa < a) = false := by simpa using c1
            by_cases c2 : a = sa
            · have d2 : (a == sa) = true := by simpa using c2
              by_cases c3 : sm < m
              · have d3 : decide (sm < m) = true := by simpa using c3
                have HC2 := Lib.hid c2
                clear c2
                have GG : Hid (gtS ⟨m, a⟩ s) := GT.out.2 (.inr ⟨HC2.out, c3⟩)
                have EN : Hid (outS T s (k + 1) = (R ++ [⟨sm, sa⟩]) ++ [⟨m, a⟩]) := by
                  show _ = _
                  rw [EQ.out, if_pos ⟨fun hc => (by have := HD.out.2 hc; cases this), GG.out⟩, HS.out]
                have ED : Hid (dnS T s (k + 1)) := dnS_succ.2 (.inr (by rw [← HE.out]; exact GG.out))
                clear EQ HD GT GG
                go_wp2_with fail
                go_quiet (fail)
                obtain ⟨W3, hW3⟩ : ∃ W, W = W2.drewN nq := ⟨_, rfl⟩
                rw [← hW3]
                have bW3 : Below W2.heap.size W2 W3 := by rw [hW3]; exact below_drews (Below.refl _ _) _
                have HBW3 := Lib.hid (below_more HBW2.out bW3)
                obtain ⟨x0, x1, y0, y1⟩ := CC.out _ HBW3.out
                clear hW3
                have OW3 := Lib.hid (OwnF.below OW2.out bW3)
                clear bW3 OW2
                have A1 := Lib.hid (OwnF.below OW3.out ((Below.refl _ W3).alloc (Nat.le_refl _) (.cells #[.int .i64 sm, .int .i64 sa] 120)))
                have A2 := Lib.hid (heap_alloc_new W3 (.cells #[.int .i64 sm, .int .i64 sa] 120))
                have A3 : Hid (R.length ≤ 100000) := by show _ ≤ _; omega
                have A4 : Hid (W0.heap.size ≤ (W3.alloc (.cells #[.int .i64 sm, .int .i64 sa] 120)).heap.size) := by show _ ≤ _; have := HBW3.out.size; have := l0; simp; omega
                have A5 : Hid (∀ q ∈ [sm, sa], i64 q) := fun q hq => by
                  simp at hq
                  rcases hq with rfl | rfl
                  · exact ⟨by omega, by omega⟩
                  · exact ⟨by omega, by omega⟩
                go_wp2_with (at_builtin; refine wpList_append_rec rfl _ _ 23 120 2 16 _ Tryd.underlying23 infoSite rfl (by decide) (by decide) rfl W0.heap.size _ R.length _ rfl A1.out W3.heap.size [sm, sa] rfl A2.out rfl A5.out A3.out A4.out ?_)
                intro v5 w5 h5 g5
                obtain ⟨R5, hR5⟩ : ∃ q, q = R ++ [⟨sm, sa⟩] := ⟨_, rfl⟩
                have Ow5 : Hid (OwnSt W0.heap.size w5 v5 R5) := by
                  rw [hR5]
                  unfold OwnSt
                  rw [fl2_app, List.length_append]
                  exact h5
                have HBw5 := Lib.hid ((HBW3.out.alloc HBW3.out.size _).grown g5 A4.out (fun q e => (A1.out.block q e).1))
                have lR5 : R5.length ≤ R.length + 1 := by rw [hR5]; simp
                have HR5 := Lib.hid hR5
                obtain ⟨av5, cv5, rfl⟩ := Ow5.out.is_slice
                clear h5 g5 A1 A2 A3 A4 A5 hR5
                clear x0 x1 y0 y1 OW3
                obtain ⟨x0, x1, y0, y1⟩ := CC.out _ HBw5.out
                have A1 := Lib.hid (OwnF.below Ow5.out ((Below.refl _ w5).alloc (Nat.le_refl _) (.cells #[.int .i64 m, .int .i64 a] 120)))
                have A2 := Lib.hid (heap_alloc_new w5 (.cells #[.int .i64 m, .int .i64 a] 120))
                have A3 : Hid (R5.length ≤ 100000) := by show _ ≤ _; omega
                have A4 : Hid (W0.heap.size ≤ (w5.alloc (.cells #[.int .i64 m, .int .i64 a] 120)).heap.size) := by show _ ≤ _; have := HBw5.out.size; have := l0; simp; omega
                have A5 : Hid (∀ q ∈ [m, a], i64 q) := fun q hq => by
                  simp at hq
                  rcases hq with rfl | rfl
                  · exact ⟨by omega, by omega⟩
                  · exact ⟨by omega, by omega⟩
                go_wp2_with (at_builtin; refine wpList_append_rec rfl _ _ 23 120 2 16 _ Tryd.underlying23 infoSite rfl (by decide) (by decide) rfl W0.heap.size _ R5.length _ rfl A1.out w5.heap.size [m, a] rfl A2.out rfl A5.out A3.out A4.out ?_)
                intro v6 w6 h5 g5
                obtain ⟨R6, hR6⟩ : ∃ q, q = R5 ++ [⟨m, a⟩] := ⟨_, rfl⟩
                have Ow6 : Hid (OwnSt W0.heap.size w6 v6 R6) := by
                  rw [hR6]
                  unfold OwnSt
                  rw [fl2_app, List.length_append]
                  exact h5
                have HBw6 := Lib.hid ((HBw5.out.alloc HBw5.out.size _).grown g5 A4.out (fun q e => (A1.out.block q e).1))
                have lR6 : R6.length ≤ R5.length + 1 := by rw [hR6]; simp
                have HR6 := Lib.hid hR6
                obtain ⟨av6, cv6, rfl⟩ := Ow6.out.is_slice
                clear h5 g5 A1 A2 A3 A4 A5 hR6
                have K6 : Hid (OwnSt W0.heap.size w6 (.slice av6 R6.length cv6) (outS T s (k + 1))) := by
                  have q := Ow6.out
                  have e : R6 = outS T s (k + 1) := by rw [EN.out, HR6.out, HR5.out]
                  rw [← e]
                  exact q
                clear Ow6 HR6 EN Ow5 HR5
                go_wp2_with fail
                go_roundw
                case rel => exact ⟨k + 1, true, by omega, by go_num, rfl, K6.out, ⟨fun _ => ED.out, fun _ => rfl⟩, NN.out, HBw6.out⟩
                case measure => simp [RowKit.intOf]; omega
              · have d3 : decide (sm < m) = false := by simpa using c3
                have GN : Hid (¬ gtS ⟨m, a⟩ s) := fun hc => by have := GT.out.1 hc; omega
                clear c2
                have EN : Hid (outS T s (k + 1) = R ++ [⟨m, a⟩]) := by
                  show _ = _
                  rw [EQ.out, if_neg (fun hc => GN.out hc.2), List.append_nil]
                have ED : Hid (¬ dnS T s (k + 1)) := fun hc => (dnS_succ.1 hc).elim (fun h => (by have := HD.out.2 h; cases this)) (fun h => GN.out (by rw [HE.out]; exact h))
                clear EQ HD GT
                go_wp2_with fail
                go_quiet (fail)
                obtain ⟨W3, hW3⟩ : ∃ W, W = W2.drewN nq := ⟨_, rfl⟩
                rw [← hW3]
                have bW3 : Below W2.heap.size W2 W3 := by rw [hW3]; exact below_drews (Below.refl _ _) _
                have HBW3 := Lib.hid (below_more HBW2.out bW3)
                obtain ⟨x0, x1, y0, y1⟩ := CC.out _ HBW3.out
                clear hW3
                have OW3 := Lib.hid (OwnF.below OW2.out bW3)
                clear bW3 OW2
                have A1 := Lib.hid (OwnF.below OW3.out ((Below.refl _ W3).alloc (Nat.le_refl _) (.cells #[.int .i64 m, .int .i64 a] 120)))
                have A2 := Lib.hid (heap_alloc_new W3 (.cells #[.int .i64 m, .int .i64 a] 120))
                have A3 : Hid (R.length ≤ 100000) := by show _ ≤ _; omega
                have A4 : Hid (W0.heap.size ≤ (W3.alloc (.cells #[.int .i64 m, .int .i64 a] 120)).heap.size) := by show _ ≤ _; have := HBW3.out.size; have := l0; simp; omega
                have A5 : Hid (∀ q ∈ [m, a], i64 q) := fun q hq => by
                  simp at hq
                  rcases hq with rfl | rfl
                  · exact ⟨by omega, by omega⟩
                  · exact ⟨by omega, by omega⟩
                go_wp2_with (at_builtin; refine wpList_append_rec rfl _ _ 23 120 2 16 _ Tryd.underlying23 infoSite rfl (by decide) (by decide) rfl W0.heap.size _ R.length _ rfl A1.out W3.heap.size [m, a] rfl A2.out rfl A5.out A3.out A4.out ?_)
                intro v6 w6 h5 g5
                obtain ⟨R6, hR6⟩ : ∃ q, q = R ++ [⟨m, a⟩] := ⟨_, rfl⟩
                have Ow6 : Hid (OwnSt W0.heap.size w6 v6 R6) := by
                  rw [hR6]
                  unfold OwnSt
                  rw [fl2_app, List.length_append]
                  exact h5
                have HBw6 := Lib.hid ((HBW3.out.alloc HBW3.out.size _).grown g5 A4.out (fun q e => (A1.out.block q e).1))
                have lR6 : R6.length ≤ R.length + 1 := by rw [hR6]; simp
                have HR6 := Lib.hid hR6
                obtain ⟨av6, cv6, rfl⟩ := Ow6.out.is_slice
                clear h5 g5 A1 A2 A3 A4 A5 hR6
                have K6 : Hid (OwnSt W0.heap.size w6 (.slice av6 R6.length cv6) (outS T s (k + 1))) := by
                  have q := Ow6.out
                  have e : R6 = outS T s (k + 1) := by rw [EN.out, HR6.out]
                  rw [← e]
                  exact q
                clear Ow6 HR6 EN OW3
                go_wp2_with fail
                go_roundw
                case rel => exact ⟨k + 1, false, by omega, by go_num, rfl, K6.out, ⟨fun h => (by cases h), fun h => absurd h ED.out⟩, NN.out, HBw6.out⟩
                case measure => simp [RowKit.intOf]; omega
            · have d2 : (a == sa) = false := by simpa using c2
              have GN : Hid (¬ gtS ⟨m, a⟩ s) := fun hc => by have := GT.out.1 hc; omega
              have EN : Hid (outS T s (k + 1) = R ++ [⟨m, a⟩]) := by
                show _ = _
                rw [EQ.out, if_neg (fun hc => GN.out hc.2), List.append_nil]
              have ED : Hid (¬ dnS T s (k + 1)) := fun hc => (dnS_succ.1 hc).elim (fun h => (by have := HD.out.2 h; cases this)) (fun h => GN.out (by rw [HE.out]; exact h))
              clear EQ HD GT
              go_wp2_with fail
              go_quiet (fail)
              obtain ⟨W3, hW3⟩ : ∃ W, W = W2.drewN nq := ⟨_, rfl⟩
              rw [← hW3]
              have bW3 : Below W2.heap.size W2 W3 := by rw [hW3]; exact below_drews (Below.refl _ _) _
              have HBW3 := Lib.hid (below_more HBW2.out bW3)
              obtain ⟨x0, x1, y0, y1⟩ := CC.out _ HBW3.out
              clear hW3
              have OW3 := Lib.hid (OwnF.below OW2.out bW3)
              clear bW3 OW2
              have A1 := Lib.hid (OwnF.below OW3.out ((Below.refl _ W3).alloc (Nat.le_refl _) (.cells #[.int .i64 m, .int .i64 a] 120)))
              have A2 := Lib.hid (heap_alloc_new W3 (.cells #[.int .i64 m, .int .i64 a] 120))
              have A3 : Hid (R.length ≤ 100000) := by show _ ≤ _; omega
              have A4 : Hid (W0.heap.size ≤ (W3.alloc (.cells #[.int .i64 m, .int .i64 a] 120)).heap.size) := by show _ ≤ _; have := HBW3.out.size; have := l0; simp; omega
              have A5 : Hid (∀ q ∈ [m, a], i64 q) := fun q hq => by
                simp at hq
                rcases hq with rfl | rfl
                · exact ⟨by omega, by omega⟩
                · exact ⟨by omega, by omega⟩
              go_wp2_with (at_builtin; refine wpList_append_rec rfl _ _ 23 120 2 16 _ Tryd.underlying23 infoSite rfl (by decide) (by decide) rfl W0.heap.size _ R.length _ rfl A1.out W3.heap.size [m, a] rfl A2.out rfl A5.out A3.out A4.out ?_)
              intro v6 w6 h5 g5
              obtain ⟨R6, hR6⟩ : ∃ q, q = R ++ [⟨m, a⟩] := ⟨_, rfl⟩
              have Ow6 : Hid (OwnSt W0.heap.size w6 v6 R6) := by
                rw [hR6]
                unfold OwnSt
                rw [fl2_app, List.length_append]
                exact h5
              have HBw6 := Lib.hid ((HBW3.out.alloc HBW3.out.size _).grown g5 A4.out (fun q e => (A1.out.block q e).1))
              have lR6 : R6.length ≤ R.length + 1 := by rw [hR6]; simp
              have HR6 := Lib.hid hR6
              obtain ⟨av6, cv6, rfl⟩ := Ow6.out.is_slice
              clear h5 g5 A1 A2 A3 A4 A5 hR6
              have K6 : Hid (OwnSt W0.heap.size w6 (.slice av6 R6.length cv6) (outS T s (k + 1))) := by
                have q := Ow6.out
                have e : R6 = outS T s (k + 1) := by rw [EN.out, HR6.out]
                rw [← e]
                exact q
              clear Ow6 HR6 EN OW3
              go_wp2_with fail
              go_roundw
              case rel => exact ⟨k + 1, false, by omega, by go_num, rfl, K6.out, ⟨fun h => (by cases h), fun h => absurd h ED.out⟩, NN.out, HBw6.out⟩
              case measure => simp [RowKit.intOf]; omega
    · obtain rfl : k = n := by omega
      have NM : Hid (s ∉ T) := fun hm => by
        obtain ⟨j, hj, he⟩ := List.getElem_of_mem hm
        exact NE.out j (by rw [hnn.out]; exact hj) (by rw [st_get hj]; exact he)
      have SE := Lib.hid (SN.out NM.out)
      cases d with
      | true =>
        have HF : Hid (siteL T s = R) := by
          show _ = _
          rw [SE.out, if_pos (HD.out.1 rfl), List.append_nil, hRR]
        clear SE SN SY H HD NE hbel hRR
        go_wp2_with fail
        go_ret
        refine ⟨_, rfl, ?_, below_more B0.out HBwr.out⟩
        rw [HF.out]
        exact HO.out.sites
      | false =>
        have HF : Hid (siteL T s = R ++ [⟨sm, sa⟩]) := by
          show _ = _
          rw [SE.out, if_neg (fun hc => by have := HD.out.2 hc; cases this), hRR, ← HS.out]
        have y0 := below_cell hbel l0 (by rw [cell_of_row _ _ _ _ _ _ H0.out]; rfl : W0.cell? ⟨w.heap.size, 0, none⟩ = some (.int .i64 sm))
        have y1 := below_cell hbel l0 (by rw [cell_of_row _ _ _ _ _ _ H0.out]; rfl : W0.cell? ⟨w.heap.size, 1, none⟩ = some (.int .i64 sa))
        clear SE SN SY H HD NE hbel hRR
        have A1 := Lib.hid (OwnF.below HO.out ((Below.refl _ wr).alloc (Nat.le_refl _) (.cells #[.int .i64 sm, .int .i64 sa] 120)))
        have A2 := Lib.hid (heap_alloc_new wr (.cells #[.int .i64 sm, .int .i64 sa] 120))
        have A3 : Hid (R.length ≤ 100000) := by show _ ≤ _; omega
        have A4 : Hid (W0.heap.size ≤ (wr.alloc (.cells #[.int .i64 sm, .int .i64 sa] 120)).heap.size) := by show _ ≤ _; have := HBwr.out.size; have := l0; simp; omega
        have A5 : Hid (∀ q ∈ [sm, sa], i64 q) := fun q hq => by
          simp at hq
          rcases hq with rfl | rfl
          · exact ⟨by omega, by omega⟩
          · exact ⟨by omega, by omega⟩
        go_wp2_with (at_builtin; refine wpList_append_rec rfl _ _ 23 120 2 16 _ Tryd.underlying23 infoSite rfl (by decide) (by decide) rfl W0.heap.size _ R.length _ rfl A1.out wr.heap.size [sm, sa] rfl A2.out rfl A5.out A3.out A4.out ?_)
        intro v6 w6 h5 g5
        obtain ⟨R6, hR6⟩ : ∃ q, q = R ++ [⟨sm, sa⟩] := ⟨_, rfl⟩
        have Ow6 : Hid (OwnSt W0.heap.size w6 v6 R6) := by
          rw [hR6]
          unfold OwnSt
          rw [fl2_app, List.length_append]
          exact h5
        have HBw6 := Lib.hid ((HBwr.out.alloc HBwr.out.size _).grown g5 A4.out (fun q e => (A1.out.block q e).1))
        have lR6 : R6.length ≤ R.length + 1 := by rw [hR6]; simp
        have HR6 := Lib.hid hR6
        obtain ⟨av6, cv6, rfl⟩ := Ow6.out.is_slice
        clear h5 g5 A1 A2 A3 A4 A5 hR6
        have K6 : Hid (Sites w6 (.slice av6 R6.length cv6) (siteL T s)) := by
          have q := Ow6.out.sites
          have e : R6 = siteL T s := by rw [HF.out, HR6.out]
          rw [← e]
          exact q
        clear Ow6 HR6 HF HO
        go_wp2_with fail
        go_ret
        exact ⟨_, rfl, K6.out, below_more B0.out HBw6.out⟩
end Go.Proofs.YtengmiolcfgdiaaDoor.Rig
