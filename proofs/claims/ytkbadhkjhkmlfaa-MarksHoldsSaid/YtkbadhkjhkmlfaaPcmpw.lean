/- Contract: slices.Compact over sites, for a row of the call's own: the walk. -/
import Derived.Test.YtkbadhkjhkmlfaaPcmp
import Derived.Lib.SliceRun
import Derived.IntWalk
set_option linter.unusedVariables false
namespace Go.Proofs.Ytkbadhkjhkmlfaa.Rig
open Go.RowKit Go.Lib Go.Proofs.Ytkbadhkjhkmlfaa.Rt

theorem run_clear_sites (w : World) (ty : TypeId) (b o n c : Nat) (hn : 0 < n) (hc : ∀ j, j < n * 2 → (w.cell? ⟨b, o + j, none⟩).isSome = true) (hf : ∀ j, j < n * 2 → w.frozen? ⟨b, o + j, none⟩ = false) :
    (Builtin.clear_ #[23] ty #[.slice (some ⟨b, o, none⟩) n c]).run Try.prog w = .ok (.tuple #[]) (w.setCells b o (List.replicate (n * 2) (.int .i64 0))) := by
  have hzc : (Builtin.zeroCells (Value.agg #[.int .i64 0, .int .i64 0]).cells n).toList = List.replicate (n * 2) (.int .i64 0) := by
    have e : (Value.agg #[.int .i64 0, .int .i64 0]).cells = #[.int .i64 0, .int .i64 0] := rfl
    rw [e]
    simp only [Builtin.zeroCells]
    apply List.ext_getElem
    · simp
    · intro i h1 h2
      simp only [Array.toList_map, Array.toList_range, List.getElem_map, List.getElem_range, List.getElem_replicate]
      rcases (show i % 2 = 0 ∨ i % 2 = 1 by omega) with h | h
      · show (#[Value.int .i64 0, Value.int .i64 0] : Array Value)[i % 2]! = _
        rw [h]; rfl
      · show (#[Value.int .i64 0, Value.int .i64 0] : Array Value)[i % 2]! = _
        rw [h]; rfl
  have hv : ∀ w, (zeroValue 41).run Try.prog w = .ok (.agg #[.int .i64 0, .int .i64 0]) w := Try.zeroValue41
  have hst := run_storeCells_cells (P := Try.prog) b o (List.replicate (n * 2) (.int .i64 0)) 0 w (by simpa using hc) (by simpa using hf) (by intro v hv'; rw [List.eq_of_mem_replicate hv']; rfl)
  simp only [Nat.add_zero] at hst
  obtain ⟨m, rfl⟩ : ∃ m, n = m + 1 := ⟨n - 1, by omega⟩
  simp [Builtin.clear_, run_underlying Try.underlying23, hv, hzc, hst]

/-- It hands sites back, in the row that came in. -/
def Compacted (w : World) (v : Value) (U : List St) (e : Ending) (w' : World) : Prop := ∃ v', e = .returned v' ∧ Sites w' v' U ∧ w.grownBy w' v.ownBlock
theorem cmpL_all {L : List St} (h : ∀ j, j < L.length → keeps L.toArray j = true) : cmpL L = L := by
  unfold cmpL
  have e := range_map_get L.toArray
  rw [List.size_toArray] at e
  rw [compactUpTo_all _ _ h, e]
theorem st_arr {d : Array St} {i : Nat} (h : i < d.size) : st d.toList i = d[i]! := by
  rw [st_get (by simpa using h), getElem!_pos d i h]
  simp
theorem low_take {L : List St} {d : Array St} {kk : Nat} (h : CompInv L.toArray L.length kk d) : d.toList.take kk = cmpL L := by
  have hs : d.size = L.length := by rw [h.size, List.size_toArray]
  have hl := h.len
  have hlt := h.lt
  apply List.ext_getElem?
  intro j
  by_cases hj : j < kk
  · rw [List.getElem?_take_of_lt hj]
    show _ = (compactUpTo L.toArray L.length)[j]?
    rw [h.low j hj, List.getElem?_eq_getElem (by rw [Array.length_toList]; omega), Array.getElem_toList, getElem!_pos d j (by omega)]
  · rw [List.getElem?_eq_none (by rw [List.length_take]; omega), List.getElem?_eq_none (by show (compactUpTo L.toArray L.length).length ≤ j; omega)]
theorem cmp_done {w W : World} {base g cap kk n : Nat} {L : List St} {d : Array St} (hn : n = L.length) (h : OwnSt base W (.slice (some ⟨g, 0, none⟩) n cap) d.toList) (hI : CompInv L.toArray L.length kk d) (hg : w.grownBy W (some g)) (m : Nat) :
    Compacted w (.slice (some ⟨g, 0, none⟩) n cap) (cmpL L) (.returned (.slice (some ⟨g, 0, none⟩) kk cap)) (W.setCells g (kk * 2) (List.replicate m (.int .i64 0))) := by
  subst hn
  have hs : d.size = L.length := by rw [hI.size, List.size_toArray]
  have hlt := hI.lt
  have hkk : kk < L.length := hlt
  have hcap : L.length ≤ cap ∧ cap ≤ maxLen ∧ g < W.heap.size := by
    rcases h.1.2 with ⟨hc, _⟩ | ⟨g', cap', cur, hv, _, hgg, hle, hm, _⟩
    · cases hc
    · injection hv with h1 _ h3
      subst h3
      injection h1 with h1
      injection h1 with h1 _
      subst h1
      exact ⟨by omega, hm, (Array.getElem?_eq_some_iff.1 hgg).1⟩
  refine ⟨_, rfl, ?_, grown_trans hg (setCells_grown _ _ _)⟩
  rw [← low_take hI]
  obtain ⟨a, c, hv, hle, hm, hq⟩ := h.sites.open_
  injection hv with e1 e2 e3
  subst e1 e3
  refine sites_mk (by rw [List.length_take, Array.length_toList]; omega) (by omega) hcap.2.1 (fun i hi => ?_) (fun _ => ?_)
  · obtain ⟨b, off, e, hb, hgood, c0, c1⟩ := hq i (by rw [Array.length_toList]; omega)
    injection e with e
    injection e with e1 e2
    subst e1 e2
    have e4 : st (d.toList.take kk) i = st d.toList i := by
      unfold st
      rw [List.getD_eq_getElem?_getD, List.getD_eq_getElem?_getD, List.getElem?_take_of_lt hi]
    rw [e4]
    refine ⟨hgood, ?_, ?_⟩
    · rw [World.cell?_setCells_out _ _ _ _ _ (fun _ _ => .inl (by show 0 + i * 2 < kk * 2; omega))]
      exact c0
    · rw [World.cell?_setCells_out _ _ _ _ _ (fun _ _ => .inl (by show 0 + i * 2 + 1 < kk * 2; omega))]
      exact c1
  · have := (setCells_grown (g := g) (List.replicate m (.int .i64 0)) (kk * 2) W).size
    omega

set_option maxRecDepth 100000 in
set_option maxHeartbeats 16000000 in
theorem compact_any {base : Nat} {v : Value} {L : List St} (w : World) (h : OwnSt base w v L) (hn : L.length ≤ 100000) :
    Calls Try.prog 37 #[v] w (Compacted w v (cmpL L)) := by
  obtain ⟨ao, co, rfl⟩ := h.is_slice
  by_cases h2 : L.length < 2
  · have HF : Hid (Compacted w (.slice ao L.length co) (cmpL L) (.returned (.slice ao L.length co)) w) := by
      refine ⟨_, rfl, ?_, grown_below (Below.refl _ _) _⟩
      rw [cmpL_all (fun j hj => keeps_lt_one _ j (by omega))]
      exact h.sites
    generalize cmpL L = U at *
    clear h
    generalize L.length = n at *
    go_enter Try.func37, Try.ntmps37
    go_wp2
    go_ret
    exact HF.out
  · obtain ⟨g, rfl⟩ : ∃ g, ao = some ⟨g, 0, none⟩ := by
      rcases h.1.2 with ⟨_, h0⟩ | ⟨g, cap', cur, hv, _⟩
      · omega
      · injection hv with hv
        exact ⟨g, hv⟩
    obtain ⟨a, c, hv, hle, hm, hq⟩ := h.sites.open_
    injection hv with e1 _ e3
    subst e1 e3
    have HQ : Hid (∀ j, j < L.length → ∃ m a, st L j = ⟨m, a⟩ ∧ i64 m ∧ i64 a ∧ g < w.heap.size ∧ w.cell? ⟨g, j * 2, none⟩ = some (.int .i64 m) ∧ w.cell? ⟨g, j * 2 + 1, none⟩ = some (.int .i64 a)) := fun j hj => by
      obtain ⟨b, off, e, hb, ⟨g1, g2⟩, c0, c1⟩ := hq j hj
      injection e with e
      injection e with e1 e2
      subst e1 e2
      rw [Nat.zero_add] at c0 c1
      exact ⟨_, _, rfl, g1, g2, hb, c0, c1⟩
    have HO := Lib.hid h
    have ALL : Hid ((∀ j, j < L.length → keeps L.toArray j = true) → cmpL L = L) := cmpL_all
    have AG := Lib.hid (fun j (hj : j < L.length) => arr_get L hj)
    obtain ⟨n, hnn⟩ : ∃ n, n = L.length := ⟨_, rfl⟩
    have HN := Lib.hid hnn
    rw [← hnn] at h2 hle HO hn ⊢
    have GT := guard_site
    clear h hq hnn
    go_enter Try.func37, Try.ntmps37
    go_wp2
    go_loopg [3] n (fun gh s3 wr => ∃ k q : Nat, 1 ≤ k ∧ k ≤ n ∧ n - k ≤ gh ∧ s3 = .int .i64 k ∧ wr = w.drewN q ∧ Hid (∀ j, j < k → keeps L.toArray j = true))
    case atStart => exact ⟨1, 0, Nat.le_refl _, by omega, by omega, rfl, rfl, keeps_lt_one _⟩
    case round =>
      obtain ⟨k, q, hk1, hk, hgh, rfl, rfl, hall⟩ := hrel
      by_cases hlt : k < n
      · have hkl : k < L.length := by rw [← HN.out]; exact hlt
        obtain ⟨xm, xa, ex, ⟨x1, x2⟩, ⟨x3, x4⟩, gl, c0, c1⟩ := HQ.out k hkl
        obtain ⟨ym, ya, ey, ⟨y1, y2⟩, ⟨y3, y4⟩, _, c2, c3⟩ := HQ.out (k - 1) (by omega)
        have bq : Below w.heap.size w (w.drewN q) := below_drews (Below.refl _ _) q
        have EX := Lib.hid ((AG.out k hkl).trans ex)
        have EY := Lib.hid ((AG.out (k - 1) (by omega)).trans ey)
        have BQ := Lib.hid bq
        have z1 : IntKind.i64.wrap ((k : Int) - 1) = (k : Int) - 1 := IntWalk.i64_in _ (by omega)
        have z2 : (0 : Int) ≤ (k : Int) := by omega
        have z3 : (k : Int) < (n : Int) := by omega
        have z4 : (0 : Int) ≤ (k : Int) - 1 := by omega
        have z5 : (k : Int) - 1 < (n : Int) := by omega
        have z6 : ((k : Int) - 1).toNat = k - 1 := by omega
        clear ex ey bq
        by_cases hdup : xm = ym ∧ xa = ya
        · obtain ⟨rfl, rfl⟩ := hdup
          have EQL : ∀ w, (binOp .eql 41 (.agg #[.int .i64 xm, .int .i64 xa]) (.agg #[.int .i64 xm, .int .i64 xa])).run Try.prog w = .ok (.bool true) w := fun w => by rw [eql_site]; simp
          have HI : Hid (CompInv L.toArray (k + 1) k L.toArray) := CompInv.start hall.out (keeps_neg (by omega) (by rw [EX.out, EY.out]))
          go_wp2_with fail
          go_quiet (fail)
          go_wp2
          clear c0 c1 c2 c3 EQL z1 z2 z3 z4 z5 z6 EX EY x1 x2 x3 x4 y1 y2 y3 y4
          go_loopg [3, 5] n (fun gh s3 s5 wr => ∃ (kk k2 : Nat) (dk : Array St), s3 = .int .i64 kk ∧ s5 = .int .i64 k2 ∧ 1 ≤ k2 ∧ k + k2 ≤ n ∧ n - (k + k2) ≤ gh ∧ Hid (OwnSt base wr (.slice (some ⟨g, 0, none⟩) n co) dk.toList) ∧ Hid (w.grownBy wr (some g)) ∧ Hid (CompInv L.toArray (k + k2) kk dk))
          case atStart => exact ⟨k, 1, L.toArray, rfl, rfl, Nat.le_refl _, by omega, by omega, OwnF.below HO.out (below_drews (Below.refl _ _) _), grown_below (below_drews (Below.refl _ _) _) _, HI.out⟩
          case round =>
            clear HI BQ hall ALL
            obtain ⟨kk, k2, dk, rfl, rfl, h1, hle2, hg2, HK, HG, HC⟩ := hrel
            have hds : dk.size = n := by rw [HC.out.size, List.size_toArray]; exact HN.out.symm
            have hkk : kk < k + k2 := HC.out.lt
            have HKn : Hid (OwnF 41 base wr (.slice (some ⟨g, 0, none⟩) n co) n 2 (fl2 dk.toList)) := by
              have h9 : OwnF 41 base wr (.slice (some ⟨g, 0, none⟩) n co) dk.toList.length 2 (fl2 dk.toList) := HK.out
              rw [Array.length_toList, hds] at h9
              exact h9
            obtain ⟨a', c', hv', _, _, hq'⟩ := HK.out.sites.open_
            injection hv' with e1 e2 e3
            subst e1 e3
            clear e2
            have HQ2 : Hid (∀ j, j < n → ∃ m a, dk[j]! = ⟨m, a⟩ ∧ i64 m ∧ i64 a ∧ wr.cell? ⟨g, j * 2, none⟩ = some (.int .i64 m) ∧ wr.cell? ⟨g, j * 2 + 1, none⟩ = some (.int .i64 a) ∧ wr.frozen? ⟨g, j * 2, none⟩ = false ∧ wr.frozen? ⟨g, j * 2 + 1, none⟩ = false ∧ g < wr.heap.size) := fun j hj => by
              obtain ⟨b, off, e, hb, ⟨g1, g2⟩, c0, c1⟩ := hq' j (by rw [Array.length_toList]; omega)
              injection e with e
              injection e with e1 e2
              subst e1 e2
              rw [Nat.zero_add] at c0 c1
              exact ⟨_, _, (st_arr (d := dk) (by omega)).symm, g1, g2, c0, c1, World.ownsRow.frozenAt HKn.out.1 _, World.ownsRow.frozenAt HKn.out.1 _, hb⟩
            have hm2 : co ≤ 9223372036854775807 := hm
            clear hq'
            by_cases hlt2 : k + k2 < n
            · obtain ⟨um, ua, eu, ⟨u1, u2⟩, ⟨u3, u4⟩, c0, c1, _, _, gw⟩ := HQ2.out (k + k2) hlt2
              obtain ⟨vm, va, ev, ⟨v1, v2⟩, ⟨v3, v4⟩, c2, c3, _, _, _⟩ := HQ2.out (k + k2 - 1) (by omega)
              obtain ⟨om, oa, eo, _, _, c4, c5, f4, f5, _⟩ := HQ2.out kk (by omega)
              clear eo
              have EU := Lib.hid ((HC.out.high (k + k2) (by omega)).symm.trans eu)
              have EV := Lib.hid ((HC.out.high (k + k2 - 1) (by omega)).symm.trans ev)
              rw [show (k + k2) * 2 = k * 2 + k2 * 2 by omega] at c0 c1
              rw [show (k + k2 - 1) * 2 = k * 2 + (k2 - 1) * 2 by omega] at c2 c3
              have z7 : k2 < n - k := by omega
              clear eu ev
              by_cases huv : um = vm ∧ ua = va
              · obtain ⟨rfl, rfl⟩ := huv
                have NEQ : ∀ w, (binOp .neq 41 (.agg #[.int .i64 um, .int .i64 ua]) (.agg #[.int .i64 um, .int .i64 ua])).run Try.prog w = .ok (.bool false) w := fun w => by rw [neq_site]; simp
                have HI := Lib.hid (HC.out.skip (keeps_neg (by omega) (by rw [EU.out, EV.out])))
                clear HC EU EV
                go_wp2_with fail
                have z1 : IntKind.i64.wrap ((k2 : Int) - 1) = (k2 : Int) - 1 := IntWalk.i64_in _ (by omega)
                have z2 : (0 : Int) ≤ (k2 : Int) := by omega
                have z3 : (k2 : Int) < ((n - k : Nat) : Int) := by omega
                have z4 : (0 : Int) ≤ (k2 : Int) - 1 := by omega
                have z5 : (k2 : Int) - 1 < ((n - k : Nat) : Int) := by omega
                have z6 : ((k2 : Int) - 1).toNat = k2 - 1 := by omega
                have z10 : n - k ≤ 9223372036854775807 := by omega
                have z11 : k ≤ n := hk
                have z12 : n ≤ co := hle
                have z8 : (0 : Int) ≤ (kk : Int) := by omega
                have z9 : (kk : Int) < (n : Int) := by omega
                go_quiet (fail)
                clear z1 z2 z3 z4 z5 z6 z8 z9 z10 z11 z12
                have z8 : (0 : Int) ≤ (kk : Int) := by omega
                have z9 : (kk : Int) < (n : Int) := by omega
                go_wp2
                go_roundg (n - (k + (k2 + 1)))
                case measure => omega
                case rel => exact ⟨kk, k2 + 1, dk, rfl, by go_num, by omega, by omega, Nat.le_refl _, OwnF.below HK.out (below_drews (Below.refl _ _) _), grown_drews HG.out _, by rw [show k + (k2 + 1) = k + k2 + 1 by omega]; exact HI.out⟩
              · have NEQ : ∀ w, (binOp .neq 41 (.agg #[.int .i64 um, .int .i64 ua]) (.agg #[.int .i64 vm, .int .i64 va])).run Try.prog w = .ok (.bool true) w := fun w => by
                  rw [neq_site]
                  have : (um == vm && ua == va) = false := by
                    simp
                    intro h1 h2
                    exact huv ⟨h1, h2⟩
                  rw [this]
                  rfl
                have HI := Lib.hid (HC.out.keep (by rw [List.size_toArray, ← HN.out]; exact hlt2) (keeps_pos (by
                  rw [EU.out, EV.out]
                  intro hc
                  injection hc with h1 h2
                  exact huv ⟨h1, h2⟩)))
                have HS : Hid (∀ q, OwnSt base (((wr.drewN q).setCell ⟨g, kk * 2, none⟩ (.int .i64 um)).setCell ⟨g, kk * 2 + 1, none⟩ (.int .i64 ua)) (.slice (some ⟨g, 0, none⟩) n co) (dk.setIfInBounds kk ⟨um, ua⟩).toList) := fun q => by
                  have h9 : OwnSt base (wr.drewN q) (.slice (some ⟨g, 0, none⟩) n co) dk.toList := OwnF.below HK.out (below_drews (Below.refl _ _) _)
                  have := OwnSt.set_ (x := ⟨um, ua⟩) (by rw [Array.length_toList]; exact hds.symm) h9 (j := kk) (by rw [Array.length_toList]; omega) ⟨⟨u1, u2⟩, ⟨u3, u4⟩⟩
                  rwa [← Array.toList_setIfInBounds] at this
                rw [EU.out] at HI
                clear HC EU EV huv
                go_wp2_with fail
                have z1 : IntKind.i64.wrap ((k2 : Int) - 1) = (k2 : Int) - 1 := IntWalk.i64_in _ (by omega)
                have z2 : (0 : Int) ≤ (k2 : Int) := by omega
                have z3 : (k2 : Int) < ((n - k : Nat) : Int) := by omega
                have z4 : (0 : Int) ≤ (k2 : Int) - 1 := by omega
                have z5 : (k2 : Int) - 1 < ((n - k : Nat) : Int) := by omega
                have z6 : ((k2 : Int) - 1).toNat = k2 - 1 := by omega
                have z10 : n - k ≤ 9223372036854775807 := by omega
                have z11 : k ≤ n := hk
                have z12 : n ≤ co := hle
                have z8 : (0 : Int) ≤ (kk : Int) := by omega
                have z9 : (kk : Int) < (n : Int) := by omega
                go_quiet (fail)
                clear z1 z2 z3 z4 z5 z6 z8 z9 z10 z11 z12
                have z8 : (0 : Int) ≤ (kk : Int) := by omega
                have z9 : (kk : Int) < (n : Int) := by omega
                go_wp2
                go_roundg (n - (k + (k2 + 1)))
                case measure => omega
                case rel => exact ⟨kk + 1, k2 + 1, _, by go_num, by go_num, by omega, by omega, Nat.le_refl _, HS.out _, grown_trans (grown_trans (grown_drews HG.out _) (grown_setCell _ _ _)) (grown_setCell _ _ _), by rw [show k + (k2 + 1) = k + k2 + 1 by omega]; exact HI.out⟩
            · have hend : k + k2 = n := by omega
              have CL : ∀ ty, (Builtin.clear_ #[23] ty #[.slice (some ⟨g, kk * 2, none⟩) (n - kk) (co - kk)]).run Try.prog wr = .ok (.tuple #[]) (wr.setCells g (kk * 2) (List.replicate ((n - kk) * 2) (.int .i64 0))) := fun ty => by
                refine run_clear_sites wr ty g (kk * 2) (n - kk) (co - kk) (by omega) (fun j hj => ?_) (fun j hj => ?_)
                · obtain ⟨m, a, _, _, _, c0, c1, _⟩ := HQ2.out (kk + j / 2) (by omega)
                  rcases (show j % 2 = 0 ∨ j % 2 = 1 by omega) with e | e
                  · rw [show kk * 2 + j = (kk + j / 2) * 2 by omega, c0]; rfl
                  · rw [show kk * 2 + j = (kk + j / 2) * 2 + 1 by omega, c1]; rfl
                · exact World.ownsRow.frozenAt HKn.out.1 _
              have FIN := Lib.hid (cmp_done HN.out HK.out (by rw [← HN.out, ← hend]; exact HC.out) HG.out ((n - kk) * 2))
              have z8 : (0 : Int) ≤ (kk : Int) := by omega
              have z9 : (kk : Int) ≤ (n : Int) := by omega
              have y1 : kk ≤ n := by omega
              have y4 : n - k ≤ k2 := by omega
              have y5 : n - k ≤ 9223372036854775807 := by omega
              have y6 : n - kk ≤ 9223372036854775807 := by omega
              have y2 : kk ≤ co := by omega
              have y3 : n ≤ co := hle
              clear HK HG HC HQ2 hend hds
              go_wp2
              go_ret
              exact FIN.out
        · have EQL : ∀ w, (binOp .eql 41 (.agg #[.int .i64 xm, .int .i64 xa]) (.agg #[.int .i64 ym, .int .i64 ya])).run Try.prog w = .ok (.bool false) w := fun w => by
            rw [eql_site]
            have : (xm == ym && xa == ya) = false := by
              simp
              intro h1 h2
              exact hdup ⟨h1, h2⟩
            rw [this]
          have HA2 : Hid (∀ j, j < k + 1 → keeps L.toArray j = true) := fun j hj => by
            by_cases e : j = k
            · subst e
              refine keeps_pos ?_
              rw [EX.out, EY.out]
              intro hc
              injection hc with h1 h2
              exact hdup ⟨h1, h2⟩
            · exact hall.out j (by omega)
          clear hdup hall EX EY
          go_wp2_with fail
          go_quiet (fail)
          go_wp2
          go_roundg (n - (k + 1))
          case measure => omega
          case rel => exact ⟨k + 1, _, by omega, by omega, Nat.le_refl _, by go_num, rfl, HA2.out⟩
      · have hk' : k = n := by omega
        have FIN : Hid (Compacted w (.slice (some ⟨g, 0, none⟩) n co) (cmpL L) (.returned (.slice (some ⟨g, 0, none⟩) n co)) (w.drewN q)) := by
          refine ⟨_, rfl, ?_, grown_below (below_drews (Below.refl _ _) _) _⟩
          rw [ALL.out (by rw [← HN.out, ← hk']; exact hall.out)]
          exact (OwnSt.sites HO.out).below (below_drews (Below.refl _ _) q) (Nat.le_refl _)
        clear hk' hall ALL
        go_wp2
        go_ret
        exact FIN.out
end Go.Proofs.Ytkbadhkjhkmlfaa.Rig
