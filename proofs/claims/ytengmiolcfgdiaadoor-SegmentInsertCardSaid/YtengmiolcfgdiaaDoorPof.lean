/- Contract: Of of the program. -/
import Derived.Test.YtengmiolcfgdiaaDoorPk
set_option linter.unusedVariables false
namespace Go.Proofs.YtengmiolcfgdiaaDoor.Rig
open Go.RowKit Go.Lib Go.Proofs.YtengmiolcfgdiaaDoor.Rt

set_option maxRecDepth 100000 in
set_option maxHeartbeats 4000000 in
theorem of_any {sv tv : Value} {S : List Sp} {T : List St} (mk : Int) (w : World) (hS : Spans w sv S) (hT : Sites w tv T) (hmk : i64 mk) (hn : S.length ≤ 10000) (hn2 : T.length ≤ 10000) :
    Calls Tryd.prog 48 #[.agg #[sv, tv], .int .i64 mk] w (GivesOf w (ofS S mk) (ofT T mk)) := by
  obtain ⟨sa, sc, rfl, hls, hcs, hS1⟩ := hS.open_
  obtain ⟨ta, tc, rfl, hlt, hct, hT1⟩ := hT.open_
  have HS := Lib.hid hS1
  have HT := Lib.hid hT1
  obtain ⟨ns, hns⟩ : ∃ ns, ns = S.length := ⟨_, rfl⟩
  obtain ⟨nt, hnt⟩ : ∃ nt, nt = T.length := ⟨_, rfl⟩
  have ES : Hid (ofS (S.take ns) mk = ofS S mk) := by show _ = _; rw [hns, List.take_length]
  have ET : Hid (ofT (T.take nt) mk = ofT T mk) := by show _ = _; rw [hnt, List.take_length]
  rw [← hns] at hls hn ⊢
  rw [← hnt] at hlt hn2 ⊢
  replace hns := Lib.hid hns
  replace hnt := Lib.hid hnt
  obtain ⟨n1, n2⟩ := hmk
  obtain ⟨W0, hW0⟩ : ∃ W0, W0 = w.alloc (.cells #[.slice sa ns sc, .slice ta nt tc] 29) := ⟨_, rfl⟩
  have b0 : Below w.heap.size w W0 := by rw [hW0]; exact (Below.refl _ _).alloc (Nat.le_refl _) _
  have h0 : W0.heap[w.heap.size]? = some (.cells #[.slice sa ns sc, .slice ta nt tc] 29 (0, 0)) := by rw [hW0]; exact heap_alloc_new _ _
  have l0 : w.heap.size < W0.heap.size := by rw [hW0]; simp
  have BX : Hid (∀ w', Below W0.heap.size W0 w' → w'.cell? ⟨w.heap.size, 0, none⟩ = some (.slice sa ns sc) ∧ w'.cell? ⟨w.heap.size, 1, none⟩ = some (.slice ta nt tc)) := fun w' hb => by
    refine ⟨below_cell hb l0 ?_, below_cell hb l0 ?_⟩ <;> (rw [cell_of_row _ _ _ _ _ _ h0]; rfl)
  have HW0 := Lib.hid hW0
  have B0 := Lib.hid b0
  clear hS1 hT1 hS hT h0 hW0 b0
  go_enter Tryd.func48, Tryd.ntmps48
  go_wp2_with fail
  rw [← HW0.out]
  go_loopg [6, 15] ns (fun g t i wr => ∃ k : Nat, k ≤ ns ∧ ns - k ≤ g ∧ i = .int .i64 k ∧ Hid (OwnSp W0.heap.size wr t (ofS (S.take k) mk)) ∧ Below W0.heap.size W0 wr)
  case atStart => exact ⟨0, Nat.zero_le _, by omega, rfl, OwnF.nil_ _ _ _ _, Below.refl _ _⟩
  case round =>
    obtain ⟨k, hk, hg, rfl, HO, hbel⟩ := hrel
    obtain ⟨x0, x1⟩ := BX.out _ hbel
    obtain ⟨R, hR⟩ : ∃ R, R = ofS (S.take k) mk := ⟨_, rfl⟩
    have hrl : R.length ≤ k := by rw [hR]; exact ofS_len S mk k
    rw [← hR] at HO
    obtain ⟨ao, co, rfl⟩ := HO.out.is_slice
    have HBwr := Lib.hid hbel
    by_cases hltk : k < ns
    · have hkl : k < S.length := by rw [← hns.out]; exact hltk
      obtain ⟨b, off, rfl, hb, ⟨⟨m1, m2⟩, ⟨f1, f2⟩, ⟨t1, t2⟩⟩, c0, c1, c2⟩ := HS.out k hkl
      have EQ := Lib.hid (ofS_take mk hkl)
      rw [← hR] at EQ
      obtain ⟨e, he⟩ : ∃ e, e = sp S k := ⟨_, rfl⟩
      rw [← he] at m1 m2 f1 f2 t1 t2 c0 c1 c2 EQ
      obtain ⟨m, f, t⟩ := e
      simp only at m1 m2 f1 f2 t1 t2 c0 c1 c2 EQ
      have hbel2 := below_more B0.out hbel
      replace c0 := below_cell hbel2 hb c0
      replace c1 := below_cell hbel2 hb c1
      replace c2 := below_cell hbel2 hb c2
      have HBX : Hid (Below W0.heap.size W0 (wr.alloc (.cells #[.int .i64 m, .int .i64 f, .int .i64 t] 104))) := HBwr.out.alloc HBwr.out.size _
      have HOX : Hid (OwnSp W0.heap.size (wr.alloc (.cells #[.int .i64 m, .int .i64 f, .int .i64 t] 104)) (.slice ao R.length co) R) := OwnF.below HO.out ((Below.refl _ wr).alloc (Nat.le_refl _) (.cells #[.int .i64 m, .int .i64 f, .int .i64 t] 104))
      clear hbel hbel2 HS HT hR he
      by_cases q : m = mk
      · have d : (m == mk) = true := by simpa using q
        have EN := Lib.hid (EQ.out.trans (by rw [if_pos q]))
        clear EQ q
        have A1 : Hid (OwnSp W0.heap.size ((wr.alloc (.cells #[.int .i64 m, .int .i64 f, .int .i64 t] 104)).alloc (.cells #[.int .i64 m, .int .i64 f, .int .i64 t] 104)) (.slice ao R.length co) R) := OwnF.below HOX.out ((Below.refl _ (wr.alloc (.cells #[.int .i64 m, .int .i64 f, .int .i64 t] 104))).alloc (Nat.le_refl _) (.cells #[.int .i64 m, .int .i64 f, .int .i64 t] 104))
        have A2 : Hid (((wr.alloc (.cells #[.int .i64 m, .int .i64 f, .int .i64 t] 104)).alloc (.cells #[.int .i64 m, .int .i64 f, .int .i64 t] 104)).heap[wr.heap.size + 1]? = some (.cells #[.int .i64 m, .int .i64 f, .int .i64 t] 104)) := by have := heap_alloc_new (wr.alloc (.cells #[.int .i64 m, .int .i64 f, .int .i64 t] 104)) (.cells #[.int .i64 m, .int .i64 f, .int .i64 t] 104); rw [World.size_alloc] at this; exact this
        have A3 : Hid (R.length ≤ 100000) := by show _ ≤ _; omega
        have HBY : Hid (Below W0.heap.size W0 ((wr.alloc (.cells #[.int .i64 m, .int .i64 f, .int .i64 t] 104)).alloc (.cells #[.int .i64 m, .int .i64 f, .int .i64 t] 104))) := HBX.out.alloc HBX.out.size _
        have A4 : Hid (W0.heap.size ≤ ((wr.alloc (.cells #[.int .i64 m, .int .i64 f, .int .i64 t] 104)).alloc (.cells #[.int .i64 m, .int .i64 f, .int .i64 t] 104)).heap.size) := HBY.out.size
        have A5 : Hid (∀ q ∈ [m, f, t], i64 q) := good3 ⟨m1, m2⟩ ⟨f1, f2⟩ ⟨t1, t2⟩
        go_wp2_with (at_builtin; refine wpList_append_rec rfl _ _ 22 104 3 24 _ Tryd.underlying22 infoSpan rfl (by decide) (by decide) rfl W0.heap.size _ R.length _ rfl A1.out (wr.heap.size + 1) [m, f, t] rfl A2.out rfl A5.out A3.out A4.out ?_)
        intro v6 w6 h5 g5
        have K6 : Hid (OwnSp W0.heap.size w6 v6 (ofS (S.take (k + 1)) mk)) := by
          show OwnF _ _ _ _ _ _ _
          rw [EN.out, fl3_app, List.length_append]
          exact h5
        obtain ⟨a6, c6, rfl⟩ := K6.out.is_slice
        have HBw6 := Lib.hid (HBY.out.grown g5 A4.out (fun q e => (OwnF.block A1.out q e).1))
        clear h5 g5 A1 A2 A3 A4 A5 HBX HBY HOX
        clear EN HO
        go_wp2_with fail
        go_roundg (ns - (k + 1))
        case measure => omega
        case rel => exact ⟨k + 1, by omega, Nat.le_refl _, by go_num, K6.out, HBw6.out⟩
      · have d : (m == mk) = false := by simpa using q
        have K6 : Hid (OwnSp W0.heap.size (wr.alloc (.cells #[.int .i64 m, .int .i64 f, .int .i64 t] 104)) (.slice ao R.length co) (ofS (S.take (k + 1)) mk)) := by
          have e : R = ofS (S.take (k + 1)) mk := by rw [EQ.out, if_neg q, List.append_nil]
          rw [← e]
          exact HOX.out
        clear EQ q HO
        go_wp2_with fail
        go_roundg (ns - (k + 1))
        case measure => omega
        case rel => exact ⟨k + 1, by omega, Nat.le_refl _, by go_num, K6.out, HBX.out⟩
    · obtain rfl : k = ns := by omega
      obtain ⟨wm, hwm⟩ : ∃ wm : World, wm = wr := ⟨_, rfl⟩
      subst hwm
      have HSP : Hid (Spans wm (.slice ao R.length co) (ofS S mk)) := by
        have := HO.out.spans
        rw [hR, ES.out] at this
        rw [hR, ES.out]
        exact this
      have lm := HBwr.out.size
      clear HS HO hbel hR x0 x1
      generalize R.length = rn at *
      have x0 := (BX.out _ HBwr.out).1
      have x1 := (BX.out _ HBwr.out).2
      go_wp2_with fail
      go_loopg [7, 31] nt (fun g t i wr => ∃ k : Nat, k ≤ nt ∧ nt - k ≤ g ∧ i = .int .i64 k ∧ Hid (OwnF 3 wm.heap.size wr t (ofT (T.take k) mk).length 1 (ofT (T.take k) mk)) ∧ Below wm.heap.size wm wr)
      case atStart => exact ⟨0, Nat.zero_le _, by omega, rfl, OwnF.nil_ _ _ _ _, Below.refl _ _⟩
      case round =>
        obtain ⟨k, hk, hg, rfl, HO, hbel⟩ := hrel
        have HBW := Lib.hid (below_more HBwr.out hbel)
        clear x0 x1
        obtain ⟨x0, x1⟩ := BX.out _ HBW.out
        obtain ⟨R, hR⟩ : ∃ R, R = ofT (T.take k) mk := ⟨_, rfl⟩
        have hrl : R.length ≤ k := by rw [hR]; exact ofT_len T mk k
        rw [← hR] at HO
        obtain ⟨ao', co', rfl⟩ := HO.out.is_slice
        have HBwx := Lib.hid hbel
        obtain ⟨wx, hwx⟩ : ∃ wx : World, wx = wr := ⟨_, rfl⟩
        subst hwx
        by_cases hltk : k < nt
        · have hkl : k < T.length := by rw [← hnt.out]; exact hltk
          obtain ⟨b, off, rfl, hb, ⟨⟨m1, m2⟩, ⟨f1, f2⟩⟩, c0, c1⟩ := HT.out k hkl
          have EQ := Lib.hid (ofT_take mk hkl)
          rw [← hR] at EQ
          obtain ⟨e, he⟩ : ∃ e, e = st T k := ⟨_, rfl⟩
          rw [← he] at m1 m2 f1 f2 c0 c1 EQ
          obtain ⟨m, f⟩ := e
          simp only at m1 m2 f1 f2 c0 c1 EQ
          have hbel2 := below_more B0.out HBW.out
          replace c0 := below_cell hbel2 hb c0
          replace c1 := below_cell hbel2 hb c1
          have HBX : Hid (Below wm.heap.size wm (wx.alloc (.cells #[.int .i64 m, .int .i64 f] 120))) := HBwx.out.alloc HBwx.out.size _
          have HOX : Hid (OwnF 3 wm.heap.size (wx.alloc (.cells #[.int .i64 m, .int .i64 f] 120)) (.slice ao' R.length co') R.length 1 R) := OwnF.below HO.out ((Below.refl _ wx).alloc (Nat.le_refl _) (.cells #[.int .i64 m, .int .i64 f] 120))
          clear hbel hbel2 HT hR he
          by_cases q : m = mk
          · have d : (m == mk) = true := by simpa using q
            have EN := Lib.hid (EQ.out.trans (by rw [if_pos q]))
            clear EQ q
            have A1 : Hid (OwnF 3 wm.heap.size ((wx.alloc (.cells #[.int .i64 m, .int .i64 f] 120)).alloc (.cells #[.int .i64 f] 3)) (.slice ao' R.length co') R.length 1 R) := OwnF.below HOX.out ((Below.refl _ (wx.alloc (.cells #[.int .i64 m, .int .i64 f] 120))).alloc (Nat.le_refl _) (.cells #[.int .i64 f] 3))
            have A2 : Hid (((wx.alloc (.cells #[.int .i64 m, .int .i64 f] 120)).alloc (.cells #[.int .i64 f] 3)).heap[wx.heap.size + 1]? = some (.cells #[.int .i64 f] 3)) := by have := heap_alloc_new (wx.alloc (.cells #[.int .i64 m, .int .i64 f] 120)) (.cells #[.int .i64 f] 3); rw [World.size_alloc] at this; exact this
            have A3 : Hid (R.length ≤ 100000) := by show _ ≤ _; omega
            have HBY : Hid (Below wm.heap.size wm ((wx.alloc (.cells #[.int .i64 m, .int .i64 f] 120)).alloc (.cells #[.int .i64 f] 3))) := HBX.out.alloc HBX.out.size _
            have A4 : Hid (wm.heap.size ≤ ((wx.alloc (.cells #[.int .i64 m, .int .i64 f] 120)).alloc (.cells #[.int .i64 f] 3)).heap.size) := HBY.out.size
            have A5 : Hid (∀ q ∈ [f], i64 q) := fun q hq => by
              simp at hq
              subst hq; exact ⟨by omega, by omega⟩
            go_wp2_with (at_builtin; refine wpList_append_rec rfl _ _ 85 3 1 8 _ Tryd.underlying85 infoInt rfl (by decide) (by decide) rfl wm.heap.size _ R.length _ rfl A1.out (wx.heap.size + 1) [f] rfl A2.out rfl A5.out A3.out A4.out ?_)
            intro v6 w6 h5 g5
            have K6 : Hid (OwnF 3 wm.heap.size w6 v6 (ofT (T.take (k + 1)) mk).length 1 (ofT (T.take (k + 1)) mk)) := by
              show OwnF _ _ _ _ _ _ _
              rw [EN.out, List.length_append]
              exact h5
            obtain ⟨a6, c6, rfl⟩ := K6.out.is_slice
            have HBw6 := Lib.hid (HBY.out.grown g5 A4.out (fun q e => (OwnF.block A1.out q e).1))
            clear h5 g5 A1 A2 A3 A4 A5 HBX HBY HOX
            clear EN HO
            go_wp2_with fail
            go_roundg (nt - (k + 1))
            case measure => omega
            case rel => exact ⟨k + 1, by omega, Nat.le_refl _, by go_num, K6.out, HBw6.out⟩
          · have d : (m == mk) = false := by simpa using q
            have K6 : Hid (OwnF 3 wm.heap.size (wx.alloc (.cells #[.int .i64 m, .int .i64 f] 120)) (.slice ao' R.length co') (ofT (T.take (k + 1)) mk).length 1 (ofT (T.take (k + 1)) mk)) := by
              have e : R = ofT (T.take (k + 1)) mk := by rw [EQ.out, if_neg q, List.append_nil]
              rw [← e]
              exact HOX.out
            clear EQ q HO
            go_wp2_with fail
            go_roundg (nt - (k + 1))
            case measure => omega
            case rel => exact ⟨k + 1, by omega, Nat.le_refl _, by go_num, K6.out, HBX.out⟩
        · obtain rfl : k = nt := by omega
          have HIN : Hid (Ints wx (.slice ao' R.length co') (ofT T mk)) := by
            have := OwnF.ints HO.out
            rw [hR, ET.out] at this
            rw [hR, ET.out]
            exact this
          clear HT HO hbel hR
          generalize R.length = rm at *
          go_wp2_with fail
          go_ret2
          exact ⟨_, _, rfl, HSP.out.below HBwx.out (Nat.le_refl _), HIN.out, below_more B0.out HBW.out⟩
end Go.Proofs.YtengmiolcfgdiaaDoor.Rig
