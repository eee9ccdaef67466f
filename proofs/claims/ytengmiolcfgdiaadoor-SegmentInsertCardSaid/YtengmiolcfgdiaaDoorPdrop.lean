/- Contract: Drop of the program. -/
import Derived.Test.YtengmiolcfgdiaaDoorPk
set_option linter.unusedVariables false
namespace Go.Proofs.YtengmiolcfgdiaaDoor.Rig
open Go.RowKit Go.Lib Go.Proofs.YtengmiolcfgdiaaDoor.Rt

set_option maxRecDepth 100000 in
set_option maxHeartbeats 8000000 in
theorem drop_any {sv tv : Value} {S : List Sp} {T : List St} (mk : Int) (w : World) (hS : Spans w sv S) (hT : Sites w tv T) (hmk : i64 mk) (hn : S.length ≤ 10000) (hn2 : T.length ≤ 10000) :
    Calls Tryd.prog 83 #[.agg #[sv, tv], .int .i64 mk] w (GivesM w (dropS S mk) (dropT T mk)) := by
  obtain ⟨sa, sc, rfl, hls, hcs, hS1⟩ := hS.open_
  obtain ⟨ta, tc, rfl, hlt, hct, hT1⟩ := hT.open_
  have HS := Lib.hid hS1
  have HT := Lib.hid hT1
  obtain ⟨ns, hns⟩ : ∃ ns, ns = S.length := ⟨_, rfl⟩
  obtain ⟨nt, hnt⟩ : ∃ nt, nt = T.length := ⟨_, rfl⟩
  have ES : Hid (dropS (S.take ns) mk = dropS S mk) := by show _ = _; rw [hns, List.take_length]
  have ET : Hid (dropT (T.take nt) mk = dropT T mk) := by show _ = _; rw [hnt, List.take_length]
  rw [← hns] at hls hn ⊢
  rw [← hnt] at hlt hn2 ⊢
  replace hns := Lib.hid hns
  replace hnt := Lib.hid hnt
  obtain ⟨n1, n2⟩ := hmk
  obtain ⟨W0, hW0⟩ : ∃ W0, W0 = ((w.alloc (.cells #[.slice sa ns sc, .slice ta nt tc] 29)).alloc (.cells #[.slice none 0 0, .slice none 0 0] 29)).alloc (.cells #[.slice none 0 0, .slice none 0 0] 29) := ⟨_, rfl⟩
  have b0 : Below w.heap.size w W0 := by rw [hW0]; exact (((Below.refl _ _).alloc (Nat.le_refl _) _).alloc (by simp) _).alloc (by simp; omega) _
  have h0 : W0.heap[w.heap.size]? = some (.cells #[.slice sa ns sc, .slice ta nt tc] 29 (0, 0)) := by
    rw [hW0, Below.heap_alloc _ _ _ (by simp; omega), Below.heap_alloc _ _ _ (by simp)]
    exact heap_alloc_new _ _
  have h0' : W0.heap[w.heap.size + 1]? = some (.cells #[.slice none 0 0, .slice none 0 0] 29 (0, 0)) := by
    have := heap_alloc_new (w.alloc (.cells #[.slice sa ns sc, .slice ta nt tc] 29)) (.cells #[.slice none 0 0, .slice none 0 0] 29)
    rw [hW0, Below.heap_alloc _ _ _ (by simp)]
    simpa using this
  have h0'' : W0.heap[w.heap.size + 1 + 1]? = some (.cells #[.slice none 0 0, .slice none 0 0] 29 (0, 0)) := by
    have := heap_alloc_new ((w.alloc (.cells #[.slice sa ns sc, .slice ta nt tc] 29)).alloc (.cells #[.slice none 0 0, .slice none 0 0] 29)) (.cells #[.slice none 0 0, .slice none 0 0] 29)
    rw [hW0]
    simpa using this
  have l0 : w.heap.size + 1 + 1 < W0.heap.size := by rw [hW0]; simp
  have BX : Hid (∀ w', Below (w.heap.size + 1 + 1) W0 w' → w'.cell? ⟨w.heap.size, 0, none⟩ = some (.slice sa ns sc) ∧ w'.cell? ⟨w.heap.size, 1, none⟩ = some (.slice ta nt tc)) := fun w' hb => by
    refine ⟨below_cell hb (by omega) ?_, below_cell hb (by omega) ?_⟩ <;> (rw [cell_of_row _ _ _ _ _ _ h0]; rfl)
  have HW0 := Lib.hid hW0
  have B0 := Lib.hid b0
  have H0' := Lib.hid h0'
  have H0'' := Lib.hid h0''
  clear hS1 hT1 hS hT h0 h0' h0'' hW0 b0
  go_enter Tryd.func83, Tryd.ntmps83
  go_wp2_with fail
  rw [← HW0.out]
  go_loopg [13] ns (fun g i wr => ∃ (k : Nat) (v : Value), k ≤ ns ∧ ns - k ≤ g ∧ i = .int .i64 k ∧ Hid (Rec 29 (w.heap.size + 1 + 1) W0.heap.size wr v (.slice none 0 0) (dropS (S.take k) mk) []) ∧ Below (w.heap.size + 1 + 1) W0 wr)
  case atStart => exact ⟨0, .slice none 0 0, Nat.zero_le _, by omega, rfl, ⟨H0''.out, OwnF.nil_ _ _ _ _, OwnF.nil_ _ _ _ _⟩, Below.refl _ _⟩
  case round =>
    obtain ⟨k, v, hk, hg, rfl, HK, hbel⟩ := hrel
    obtain ⟨x0, x1⟩ := BX.out _ hbel
    obtain ⟨R, hR⟩ : ∃ R, R = dropS (S.take k) mk := ⟨_, rfl⟩
    have hrl : R.length ≤ k := by rw [hR]; exact dropS_len S mk k
    rw [← hR] at HK
    obtain ⟨ao, co, rfl⟩ := HK.out.fst.is_slice
    have HBwr := Lib.hid hbel
    have w0 : W0.heap.size ≤ wr.heap.size := hbel.size
    have y0 : wr.cell? ⟨(w.heap.size + 1 + 1), 0, none⟩ = some (.slice ao R.length co) := HK.out.cell0
    have y1 : wr.cell? ⟨(w.heap.size + 1 + 1), 1, none⟩ = some (.slice none 0 0) := HK.out.cell1
    by_cases hltk : k < ns
    · have hkl : k < S.length := by rw [← hns.out]; exact hltk
      obtain ⟨b, off, rfl, hb, ⟨⟨m1, m2⟩, ⟨f1, f2⟩, ⟨t1, t2⟩⟩, c0, c1, c2⟩ := HS.out k hkl
      have EQ := Lib.hid (dropS_take mk hkl)
      rw [← hR] at EQ
      obtain ⟨e, he⟩ : ∃ e, e = sp S k := ⟨_, rfl⟩
      rw [← he] at m1 m2 f1 f2 t1 t2 c0 c1 c2 EQ
      obtain ⟨m, f, t⟩ := e
      simp only at m1 m2 f1 f2 t1 t2 c0 c1 c2 EQ
      have hbel2 : Below w.heap.size w wr := B0.out.trans (hbel.mono (by omega))
      replace c0 := below_cell hbel2 hb c0
      replace c1 := below_cell hbel2 hb c1
      replace c2 := below_cell hbel2 hb c2
      have HX : Hid (Rec 29 (w.heap.size + 1 + 1) W0.heap.size (wr.alloc (.cells #[.int .i64 m, .int .i64 f, .int .i64 t] 104)) (.slice ao R.length co) (.slice none 0 0) R []) := HK.out.alloc _
      have HBX : Hid (Below (w.heap.size + 1 + 1) W0 (wr.alloc (.cells #[.int .i64 m, .int .i64 f, .int .i64 t] 104))) := HBwr.out.alloc (by omega) _
      clear hbel hbel2 HS HT hR he
      by_cases q : m = mk
      · have d : (m != mk) = false := by simpa using q
        have EN := Lib.hid (EQ.out.trans (by rw [if_pos q, List.append_nil]))
        clear EQ
        subst q
        go_wp2_with fail
        go_roundg (ns - (k + 1))
        case measure => omega
        case rel => exact ⟨k + 1, _, by omega, Nat.le_refl _, by go_num, by rw [EN.out]; exact HX.out, HBX.out⟩
      · have d : (m != mk) = true := by simpa using q
        have EN := Lib.hid (EQ.out.trans (by rw [if_neg q]))
        clear EQ
        have HY : Hid (Rec 29 (w.heap.size + 1 + 1) W0.heap.size ((wr.alloc (.cells #[.int .i64 m, .int .i64 f, .int .i64 t] 104)).alloc (.cells #[.int .i64 m, .int .i64 f, .int .i64 t] 104)) (.slice ao R.length co) (.slice none 0 0) R []) := HX.out.alloc _
        have HBY : Hid (Below (w.heap.size + 1 + 1) W0 ((wr.alloc (.cells #[.int .i64 m, .int .i64 f, .int .i64 t] 104)).alloc (.cells #[.int .i64 m, .int .i64 f, .int .i64 t] 104))) := HBX.out.alloc (by simp; omega) _
        have A1 := Lib.hid HY.out.fst
        have A2 : Hid (((wr.alloc (.cells #[.int .i64 m, .int .i64 f, .int .i64 t] 104)).alloc (.cells #[.int .i64 m, .int .i64 f, .int .i64 t] 104)).heap[wr.heap.size + 1]? = some (.cells #[.int .i64 m, .int .i64 f, .int .i64 t] 104)) := by have := heap_alloc_new (wr.alloc (.cells #[.int .i64 m, .int .i64 f, .int .i64 t] 104)) (.cells #[.int .i64 m, .int .i64 f, .int .i64 t] 104); rw [World.size_alloc] at this; exact this
        have A3 : Hid (R.length ≤ 100000) := by show _ ≤ _; omega
        have A4 : Hid (W0.heap.size ≤ ((wr.alloc (.cells #[.int .i64 m, .int .i64 f, .int .i64 t] 104)).alloc (.cells #[.int .i64 m, .int .i64 f, .int .i64 t] 104)).heap.size) := HBY.out.size
        have A5 : Hid (∀ q ∈ [m, f, t], i64 q) := good3 ⟨m1, m2⟩ ⟨f1, f2⟩ ⟨t1, t2⟩
        obtain ⟨l6, hl6⟩ : ∃ l6, l6 = (dropS (S.take (k + 1)) mk).length := ⟨_, rfl⟩
        have HAP : Hid (∀ (v6 : Value) (w6 : World), OwnF 104 W0.heap.size w6 v6 (R.length + 1) 3 (fl3 R ++ [m, f, t]) → ((wr.alloc (.cells #[.int .i64 m, .int .i64 f, .int .i64 t] 104)).alloc (.cells #[.int .i64 m, .int .i64 f, .int .i64 t] 104)).grownBy w6 (Value.slice ao R.length co).ownBlock →
            (∃ a6 c6, v6 = .slice a6 l6 c6) ∧ w6.cell? ⟨(w.heap.size + 1 + 1), 0, none⟩ = some (.slice ao R.length co) ∧ w6.cell? ⟨(w.heap.size + 1 + 1), 1, none⟩ = some (.slice none 0 0) ∧ w6.frozen? ⟨(w.heap.size + 1 + 1), 0, none⟩ = false ∧
            Hid (Rec 29 (w.heap.size + 1 + 1) W0.heap.size (w6.setCell ⟨(w.heap.size + 1 + 1), 0, none⟩ v6) v6 (.slice none 0 0) (dropS (S.take (k + 1)) mk) []) ∧ Hid (Below (w.heap.size + 1 + 1) W0 (w6.setCell ⟨(w.heap.size + 1 + 1), 0, none⟩ v6))) := fun v6 w6 h5 g5 => by
          have K6 : OwnSp W0.heap.size w6 v6 (dropS (S.take (k + 1)) mk) := by
            show OwnF _ _ _ _ _ _ _
            rw [EN.out, fl3_app, List.length_append]
            exact h5
          obtain ⟨hB6, hR6⟩ := HY.out.putFst (by decide) (by decide) g5 K6
          refine ⟨by rw [hl6]; exact K6.is_slice, by rw [cell_of_row _ _ _ _ _ _ hB6]; rfl, by rw [cell_of_row _ _ _ _ _ _ hB6]; rfl, block_frozen hB6, hR6, ?_⟩
          exact (HBY.out.grown g5 (by simp; omega) (fun q e => by have := (OwnF.block A1.out q e).1; omega)).setCell (p := ⟨(w.heap.size + 1 + 1), 0, none⟩) (Nat.le_refl _) _
        clear hl6 EN
        have ya0 := HX.out.cell0
        have ya1 := HX.out.cell1
        go_wp2_with (at_builtin; refine wpList_append_rec rfl _ _ 22 104 3 24 _ Tryd.underlying22 infoSpan rfl (by decide) (by decide) rfl W0.heap.size _ R.length _ rfl A1.out (wr.heap.size + 1) [m, f, t] rfl A2.out rfl A5.out A3.out A4.out ?_)
        intro v6 w6 h5 g5
        obtain ⟨⟨a6, c6, rfl⟩, u6, u7, f6, E1, E2⟩ := HAP.out v6 w6 h5 g5
        clear h5 g5 A1 A2 A3 A4 A5 HAP HX HBX HY HBY ya0 ya1
        go_wp2_with fail
        go_roundg (ns - (k + 1))
        case measure => omega
        case rel => exact ⟨k + 1, _, by omega, Nat.le_refl _, by go_num, E1.out, E2.out⟩
    · obtain rfl : k = ns := by omega
      have HR : Hid (R = dropS S mk) := hR.trans ES.out
      rw [show R = dropS S mk from HR.out] at HK y0
      obtain ⟨D, hD⟩ : ∃ D, D = dropS S mk := ⟨_, rfl⟩
      rw [← hD] at HK y0 ⊢
      obtain ⟨w1, hw1⟩ : ∃ w1 : World, w1 = wr := ⟨_, rfl⟩
      rw [← hw1] at HK HBwr
      clear HR hR hrl hbel x0 x1 y0 y1 w0
      have HDD := Lib.hid hD
      clear hD
      subst hw1
      have x0 := (BX.out _ HBwr.out).1
      have x1 := (BX.out _ HBwr.out).2
      generalize D.length = d1 at *
      go_wp2_with fail
      go_loopg [31] nt (fun g i wr => ∃ (k : Nat) (v : Value), k ≤ nt ∧ nt - k ≤ g ∧ i = .int .i64 k ∧ Hid (Rec 29 (w.heap.size + 1 + 1) W0.heap.size wr (.slice ao d1 co) v D (dropT (T.take k) mk)) ∧ Below (w.heap.size + 1 + 1) W0 wr)
      case atStart => exact ⟨0, .slice none 0 0, Nat.zero_le _, by omega, rfl, HK.out, HBwr.out⟩
      case round =>
        clear HK HBwr x0 x1
        obtain ⟨k, v, hk, hg, rfl, HK, hbel⟩ := hrel
        obtain ⟨x0, x1⟩ := BX.out _ hbel
        obtain ⟨R, hR⟩ : ∃ R, R = dropT (T.take k) mk := ⟨_, rfl⟩
        have hrl : R.length ≤ k := by rw [hR]; exact dropT_len T mk k
        rw [← hR] at HK
        obtain ⟨bo, do_, rfl⟩ := HK.out.snd.is_slice
        have HBwr := Lib.hid hbel
        have w0 : W0.heap.size ≤ wr.heap.size := hbel.size
        have y0 : wr.cell? ⟨(w.heap.size + 1 + 1), 0, none⟩ = some (.slice ao d1 co) := HK.out.cell0
        have y1 : wr.cell? ⟨(w.heap.size + 1 + 1), 1, none⟩ = some (.slice bo R.length do_) := HK.out.cell1
        by_cases hltk : k < nt
        · have hkl : k < T.length := by rw [← hnt.out]; exact hltk
          obtain ⟨b, off, rfl, hb, ⟨⟨m1, m2⟩, ⟨f1, f2⟩⟩, c0, c1⟩ := HT.out k hkl
          have EQ := Lib.hid (dropT_take mk hkl)
          rw [← hR] at EQ
          obtain ⟨e, he⟩ : ∃ e, e = st T k := ⟨_, rfl⟩
          rw [← he] at m1 m2 f1 f2 c0 c1 EQ
          obtain ⟨m, f⟩ := e
          simp only at m1 m2 f1 f2 c0 c1 EQ
          have hbel2 : Below w.heap.size w wr := B0.out.trans (hbel.mono (by omega))
          replace c0 := below_cell hbel2 hb c0
          replace c1 := below_cell hbel2 hb c1
          have HX : Hid (Rec 29 (w.heap.size + 1 + 1) W0.heap.size (wr.alloc (.cells #[.int .i64 m, .int .i64 f] 120)) (.slice ao d1 co) (.slice bo R.length do_) D R) := HK.out.alloc _
          have HBX : Hid (Below (w.heap.size + 1 + 1) W0 (wr.alloc (.cells #[.int .i64 m, .int .i64 f] 120))) := HBwr.out.alloc (by omega) _
          clear hbel hbel2 HS HT hR he
          by_cases q : m = mk
          · have d : (m != mk) = false := by simpa using q
            have EN := Lib.hid (EQ.out.trans (by rw [if_pos q, List.append_nil]))
            clear EQ
            subst q
            go_wp2_with fail
            go_roundg (nt - (k + 1))
            case measure => omega
            case rel => exact ⟨k + 1, _, by omega, Nat.le_refl _, by go_num, by rw [EN.out]; exact HX.out, HBX.out⟩
          · have d : (m != mk) = true := by simpa using q
            have EN := Lib.hid (EQ.out.trans (by rw [if_neg q]))
            clear EQ
            have HY : Hid (Rec 29 (w.heap.size + 1 + 1) W0.heap.size ((wr.alloc (.cells #[.int .i64 m, .int .i64 f] 120)).alloc (.cells #[.int .i64 m, .int .i64 f] 120)) (.slice ao d1 co) (.slice bo R.length do_) D R) := HX.out.alloc _
            have HBY : Hid (Below (w.heap.size + 1 + 1) W0 ((wr.alloc (.cells #[.int .i64 m, .int .i64 f] 120)).alloc (.cells #[.int .i64 m, .int .i64 f] 120))) := HBX.out.alloc (by simp; omega) _
            have A1 := Lib.hid HY.out.snd
            have A2 : Hid (((wr.alloc (.cells #[.int .i64 m, .int .i64 f] 120)).alloc (.cells #[.int .i64 m, .int .i64 f] 120)).heap[wr.heap.size + 1]? = some (.cells #[.int .i64 m, .int .i64 f] 120)) := by have := heap_alloc_new (wr.alloc (.cells #[.int .i64 m, .int .i64 f] 120)) (.cells #[.int .i64 m, .int .i64 f] 120); rw [World.size_alloc] at this; exact this
            have A3 : Hid (R.length ≤ 100000) := by show _ ≤ _; omega
            have A4 : Hid (W0.heap.size ≤ ((wr.alloc (.cells #[.int .i64 m, .int .i64 f] 120)).alloc (.cells #[.int .i64 m, .int .i64 f] 120)).heap.size) := HBY.out.size
            have A5 : Hid (∀ q ∈ [m, f], i64 q) := good2 ⟨m1, m2⟩ ⟨f1, f2⟩
            obtain ⟨l6, hl6⟩ : ∃ l6, l6 = (dropT (T.take (k + 1)) mk).length := ⟨_, rfl⟩
            have HAP : Hid (∀ (v6 : Value) (w6 : World), OwnF 120 W0.heap.size w6 v6 (R.length + 1) 2 (fl2 R ++ [m, f]) → ((wr.alloc (.cells #[.int .i64 m, .int .i64 f] 120)).alloc (.cells #[.int .i64 m, .int .i64 f] 120)).grownBy w6 (Value.slice bo R.length do_).ownBlock →
                (∃ a6 c6, v6 = .slice a6 l6 c6) ∧ w6.cell? ⟨(w.heap.size + 1 + 1), 0, none⟩ = some (.slice ao d1 co) ∧ w6.cell? ⟨(w.heap.size + 1 + 1), 1, none⟩ = some (.slice bo R.length do_) ∧ w6.frozen? ⟨(w.heap.size + 1 + 1), 1, none⟩ = false ∧
                Hid (Rec 29 (w.heap.size + 1 + 1) W0.heap.size (w6.setCell ⟨(w.heap.size + 1 + 1), 1, none⟩ v6) (.slice ao d1 co) v6 D (dropT (T.take (k + 1)) mk)) ∧ Hid (Below (w.heap.size + 1 + 1) W0 (w6.setCell ⟨(w.heap.size + 1 + 1), 1, none⟩ v6))) := fun v6 w6 h5 g5 => by
              have K6 : OwnSt W0.heap.size w6 v6 (dropT (T.take (k + 1)) mk) := by
                show OwnF _ _ _ _ _ _ _
                rw [EN.out, fl2_app, List.length_append]
                exact h5
              obtain ⟨hB6, hR6⟩ := HY.out.putSnd (by decide) (by decide) g5 K6
              refine ⟨by rw [hl6]; exact K6.is_slice, by rw [cell_of_row _ _ _ _ _ _ hB6]; rfl, by rw [cell_of_row _ _ _ _ _ _ hB6]; rfl, block_frozen hB6, hR6, ?_⟩
              exact (HBY.out.grown g5 (by simp; omega) (fun q e => by have := (OwnF.block A1.out q e).1; omega)).setCell (p := ⟨(w.heap.size + 1 + 1), 1, none⟩) (Nat.le_refl _) _
            clear hl6 EN
            have ya0 := HX.out.cell0
            have ya1 := HX.out.cell1
            go_wp2_with (at_builtin; refine wpList_append_rec rfl _ _ 23 120 2 16 _ Tryd.underlying23 infoSite rfl (by decide) (by decide) rfl W0.heap.size _ R.length _ rfl A1.out (wr.heap.size + 1) [m, f] rfl A2.out rfl A5.out A3.out A4.out ?_)
            intro v6 w6 h5 g5
            obtain ⟨⟨a6, c6, rfl⟩, u6, u7, f6, E1, E2⟩ := HAP.out v6 w6 h5 g5
            clear h5 g5 A1 A2 A3 A4 A5 HAP HX HBX HY HBY ya0 ya1
            go_wp2_with fail
            go_roundg (nt - (k + 1))
            case measure => omega
            case rel => exact ⟨k + 1, _, by omega, Nat.le_refl _, by go_num, E1.out, E2.out⟩
        · obtain rfl : k = nt := by omega
          have HR : Hid (R = dropT T mk) := hR.trans ET.out
          have r0 : wr.heap[w.heap.size + 1]? = some (.cells #[.slice none 0 0, .slice none 0 0] 29 (0, 0)) := by
            rw [HBwr.out.block _ (by omega)]
            exact H0'.out
          have u0 : wr.cell? ⟨w.heap.size + 1, 0, none⟩ = some (.slice none 0 0) := by rw [cell_of_row _ _ _ _ _ _ r0]; rfl
          have u1 : wr.cell? ⟨w.heap.size + 1, 1, none⟩ = some (.slice none 0 0) := by rw [cell_of_row _ _ _ _ _ _ r0]; rfl
          have f0 : wr.frozen? ⟨w.heap.size + 1, 0, none⟩ = false := block_frozen r0
          have f1 : wr.frozen? ⟨w.heap.size + 1, 1, none⟩ = false := block_frozen r0
          have FIN := Lib.hid (give_end (B := w.heap.size + 1) (Nat.le_add_right _ 1) r0 (OwnSp.spans HK.out.fst) (OwnSt.sites HK.out.snd) (B0.out.trans (HBwr.out.mono (by omega))))
          obtain ⟨z0, z1⟩ := res_cells (a1 := ao) (n1 := d1) (c1 := co) (a2 := bo) (n2 := R.length) (c2 := do_) r0
          clear hbel r0 hR HK HS HT
          generalize R.length = rn at *
          go_wp2_with fail
          exact bodyPost_ret (v := .agg #[.slice ao d1 co, .slice bo rn do_]) (by simp [results, Tryd.results83, go_sem, z0, z1]) rfl (by rw [← HR.out]; first | exact FIN.out | (rw [← HDD.out]; exact FIN.out))
end Go.Proofs.YtengmiolcfgdiaaDoor.Rig
