/- Contract: Drop of the plain text. -/
import Derived.Test.YtengmiolcfgdiaaGreatDoorMpart
import Derived.Test.YtengmiolcfgdiaaGreatDoorMof
import Derived.Deep.RegionLaw
set_option linter.unusedVariables false
namespace Go.Proofs.YtengmiolcfgdiaaGreatDoor.Rig
open Go.RowKit Go.Lib Go.Proofs.YtengmiolcfgdiaaGreatDoor.Rt

def dropS (S : List Sp) (mk : Int) : List Sp := S.filter fun s => decide (s.m ≠ mk)
def dropT (T : List St) (mk : Int) : List St := T.filter fun s => decide (s.m ≠ mk)
theorem dropS_take {S : List Sp} {k : Nat} (mk : Int) (h : k < S.length) : dropS (S.take (k + 1)) mk = dropS (S.take k) mk ++ (if (sp S k).m = mk then [] else [sp S k]) := by
  unfold dropS
  rw [List.take_succ_eq_append_getElem h, List.filter_append, sp_get h]
  by_cases e : S[k].m = mk
  · rw [if_pos e]; simp [e]
  · rw [if_neg e]; simp [e]
theorem dropT_take {T : List St} {k : Nat} (mk : Int) (h : k < T.length) : dropT (T.take (k + 1)) mk = dropT (T.take k) mk ++ (if (st T k).m = mk then [] else [st T k]) := by
  unfold dropT
  rw [List.take_succ_eq_append_getElem h, List.filter_append, st_get h]
  by_cases e : T[k].m = mk
  · rw [if_pos e]; simp [e]
  · rw [if_neg e]; simp [e]
theorem dropS_len (S : List Sp) (mk : Int) (k : Nat) : (dropS (S.take k) mk).length ≤ k := by
  unfold dropS
  have h1 := List.length_filter_le (fun s : Sp => decide (s.m ≠ mk)) (S.take k)
  have h2 := List.length_take_le k S
  omega
theorem dropT_len (T : List St) (mk : Int) (k : Nat) : (dropT (T.take k) mk).length ≤ k := by
  unfold dropT
  have h1 := List.length_filter_le (fun s : St => decide (s.m ≠ mk)) (T.take k)
  have h2 := List.length_take_le k T
  omega
/-- The append of one record, as a step of a region that draws. -/
theorem step_append_rec {w : World} {ops : Array Oper} {o : Oper} {a : Act} {K : Act → World → Prop} {Q : Exit → Act → World → Prop} {E : Prop} (hgd : o.guard = none) (s x : Operand) (tS e : TypeId) (k bytes : Nat) (z : Value)
    (ht : Tryz.prog.underlying tS = some (.slice e)) (hinfo : (Tryz.prog.info? e).map (fun i => (i.zero, i.size, i.bytes)) = some (some z, k, bytes)) (hzs : z.cells.size = k) (hk : 0 < k) (hby : bytes ≤ 1000)
    (ho : o.op = .call { callee := .builtin .append, args := #[s, x], argTypes := #[tS, tS] }) (base : Nat) (v : Value) (n : Nat) (zs : List Int) (hs : a.eval s = v) (hown : OwnF e base w v n k zs)
    (b : Nat) (ys : List Int) (hx : a.eval x = .slice (some ⟨b, 0, none⟩) 1 1) (hb : w.heap[b]? = some (.cells (ints ys).toArray e (0, 0))) (hyl : ys.length = k) (hy : ∀ y ∈ ys, i64 y) (hn : n ≤ 100000) (hbase : base ≤ w.heap.size)
    (h : ∀ v' w', OwnF e base w' v' (n + 1) k (zs ++ ys) → w.grownBy w' v.ownBlock → K (a.put o.dst v') w') : if Region.wanted o (yielded ops a.tmps) = true then Oper.wp Tryz.prog o a w K Q else E := by
  have hw : Region.wanted o (yielded ops a.tmps) = true := by simp [Region.wanted, hgd]
  rw [if_pos hw]
  obtain ⟨i0, hi, hz0, hz1, hz2⟩ := info_parts hinfo
  have hbig : (n + 1) * bytes ≤ 140737488355328 := Nat.le_trans (Nat.mul_le_mul (show n + 1 ≤ 100001 by omega) hby) (by decide)
  refine wp_append_own w s x tS ho base e i0 z k bytes ht hi hz0 hz1 hz2 hzs hk v n (ints zs) hs hown.1 ⟨b, 0, none⟩ 1 1 (ints ys) hx (by rw [ints_len]; omega) ?_ ints_one (by unfold maxLen; omega) hbig hbase ?_
  · intro j u hj
    have hadd : (⟨b, 0, none⟩ : Addr).add j = ⟨b, j, none⟩ := by unfold Addr.add; split <;> simp_all
    rw [hadd, cell_of_row w b j _ _ (0, 0) hb]
    simpa using hj
  · intro v' w' h1 h2 _
    refine h v' w' ⟨?_, fun q hq => ?_⟩ h2
    · rw [ints_app]
      exact h1
    · rw [List.mem_append] at hq
      rcases hq with hq | hq
      · exact hown.2 q hq
      · exact hy q hq
theorem grown_setCell {w : World} (B i : Nat) (u : Value) : w.grownBy (w.setCell ⟨B, i, none⟩ u) (some B) := ⟨rfl, rfl, rfl, by simp, fun q hq hne => Below.heap_setCell _ _ _ _ (fun e => hne (by rw [e]))⟩

set_option maxRecDepth 100000 in
set_option maxHeartbeats 8000000 in
theorem rdrop_any {sv tv : Value} {S : List Sp} {T : List St} (mk : Int) (w : World) (hS : Spans w sv S) (hT : Sites w tv T) (hmk : i64 mk) (hn : S.length ≤ 10000) (hn2 : T.length ≤ 10000) :
    Calls Tryz.prog 57 #[.agg #[sv, tv], .int .i64 mk] w (GivesM w (dropS S mk) (dropT T mk)) := by
  obtain ⟨sa, sc, rfl, hls, hcs, hS1⟩ := hS.open_
  obtain ⟨ta, tc, rfl, hlt, hct, hT1⟩ := hT.open_
  have HS := Lib.hid hS1
  have HT := Lib.hid hT1
  obtain ⟨ns, hns⟩ : ∃ ns, ns = S.length := ⟨_, rfl⟩
  obtain ⟨nt, hnt⟩ : ∃ nt, nt = T.length := ⟨_, rfl⟩
  have ES : Hid (dropS (S.take ns) mk = dropS S mk) := by show _ = _; rw [hns, List.take_length]
  have ET : Hid (dropT (T.take nt) mk = dropT T mk) := by show _ = _; rw [hnt, List.take_length]
  rw [← hns] at hls hn ⊢
  rw [← hnt] at hlt hn2 ⊢
  replace hns := Lib.hid hns
  replace hnt := Lib.hid hnt
  obtain ⟨n1, n2⟩ := hmk
  obtain ⟨W0, hW0⟩ : ∃ W0, W0 = ((w.alloc (.cells #[.slice sa ns sc, .slice ta nt tc] 78)).alloc (.cells #[.slice none 0 0, .slice none 0 0] 78)).alloc (.cells #[.slice none 0 0, .slice none 0 0] 78) := ⟨_, rfl⟩
  have b0 : Below w.heap.size w W0 := by rw [hW0]; exact (((Below.refl _ _).alloc (Nat.le_refl _) _).alloc (by simp) _).alloc (by simp; omega) _
  have h0 : W0.heap[w.heap.size]? = some (.cells #[.slice sa ns sc, .slice ta nt tc] 78 (0, 0)) := by
    rw [hW0, Below.heap_alloc _ _ _ (by simp; omega), Below.heap_alloc _ _ _ (by simp)]
    exact heap_alloc_new _ _
  have h0' : W0.heap[w.heap.size + 1]? = some (.cells #[.slice none 0 0, .slice none 0 0] 78 (0, 0)) := by
    have := heap_alloc_new (w.alloc (.cells #[.slice sa ns sc, .slice ta nt tc] 78)) (.cells #[.slice none 0 0, .slice none 0 0] 78)
    rw [hW0, Below.heap_alloc _ _ _ (by simp)]
    simpa using this
  have h0'' : W0.heap[w.heap.size + 1 + 1]? = some (.cells #[.slice none 0 0, .slice none 0 0] 78 (0, 0)) := by
    have := heap_alloc_new ((w.alloc (.cells #[.slice sa ns sc, .slice ta nt tc] 78)).alloc (.cells #[.slice none 0 0, .slice none 0 0] 78)) (.cells #[.slice none 0 0, .slice none 0 0] 78)
    rw [hW0]
    simpa using this
  have l0 : w.heap.size + 1 + 1 < W0.heap.size := by rw [hW0]; simp
  have BX : Hid (∀ w', Below (w.heap.size + 1 + 1) W0 w' → w'.cell? ⟨w.heap.size, 0, none⟩ = some (.slice sa ns sc) ∧ w'.cell? ⟨w.heap.size, 1, none⟩ = some (.slice ta nt tc)) := fun w' hb => by
    refine ⟨below_cell hb (by omega) ?_, below_cell hb (by omega) ?_⟩ <;> (rw [cell_of_row _ _ _ _ _ _ h0]; rfl)
  have HW0 := Lib.hid hW0
  have B0 := Lib.hid b0
  have H0' := Lib.hid h0'
  have H0'' := Lib.hid h0''
  clear hS1 hT1 hS hT h0 h0' h0'' hW0 b0
  go_enter Tryz.func57, Tryz.ntmps57
  go_wp2_with fail
  rw [← HW0.out]
  go_loopw [6] (fun i wr => ∃ (k : Nat) (v : Value), k ≤ ns ∧ i = .int .i64 k ∧ Hid (wr.heap[w.heap.size + 1 + 1]? = some (.cells #[v, .slice none 0 0] 78 (0, 0))) ∧ Hid (OwnSp W0.heap.size wr v (dropS (S.take k) mk)) ∧ Below (w.heap.size + 1 + 1) W0 wr) (fun i _ => ns - (RowKit.intOf i).toNat)
  case atStart => exact ⟨0, .slice none 0 0, Nat.zero_le _, rfl, H0''.out, OwnF.nil_ _ _ _ _, Below.refl _ _⟩
  case round =>
    obtain ⟨k, v, hk, rfl, HK, HO, hbel⟩ := hrel
    obtain ⟨x0, x1⟩ := BX.out _ hbel
    obtain ⟨R, hR⟩ : ∃ R, R = dropS (S.take k) mk := ⟨_, rfl⟩
    have hrl : R.length ≤ k := by rw [hR]; exact dropS_len S mk k
    rw [← hR] at HO
    obtain ⟨ao, co, rfl⟩ := HO.out.is_slice
    have HBwr := Lib.hid hbel
    have w0 : W0.heap.size ≤ wr.heap.size := hbel.size
    have y0 : wr.cell? ⟨w.heap.size + 1 + 1, 0, none⟩ = some (.slice ao R.length co) := by rw [cell_of_row _ _ _ _ _ _ HK.out]; rfl
    have y1 : wr.cell? ⟨w.heap.size + 1 + 1, 1, none⟩ = some (.slice none 0 0) := by rw [cell_of_row _ _ _ _ _ _ HK.out]; rfl
    by_cases hltk : k < ns
    · have hkl : k < S.length := by rw [← hns.out]; exact hltk
      obtain ⟨b, off, rfl, hb, ⟨⟨m1, m2⟩, ⟨f1, f2⟩, ⟨t1, t2⟩⟩, c0, c1, c2⟩ := HS.out k hkl
      have EQ := Lib.hid (dropS_take mk hkl)
      rw [← hR] at EQ
      have hse : ∃ e, e = sp S k := ⟨_, rfl⟩
      obtain ⟨e, he⟩ := hse
      rw [← he] at m1 m2 f1 f2 t1 t2 c0 c1 c2 EQ
      obtain ⟨m, f, t⟩ := e
      simp only at m1 m2 f1 f2 t1 t2 c0 c1 c2 EQ
      have hbel2 : Below w.heap.size w wr := B0.out.trans (hbel.mono (by omega))
      replace c0 := below_cell hbel2 hb c0
      replace c1 := below_cell hbel2 hb c1
      replace c2 := below_cell hbel2 hb c2
      clear hbel hbel2 HS HT hR he
      by_cases q : m = mk
      · have d : (m != mk) = false := by simpa using q
        have EN := Lib.hid (EQ.out.trans (by rw [if_pos q, List.append_nil]))
        clear EQ
        subst q
        go_wp2_with fail
        go_roundw
        case rel => exact ⟨k + 1, _, by omega, by go_num, HK.out, by rw [EN.out]; exact HO.out, HBwr.out⟩
        case measure => simp [RowKit.intOf]; omega
      · have d : (m != mk) = true := by simpa using q
        have EN := Lib.hid (EQ.out.trans (by rw [if_neg q]))
        clear EQ
        have A1 := Lib.hid (OwnF.below HO.out (((Below.refl _ wr).alloc (Nat.le_refl _) (.cells #[.int .i64 m, .int .i64 f, .int .i64 t] 95)).drew))
        have A2 : Hid ((wr.alloc (.cells #[.int .i64 m, .int .i64 f, .int .i64 t] 95)).drew.heap[wr.heap.size]? = some (.cells #[.int .i64 m, .int .i64 f, .int .i64 t] 95 (0, 0))) := heap_alloc_new wr (.cells #[.int .i64 m, .int .i64 f, .int .i64 t] 95)
        have A3 : Hid (R.length ≤ 100000) := by show _ ≤ _; omega
        have A4 : Hid (W0.heap.size ≤ (wr.alloc (.cells #[.int .i64 m, .int .i64 f, .int .i64 t] 95)).drew.heap.size) := by
          show W0.heap.size ≤ (wr.alloc _).heap.size
          simp; omega
        have A5 : Hid (∀ q ∈ [m, f, t], i64 q) := fun q hq => by
          simp at hq
          rcases hq with rfl | rfl | rfl <;> exact ⟨by omega, by omega⟩
        obtain ⟨l6, hl6⟩ : ∃ l6, l6 = (dropS (S.take (k + 1)) mk).length := ⟨_, rfl⟩
        have HAP : Hid (∀ (v6 : Value) (w6 : World), OwnF 95 W0.heap.size w6 v6 (R.length + 1) 3 (fl3 R ++ [m, f, t]) → ((wr.alloc (.cells #[.int .i64 m, .int .i64 f, .int .i64 t] 95)).drew).grownBy w6 (Value.slice ao R.length co).ownBlock →
            (∃ a6 c6, v6 = .slice a6 l6 c6) ∧ w6.cell? ⟨w.heap.size + 1 + 1, 0, none⟩ = some (.slice ao R.length co) ∧ w6.cell? ⟨w.heap.size + 1 + 1, 1, none⟩ = some (.slice none 0 0) ∧ w6.frozen? ⟨w.heap.size + 1 + 1, 0, none⟩ = false ∧
            Hid ((w6.setCell ⟨w.heap.size + 1 + 1, 0, none⟩ v6).heap[w.heap.size + 1 + 1]? = some (.cells #[v6, .slice none 0 0] 78 (0, 0))) ∧ Hid (OwnSp W0.heap.size (w6.setCell ⟨w.heap.size + 1 + 1, 0, none⟩ v6) v6 (dropS (S.take (k + 1)) mk)) ∧ Hid (Below (w.heap.size + 1 + 1) W0 (w6.setCell ⟨w.heap.size + 1 + 1, 0, none⟩ v6))) := fun v6 w6 h5 g5 => by
          have K6 : OwnSp W0.heap.size w6 v6 (dropS (S.take (k + 1)) mk) := by
            show OwnF _ _ _ _ _ _ _
            rw [EN.out, fl3_app, List.length_append]
            exact h5
          have hB6 : w6.heap[w.heap.size + 1 + 1]? = some (.cells #[.slice ao R.length co, .slice none 0 0] 78 (0, 0)) := by
            rw [g5.block _ (by show w.heap.size + 1 + 1 < (wr.alloc _).heap.size; simp; omega) (fun e => by have := (A1.out.block _ e.symm).1; omega)]
            show (wr.alloc _).heap[_]? = _
            rw [Below.heap_alloc _ _ _ (by omega)]
            exact HK.out
          refine ⟨by rw [hl6]; exact K6.is_slice, by rw [cell_of_row _ _ _ _ _ _ hB6]; rfl, by rw [cell_of_row _ _ _ _ _ _ hB6]; rfl, block_frozen hB6, ?_, ?_, ?_⟩
          · show _ = _
            rw [heap_setCell_same _ _ _ _ _ _ hB6]
            rfl
          · exact K6.kept (grown_setCell _ _ _) (.inr (fun e => by have := (K6.block _ e).1; omega))
          · exact (((HBwr.out.alloc (by omega) _).drew.grown g5 (by show w.heap.size + 1 + 1 ≤ (wr.alloc _).heap.size; simp; omega) (fun q e => by have := (A1.out.block q e).1; omega))).setCell (p := ⟨w.heap.size + 1 + 1, 0, none⟩) (Nat.le_refl _) _
        clear hl6
        have ya : (wr.alloc (.cells #[.int .i64 m, .int .i64 f, .int .i64 t] 95)).cell? ⟨w.heap.size + 1 + 1, 0, none⟩ = some (.slice ao R.length co) := by
          rw [cell_of_row _ _ _ _ _ _ (by rw [Below.heap_alloc _ _ _ (by omega)]; exact HK.out)]
          rfl
        go_wp2_with fail
        go_region_law (refine step_append_rec rfl _ _ 22 95 3 24 _ Tryz.underlying22 infoSpan rfl (by decide) (by decide) rfl W0.heap.size _ R.length _ rfl A1.out wr.heap.size [m, f, t] rfl A2.out rfl A5.out A3.out A4.out ?_; intro v6 w6 h5 g5; obtain ⟨⟨a6, c6, rfl⟩, u6, u7, f6, E1, E2, E3⟩ := HAP.out v6 w6 h5 g5; clear h5 g5)
        all_goals go_wp2_with fail
        all_goals go_roundw
        all_goals first | (exact ⟨k + 1, _, by omega, by go_num, E1.out, E2.out, E3.out⟩) | (simp [RowKit.intOf]; omega)
    · obtain rfl : k = ns := by omega
      have HR : Hid (R = dropS S mk) := hR.trans ES.out
      have HV1 : Hid (∀ b, (Value.slice ao R.length co).ownBlock = some b → W0.heap.size ≤ b ∧ b < wr.heap.size) := HO.out.block
      have HOW := Lib.hid hbel
      have HOr := HO
      rw [show R = dropS S mk from HR.out] at HK HO HV1
      obtain ⟨D, hD⟩ : ∃ D, D = dropS S mk := ⟨_, rfl⟩
      rw [← hD] at HK HO HV1 ⊢
      obtain ⟨w1, hw1⟩ : ∃ w1 : World, w1 = wr := ⟨_, rfl⟩
      have w10 := w0
      rw [← hw1] at HK HO HV1 HOW w10
      clear HBwr HOr HR hR hrl hbel x0 x1 y0 y1 w0
      have HDD := Lib.hid hD
      clear hD
      subst hw1
      have x0 := (BX.out _ HOW.out).1
      have x1 := (BX.out _ HOW.out).2
      generalize D.length = d1 at *
      go_wp2_with fail
      go_loopw [7] (fun i wr => ∃ (k : Nat) (v : Value), k ≤ nt ∧ i = .int .i64 k ∧ Hid (wr.heap[w.heap.size + 1 + 1]? = some (.cells #[.slice ao d1 co, v] 78 (0, 0))) ∧ Hid (OwnSp W0.heap.size wr (.slice ao d1 co) D) ∧ Hid (OwnSt w1.heap.size wr v (dropT (T.take k) mk)) ∧ Hid (w1.heap.size ≤ wr.heap.size) ∧ Below (w.heap.size + 1 + 1) W0 wr) (fun i _ => nt - (RowKit.intOf i).toNat)
      case atStart => exact ⟨0, .slice none 0 0, Nat.zero_le _, rfl, HK.out, HO.out, OwnF.nil_ _ _ _ _, Nat.le_refl _, HOW.out⟩
      case round =>
        clear HK HO HOW x0 x1
        obtain ⟨k, v, hk, rfl, HK, HD, HO, HL, hbel⟩ := hrel
        obtain ⟨x0, x1⟩ := BX.out _ hbel
        obtain ⟨R, hR⟩ : ∃ R, R = dropT (T.take k) mk := ⟨_, rfl⟩
        have hrl : R.length ≤ k := by rw [hR]; exact dropT_len T mk k
        rw [← hR] at HO
        obtain ⟨bo, do_, rfl⟩ := HO.out.is_slice
        have HBwr := Lib.hid hbel
        have w0 : w1.heap.size ≤ wr.heap.size := HL.out
        have y0 : wr.cell? ⟨w.heap.size + 1 + 1, 0, none⟩ = some (.slice ao d1 co) := by rw [cell_of_row _ _ _ _ _ _ HK.out]; rfl
        have y1 : wr.cell? ⟨w.heap.size + 1 + 1, 1, none⟩ = some (.slice bo R.length do_) := by rw [cell_of_row _ _ _ _ _ _ HK.out]; rfl
        by_cases hltk : k < nt
        · have hkl : k < T.length := by rw [← hnt.out]; exact hltk
          obtain ⟨b, off, rfl, hb, ⟨⟨m1, m2⟩, ⟨f1, f2⟩⟩, c0, c1⟩ := HT.out k hkl
          have EQ := Lib.hid (dropT_take mk hkl)
          rw [← hR] at EQ
          have hse : ∃ e, e = st T k := ⟨_, rfl⟩
          obtain ⟨e, he⟩ := hse
          rw [← he] at m1 m2 f1 f2 c0 c1 EQ
          obtain ⟨m, f⟩ := e
          simp only at m1 m2 f1 f2 c0 c1 EQ
          have hbel2 : Below w.heap.size w wr := B0.out.trans (hbel.mono (by omega))
          replace c0 := below_cell hbel2 hb c0
          replace c1 := below_cell hbel2 hb c1
          clear hbel hbel2 HS HT hR he
          by_cases q : m = mk
          · have d : (m != mk) = false := by simpa using q
            have EN := Lib.hid (EQ.out.trans (by rw [if_pos q, List.append_nil]))
            clear EQ
            subst q
            go_wp2_with fail
            go_roundw
            case rel => exact ⟨k + 1, _, by omega, by go_num, HK.out, HD.out, by rw [EN.out]; exact HO.out, HL.out, HBwr.out⟩
            case measure => simp [RowKit.intOf]; omega
          · have d : (m != mk) = true := by simpa using q
            have EN := Lib.hid (EQ.out.trans (by rw [if_neg q]))
            clear EQ
            have A0 := Lib.hid (((Below.refl _ wr).alloc (Nat.le_refl _) (.cells #[.int .i64 m, .int .i64 f] 106)).drew)
            have A1 := Lib.hid (OwnF.below HO.out A0.out)
            have A2 : Hid ((wr.alloc (.cells #[.int .i64 m, .int .i64 f] 106)).drew.heap[wr.heap.size]? = some (.cells #[.int .i64 m, .int .i64 f] 106 (0, 0))) := heap_alloc_new wr (.cells #[.int .i64 m, .int .i64 f] 106)
            have A3 : Hid (R.length ≤ 100000) := by show _ ≤ _; omega
            have A4 : Hid (w1.heap.size ≤ (wr.alloc (.cells #[.int .i64 m, .int .i64 f] 106)).drew.heap.size) := by
              show w1.heap.size ≤ (wr.alloc _).heap.size
              simp; omega
            have A5 : Hid (∀ q ∈ [m, f], i64 q) := fun q hq => by
              simp at hq
              rcases hq with rfl | rfl <;> exact ⟨by omega, by omega⟩
            obtain ⟨l6, hl6⟩ : ∃ l6, l6 = (dropT (T.take (k + 1)) mk).length := ⟨_, rfl⟩
            have HAP : Hid (∀ (v6 : Value) (w6 : World), OwnF 106 w1.heap.size w6 v6 (R.length + 1) 2 (fl2 R ++ [m, f]) → ((wr.alloc (.cells #[.int .i64 m, .int .i64 f] 106)).drew).grownBy w6 (Value.slice bo R.length do_).ownBlock →
                (∃ a6 c6, v6 = .slice a6 l6 c6) ∧ w6.cell? ⟨w.heap.size + 1 + 1, 0, none⟩ = some (.slice ao d1 co) ∧ w6.cell? ⟨w.heap.size + 1 + 1, 1, none⟩ = some (.slice bo R.length do_) ∧ w6.frozen? ⟨w.heap.size + 1 + 1, 1, none⟩ = false ∧
                Hid ((w6.setCell ⟨w.heap.size + 1 + 1, 1, none⟩ v6).heap[w.heap.size + 1 + 1]? = some (.cells #[.slice ao d1 co, v6] 78 (0, 0))) ∧ Hid (OwnSp W0.heap.size (w6.setCell ⟨w.heap.size + 1 + 1, 1, none⟩ v6) (.slice ao d1 co) D) ∧ Hid (OwnSt w1.heap.size (w6.setCell ⟨w.heap.size + 1 + 1, 1, none⟩ v6) v6 (dropT (T.take (k + 1)) mk)) ∧ Hid (w1.heap.size ≤ (w6.setCell ⟨w.heap.size + 1 + 1, 1, none⟩ v6).heap.size) ∧ Hid (Below (w.heap.size + 1 + 1) W0 (w6.setCell ⟨w.heap.size + 1 + 1, 1, none⟩ v6))) := fun v6 w6 h5 g5 => by
              have K6 : OwnSt w1.heap.size w6 v6 (dropT (T.take (k + 1)) mk) := by
                show OwnF _ _ _ _ _ _ _
                rw [EN.out, fl2_app, List.length_append]
                exact h5
              have hB6 : w6.heap[w.heap.size + 1 + 1]? = some (.cells #[.slice ao d1 co, .slice bo R.length do_] 78 (0, 0)) := by
                rw [g5.block _ (by show w.heap.size + 1 + 1 < (wr.alloc _).heap.size; simp; omega) (fun e => by have := (A1.out.block _ e.symm).1; omega)]
                show (wr.alloc _).heap[_]? = _
                rw [Below.heap_alloc _ _ _ (by omega)]
                exact HK.out
              have hD6 : OwnSp W0.heap.size w6 (.slice ao d1 co) D := (OwnF.below HD.out A0.out).kept g5 (by
                cases hx : (Value.slice ao d1 co).ownBlock with
                | none => exact .inl rfl
                | some x =>
                  refine .inr (fun e => ?_)
                  have h1 := (HV1.out x hx).2
                  have h2 := (A1.out.block x e.symm).1
                  omega)
              refine ⟨by rw [hl6]; exact K6.is_slice, by rw [cell_of_row _ _ _ _ _ _ hB6]; rfl, by rw [cell_of_row _ _ _ _ _ _ hB6]; rfl, block_frozen hB6, ?_, ?_, ?_, ?_, ?_⟩
              · show _ = _
                rw [heap_setCell_same _ _ _ _ _ _ hB6]
                rfl
              · exact OwnF.kept hD6 (grown_setCell _ _ _) (.inr (fun e => by have := (OwnF.block hD6 _ e).1; omega))
              · exact OwnF.kept K6 (grown_setCell _ _ _) (.inr (fun e => by have := (OwnF.block K6 _ e).1; omega))
              · show w1.heap.size ≤ _
                have := g5.size
                have h2 := A4.out
                simp
                omega
              · exact (((HBwr.out.alloc (by omega) _).drew.grown g5 (by show w.heap.size + 1 + 1 ≤ (wr.alloc _).heap.size; simp; omega) (fun q e => by have := (A1.out.block q e).1; omega))).setCell (p := ⟨w.heap.size + 1 + 1, 1, none⟩) (Nat.le_refl _) _
            clear hl6
            have hn3 : ¬ w.heap.size + 1 + 1 = wr.heap.size := by omega
            have yc : ∀ j, (wr.alloc (.cells #[.int .i64 m, .int .i64 f] 106)).cell? ⟨w.heap.size + 1 + 1, j, none⟩ = wr.cell? ⟨w.heap.size + 1 + 1, j, none⟩ := fun j => by
              rw [cell_of_row _ _ _ _ _ _ HK.out, cell_of_row _ _ _ _ _ _ (by rw [Below.heap_alloc _ _ _ (by omega)]; exact HK.out)]
            have ya := (yc 0).trans y0
            have yb := (yc 1).trans y1
            clear yc
            go_wp2_with fail
            go_region_law (refine step_append_rec rfl _ _ 23 106 2 16 _ Tryz.underlying23 infoSite rfl (by decide) (by decide) rfl w1.heap.size _ R.length _ rfl A1.out wr.heap.size [m, f] rfl A2.out rfl A5.out A3.out A4.out ?_; intro v6 w6 h5 g5; obtain ⟨⟨a6, c6, rfl⟩, u6, u7, f6, E1, E2, E3, E4, E5⟩ := HAP.out v6 w6 h5 g5; clear h5 g5)
            all_goals go_wp2_with fail
            all_goals go_roundw
            all_goals first | (exact ⟨k + 1, _, by omega, by go_num, E1.out, E2.out, E3.out, E4.out, E5.out⟩) | (simp [RowKit.intOf]; omega)
        · obtain rfl : k = nt := by omega
          have HR : Hid (R = dropT T mk) := hR.trans ET.out
          have r0 : wr.heap[w.heap.size + 1]? = some (.cells #[.slice none 0 0, .slice none 0 0] 78 (0, 0)) := by
            rw [HBwr.out.block _ (by omega)]
            exact H0'.out
          have u0 : wr.cell? ⟨w.heap.size + 1, 0, none⟩ = some (.slice none 0 0) := by rw [cell_of_row _ _ _ _ _ _ r0]; rfl
          have u1 : wr.cell? ⟨w.heap.size + 1, 1, none⟩ = some (.slice none 0 0) := by rw [cell_of_row _ _ _ _ _ _ r0]; rfl
          have f0 : wr.frozen? ⟨w.heap.size + 1, 0, none⟩ = false := block_frozen r0
          have f1 : wr.frozen? ⟨w.heap.size + 1, 1, none⟩ = false := block_frozen r0
          have FIN := Lib.hid (give_end (B := w.heap.size + 1) (Nat.le_add_right _ 1) r0 (OwnSp.spans HD.out) (OwnSt.sites HO.out) (B0.out.trans (HBwr.out.mono (by omega))))
          obtain ⟨z0, z1⟩ := res_cells (a1 := ao) (n1 := d1) (c1 := co) (a2 := bo) (n2 := R.length) (c2 := do_) r0
          clear hbel r0 hR HD HO HS HT
          generalize R.length = rn at *
          go_wp2_with fail
          exact bodyPost_ret (v := .agg #[.slice ao d1 co, .slice bo rn do_]) (by simp [results, Tryz.results57, go_sem, z0, z1]) rfl (by rw [← HR.out]; first | exact FIN.out | (rw [← HDD.out]; exact FIN.out))
end Go.Proofs.YtengmiolcfgdiaaGreatDoor.Rig
