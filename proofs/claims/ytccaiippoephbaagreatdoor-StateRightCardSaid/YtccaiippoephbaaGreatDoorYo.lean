/- State: documents right for a config. -/
import Derived.Test.YtccaiippoephbaaGreatDoorWl
import Derived.IntWalk
set_option linter.unusedVariables false
set_option linter.unusedSimpArgs false
set_option maxRecDepth 100000
namespace Go.Proofs.YtccaiippoephbaaGreatDoor.Sta
open Go.RowKit Go.Lib Go.Proofs.YtccaiippoephbaaGreatDoor.Bx Go.Proofs.YtccaiippoephbaaGreatDoor.Frm Go.Proofs.YtccaiippoephbaaGreatDoor.Wds

def idsOf (D : List Doc) : List Int := D.flatMap fun d => d.2.map fun y => y.1
def docsR (q2 q3 q4 x1 x2 : Int) (m3 : Nat) (OK : List Seg → Prop) (D : List Doc) : Prop := (D.length : Int) ≤ q4 ∧ ((idsOf D).length : Int) ≤ q3 ∧ (∀ d ∈ D, (∀ y ∈ d.2, segR q2 x1 x2 m3 y) ∧ OK d.2) ∧ (idsOf D).Nodup
theorem ids_take {D : List Doc} {i : Nat} (h : i < D.length) : idsOf (D.take (i + 1)) = idsOf (D.take i) ++ D[i].2.map fun y => y.1 := by
  unfold idsOf
  rw [List.take_succ_eq_append_getElem h, List.flatMap_append]
  simp
theorem ids_pre (D : List Doc) (i : Nat) : ∃ r, idsOf D = idsOf (D.take i) ++ r := ⟨idsOf (D.drop i), by
  unfold idsOf
  rw [← List.flatMap_append, List.take_append_drop]⟩
theorem ids_pre2 {D : List Doc} {i : Nat} (h : i < D.length) (j : Nat) : ∃ r, idsOf D = (idsOf (D.take i) ++ ((D[i].2.take j).map fun y => y.1)) ++ r := by
  obtain ⟨r, hr⟩ := ids_pre D (i + 1)
  refine ⟨((D[i].2.drop j).map fun y => y.1) ++ r, ?_⟩
  rw [hr, ids_take h]
  conv => lhs; rw [← List.take_append_drop j D[i].2, List.map_append]
  simp only [List.append_assoc, List.take_append_drop]
theorem ids_nodup {D : List Doc} {i : Nat} (h : i < D.length) (j : Nat) (hn : (idsOf D).Nodup) : (idsOf (D.take i) ++ ((D[i].2.take j).map fun y => y.1)).Nodup := by
  obtain ⟨r, hr⟩ := ids_pre2 h j
  rw [hr] at hn
  exact (List.nodup_append.1 hn).1
theorem ids_len {D : List Doc} {i : Nat} (h : i < D.length) : (idsOf (D.take i)).length + D[i].2.length ≤ (idsOf D).length := by
  obtain ⟨r, hr⟩ := ids_pre D (i + 1)
  rw [hr, ids_take h, List.length_append, List.length_append, List.length_map]
  omega
/-- What sheet.Load owes. -/
def LoadS (W0 : World) (OK : List Seg → Prop) : Prop := ∀ (P : Nat → Prop) (f : Bool) (w : World) (v : Value) (X : List Seg), Below W0.heap.size W0 w → RowP segM P w v X → X.length ≤ 24 → (∀ y ∈ X, segS y ∧ segG y) → Calls Tryz.prog 34 #[.bool f, v] w fun e w' => ∃ (sf : Bool) (sa : Option Addr) (sn sc : Nat) (b : Bool), e = .returned (.tuple #[.agg #[.bool sf, .slice sa sn sc], .bool b]) ∧ (b = true ↔ OK X) ∧ Below w.heap.size w w'
theorem has_mem (xs : List Int) (u : Int) : Rt.hasB xs u = decide (u ∈ xs) := by
  rw [Rt.hasB_contains]
  by_cases h : u ∈ xs <;> simp [h]
theorem own_not {e ty : TypeId} {k base : Nat} {w : World} {v : Value} {xs : List (List Value)} {b : Nat} {cs : Array Value} (h : Rk.OwnK e k base w v xs) (hb : w.heap[b]? = some (.cells cs ty (0, 0))) (ht : ty ≠ e) : v.ownBlock ≠ some b := fun e1 => by
  rcases h.2.2 with ⟨rfl, _⟩ | ⟨g, cap, cur, rfl, _, hg, _⟩
  · cases e1
  · injection e1 with e1
    have e2 : g = b := e1
    subst e2
    rw [hg] at hb
    injection hb with hb
    injection hb with _ hb
    exact ht hb.symm
set_option maxHeartbeats 16000000 in
theorem docs_ok {P : Nat → Prop} {OK : List Seg → Prop} {W0 : World} (LS : LoadS W0 OK) {u0 u1 y3 y4 y5 y6 y7 : Option Addr} {n0 k0 n1 k1 m3 d3 m4 d4 m5 d5 m6 d6 m7 d7 : Nat} {q2 q3 q4 q5 q6 q7 q8 x0 x1 x2 : Int} {n : Nat} (D : List Doc) (w : World) (hW : Below W0.heap.size W0 w) (h : RowP docM P w (.slice y4 n d4) D) (hx1 : 0 ≤ x1 ∧ x1 ≤ 1099511627776) (h3 : m3 ≤ 9223372036854775807) (hq3 : 1 ≤ q3 ∧ q3 ≤ 24) (hg : ∀ d ∈ D, ∀ y ∈ d.2, segG y) (hs : ∀ d ∈ D, ∀ y ∈ d.2, segS y) : Calls Tryz.prog 13 #[.agg #[.slice u0 n0 k0, .slice u1 n1 k1, .int .i64 q2, .int .i64 q3, .int .i64 q4, .int .i64 q5, .int .i64 q6, .int .i64 q7, .int .i64 q8], .agg #[.int .i64 x0, .int .i64 x1, .int .i64 x2, .slice y3 m3 d3, .slice y4 n d4, .slice y5 m5 d5, .slice y6 m6 d6, .slice y7 m7 d7]] w fun e w' => IffB (docsR q2 q3 q4 x1 x2 m3 OK D) e ∧ Below w.heap.size w w' := by
  have HW0 := Lib.hid hW
  clear hW
  have HDD := Lib.hid h
  have HND : Hid (n = D.length) := h.len.1
  have hmn : n ≤ 9223372036854775807 := by have q := h.len; simp only [maxLen] at q; omega
  have HGA := Lib.hid hg
  have HSA := Lib.hid hs
  clear h hg hs
  obtain ⟨B0, P0, L0⟩ := box1 w #[.slice u0 n0 k0, .slice u1 n1 k1, .int .i64 q2, .int .i64 q3, .int .i64 q4, .int .i64 q5, .int .i64 q6, .int .i64 q7, .int .i64 q8] 25
  obtain ⟨W0, hW0⟩ : ∃ W0, W0 = w.alloc (.cells #[.slice u0 n0 k0, .slice u1 n1 k1, .int .i64 q2, .int .i64 q3, .int .i64 q4, .int .i64 q5, .int .i64 q6, .int .i64 q7, .int .i64 q8] 25) := ⟨_, rfl⟩
  rw [← hW0] at B0 P0 L0
  obtain ⟨B1, P1, L1⟩ := box1 W0 #[.int .i64 x0, .int .i64 x1, .int .i64 x2, .slice y3 m3 d3, .slice y4 n d4, .slice y5 m5 d5, .slice y6 m6 d6, .slice y7 m7 d7] 31
  obtain ⟨W1, hW1⟩ : ∃ W1, W1 = W0.alloc (.cells #[.int .i64 x0, .int .i64 x1, .int .i64 x2, .slice y3 m3 d3, .slice y4 n d4, .slice y5 m5 d5, .slice y6 m6 d6, .slice y7 m7 d7] 31) := ⟨_, rfl⟩
  rw [← hW1] at B1 P1 L1
  have q0 : W1.heap[w.heap.size]? = some (.cells #[.slice u0 n0 k0, .slice u1 n1 k1, .int .i64 q2, .int .i64 q3, .int .i64 q4, .int .i64 q5, .int .i64 q6, .int .i64 q7, .int .i64 q8] 25 (0, 0)) := (B1.block _ (by omega)).trans P0
  rw [L0] at P1 L1
  have HB : Hid (Below w.heap.size w W1) := below_on B0 B1
  obtain ⟨R, hR⟩ : ∃ R, R = w.heap.size := ⟨_, rfl⟩
  rw [← hR] at q0 P1 L1
  have HG : Hid (∀ w', Below W1.heap.size W1 w' → w'.heap[R]? = some (.cells #[.slice u0 n0 k0, .slice u1 n1 k1, .int .i64 q2, .int .i64 q3, .int .i64 q4, .int .i64 q5, .int .i64 q6, .int .i64 q7, .int .i64 q8] 25 (0, 0)) ∧ w'.heap[R + 1]? = some (.cells #[.int .i64 x0, .int .i64 x1, .int .i64 x2, .slice y3 m3 d3, .slice y4 n d4, .slice y5 m5 d5, .slice y6 m6 d6, .slice y7 m7 d7] 31 (0, 0))) := fun w' b => ⟨(b.block R (by omega)).trans q0, (b.block (R + 1) (by omega)).trans P1⟩
  have HX : Hid (Below W1.heap.size W1 W1) := Below.refl _ _
  have HW : Hid (W1 = (w.alloc (.cells #[.slice u0 n0 k0, .slice u1 n1 k1, .int .i64 q2, .int .i64 q3, .int .i64 q4, .int .i64 q5, .int .i64 q6, .int .i64 q7, .int .i64 q8] 25)).alloc (.cells #[.int .i64 x0, .int .i64 x1, .int .i64 x2, .slice y3 m3 d3, .slice y4 n d4, .slice y5 m5 d5, .slice y6 m6 d6, .slice y7 m7 d7] 31)) := by show _ = _; rw [hW1, hW0]
  have HR : Hid (w.heap.size = R) := hR.symm
  clear hR B0 P0 L0 B1 P1 L1 hW0 hW1 q0
  go_enter Tryz.func13, Tryz.ntmps13
  go_upto_region 1 with fail
  rw [← HW.out, HR.out]
  obtain ⟨a0, a1, a2, a3, a4, a5, a6, a7, a8⟩ := nine_cells' (HG.out _ HX.out).1
  obtain ⟨b0, b1, b2, b3, b4, b5, b6, b7⟩ := eight_cells (HG.out _ HX.out).2
  by_cases g : q4 < (n : Int)
  · have gd : decide (q4 < (n : Int)) = true := decide_eq_true g
    have HXE := HX
    have HE9 : Hid (Below w.heap.size w W1) := HB.out.trans (HXE.out.mono HB.out.size)
    have HF : Hid (NoP (docsR q2 q3 q4 x1 x2 m3 OK D)) := fun h => by have := h.1; rw [← HND.out] at this; omega
    go_wp2_with fail
    go_ret
    exact ⟨iff_f HF.out, HE9.out⟩
  · have gd : decide (q4 < (n : Int)) = false := decide_eq_false g
    have HQ : Hid ((n : Int) ≤ q4) := by show _ ≤ _; omega
    clear g
    go_wp2_with fail
    clear a0 a1 a2 a3 a4 a5 a6 a7 a8 b0 b1 b2 b3 b4 b5 b6 b7 gd
    go_loopg [5, 21] n (fun g v_ i_ wr => ∃ (i : Nat) (v : Value), i ≤ n ∧ n - i ≤ g ∧ i_ = .int .i64 (i : Nat) ∧ v_ = v ∧ Hid (OwnP 3 numM W1.heap.size wr v (idsOf (D.take i))) ∧ Hid ((∀ d ∈ D.take i, (∀ y ∈ d.2, segR q2 x1 x2 m3 y) ∧ OK d.2) ∧ (idsOf (D.take i)).Nodup) ∧ Hid (((idsOf (D.take i)).length : Int) ≤ q3) ∧ Hid (Below W1.heap.size W1 wr))
    case atStart => exact ⟨0, _, by omega, by omega, rfl, rfl, (by rw [List.take_zero]; exact OwnP.nil_ _ _ _ _), ⟨take_zero, by rw [List.take_zero]; exact List.nodup_nil⟩, (by show _ ≤ _; rw [List.take_zero]; show (0 : Int) ≤ q3; omega), HX⟩
    case round =>
      clear HX
      obtain ⟨i, v, hi, hg, rfl, rfl, HO, HV, HLQ, HX⟩ := hrel
      by_cases hin : i < n
      · have iw : ((i : Nat) : Int) < (n : Int) := by omega
        have n0i : (0 : Int) ≤ ((i : Nat) : Int) := by omega
        have hixi : i < D.length := by rw [← HND.out]; exact hin
        obtain ⟨b1_, f1, s1, rfl, hlt1, _, hR1, hc1⟩ := HDD.out.get hixi
        obtain ⟨x, hx⟩ : ∃ z, z = D[i] := ⟨_, rfl⟩
        have hmx : x ∈ D := hx ▸ List.getElem_mem hixi
        have HGD : Hid (∀ y ∈ x.2, segG y) := HGA.out x hmx
        have HSD : Hid (∀ y ∈ x.2, segS y) := HSA.out x hmx
        rw [← hx] at hR1
        have HXI0 : Hid (D[i] = x) := hx.symm
        obtain ⟨r1, d1, rfl, qr⟩ := docM_cells hR1
        clear hmx hx
        obtain ⟨xb, X2⟩ := x
        have HXI := HXI0
        clear HXI0
        simp only at hc1 qr HGD HSD
        obtain ⟨na, hna⟩ : ∃ q, q = X2.length := ⟨_, rfl⟩
        rw [← hna] at hc1 qr
        have hmna : na ≤ 9223372036854775807 := by have q := qr.len; simp only [maxLen] at q; omega
        have HNA := Lib.hid hna
        have HQ1 := Lib.hid qr
        have bw0 : Below w.heap.size w wr := (HB.out.trans (HX.out.mono HB.out.size))
        have c0_ : wr.cell? ⟨b1_, f1 + i * 2, none⟩ = some (.bool xb) := vcell bw0 hlt1 (hc1 0 _ rfl)
        have c1_ : wr.cell? ⟨b1_, f1 + i * 2 + 1, none⟩ = some (.slice r1 na d1) := vcell bw0 hlt1 (hc1 1 _ rfl)
        obtain ⟨bD, pD, lD⟩ := box1 wr #[.bool xb, .slice r1 na d1] 51
        obtain ⟨WD, hWD⟩ : ∃ WD, WD = wr.alloc (.cells #[.bool xb, .slice r1 na d1] 51) := ⟨_, rfl⟩
        rw [← hWD] at bD pD lD
        obtain ⟨XD, hXD⟩ : ∃ XD, XD = wr.heap.size := ⟨_, rfl⟩
        rw [← hXD] at pD lD
        have HWD := Lib.hid hWD
        have HXXD : Hid (wr.heap.size = XD) := hXD.symm
        have HXD5 : Hid (Below W1.heap.size W1 WD) := below_on HX.out bD
        obtain ⟨I0, hI0⟩ : ∃ I0, I0 = idsOf (D.take i) := ⟨_, rfl⟩
        rw [← hI0] at HO HLQ
        have HIE := Lib.hid hI0
        obtain ⟨k, hk⟩ : ∃ k, k = I0.length := ⟨_, rfl⟩
        rw [← hk] at HLQ
        have HOD0 := HO.out.below numM_ok bD
        obtain ⟨oa, oc, hov⟩ := HO.out.is_slice
        rw [← hk] at hov
        subst hov
        have HIL := Lib.hid hk
        have hk3 : (k : Int) ≤ q3 := HLQ.out
        obtain ⟨dd0, dd1⟩ := two_cells pD
        have HPD := Lib.hid pD
        have HLD : Hid (XD < WD.heap.size) := by show _ < _; omega
        have HOD := Lib.hid HOD0
        have HVO := HV
        have HN6 : Hid (∀ j, ∀ x ∈ I0 ++ (X2.take j).map fun y => y.1, n64 x) := fun j x hx => by
          rcases List.mem_append.1 hx with hx | hx
          · rw [HIE.out] at hx
            obtain ⟨d, hd, hx⟩ := List.mem_flatMap.1 hx
            obtain ⟨y, hy, rfl⟩ := List.mem_map.1 hx
            exact (HGA.out d (List.mem_of_mem_take hd) y hy).1
          · obtain ⟨y, hy, rfl⟩ := List.mem_map.1 hx
            exact (HGD.out y (List.mem_of_mem_take hy)).1
        clear hR1 hc1 qr hna hlt1 bw0 bD pD lD hWD hXD hI0 hk HO HOD0 HX HV
        have HX := HXD5
        clear HXD5
        obtain ⟨a0, a1, a2, a3, a4, a5, a6, a7, a8⟩ := nine_cells' (HG.out _ HX.out).1
        obtain ⟨b0, b1, b2, b3, b4, b5, b6, b7⟩ := eight_cells (HG.out _ HX.out).2
        go_upto_region 7 with fail
        rw [← HWD.out, HXXD.out]
        clear c0_ c1_
        have hsub : IntKind.i64.wrap (q3 - (k : Int)) = q3 - (k : Int) := IntWalk.i64_in _ (by omega)
        by_cases kq : q3 - (k : Int) < (na : Int)
        · have kd : decide (q3 - (k : Int) < (na : Int)) = true := decide_eq_true kq
          have HKQ : Hid (q3 < (k : Int) + na) := by show _ < _; omega
          have HXE := HX
          have HE9 : Hid (Below w.heap.size w WD) := HB.out.trans (HXE.out.mono HB.out.size)
          have HF : Hid (NoP (docsR q2 q3 q4 x1 x2 m3 OK D)) := fun h => (by have h2 := ids_len hixi; rw [HXI.out, ← HIE.out, ← HIL.out] at h2; have h3 := h.2.1; have h4 := HKQ.out; have h5 := HNA.out; simp only at h2; omega)
          go_wp2_with fail
          go_ret
          exact ⟨iff_f HF.out, HE9.out⟩
        · have kd : decide (q3 - (k : Int) < (na : Int)) = false := decide_eq_false kq
          have HLE : Hid ((k : Int) + na ≤ q3) := by show _ ≤ _; omega
          have hle : (k : Int) + na ≤ q3 := HLE.out
          go_wp2_with fail
          clear a0 a1 a2 a3 a4 a5 a6 a7 a8 b0 b1 b2 b3 b4 b5 b6 b7 kd dd0 dd1 hsub kq
          go_loopg [5, 37] na (fun g v_ i_ wr => ∃ (j : Nat) (v : Value), j ≤ na ∧ na - j ≤ g ∧ i_ = .int .i64 (j : Nat) ∧ v_ = v ∧ Hid (OwnP 3 numM W1.heap.size wr v (I0 ++ (X2.take j).map fun y => y.1)) ∧ Hid ((∀ y ∈ X2.take j, segR q2 x1 x2 m3 y) ∧ (I0 ++ (X2.take j).map fun y => y.1).Nodup) ∧ Hid (Below W1.heap.size W1 wr) ∧ Hid (wr.heap[XD]? = some (.cells #[.bool xb, .slice r1 na d1] 51 (0, 0))) ∧ Hid (XD < wr.heap.size))
          case atStart => exact ⟨0, _, by omega, by omega, rfl, rfl, (by show OwnP _ _ _ _ _ _; rw [List.take_zero, List.map_nil, List.append_nil]; exact HOD.out), ⟨take_zero, by rw [List.take_zero, List.map_nil, List.append_nil, HIE.out]; exact HVO.out.2⟩, HX, HPD, HLD⟩
          case round =>
            clear HX
            obtain ⟨j, v, hj, hgj, rfl, rfl, HO, HVI, HX, HZD, HXDL⟩ := hrel
            obtain ⟨oa, oc, hov⟩ := HO.out.is_slice
            obtain ⟨k, hk⟩ : ∃ k, k = (I0 ++ (X2.take j).map fun y => y.1).length := ⟨_, rfl⟩
            rw [← hk] at hov
            subst hov
            have hk100 : k ≤ 90000 := by rw [hk, List.length_append, List.length_map, List.length_take, ← HIL.out]; omega
            have HKE := Lib.hid hk
            clear hk
            by_cases hjn : j < na
            · have jw : ((j : Nat) : Int) < (na : Int) := by omega
              have j0 : (0 : Int) ≤ ((j : Nat) : Int) := by omega
              have hixj : j < X2.length := by rw [← HNA.out]; exact hjn
              obtain ⟨b2_, f2, s2_, rfl, hlt2, _, hR2, hc2⟩ := HQ1.out.get hixj
              obtain ⟨y, hy⟩ : ∃ z, z = X2[j] := ⟨_, rfl⟩
              have hmy : y ∈ X2 := hy ▸ List.getElem_mem hixj
              have hgy := HGD.out y hmy
              rw [← hy] at hR2
              have HYI0 : Hid (X2[j] = y) := hy.symm
              obtain ⟨p3, g3, p4, g4, rfl, hSp, hSi⟩ := segM_cells hR2
              clear hmy hy
              obtain ⟨i0, i1, tl, Sp, Si⟩ := y
              have HYI := HYI0
              clear HYI0
              simp only at hc2 hSp hSi hgy
              obtain ⟨l3, hl3⟩ : ∃ q, q = Sp.length := ⟨_, rfl⟩
              obtain ⟨l4, hl4⟩ : ∃ q, q = Si.length := ⟨_, rfl⟩
              obtain ⟨ts, hts⟩ : ∃ q, q = mkB tl := ⟨_, rfl⟩
              rw [← hl3] at hSp hc2
              rw [← hl4] at hSi hc2
              rw [← hts] at hc2
              have bw0 : Below w.heap.size w wr := (HB.out.trans (HX.out.mono HB.out.size))
              have e0 : wr.cell? ⟨b2_, f2 + j * 5, none⟩ = some (.int .i64 i0) := vcell bw0 hlt2 (hc2 0 _ rfl)
              have e1 : wr.cell? ⟨b2_, f2 + j * 5 + 1, none⟩ = some (.int .i64 i1) := vcell bw0 hlt2 (hc2 1 _ rfl)
              have e2 : wr.cell? ⟨b2_, f2 + j * 5 + 2, none⟩ = some (.string ts) := vcell bw0 hlt2 (hc2 2 _ rfl)
              have e3 : wr.cell? ⟨b2_, f2 + j * 5 + 3, none⟩ = some (.slice p3 l3 g3) := vcell bw0 hlt2 (hc2 3 _ rfl)
              have e4 : wr.cell? ⟨b2_, f2 + j * 5 + 4, none⟩ = some (.slice p4 l4 g4) := vcell bw0 hlt2 (hc2 4 _ rfl)
              obtain ⟨bX, pX, lX⟩ := box1 wr #[.int .i64 i0, .int .i64 i1, .string ts, .slice p3 l3 g3, .slice p4 l4 g4] 67
              obtain ⟨W5, hW5⟩ : ∃ W5, W5 = wr.alloc (.cells #[.int .i64 i0, .int .i64 i1, .string ts, .slice p3 l3 g3, .slice p4 l4 g4] 67) := ⟨_, rfl⟩
              rw [← hW5] at bX pX lX
              obtain ⟨X, hX⟩ : ∃ X, X = wr.heap.size := ⟨_, rfl⟩
              rw [← hX] at pX lX
              have HW5 := Lib.hid hW5
              have HXX : Hid (wr.heap.size = X) := hX.symm
              have HLX : Hid (W5.heap.size = X + 1) := lX
              have HX5 : Hid (Below W1.heap.size W1 W5) := below_on HX.out bX
              have bw5 : Below w.heap.size w W5 := HB.out.trans (HX5.out.mono HB.out.size)
              have HO5 := Lib.hid (HO.out.below numM_ok bX)
              have HZ5 : Hid (W5.heap[XD]? = some (.cells #[.bool xb, .slice (some ⟨b2_, f2, none⟩) na d1] 51 (0, 0))) := (bX.block XD HXDL.out).trans HZD.out
              have HPX := Lib.hid pX
              obtain ⟨g0_, g1_, g2_, g3_, g4_⟩ := five_cells' pX
              have CT := Lib.hid (seg_any (u0 := u0) (u1 := u1) (y3 := y3) (y4 := some ⟨b1_, f1, none⟩) (y5 := y5) (y6 := y6) (y7 := y7) (n0 := n0) (k0 := k0) (n1 := n1) (k1 := k1) (m3 := m3) (d3 := d3) (m4 := n) (d4 := d4) (m5 := m5) (d5 := d5) (m6 := m6) (d6 := d6) (m7 := m7) (d7 := d7) (q2 := q2) (q3 := q3) (q4 := q4) (q5 := q5) (q6 := q6) (q7 := q7) (q8 := q8) (x0 := x0) (x1 := x1) (x2 := x2) (p3 := p3) (p4 := p4) (l3 := l3) (g3 := g3) (l4 := l4) (g4 := g4) i0 i1 tl Sp Si W5 (hSp.keep spnM_ok (Keep.below bw5)) (hSi.keep sitM_ok (Keep.below bw5)) hx1 h3 (by have := hgy.2.2.1; have h47 : tl.length ≤ 140737488355328 := this; omega))
              rw [← hts] at CT
              have HI0 : Hid (n64 i0) := hgy.1
              clear hc2 hR2 hlt2 hX hW5 bX pX lX hts hSp hSi hgy hl3 hl4 bw0 bw5 HX HO HZD
              have HX := HX5
              clear HX5
              obtain ⟨a0, a1, a2, a3, a4, a5, a6, a7, a8⟩ := nine_cells' (HG.out _ HX.out).1
              obtain ⟨b0, b1, b2, b3, b4, b5, b6, b7⟩ := eight_cells (HG.out _ HX.out).2
              go_upto_region 12 with fail
              rw [← HW5.out, HXX.out]
              clear e0 e1 e2 e3 e4
              go_wp2_with fail
              refine CT.out.mono ?_
              rintro e w6 ⟨hq, bb6⟩
              have HX6 : Hid (Below W1.heap.size W1 w6) := below_on HX.out bb6
              have HO6 := Lib.hid (HO5.out.below numM_ok bb6)
              have HXL6 : Hid (XD < w6.heap.size) := Nat.lt_of_lt_of_le HXDL.out (by have := HXX.out; have := HLX.out; have := bb6.size; omega)
              have HZ6 : Hid (w6.heap[XD]? = some (.cells #[.bool xb, .slice (some ⟨b2_, f2, none⟩) na d1] 51 (0, 0))) := (bb6.block XD (by have := HXDL.out; have := HXX.out; have := HLX.out; omega)).trans HZ5.out
              have id6 : w6.cell? ⟨X, 0, none⟩ = some (.int .i64 i0) := vcell bb6 (by have := HLX.out; omega) g0_
              clear bb6 CT g0_ g1_ g2_ g3_ g4_ a0 a1 a2 a3 a4 a5 a6 a7 a8 b0 b1 b2 b3 b4 b5 b6 b7 HX HO5 HZ5 HPX
              have HX := HX6
              clear HX6
              rcases hq.det with ⟨ht, rfl⟩ | ⟨hf, rfl⟩
              · have HTT := Lib.hid ht
                clear ht
                have CC := Lib.hid (Rig.contains_any i0 w6 (ints_of_row (HO6.out.rowP numM_ok) (HN6.out j)) HI0.out)
                go_wp2_with fail
                refine CC.out.mono ?_
                rintro e wt ⟨rfl, hwt⟩
                rw [← hwt]
                clear hwt wt CC
                by_cases hh : i0 ∈ I0 ++ (X2.take j).map fun y => y.1
                · rw [has_mem, decide_eq_true hh]
                  have HHH := Lib.hid hh
                  clear hh
                  have HXE := HX
                  have HE9 : Hid (Below w.heap.size w w6) := HB.out.trans (HXE.out.mono HB.out.size)
                  have HF : Hid (NoP (docsR q2 q3 q4 x1 x2 m3 OK D)) := fun h => (by have h2 := ids_nodup hixi (j + 1) h.2.2.2; rw [HXI.out, ← HIE.out, List.take_succ_eq_append_getElem hixj, List.map_append, HYI.out, ← List.append_assoc] at h2; have h3 := (List.nodup_append.1 h2).2.2 i0 HHH.out i0 (by simp); exact h3 rfl)
                  go_wp2_with fail
                  go_ret
                  exact ⟨iff_f HF.out, HE9.out⟩
                · rw [has_mem, decide_eq_false hh]
                  have HNH : Hid (NoP (i0 ∈ I0 ++ (X2.take j).map fun y => y.1)) := hh
                  clear hh
                  have hR : numM.R (fun b => W1.heap.size ≤ b ∧ some b ≠ (Value.slice oa k oc).ownBlock) (w6.alloc (.cells #[.int .i64 i0] 3)) [.int .i64 i0] i0 := rfl
                  have HKA : OwnP 3 numM W1.heap.size (w6.alloc (.cells #[.int .i64 i0] 3)) (.slice oa k oc) (I0 ++ (X2.take j).map fun y => y.1) := HO6.out.below numM_ok (box1 _ _ _).1
                  have hlow : (Value.slice oa k oc).ownBlock ≠ some XD := by
                    obtain ⟨xs, _, ho, _⟩ := HO6.out.row numM_ok
                    exact own_not ho HZ6.out (by decide)
                  have hkl : (I0 ++ (X2.take j).map fun y => y.1).length = k := HKE.out.symm
                  obtain ⟨xs, hxs, HOX, HROW⟩ := HKA.row numM_ok
                  have A1 : Hid (Rk.OwnK 3 1 W1.heap.size (w6.alloc (.cells #[.int .i64 i0] 3)) (.slice oa k oc) xs) := HOX
                  have A2 : Hid (Rk.RowK 1 (w6.alloc (.cells #[.int .i64 i0] 3)) (.slice (some ⟨w6.heap.size, 0, none⟩) 1 1) [[.int .i64 i0]]) := Rk.row_one (e := 3) (heap_alloc_new _ _) rfl
                  have A3 : Hid (xs.length + ([[.int .i64 i0]] : List (List Value)).length ≤ 100000) := by show _ ≤ _; rw [hxs, hkl, List.length_singleton]; omega
                  have HRW : Hid (∀ (v' : Value) (w' : World), Rk.OwnK 3 1 W1.heap.size w' v' (xs ++ [[.int .i64 i0]]) → (w6.alloc (.cells #[.int .i64 i0] 3)).grownBy w' (Value.slice oa k oc).ownBlock → (v'.ownBlock = (Value.slice oa k oc).ownBlock ∨ v'.ownBlock = some (w6.alloc (.cells #[.int .i64 i0] 3)).heap.size) → OwnP 3 numM W1.heap.size w' v' ((I0 ++ (X2.take j).map fun y => y.1) ++ [i0])) := fun v' w' h5 g5 k5 => HROW [.int .i64 i0] i0 v' w' h5 g5 k5 hR
                  have HONE : Hid (∀ y ∈ ([[.int .i64 i0]] : List (List Value)), ∀ u ∈ y, u.oneCell' = true) := fun y hy => by simp only [List.mem_singleton] at hy; subst hy; exact numM_ok.one hR
                  have HXA : Hid (Below W1.heap.size W1 (w6.alloc (.cells #[.int .i64 i0] 3))) := below_on HX.out (box1 _ _ _).1
                  have A4 : Hid (W1.heap.size ≤ (w6.alloc (.cells #[.int .i64 i0] 3)).heap.size) := HXA.out.size
                  have HZA : Hid ((w6.alloc (.cells #[.int .i64 i0] 3)).heap[XD]? = some (.cells #[.bool xb, .slice (some ⟨b2_, f2, none⟩) na d1] 51 (0, 0))) := ((box1 _ _ _).1.block XD HXL6.out).trans HZ6.out
                  have HXLA : Hid (XD < (w6.alloc (.cells #[.int .i64 i0] 3)).heap.size) := Nat.lt_of_lt_of_le HXL6.out (box1 w6 _ _).1.size
                  have HLOW := Lib.hid hlow
                  have HEQ : Hid ((I0 ++ (X2.take j).map fun y => y.1) ++ [i0] = I0 ++ (X2.take (j + 1)).map fun y => y.1) := by
                    show _ = _
                    rw [List.take_succ_eq_append_getElem hixj, List.map_append, HYI.out, List.append_assoc]
                    rfl
                  have HV2 : Hid ((∀ y ∈ X2.take (j + 1), segR q2 x1 x2 m3 y) ∧ (I0 ++ (X2.take (j + 1)).map fun y => y.1).Nodup) := ⟨all_step hixj HVI.out.1 (by rw [HYI.out]; exact HTT.out), by
                    rw [← HEQ.out]
                    exact List.nodup_append.2 ⟨HVI.out.2, (by simp), fun a ha b hb => by
                      simp only [List.mem_singleton] at hb
                      subst hb
                      exact fun e => HNH.out (e ▸ ha)⟩⟩
                  clear hR HKA hlow hkl hxs HOX HROW HO6 HTT HNH HVI HYI
                  go_wp2_with (at_builtin; refine Rk.wpList_append_rowk rfl _ _ 43 3 1 8 _ Tryz.underlying43 infoint rfl (by decide) (by decide) rfl W1.heap.size _ _ xs [[.int .i64 i0]] rfl rfl A1.out A2.out HONE.out A3.out A4.out ?_)
                  intro v6 w9 h5 g5 k5
                  have HO9 := Lib.hid (HRW.out v6 w9 h5 g5 (k5.imp_right fun e => by rw [e, (box1 _ _ _).2.2]))
                  rw [HEQ.out] at HO9
                  have HX9 : Hid (Below W1.heap.size W1 w9) := A1.out.belowOf HXA.out (Nat.le_refl _) A4.out g5
                  have HZ9 : Hid (w9.heap[XD]? = some (.cells #[.bool xb, .slice (some ⟨b2_, f2, none⟩) na d1] 51 (0, 0))) := (g5.block XD HXLA.out (fun e => HLOW.out e.symm)).trans HZA.out
                  have HXL9 : Hid (XD < w9.heap.size) := Nat.lt_of_lt_of_le HXLA.out g5.size
                  clear h5 g5 k5 A1 A2 A3 A4 HXA HZA HXLA HRW HONE HLOW HEQ id6
                  go_wp2_with fail
                  go_roundg (na - (j + 1))
                  case measure => omega
                  case rel => exact ⟨j + 1, v6, by omega, Nat.le_refl _, by go_num, rfl, HO9, HV2, HX9, HZ9, HXL9⟩
              · have HXE := HX
                have HFF := Lib.hid (show NoP _ from hf)
                have HE9 : Hid (Below w.heap.size w w6) := HB.out.trans (HXE.out.mono HB.out.size)
                have HF : Hid (NoP (docsR q2 q3 q4 x1 x2 m3 OK D)) := fun h => HFF.out (by have h2 := (h.2.2.1 _ (List.getElem_mem hixi)).1; rw [HXI.out] at h2; have h3 := h2 _ (List.getElem_mem hixj); rw [HYI.out] at h3; exact h3)
                go_wp2_with fail
                go_ret
                exact ⟨iff_f HF.out, HE9.out⟩
            · obtain rfl : na = j := by omega
              have jw : ¬ ((na : Nat) : Int) < ((na : Nat) : Int) := by omega
              have HVX : Hid ((∀ y ∈ X2, segR q2 x1 x2 m3 y) ∧ (I0 ++ X2.map fun y => y.1).Nodup) := by
                have h9 := HVI.out
                rw [List.take_of_length_le (by rw [← HNA.out]; exact Nat.le_refl _)] at h9
                exact h9
              have HOX : Hid (OwnP 3 numM W1.heap.size wr (.slice oa k oc) (I0 ++ X2.map fun y => y.1)) := by
                have h9 := HO.out
                rw [List.take_of_length_le (by rw [← HNA.out]; exact Nat.le_refl _)] at h9
                exact h9
              obtain ⟨z0_, z1_⟩ := two_cells HZD.out
              have CL := Lib.hid (LS _ xb wr (.slice r1 na d1) X2 (HW0.out.trans ((HB.out.trans (HX.out.mono HB.out.size)).mono HW0.out.size)) (HQ1.out.keep segM_ok (Keep.below (HB.out.trans (HX.out.mono HB.out.size)))) (by rw [← HNA.out]; omega) (fun y hy => ⟨HSD.out y hy, HGD.out y hy⟩))
              clear HVI HO
              go_wp2_with fail
              refine CL.out.mono ?_
              rintro e w7 ⟨sf, sa, sn, sc, b, rfl, hb, bb7⟩
              have HX8 : Hid (Below W1.heap.size W1 (w7.alloc (.cells #[.bool sf, .slice sa sn sc] 72))) := below_on (below_on HX.out bb7) (box1 w7 #[.bool sf, .slice sa sn sc] 72).1
              have HO8 := Lib.hid ((HOX.out.below numM_ok bb7).below numM_ok (box1 w7 #[.bool sf, .slice sa sn sc] 72).1)
              clear bb7 CL HX HZD z0_ z1_ HOX
              cases b with
              | true =>
                have HV2 : Hid ((∀ d ∈ D.take (i + 1), (∀ y ∈ d.2, segR q2 x1 x2 m3 y) ∧ OK d.2) ∧ (idsOf (D.take (i + 1))).Nodup) := ⟨all_step hixi HVO.out.1 (by rw [HXI.out]; exact ⟨HVX.out.1, hb.1 rfl⟩), by rw [ids_take hixi, HXI.out, ← HIE.out]; exact HVX.out.2⟩
                have HO9 : Hid (OwnP 3 numM W1.heap.size (w7.alloc (.cells #[.bool sf, .slice sa sn sc] 72)) (.slice oa k oc) (idsOf (D.take (i + 1)))) := by
                  show OwnP _ _ _ _ _ _
                  rw [ids_take hixi, HXI.out, ← HIE.out]
                  exact HO8.out
                have HL9 : Hid (((idsOf (D.take (i + 1))).length : Int) ≤ q3) := by
                  show _ ≤ _
                  rw [ids_take hixi, HXI.out, ← HIE.out, List.length_append, List.length_map, ← HIL.out, ← HNA.out]
                  have := HLE.out
                  omega
                clear HVO HXI hb HO8 HVX
                go_wp2_with fail
                go_roundg (n - (i + 1))
                case measure => omega
                case rel => exact ⟨i + 1, _, by omega, Nat.le_refl _, by go_num, rfl, HO9, HV2, HL9, HX8⟩
              | false =>
                have HFO : Hid (NoP (OK X2)) := fun h => by have := hb.2 h; cases this
                clear hb
                have HXE := HX8
                have HE9 : Hid (Below w.heap.size w (w7.alloc (.cells #[.bool sf, .slice sa sn sc] 72))) := HB.out.trans (HXE.out.mono HB.out.size)
                have HF : Hid (NoP (docsR q2 q3 q4 x1 x2 m3 OK D)) := fun h => HFO.out (by have h2 := (h.2.2.1 _ (List.getElem_mem hixi)).2; rw [HXI.out] at h2; exact h2)
                go_wp2_with fail
                go_ret
                exact ⟨iff_f HF.out, HE9.out⟩
      · obtain rfl : n = i := by omega
        have iw : ¬ ((n : Nat) : Int) < ((n : Nat) : Int) := by omega
        have HE9 : Hid (Below w.heap.size w wr) := HB.out.trans (HX.out.mono HB.out.size)
        have HT : Hid (docsR q2 q3 q4 x1 x2 m3 OK D) := by
          have e : D.take n = D := List.take_of_length_le (by rw [← HND.out]; exact Nat.le_refl _)
          have h1 := HV.out
          have h2 := HLQ.out
          rw [e] at h1 h2
          exact ⟨by rw [← HND.out]; exact HQ.out, h2, h1.1, h1.2⟩
        clear HV HO HLQ
        go_wp2_with fail
        go_ret
        exact ⟨iff_t HT.out, HE9.out⟩
end Go.Proofs.YtccaiippoephbaaGreatDoor.Sta
