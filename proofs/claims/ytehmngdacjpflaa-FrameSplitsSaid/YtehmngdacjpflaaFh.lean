/- Frame: the walk of FrameCut. -/
import Derived.Test.YtehmngdacjpflaaFg
import Derived.WalkSmall
import Derived.IntWalk
set_option linter.unusedVariables false
set_option linter.unusedSimpArgs false
namespace Go.Proofs.Ytehmngdacjpflaa.Frm
open Go.RowKit Go.Lib Go.Proofs.Ytehmngdacjpflaa.Bx

/-- A row of ints that is read. -/
def cellsI (xs : List Int) : List (List Value) := xs.map fun x => [Value.int .i64 x]
theorem cellsI_len (xs : List Int) : (cellsI xs).length = xs.length := List.length_map _
def in64 (x : Int) : Prop := -9223372036854775808 ≤ x ∧ x ≤ 9223372036854775807
def IntR (w : World) (v : Value) (xs : List Int) : Prop := Rk.RowK 1 w v (cellsI xs) ∧ ∀ x ∈ xs, in64 x
theorem infoI : (Try.prog.info? 3).map (fun i => (i.zero, i.size, i.bytes)) = some (some (.int .i64 0), 1, 8) := by kernel_rfl
theorem cellsI_app (X Y : List Int) : cellsI (X ++ Y) = cellsI X ++ cellsI Y := List.map_append
theorem cellsI_one (X : List Int) : ∀ z ∈ cellsI X, ∀ q ∈ z, q.oneCell' = true := fun z hz q hq => by
  obtain ⟨x, _, rfl⟩ := List.mem_map.1 hz
  simp only [List.mem_singleton] at hq
  subst hq
  rfl
theorem cellsT_one (X : List (List UInt8)) : ∀ z ∈ cellsT X, ∀ q ∈ z, q.oneCell' = true := fun z hz q hq => by
  obtain ⟨x, _, rfl⟩ := List.mem_map.1 hz
  simp only [List.mem_singleton] at hq
  subst hq
  rfl
theorem own_none (e : TypeId) (w : World) : Rk.OwnK e 1 w.heap.size (w.alloc (.cells #[] e)) (.slice (some ⟨w.heap.size, 0, none⟩) 0 0) [] :=
  ⟨fun _ h => by simp at h, rfl, .inr ⟨w.heap.size, 0, #[], rfl, Nat.le_refl _, heap_alloc_new _ _, Nat.le_refl _, Nat.zero_le _, rfl, rfl⟩⟩
def zi (zs : List Int) (i : Nat) : Int := zs.getD i 0
theorem zi_at {zs : List Int} {i : Nat} (h : i < zs.length) : zi zs i = zs[i] := by
  unfold zi
  rw [List.getD_eq_getElem?_getD, List.getElem?_eq_getElem h]
  rfl
theorem row_int {w : World} {a : Option Addr} {n cap : Nat} {zs : List Int} (h : Rk.RowK 1 w (.slice a n cap) (cellsI zs)) {j : Nat} (hj : j < zs.length) : ∃ b off, a = some ⟨b, off, none⟩ ∧ b < w.heap.size ∧ w.cell? ⟨b, off + j, none⟩ = some (.int .i64 (zi zs j)) := by
  obtain ⟨_, a', cap', e, h1, h2, h3⟩ := h
  injection e with e1 e2 e3
  subst e1
  rcases h3 with h3 | ⟨b, off, rfl, hb, hc⟩
  · have : zs.length = 0 := by rw [← cellsI_len, h3]; rfl
    omega
  · have hc' := hc j (by rw [cellsI_len]; exact hj) 0
    unfold cellsI at hc'
    simp only [List.getElem_map, Nat.mul_one, Nat.add_zero] at hc'
    exact ⟨b, off, rfl, hb, by rw [zi_at hj]; exact hc' _ rfl⟩
/-- What is told when C has been taken in, and D is left. -/
def Inv (most : Int) (l C D R : List UInt8) (G : List (List UInt8)) : Prop := C ++ D = l ∧ sp most C = (G, R, true)
theorem inv_start (most : Int) (l : List UInt8) : Inv most l [] l [] [] := ⟨rfl, sp_short (by decide)⟩
theorem Inv.next {most : Int} {l C D R : List UInt8} {G : List (List UInt8)} (h : Inv most l C D R G) (m : Nat) : ((sp most (R ++ D.take m)).2.2 = true → Inv most l (C ++ D.take m) (D.drop m) (sp most (R ++ D.take m)).2.1 (G ++ (sp most (R ++ D.take m)).1)) ∧ ((sp most (R ++ D.take m)).2.2 = false → sp most l = (G ++ (sp most (R ++ D.take m)).1, (sp most (R ++ D.take m)).2.1, false)) := by
  obtain ⟨h1, h2⟩ := h
  have g := sp_app most C.length C (D.take m) (Nat.le_refl _)
  rw [h2] at g
  have g1 := g.1 rfl
  have hl : (C ++ D.take m) ++ D.drop m = l := by rw [List.append_assoc, List.take_append_drop, h1]
  generalize sp most (R ++ D.take m) = t at *
  obtain ⟨t1, t2, t3⟩ := t
  have g2 : sp most (C ++ D.take m) = (G ++ t1, t2, t3) := g1
  refine ⟨fun e => ⟨hl, ?_⟩, fun e => ?_⟩
  · rw [g2]
    have e : t3 = true := e
    rw [e]
  · have g3 := sp_app most (C ++ D.take m).length (C ++ D.take m) (D.drop m) (Nat.le_refl _)
    rw [g2] at g3
    unfold Goes at g3
    rw [hl] at g3
    obtain ⟨g4, g5⟩ := g3.2 e
    rw [g5]
    have g4 : t2 = [] := g4
    rw [g4]
theorem Inv.len {most : Int} {l C D R : List UInt8} {G : List (List UInt8)} (h : Inv most l C D R G) : 3 * G.length + R.length + D.length ≤ l.length := by
  obtain ⟨h1, h2⟩ := h
  have := sp_rest most C.length C (Nat.le_refl _)
  rw [h2] at this
  rw [← h1, List.length_append]
  simp only at this
  omega
theorem Inv.all {most : Int} {l C R : List UInt8} {G : List (List UInt8)} (h : Inv most l C [] R G) : sp most l = (G, R, true) := by
  obtain ⟨h1, h2⟩ := h
  rw [← h1, List.append_nil, h2]
set_option maxRecDepth 100000 in
set_option maxHeartbeats 8000000 in
theorem cut_walk (POK : SplitOk) {v : Value} {xs : List Int} (l : List UInt8) (most : Int) (hm : -9223372036854775808 ≤ most ∧ most ≤ 9223372036854775807) (w : World) (h : IntR w v xs) : Calls Try.prog 5 #[.string (mkB l), .int .i64 most, v] w fun e w' => e = .returned (.bool true) ∧ Below w.heap.size w w' := by
  obtain ⟨hv, hx64⟩ := h
  obtain ⟨a, cap, rfl⟩ := hv.is_slice
  rw [cellsI_len] at hv ⊢
  obtain ⟨k, hk⟩ : ∃ k, k = xs.length := ⟨_, rfl⟩
  have HV := Lib.hid hv
  rw [← hk] at HV ⊢
  obtain ⟨K, hK⟩ : ∃ K, K = mkB [0] := ⟨_, rfl⟩
  have e0 : (K.toList == [0]) = true := by rw [hK, Lib.toList_data]; rfl
  have C0 := Lib.hid (split_first POK hK w)
  obtain ⟨s, hs⟩ : ∃ s, s = mkB l := ⟨_, rfl⟩
  obtain ⟨n, hn⟩ : ∃ n, n = l.length := ⟨_, rfl⟩
  have hsz : s.size = n := by rw [hs, mkB_size, hn]
  obtain ⟨p, hp⟩ : ∃ p, p = sp most l := ⟨_, rfl⟩
  obtain ⟨T, hT⟩ : ∃ T, T = mkB p.2.1 := ⟨_, rfl⟩
  obtain ⟨q, hq⟩ : ∃ q, q = p.2.2 := ⟨_, rfl⟩
  obtain ⟨m, hm1⟩ : ∃ m, m = p.1.length := ⟨_, rfl⟩
  have C1 : Hid (n ≤ 5000 → ∀ w, Calls Try.prog 9 #[.string s, .int .i64 most] w fun e w' => ∃ a cap, e = .returned (.tuple #[.slice a m cap, .string T, .bool q]) ∧ m ≤ cap ∧ cap ≤ maxLen ∧ Strs w' (.slice a m cap) p.1 ∧ Below w.heap.size w w') := fun h w => by
    rw [hm1, hT, hq, hs, hp]
    exact split_call POK (by omega) hm
  have TT : (T.toList == T.toList) = true := by simp
  have HP : Hid (p = sp most l ∧ T = mkB p.2.1 ∧ q = p.2.2 ∧ m = p.1.length) := ⟨hp, hT, hq, hm1⟩
  have HK : Hid (k = xs.length ∧ n = l.length ∧ s = mkB l) := ⟨hk, hn, hs⟩
  rw [← hs]
  clear hs hn hk hp hT hq hm1 hK hv
  go_enter Try.func5, Try.ntmps5
  go_wp2_with fail
  refine C0.out.mono ?_
  rintro e w1 ⟨a0, c0, rfl, b1⟩
  have HB1 := Lib.hid b1
  clear C0 b1
  by_cases hbig : 5000 < n
  · have g1 : (5000 : Int) < (n : Int) := by omega
    have g2 : decide ((5000 : Int) < (n : Int)) = true := decide_eq_true g1
    clear C1
    go_wp2_with fail
    go_ret
    exact ⟨by first | rfl | (simp; done), HB1.out⟩
  · have g1 : ¬ (5000 : Int) < (n : Int) := by omega
    have g2 : decide ((5000 : Int) < (n : Int)) = false := decide_eq_false g1
    replace C1 := Lib.hid (C1.out (by omega))
    by_cases hmany : 50 < k
    · have g3 : (50 : Int) < (k : Int) := by omega
      have g4 : decide ((50 : Int) < (k : Int)) = true := decide_eq_true g3
      clear C1
      go_wp2_with fail
      go_ret
      exact ⟨by first | rfl | (simp; done), HB1.out⟩
    · have g3 : ¬ (50 : Int) < (k : Int) := by omega
      have g4 : decide ((50 : Int) < (k : Int)) = false := decide_eq_false g3
      go_wp2_with fail
      refine (C1.out w1).mono ?_
      rintro e w2 ⟨a1, c1, rfl, h1, h2, R1, b2⟩
      have HB2 := Lib.hid (below_on HB1.out b2)
      have HR1 := Lib.hid R1
      clear b2 C1 R1
      have A1 := Lib.hid (own_none 3 w2)
      have HY1 : Hid (Below w2.heap.size w2 (w2.alloc (.cells #[] 3))) := below_al (Below.refl _ _) _
      have A2 : Hid (Rk.RowK 1 (w2.alloc (.cells #[] 3)) (.slice a k cap) (cellsI xs)) := HV.out.below (below_on HB2.out HY1.out) (Nat.le_refl _)
      have A3 : Hid (([] : List (List Value)).length + (cellsI xs).length ≤ 100000) := by show _ ≤ _; rw [cellsI_len, List.length_nil]; have := HK.out.1; omega
      have A4 : Hid (w2.heap.size ≤ (w2.alloc (.cells #[] 3)).heap.size) := HY1.out.size
      go_wp2_with (at_builtin; refine Rk.wpList_append_rowk rfl _ _ 30 3 1 8 _ Try.underlying30 infoI rfl (by decide) (by decide) rfl w2.heap.size _ _ [] (cellsI xs) rfl rfl A1.out A2.out (cellsI_one xs) A3.out A4.out ?_)
      intro v3 w3 h5 g5 k5
      have HB3 := Lib.hid (A1.out.belowOf HY1.out (Nat.le_refl _) A4.out g5)
      have H5 := Lib.hid h5
      obtain ⟨a3, c3, rfl⟩ := h5.is_slice
      rw [cellsI_len] at H5 ⊢
      have hk := HK.out.1
      rw [← hk] at H5 ⊢
      clear h5 g5 k5 A1 A2 A3 A4 HY1 hk
      have A1 : Hid (Rk.OwnK 3 1 w2.heap.size (w3.alloc (.cells #[.int .i64 (n : Int)] 3)) (.slice a3 k c3) (cellsI xs)) := H5.out.below (below_al (Below.refl _ _) _)
      have HY1 : Hid (Below w2.heap.size w2 (w3.alloc (.cells #[.int .i64 (n : Int)] 3))) := below_al HB3.out _
      have A2 : Hid (Rk.RowK 1 (w3.alloc (.cells #[.int .i64 (n : Int)] 3)) (.slice (some ⟨w3.heap.size, 0, none⟩) 1 1) (cellsI [(n : Int)])) := Rk.row_one (e := 3) (heap_alloc_new _ _) rfl
      have A3 : Hid ((cellsI xs).length + (cellsI [(n : Int)]).length ≤ 100000) := by show _ ≤ _; rw [cellsI_len, cellsI_len, List.length_singleton]; have := HK.out.1; omega
      have A4 : Hid (w2.heap.size ≤ (w3.alloc (.cells #[.int .i64 (n : Int)] 3)).heap.size) := HY1.out.size
      go_wp2_with (at_builtin; refine Rk.wpList_append_rowk rfl _ _ 30 3 1 8 _ Try.underlying30 infoI rfl (by decide) (by decide) rfl w2.heap.size _ _ (cellsI xs) (cellsI [(n : Int)]) rfl rfl A1.out A2.out (cellsI_one _) A3.out A4.out ?_)
      intro v4 w4 h6 g6 k6
      rw [← cellsI_app] at h6
      have HB4' := A1.out.belowOf HY1.out (Nat.le_refl _) A4.out g6
      have HB4 := Lib.hid (below_on HB2.out HB4')
      replace HR1 : Hid (Strs w4 (.slice a1 m c1) p.1) := HR1.out.below HB4'
      obtain ⟨a4, c4, rfl⟩ := h6.is_slice
      have hzl : (cellsI (xs ++ [(n : Int)])).length = k + 1 := by rw [cellsI_len, List.length_append, ← HK.out.1]; rfl
      rw [hzl] at h6 ⊢
      obtain ⟨zs, hzs⟩ : ∃ zs, zs = xs ++ [(n : Int)] := ⟨_, rfl⟩
      rw [← hzs] at h6 hzl
      have HZ64 : Hid (∀ i, i < k + 1 → in64 (zi zs i)) := fun i hi => by
        have hiz : i < zs.length := by rw [← cellsI_len]; omega
        rw [zi_at hiz]
        have hmem := List.getElem_mem hiz
        generalize zs[i] = x at *
        rw [hzs] at hmem
        rcases List.mem_append.1 hmem with hx | hx
        · exact hx64 x hx
        · simp only [List.mem_singleton] at hx
          subst hx
          unfold in64
          omega
      have HZN : Hid (zi zs k = (n : Int)) := by
        show _ = _
        unfold zi
        rw [hzs, List.getD_eq_getElem?_getD, HK.out.1, List.getElem?_concat_length]
        rfl
      have HE : Hid (∀ w', Below w4.heap.size w4 w' → ∀ i, i < k + 1 → ∃ b off, a4 = some ⟨b, off, none⟩ ∧ b < w4.heap.size ∧ w'.cell? ⟨b, off + i, none⟩ = some (.int .i64 (zi zs i))) := fun w' hb i hi => by
        obtain ⟨b, off, e, hlt, c⟩ := row_int h6.row (j := i) (by rw [← cellsI_len]; omega)
        exact ⟨b, off, e, hlt, vcell hb hlt c⟩
      clear h6 g6 k6 A1 A2 A3 A4 HY1 HB4' hzl hzs H5 HB3 hx64 HV
      go_upto_block 0 with fail
      go_cut [13, 14, 15] (fun g_ r_ o_ wx => (∃ (a : Option Addr) (c : Nat), g_ = .slice a m c ∧ Hid (Strs wx (.slice a m c) p.1)) ∧ r_ = .string T ∧ o_ = .bool q ∧ Below w4.heap.size w4 wx)
      case first =>
        go_wp2_with fail
        go_loopg [0, 13, 14, 15, 60] (k + 1) (fun g s_ g_ r_ o_ i_ wr => ∃ (i : Nat) (C D R : List UInt8) (G : List (List UInt8)), i ≤ k + 1 ∧ k + 1 - i ≤ g ∧ i_ = .int .i64 i ∧ s_ = .string (mkB D) ∧ r_ = .string (mkB R) ∧ o_ = .bool true ∧ (∃ a c, g_ = .slice a G.length c) ∧ Hid (OStrs w4.heap.size wr g_ G) ∧ Hid (Inv most l C D R G) ∧ Hid (i = k + 1 → D = []) ∧ Below w4.heap.size w4 wr)
        case atStart => exact ⟨0, [], l, [], [], by omega, by omega, rfl, by rw [HK.out.2.2], rfl, rfl, ⟨_, _, rfl⟩, OStrs.nil_ _ _, inv_start _ _, fun e => (by omega), Below.refl _ _⟩
        case round =>
          obtain ⟨i, C, D, R, G, hi, hg, rfl, rfl, rfl, rfl, ⟨ga, gc, rfl⟩, HO, HI, HD, hbel⟩ := hrel
          have HB := Lib.hid hbel
          by_cases hin : i < k + 1
          · have iw : ((i : Nat) : Int) < (k : Int) + 1 := by omega
            have n0 : (0 : Int) ≤ (i : Int) := by omega
            obtain ⟨b, off, rfl, hlt, cz⟩ := HE.out wr hbel i hin
            obtain ⟨z0, z1⟩ := HZ64.out i hin
            have HLEN := Lib.hid HI.out.len
            obtain ⟨z, hz⟩ : ∃ z, z = zi zs i := ⟨_, rfl⟩
            obtain ⟨N, hN⟩ : ∃ N, N = D.length := ⟨_, rfl⟩
            obtain ⟨sD, hsD⟩ : ∃ sD, sD = mkB D := ⟨_, rfl⟩
            have hsz2 : sD.size = N := by rw [hsD, mkB_size, hN]
            have hN5 : N ≤ 5000 := by have := HLEN.out; have := HK.out.2.1; omega
            obtain ⟨x, hx⟩ : ∃ x : Nat, (if (N : Int) < (if z < 0 then 0 else z) then (N : Int) else if z < 0 then 0 else z) = (x : Int) := by
              by_cases h1 : z < 0
              · exact ⟨0, by rw [if_pos h1, if_neg (by omega)]; rfl⟩
              · by_cases h2 : (N : Int) < z
                · exact ⟨N, by rw [if_neg h1, if_pos h2]⟩
                · exact ⟨z.toNat, by rw [if_neg h1, if_neg h2]; omega⟩
            have hx1 : x ≤ N := by
              by_cases h1 : z < 0
              · rw [if_pos h1] at hx
                split at hx <;> omega
              · rw [if_neg h1] at hx
                split at hx <;> omega
            have HXN : Hid (i = k → x = N) := fun e => by
              have hzn : z = (n : Int) := by rw [hz, e]; exact HZN.out
              have := HLEN.out
              have := HK.out.2.1
              rw [if_neg (show ¬ z < 0 by omega)] at hx
              split at hx <;> omega
            have HX := Lib.hid hx
            obtain ⟨t, ht⟩ : ∃ t, t = sp most (R ++ D.take x) := ⟨_, rfl⟩
            obtain ⟨sR, hsR⟩ : ∃ sR, sR = mkB R := ⟨_, rfl⟩
            obtain ⟨sP, hsP⟩ : ∃ sP, sP = mkB (D.take x) := ⟨_, rfl⟩
            obtain ⟨sRP, hsRP⟩ : ∃ sRP, sRP = mkB (R ++ D.take x) := ⟨_, rfl⟩
            obtain ⟨sD2, hsD2⟩ : ∃ sD2, sD2 = mkB (D.drop x) := ⟨_, rfl⟩
            obtain ⟨T5, hT5⟩ : ∃ T5, T5 = mkB t.2.1 := ⟨_, rfl⟩
            obtain ⟨q5, hq5⟩ : ∃ q5, q5 = t.2.2 := ⟨_, rfl⟩
            obtain ⟨m5, hm5⟩ : ∃ m5, m5 = t.1.length := ⟨_, rfl⟩
            have XS1 : ∀ w, (Instr.slice 9 (.string sD) none (some (.int .i64 (x : Nat))) none).run Try.prog w = .ok (.string sP) w := fun w => by
              rw [hsD, hsP]
              exact slice_to w D (by omega)
            have XS2 : ∀ w, (Instr.slice 9 (.string sD) (some (.int .i64 (x : Nat))) none none).run Try.prog w = .ok (.string sD2) w := fun w => by
              rw [hsD, hsD2]
              exact slice_from w D (by omega)
            have hRP : (R ++ D.take x).length ≤ 5000 := by
              rw [List.length_append, List.length_take]
              have := HLEN.out
              have := HK.out.2.1
              omega
            have AD : ∀ w, (Op.stringOp .add sR sP).run Try.prog w = .ok (.string sRP) w := fun w => by
              have e1 : sRP = sR ++ sP := by rw [hsRP, hsR, hsP, mkB_app]
              rw [e1]
              refine run_string_add_sum w _ _ ?_
              rw [List.length_append] at hRP
              rw [hsR, hsP, mkB_size, mkB_size]
              omega
            have C5 : Hid (Calls Try.prog 9 #[.string sRP, .int .i64 most] wr fun e w' => ∃ a cap, e = .returned (.tuple #[.slice a m5 cap, .string T5, .bool q5]) ∧ m5 ≤ cap ∧ cap ≤ maxLen ∧ Strs w' (.slice a m5 cap) t.1 ∧ Below wr.heap.size wr w') := by
              rw [hm5, hT5, hq5, hsRP, ht]
              exact split_call POK (by omega) hm
            have HNX := Lib.hid (HI.out.next x)
            rw [← ht] at HNX
            have HM5 : Hid (m5 = t.1.length ∧ m5 ≤ 5000 ∧ G.length ≤ 5000) := ⟨hm5, by
              have := sp_rest most _ (R ++ D.take x) (Nat.le_refl _)
              rw [← ht] at this
              omega, by
              have := HLEN.out
              have := HK.out.2.1
              omega⟩
            have HT5 : Hid (T5 = mkB t.2.1 ∧ q5 = t.2.2 ∧ sD2 = mkB (D.drop x)) := ⟨hT5, hq5, hsD2⟩
            have HDZ : Hid (x = N → D.drop x = []) := fun e => List.drop_of_length_le (by omega)
            rw [← hsD, ← hsR]
            rw [← hz] at cz
            have x0 : (0 : Int) ≤ (x : Int) := by omega
            have xN : (x : Int) ≤ (N : Int) := by omega
            clear hbel hz hN hsD hx ht hsR hsP hsRP hsD2 hT5 hq5 hm5 HI hRP HLEN
            go_upto_region 13 with fail
            rw [HX.out]
            clear HX
            generalize (if z < 0 then (0 : Int) else z) = z5
            go_wp2_with fail
            refine C5.out.mono ?_
            rintro e w5 ⟨a5, c5, rfl, h5a, h5b, R5, b5⟩
            have HB5 := Lib.hid (below_on HB.out b5)
            have A1 : Hid (Rk.OwnK 9 1 w4.heap.size w5 (.slice ga G.length gc) (cellsT G)) := HO.out.below b5
            have A2 : Hid (Rk.RowK 1 w5 (.slice a5 m5 c5) (cellsT t.1)) := R5
            have A3 : Hid ((cellsT G).length + (cellsT t.1).length ≤ 100000) := by show _ ≤ _; rw [cellsT_len, cellsT_len]; have := HM5.out; omega
            have A4 : Hid (w4.heap.size ≤ w5.heap.size) := HB5.out.size
            clear b5 R5 C5 HO
            go_wp2_with (at_builtin; refine Rk.wpList_append_rowk rfl _ _ 24 9 1 16 _ Try.underlying24 infoS rfl (by decide) (by decide) rfl w4.heap.size _ _ (cellsT G) (cellsT t.1) rfl rfl A1.out A2.out (cellsT_one _) A3.out A4.out ?_)
            intro v6 w6 h6 g6 k6
            have K6 : Hid (OStrs w4.heap.size w6 v6 (G ++ t.1)) := by
              show Rk.OwnK _ _ _ _ _ _
              rw [cellsT_app]
              exact h6
            have HB6 := Lib.hid (A1.out.belowOf HB5.out (Nat.le_refl _) A4.out g6)
            clear h6 g6 k6 A1 A2 A3 A4
            obtain ⟨a6, c6, rfl, _, _⟩ := K6.out.read.is_slice
            go_upto_region 15 with fail
            go_quiet (fail)
            have KD := Lib.hid (d_drews (Below.refl w6.heap.size w6) nq)
            generalize w6.drewN nq = w7 at KD ⊢
            have HB7 := Lib.hid (below_on HB6.out KD.out)
            have K7 : Hid (OStrs w4.heap.size w7 (.slice a6 (G ++ t.1).length c6) (G ++ t.1)) := K6.out.below KD.out
            clear K6 HB6 KD
            cases q5 with
            | true =>
              have HI2 := Lib.hid (HNX.out.1 HT5.out.2.1.symm)
              have HD2 : Hid (i + 1 = k + 1 → D.drop x = []) := fun e => HDZ.out (HXN.out (by omega))
              go_wp2_with fail
              go_roundg (k + 1 - (i + 1))
              case measure => omega
              case rel => exact ⟨i + 1, C ++ D.take x, D.drop x, t.2.1, G ++ t.1, by omega, Nat.le_refl _, by go_num, by rw [HT5.out.2.2], by rw [HT5.out.1], rfl, ⟨_, _, rfl⟩, K7, HI2, HD2, HB7.out⟩
            | false =>
              have HF : Hid (p = (G ++ t.1, t.2.1, false)) := by
                show _ = _
                rw [HP.out.1]
                exact HNX.out.2 HT5.out.2.1.symm
              have HM : Hid ((G ++ t.1).length = m) := by show _ = _; rw [HP.out.2.2.2, HF.out]
              have HT : Hid (T5 = T ∧ false = q) := ⟨by rw [HP.out.2.1, HT5.out.1, HF.out], by rw [HP.out.2.2.1, HF.out]⟩
              have K8 : Hid (Strs w7 (.slice a6 m c6) p.1) := by
                have := K7.out.read
                rw [HM.out] at this
                rw [HF.out]
                exact this
              go_wp2_with fail
              go_meet
              exact ⟨⟨a6, c6, by rw [HM.out], K8⟩, by rw [HT.out.1], by rw [HT.out.2], HB7.out⟩
          · obtain rfl : i = k + 1 := by omega
            have iw : ¬ (((k + 1 : Nat) : Int) < (k : Int) + 1) := by omega
            have hD := HD.out rfl
            have HI2 := HI.out
            rw [hD] at HI2
            have HF : Hid (p = (G, R, true)) := by
              show _ = _
              rw [HP.out.1]
              exact HI2.all
            have HM : Hid (G.length = m) := by show _ = _; rw [HP.out.2.2.2, HF.out]
            have HT : Hid (mkB R = T ∧ true = q) := ⟨by rw [HP.out.2.1, HF.out], by rw [HP.out.2.2.1, HF.out]⟩
            have K8 : Hid (Strs wr (.slice ga m gc) p.1) := by
              have := HO.out.read
              rw [HM.out] at this
              rw [HF.out]
              exact this
            clear hD HI2
            go_wp2_with fail
            go_meet
            exact ⟨⟨ga, gc, by rw [HM.out], K8⟩, by rw [HT.out.1], by rw [HT.out.2], HB.out⟩
      case rest =>
        obtain ⟨⟨a8, c8, rfl, K8⟩, rfl, rfl, hb8⟩ := hcut
        have HB8 := Lib.hid (below_on HB4.out hb8)
        have hX : sameX p.1 p.1 = true := decide_eq_true rfl
        have C9 : Hid (Calls Try.prog 11 #[.slice a8 m c8, .slice a1 m c1] wc fun e w' => e = .returned (.bool true) ∧ Below wc.heap.size wc w') := by
          have := rSame_any wc K8.out (HR1.out.below hb8)
          rw [hX] at this
          exact this
        clear hX hb8
        go_wp2_with fail
        refine C9.out.mono ?_
        rintro e w9 ⟨rfl, b9⟩
        have HB9 := Lib.hid (below_on HB8.out b9)
        clear b9
        go_wp2_with fail
        go_ret
        exact ⟨by first | rfl | (simp; done), HB9.out⟩
end Go.Proofs.Ytehmngdacjpflaa.Frm
