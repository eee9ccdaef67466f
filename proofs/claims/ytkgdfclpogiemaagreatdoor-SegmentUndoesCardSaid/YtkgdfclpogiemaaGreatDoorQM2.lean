/- Contracts: Put and Take of the plain text. Contract: Take of the plain text. Contract: Part of the plain text. Contract: Drop of the plain text. -/
import Derived.Test.YtkgdfclpogiemaaGreatDoorQM1
import Derived.Test.YtkgdfclpogiemaaGreatDoorQA2
import Derived.RegionTactic
import Derived.ChangeAlike
import Derived.BigRegion
import Derived.Deep.RegionLaw
set_option linter.unusedVariables false
set_option maxRecDepth 100000
namespace Go.Proofs.YtkgdfclpogiemaaGreatDoor.Rig
open Go.RowKit Go.Lib Go.Proofs.YtkgdfclpogiemaaGreatDoor.Rt

theorem letters_len (S : List Sp) (n : Nat) : (letters S n).length = n := by simp [letters]
theorem at_take2 {xs : List Int} {i j : Nat} (h : j < i) : at_ (xs.take i) j = at_ xs j := by
  unfold at_
  rw [List.getD_eq_getElem?_getD, List.getD_eq_getElem?_getD, List.getElem?_take_of_lt h]
theorem at_drop2 (xs : List Int) (i j : Nat) : at_ (xs.drop i) j = at_ xs (i + j) := by
  unfold at_
  rw [List.getD_eq_getElem?_getD, List.getD_eq_getElem?_getD, List.getElem?_drop]
theorem Ints.take_ {w : World} {g off n c : Nat} {ys : List Int} (h : Ints w (.slice (some ⟨g, off, none⟩) n c) ys) (hn : n = ys.length) (i : Nat) (hi : i ≤ n) : Ints w (.slice (some ⟨g, off, none⟩) i c) (ys.take i) := by
  obtain ⟨h0, a, cap, hv, h1, h2, h3⟩ := h
  have hl : (ys.take i).length = i := by rw [List.length_take]; omega
  injection hv with e1 e2 e3
  subst e3
  refine ⟨fun x hx => h0 x (List.mem_of_mem_take hx), some ⟨g, off, none⟩, c, by rw [hl], by omega, h2, ?_⟩
  rcases h3 with h3 | ⟨b, o, e, hb, hc⟩
  · left; rw [h3, List.take_nil]
  · rw [← e1] at e
    refine .inr ⟨b, o, e, hb, fun j hj => ?_⟩
    rw [hl] at hj
    rw [at_take2 hj]
    exact hc j (by omega)
theorem Ints.drop_ {w : World} {g off n c : Nat} {ys : List Int} (h : Ints w (.slice (some ⟨g, off, none⟩) n c) ys) (hn : n = ys.length) (i : Nat) (hi : i ≤ n) : Ints w (.slice (some ⟨g, off + i, none⟩) (n - i) (c - i)) (ys.drop i) := by
  obtain ⟨h0, a, cap, hv, h1, h2, h3⟩ := h
  have hl : (ys.drop i).length = n - i := by rw [List.length_drop]; omega
  injection hv with e1 e2 e3
  subst e3
  refine ⟨fun x hx => h0 x (List.mem_of_mem_drop hx), some ⟨g, off + i, none⟩, c - i, by rw [hl], by omega, by omega, ?_⟩
  rcases h3 with h3 | ⟨b, o, e, hb, hc⟩
  · left; rw [h3, List.drop_nil]
  · rw [← e1] at e
    injection e with e
    injection e with e2 e3
    subst e2 e3
    refine .inr ⟨g, off + i, rfl, hb, fun j hj => ?_⟩
    rw [hl] at hj
    rw [at_drop2, Nat.add_assoc]
    exact hc (i + j) (by omega)
theorem Ints.none_of {w : World} {g off c : Nat} (hg : c ≤ maxLen) : Ints w (.slice (some ⟨g, off, none⟩) 0 c) [] := ⟨fun x hx => by simp at hx, _, c, rfl, Nat.zero_le _, hg, .inl rfl⟩

def putLs (ys : List Int) (i k : Nat) (mk : Int) : List Int := ys.take i ++ (List.replicate k (max mk 0) ++ ys.drop i)
def shift (at' : Int) (k : Int) (s : St) : St := if at' < s.a then ⟨s.m, s.a + k⟩ else s
/-- The sites, each carried by g, in their places (a site that stands already is not added). -/
def mapT (g : St → St) (T : List St) : Nat → List St
  | 0 => []
  | i + 1 => siteL (mapT g T i) (g (st T i))
theorem mapT_len (g : St → St) (T : List St) : ∀ i, (mapT g T i).length ≤ i
  | 0 => Nat.le_refl _
  | i + 1 => by
    have h1 := mapT_len g T i
    have h2 := siteL_len (mapT g T i) (g (st T i))
    unfold mapT
    omega

theorem block_frozen {w : World} {g j : Nat} {cur : Array Value} {t : TypeId} (h : w.heap[g]? = some (.cells cur t (0, 0))) : w.frozen? ⟨g, j, none⟩ = false := frozen_of_row w g j cur t h
theorem two_slices {w : World} {B o : Nat} {T : TypeId} {a1 a2 : Option Addr} {n1 c1 n2 c2 : Nat} {x : Int} (h : w.heap[B]? = some (.cells #[.slice a1 n1 c1, .slice a2 n2 c2] T (0, 0))) : w.cell? ⟨B, o, none⟩ ≠ some (.int .i64 x) := by
  rw [cell_of_row _ _ _ _ _ _ h]
  match o with
  | 0 => simp
  | 1 => simp
  | o + 2 => simp
theorem Fl.setBlock {w : World} {v u : Value} {n k : Nat} {zs : List Int} {B i : Nat} {T : TypeId} {a1 a2 : Option Addr} {n1 c1 n2 c2 : Nat} (h : Fl w v n k zs) (hk : 0 < k) (hB : w.heap[B]? = some (.cells #[.slice a1 n1 c1, .slice a2 n2 c2] T (0, 0))) : Fl (w.setCell ⟨B, i, none⟩ u) v n k zs := by
  obtain ⟨h0, h0', a, cap, rfl, h1, h2, h3⟩ := h
  refine ⟨h0, h0', a, cap, rfl, h1, h2, ?_⟩
  rcases h3 with h3 | ⟨b, off, rfl, hlt, hc⟩
  · exact .inl h3
  · by_cases hn : n = 0
    · exact .inl hn
    · have hne : b ≠ B := by
        rintro rfl
        have := hc 0 (Nat.mul_pos (Nat.pos_of_ne_zero hn) hk)
        exact two_slices hB this
      refine .inr ⟨b, off, rfl, by simpa using hlt, fun j hj => ?_⟩
      rw [World.cell?_of_block (w := w) (a := ⟨b, off + j, none⟩) (Below.heap_setCell w ⟨B, i, none⟩ u b (by exact hne))]
      exact hc j hj

/-- It hands marks back; nothing old has turned. -/
def GivesM (w : World) (S : List Sp) (T : List St) (e : Ending) (w' : World) : Prop := ∃ v1 v2, e = .returned (.agg #[v1, v2]) ∧ Spans w' v1 S ∧ Sites w' v2 T ∧ Below w.heap.size w w'

set_option maxRecDepth 100000 in
set_option maxHeartbeats 8000000 in
theorem rput_any {sv tv : Value} {S : List Sp} {T : List St} (n at' k : Nat) (mk : Int) (w : World) (hS : Spans w sv S) (hT : Sites w tv T) (hn : n ≤ 3000) (hat : at' ≤ n) (hk : k ≤ 3000) (hmk : i64 mk) (hTn : T.length ≤ 3000)
    (hok : ∀ j, j < S.length → 0 ≤ (sp S j).f ∧ (sp S j).f ≤ (sp S j).t ∧ (sp S j).t ≤ (n : Int)) (hst : ∀ j, j < T.length → 0 ≤ (st T j).a ∧ (st T j).a ≤ (n : Int)) :
    Calls Tryz.prog 79 #[.agg #[sv, tv], .int .i64 n, .int .i64 at', .int .i64 k, .int .i64 mk] w (GivesM w (runs (putLs (letters S n) at' k mk)) (mapT (shift at' k) T T.length)) := by
  have hll := letters_len S n
  obtain ⟨ta, tc, rfl, hlt, hct, hT1⟩ := hT.open_
  have HT := Lib.hid hT1
  have HST := Lib.hid hst
  have C1 : Hid (∀ w', Below w.heap.size w w' → Calls Tryz.prog 67 #[.agg #[sv, .slice ta T.length tc], .int .i64 n] w' (NewE w' n (letters S n))) := fun w' hb => each_any n w' (hS.below hb (Nat.le_refl _)) (hT.below hb (Nat.le_refl _)) (by omega) hok
  obtain ⟨sa, sc, rfl⟩ := hS.is_slice
  generalize S.length = ns at *
  obtain ⟨nt, hnt⟩ : ∃ nt, nt = T.length := ⟨_, rfl⟩
  rw [← hnt] at hlt hTn C1 ⊢
  replace hnt := Lib.hid hnt
  obtain ⟨ys, hys⟩ : ∃ ys, ys = letters S n := ⟨_, rfl⟩
  rw [← hys] at C1 hll ⊢
  have HYL := Lib.hid hll
  have HYS := Lib.hid hys
  obtain ⟨mk1, mk2⟩ := hmk
  obtain ⟨W0, hW0⟩ : ∃ W0, W0 = (w.alloc (.cells #[.slice sa ns sc, .slice ta nt tc] 78)).alloc (.cells #[.slice none 0 0, .slice none 0 0] 78) := ⟨_, rfl⟩
  have b0 : Below w.heap.size w W0 := by rw [hW0]; exact ((Below.refl _ _).alloc (Nat.le_refl _) _).alloc (by simp) _
  have h0 : W0.heap[w.heap.size]? = some (.cells #[.slice sa ns sc, .slice ta nt tc] 78 (0, 0)) := by
    rw [hW0, Below.heap_alloc _ _ _ (by simp)]
    exact heap_alloc_new _ _
  have h0' : W0.heap[w.heap.size + 1]? = some (.cells #[.slice none 0 0, .slice none 0 0] 78 (0, 0)) := by
    have := heap_alloc_new (w.alloc (.cells #[.slice sa ns sc, .slice ta nt tc] 78)) (.cells #[.slice none 0 0, .slice none 0 0] 78)
    rw [hW0]
    simpa using this
  have l0 : w.heap.size + 2 ≤ W0.heap.size := by rw [hW0]; simp
  have HW0 := Lib.hid hW0
  have B0 := Lib.hid b0
  have H0 := Lib.hid h0
  have H0' := Lib.hid h0'
  clear hT1 hS hT h0 h0' hW0 b0 hok hst hys hll
  go_enter Tryz.func79, Tryz.ntmps79
  go_wp2_with fail
  rw [← HW0.out]
  refine (C1.out _ B0.out).mono ?_
  rintro e w1 ⟨rfl, hO, hb1⟩
  have I1 := Lib.hid hO.ints
  have HB1 := Lib.hid (below_more B0.out hb1)
  have HBW0 := Lib.hid hb1
  have A1 := Lib.hid (World.ownsRow_nil w1 w1.heap.size 3 1)
  obtain ⟨p, hp⟩ : ∃ p, p = ys.take at' := ⟨_, rfl⟩
  have A2 := Lib.hid (I1.out.take_ HYL.out.symm at' hat)
  have hpl : p.length ≤ 3000 := by rw [hp, List.length_take]; omega
  rw [← hp] at A2
  have HP := Lib.hid hp
  have HPI : Hid (∀ x ∈ p, i64 x) := fun x hx => I1.out.1 x (List.mem_of_mem_take (by rw [← hp]; exact hx))
  have A3 : Hid (0 + p.length ≤ 100000) := by show _ ≤ _; omega
  have A4 : Hid (w1.heap.size ≤ w1.heap.size) := Nat.le_refl _
  obtain ⟨G, hG⟩ : ∃ G, G = W0.heap.size + 1 := ⟨_, rfl⟩
  rw [← hG] at A2 I1 ⊢
  have i0 : (0 : Int) ≤ (at' : Int) := by omega
  have i1 : (at' : Int) ≤ (n : Int) := by omega
  clear hO hb1 C1 hG hp
  go_wp2_with (at_builtin; refine wpList_append_ints rfl _ _ rfl w1.heap.size _ 0 [] rfl A1.out _ p rfl A2.out A3.out A4.out ?_)
  intro v2 w2 h2 g2
  have L2 : Hid (OwnI w1.heap.size w2 v2 p) := ⟨by first | exact h2 | simpa using h2, HPI.out⟩
  have HB2 : Hid (Below w1.heap.size w1 w2) := ⟨g2.os, g2.tape, g2.output, g2.size, fun q hq => g2.block q hq (by simp [Value.ownBlock])⟩
  clear h2 g2 A1 A2 A3 A4
  obtain ⟨mx, hmx⟩ : ∃ mx, mx = max mk 0 := ⟨_, rfl⟩
  have MX : Hid (mx = max mk 0) := hmx
  have mx1 : 0 ≤ mx := by omega
  have mx2 : mx ≤ 9223372036854775807 := by omega
  have mxp : 0 ≤ mk → mx = mk := by omega
  have mxn : mk < 0 → mx = 0 := by omega
  have MXP := Lib.hid mxp
  have MXN := Lib.hid mxn
  clear hmx mxp mxn
  go_wp2_with fail
  go_loopw [12, 13] (fun t i wr => ∃ j : Nat, j ≤ k ∧ i = .int .i64 j ∧ Hid (OwnI w1.heap.size wr t (p ++ List.replicate j mx)) ∧ Below w1.heap.size w1 wr) (fun _ i _ => k - (RowKit.intOf i).toNat)
  case atStart => exact ⟨0, Nat.zero_le _, rfl, by rw [List.replicate_zero, List.append_nil]; exact L2.out, HB2.out⟩
  case round =>
    obtain ⟨j, hj, rfl, HO, hbel⟩ := hrel
    obtain ⟨zs, hzs⟩ : ∃ zs, zs = p ++ List.replicate j mx := ⟨_, rfl⟩
    have hzl : zs.length ≤ 6000 := by rw [hzs, List.length_append, List.length_replicate]; omega
    rw [← hzs] at HO
    obtain ⟨ao, co, rfl⟩ := HO.out.is_slice
    have HBwr := Lib.hid hbel
    by_cases hjk : j < k
    · have A1 := Lib.hid (OwnI.below HO.out ((Below.refl _ wr).alloc (Nat.le_refl _) (.cells #[.int .i64 mx] 3)))
      have A2 := Lib.hid (heap_alloc_new wr (.cells #[.int .i64 mx] 3))
      have A3 : Hid (zs.length ≤ 10000) := by show _ ≤ _; omega
      have A4 : Hid (w1.heap.size ≤ (wr.alloc (.cells #[.int .i64 mx] 3)).heap.size) := by show _ ≤ _; have := HBwr.out.size; simp; omega
      have A5 : Hid (i64 mx) := ⟨by omega, by omega⟩
      have HZ := Lib.hid hzs
      clear hbel hzs HT
      by_cases hm : 0 ≤ mk
      · have e : mx = mk := MXP.out hm
        have dm : ¬ mk < 0 := by omega
        subst e
        go_wp2_with (at_builtin; refine wpList_append_one rfl _ _ rfl w1.heap.size _ _ rfl A1.out wr.heap.size _ rfl A2.out A5.out A3.out A4.out ?_)
        intro v5 w5 h5 g5
        have K5 : Hid (OwnI w1.heap.size w5 v5 (p ++ List.replicate (j + 1) mx)) := by
          show OwnI _ _ _ _
          rw [List.replicate_succ', ← List.append_assoc, ← HZ.out]
          exact h5
        have B5 := Lib.hid ((HBwr.out.alloc HBwr.out.size _).grown g5 A4.out (fun q e => (A1.out.block q e).1))
        obtain ⟨a5, c5, rfl⟩ := K5.out.is_slice
        generalize (p ++ List.replicate (j + 1) mx).length = l5 at *
        clear h5 g5 A1 A2 A3 A4 A5 HO HZ
        go_wp2_with fail
        go_roundw
        case rel => exact ⟨j + 1, by omega, by go_num, K5.out, B5.out⟩
        case measure => simp [RowKit.intOf]; omega
      · have e : mx = 0 := MXN.out (by omega)
        have dm : mk < 0 := by omega
        subst e
        go_wp2_with (at_builtin; refine wpList_append_one rfl _ _ rfl w1.heap.size _ _ rfl A1.out wr.heap.size _ rfl A2.out A5.out A3.out A4.out ?_)
        intro v5 w5 h5 g5
        have K5 : Hid (OwnI w1.heap.size w5 v5 (p ++ List.replicate (j + 1) 0)) := by
          show OwnI _ _ _ _
          rw [List.replicate_succ', ← List.append_assoc, ← HZ.out]
          exact h5
        have B5 := Lib.hid ((HBwr.out.alloc HBwr.out.size _).grown g5 A4.out (fun q e => (A1.out.block q e).1))
        obtain ⟨a5, c5, rfl⟩ := K5.out.is_slice
        generalize (p ++ List.replicate (j + 1) 0).length = l5 at *
        clear h5 g5 A1 A2 A3 A4 A5 HO HZ
        go_wp2_with fail
        go_roundw
        case rel => exact ⟨j + 1, by omega, by go_num, K5.out, B5.out⟩
        case measure => simp [RowKit.intOf]; omega
    · obtain rfl : j = k := by omega
      have A4 : Hid (w1.heap.size ≤ wr.heap.size) := hbel.size
      have hyl : ys.length = n := HYL.out
      have IW := Lib.hid (I1.out.below hbel (Nat.le_refl _))
      obtain ⟨q, hq⟩ : ∃ q, q = ys.drop at' := ⟨_, rfl⟩
      have hql : q.length ≤ 3000 := by rw [hq, List.length_drop]; omega
      have HQI : Hid (∀ x ∈ q, i64 x) := fun x hx => I1.out.1 x (List.mem_of_mem_drop (by rw [← hq]; exact hx))
      have A3 : Hid (zs.length + q.length ≤ 100000) := by show _ ≤ _; omega
      have RES : Hid (zs ++ q = putLs ys at' j mk) := by
        show _ = _
        rw [hzs, hq, HP.out, List.append_assoc]
        unfold putLs
        rw [show max mk 0 = mx by by_cases hm : 0 ≤ mk <;> first | (rw [MXP.out hm]; omega) | (rw [MXN.out (by omega)]; omega)]
      have HAP : Hid (∀ (v5 : Value) (w5 : World), w5.ownsRow w1.heap.size 3 1 v5 (zs.length + q.length) (ints zs ++ ints q) → wr.grownBy w5 (Value.slice ao zs.length co).ownBlock → OwnI w1.heap.size w5 v5 (putLs ys at' j mk) ∧ Below w1.heap.size w1 w5) := fun v5 w5 h5 g5 => by
        refine ⟨⟨?_, fun x hx => ?_⟩, HBwr.out.grown g5 A4.out (fun b e => (HO.out.block b e).1)⟩
        · rw [← RES.out, List.length_append, ints_app]
          exact h5
        · rw [← RES.out, List.mem_append] at hx
          rcases hx with hx | hx
          · exact HO.out.2 x hx
          · exact HQI.out x hx
      have HPL : Hid ((putLs ys at' j mk).length ≤ 10000) := by
        show _ ≤ _
        rw [← RES.out, List.length_append]
        omega
      have OW : Hid (wr.ownsRow w1.heap.size 3 1 (.slice ao zs.length co) zs.length (ints zs)) := HO.out.1
      have SRC : Hid (∃ a' c', (Value.slice (if n = at' then some ⟨G, 0, none⟩ else some ⟨G, at', none⟩) (n - at') (n - at')) = .slice a' q.length c' ∧ Ints wr (.slice (if n = at' then some ⟨G, 0, none⟩ else some ⟨G, at', none⟩) (n - at') (n - at')) q) := by
        have hl : q.length = n - at' := by rw [hq, List.length_drop]; omega
        refine ⟨_, _, by rw [hl], ?_⟩
        by_cases e : n = at'
        · rw [if_pos e]
          have : q = [] := List.eq_nil_of_length_eq_zero (by omega)
          rw [this, show n - at' = 0 by omega]
          exact Ints.none_of (Nat.zero_le _)
        · rw [if_neg e]
          have := IW.out.drop_ hyl.symm at' hat
          rw [Nat.zero_add, ← hq] at this
          exact this
      clear hbel hzs hyl hq HO
      by_cases hend : n = at'
      · have A2 : Hid (Ints wr (.slice (some ⟨G, 0, none⟩) 0 0) q) := by
          obtain ⟨_, _, _, hsrc⟩ := SRC.out
          rw [if_pos hend, show n - at' = 0 by omega] at hsrc
          exact hsrc
        clear SRC
        subst hend
        go_wp2_with (at_builtin; refine wpList_append_ints rfl _ _ rfl w1.heap.size _ zs.length _ rfl OW.out _ q rfl A2.out A3.out A4.out ?_)
        intro v5 w5 h5 g5
        obtain ⟨P5, hB5⟩ := HAP.out v5 w5 (by first | exact h5 | simpa using h5) g5
        have CS6 := Lib.hid (spans_any w5 P5.ints HPL.out)
        have HB5 := Lib.hid hB5
        obtain ⟨a5, c5, rfl⟩ := P5.is_slice
        generalize (putLs ys n j mk).length = l5 at *
        clear P5 hB5 HAP h5 g5 OW A2 A3 A4 HPL RES IW HQI
        go_wp2_with fail
        refine CS6.out.mono ?_
        rintro e w6 ⟨v6, rfl, hS6, hb6⟩
        have HB6 := Lib.hid (below_more (below_more HB1.out HB5.out) hb6)
        have HX6 := Lib.hid (below_more (below_more HBW0.out HB5.out) hb6)
        have SP6 := Lib.hid hS6.spans
        obtain ⟨a6, c6, rfl⟩ := hS6.is_slice
        obtain ⟨RU, hRU⟩ : ∃ RU, RU = runs (putLs ys n j mk) := ⟨_, rfl⟩
        rw [← hRU] at SP6 ⊢
        generalize RU.length = r6 at *
        have HRU := Lib.hid hRU
        clear hS6 hb6 CS6 hRU
        have lw0 := l0
        go_wp2_with fail
        go_loopw [15] (fun t wr => ∃ (i : Nat) (tv : Value), i ≤ nt ∧ t = .int .i64 i ∧ Hid (wr.heap[w6.heap.size]? = some (.cells #[.slice a6 r6 c6, tv] 78 (0, 0))) ∧ Hid (Sites wr tv (mapT (shift n j) T i)) ∧ Below w6.heap.size w6 wr) (fun t _ => nt - (RowKit.intOf t).toNat)
        case atStart =>
          exact ⟨0, .slice none 0 0, Nat.zero_le _, rfl, heap_alloc_new _ _, Sites.nil_ _, (Below.refl _ _).alloc (Nat.le_refl _) _⟩
        case round =>
          obtain ⟨i, tv, hi, rfl, HK, HTV, hbel⟩ := hrel
          have HBw := Lib.hid (below_more HB6.out hbel)
          have HX := Lib.hid (below_more HX6.out hbel)
          have h66 : w6.heap.size < wr.heap.size := by
            rcases Nat.lt_or_ge w6.heap.size wr.heap.size with h | h
            · exact h
            · have := HK.out; rw [Array.getElem?_eq_none h] at this; cases this
          have s6 : W0.heap.size ≤ w6.heap.size := HX6.out.size
          have x0 : wr.cell? ⟨w.heap.size, 0, none⟩ = some (.slice sa ns sc) := below_cell HX.out (by omega) (by rw [cell_of_row _ _ _ _ _ _ H0.out]; rfl)
          have x1 : wr.cell? ⟨w.heap.size, 1, none⟩ = some (.slice ta nt tc) := below_cell HX.out (by omega) (by rw [cell_of_row _ _ _ _ _ _ H0.out]; rfl)
          have k0 : wr.cell? ⟨w6.heap.size, 0, none⟩ = some (.slice a6 r6 c6) := by rw [cell_of_row _ _ _ _ _ _ HK.out]; rfl
          have k1 : wr.cell? ⟨w6.heap.size, 1, none⟩ = some tv := by rw [cell_of_row _ _ _ _ _ _ HK.out]; rfl
          obtain ⟨at1, ct1, rfl⟩ := HTV.out.is_slice
          have hpl2 := mapT_len (shift n j) T i
          by_cases hlt2 : i < nt
          · have hil : i < T.length := by rw [← hnt.out]; exact hlt2
            obtain ⟨b, off, rfl, hb, ⟨⟨m1, m2⟩, ⟨q1, q2⟩⟩, c0, c1⟩ := HT.out i hil
            obtain ⟨z1, z2⟩ := HST.out i hil
            have EQ : Hid (mapT (shift n j) T (i + 1) = siteL (mapT (shift n j) T i) (shift n j (st T i))) := rfl
            have hse : ∃ e, e = st T i := ⟨_, rfl⟩
            obtain ⟨e, he⟩ := hse
            rw [← he] at m1 m2 q1 q2 c0 c1 EQ z1 z2
            obtain ⟨m, f⟩ := e
            simp only at m1 m2 q1 q2 c0 c1 EQ z1 z2
            replace c0 := below_cell HBw.out hb c0
            replace c1 := below_cell HBw.out hb c1
            have SITE : Hid (∀ (s : St) w', St.good s → Below wr.heap.size wr w' → Calls Tryz.prog 69 #[.slice at1 (mapT (shift n j) T i).length ct1, .agg #[.int .i64 s.m, .int .i64 s.a]] w' (GivesSt w' (siteL (mapT (shift n j) T i) s))) := fun s w' hg hb' => site_any s w' (HTV.out.below hb' (Nat.le_refl _)) hg (by omega)
            have DONE : Hid (∀ (s : St) (w8 : World) (v8 : Value), shift n j ⟨m, f⟩ = s → Below wr.heap.size wr w8 → Sites w8 v8 (siteL (mapT (shift n j) T i) s) → Sites (w8.setCell ⟨w6.heap.size, 1, none⟩ v8) v8 (mapT (shift n j) T (i + 1)) ∧ (w8.setCell ⟨w6.heap.size, 1, none⟩ v8).heap[w6.heap.size]? = some (.cells #[.slice a6 r6 c6, v8] 78 (0, 0)) ∧ Below w6.heap.size w6 (w8.setCell ⟨w6.heap.size, 1, none⟩ v8) ∧ w8.cell? ⟨w6.heap.size, 1, none⟩ = some (.slice at1 (mapT (shift n j) T i).length ct1) ∧ w8.frozen? ⟨w6.heap.size, 1, none⟩ = false) := fun s w8 v8 hs hb8 h8 => by
              have hK8 : w8.heap[w6.heap.size]? = some (.cells #[.slice a6 r6 c6, .slice at1 (mapT (shift n j) T i).length ct1] 78 (0, 0)) := by
                rw [hb8.block _ h66]
                exact HK.out
              refine ⟨?_, ?_, ?_, ?_, block_frozen hK8⟩
              · rw [EQ.out, hs]
                exact Fl.setBlock h8 (by decide) hK8
              · rw [heap_setCell_same _ _ _ _ _ _ hK8]
                rfl
              · exact (below_more hbel hb8).setCell (p := ⟨w6.heap.size, 1, none⟩) (Nat.le_refl _) v8
              · rw [cell_of_row _ _ _ _ _ _ hK8]
                rfl
            have KA : Hid (∀ o, Below wr.heap.size wr (wr.alloc o)) := fun o => (Below.refl _ _).alloc (Nat.le_refl _) _
            generalize (mapT (shift n j) T i).length = lp at *
            have hne : ¬ w6.heap.size = wr.heap.size := by omega
            have hne2 : ¬ wr.heap.size = w6.heap.size := by omega
            clear hbel HT HST HK HTV he
            by_cases g1 : (n : Int) < f
            · exact absurd z2 (by omega)
            · have SG := Lib.hid (SITE.out ⟨m, f⟩ (wr.alloc (.cells #[.int .i64 m, .int .i64 f] 106)) (show i64 m ∧ i64 (f) from ⟨⟨by omega, by omega⟩, ⟨by omega, by omega⟩⟩) (KA.out _))
              have BW := Lib.hid (KA.out (.cells #[.int .i64 m, .int .i64 f] 106))
              have SH : Hid (shift n j ⟨m, f⟩ = ⟨m, f⟩) := by show _ = _; unfold shift; rw [if_neg g1]
              clear SITE EQ
              go_wp2_with fail
              refine SG.out.mono ?_
              rintro e w8 ⟨v8, rfl, h8, hb8⟩
              obtain ⟨D1, D2, D3, D4, D5⟩ := DONE.out _ w8 v8 SH.out (below_more BW.out hb8) h8
              have E1 := Lib.hid D1
              have E2 := Lib.hid D2
              have E3 := Lib.hid D3
              obtain ⟨a8, c8, rfl⟩ := h8.is_slice
              have l8 : w6.heap.size < w8.heap.size := Nat.lt_of_lt_of_le h66 (below_more BW.out hb8).size
              clear D1 D2 D3 h8 hb8 SG BW DONE
              go_wp2_with fail
              go_roundw
              case rel => exact ⟨i + 1, _, by omega, by go_num, E2.out, E1.out, E3.out⟩
              case measure => simp [RowKit.intOf]; omega
          · obtain rfl : i = nt := by omega
            have r0 : wr.heap[w.heap.size + 1]? = some (.cells #[.slice none 0 0, .slice none 0 0] 78 (0, 0)) := by
              rw [HX.out.block _ (by omega)]
              exact H0'.out
            have u0 : wr.cell? ⟨w.heap.size + 1, 0, none⟩ = some (.slice none 0 0) := by rw [cell_of_row _ _ _ _ _ _ r0]; rfl
            have u1 : wr.cell? ⟨w.heap.size + 1, 1, none⟩ = some (.slice none 0 0) := by rw [cell_of_row _ _ _ _ _ _ r0]; rfl
            have f0 : wr.frozen? ⟨w.heap.size + 1, 0, none⟩ = false := block_frozen r0
            have f1 : wr.frozen? ⟨w.heap.size + 1, 1, none⟩ = false := block_frozen r0
            have FS := Lib.hid (SP6.out.below hbel (Nat.le_refl _))
            have FIN : Hid (GivesM w (runs (putLs ys n j mk)) (mapT (shift n j) T i) (.returned (.agg #[.slice a6 r6 c6, .slice at1 (mapT (shift n j) T i).length ct1])) ((wr.setCell ⟨w.heap.size + 1, 0, none⟩ (.slice a6 r6 c6)).setCell ⟨w.heap.size + 1, 1, none⟩ (.slice at1 (mapT (shift n j) T i).length ct1))) := by
              have s0 : (wr.setCell ⟨w.heap.size + 1, 0, none⟩ (.slice a6 r6 c6)).heap[w.heap.size + 1]? = some (.cells #[.slice a6 r6 c6, .slice none 0 0] 78 (0, 0)) := by
                rw [heap_setCell_same _ _ _ _ _ _ r0]
                rfl
              show GivesM _ _ _ _ _
              rw [← HRU.out]
              exact ⟨_, _, rfl, Fl.setBlock (Fl.setBlock FS.out (by decide) r0) (by decide) s0, Fl.setBlock (Fl.setBlock HTV.out (by decide) r0) (by decide) s0, (HBw.out.setCell (p := ⟨w.heap.size + 1, 0, none⟩) (Nat.le_succ _) _).setCell (p := ⟨w.heap.size + 1, 1, none⟩) (Nat.le_succ _) _⟩
            have y0 : (wr.setCell ⟨w.heap.size + 1, 0, none⟩ (.slice a6 r6 c6)).cell? ⟨w.heap.size + 1, 0, none⟩ = some (.slice a6 r6 c6) := by
              rw [cell_of_row _ _ _ _ _ _ (by rw [heap_setCell_same _ _ _ _ _ _ r0])]
              rfl
            have y1 : ((wr.setCell ⟨w.heap.size + 1, 0, none⟩ (.slice a6 r6 c6)).setCell ⟨w.heap.size + 1, 1, none⟩ (.slice at1 (mapT (shift n j) T i).length ct1)).cell? ⟨w.heap.size + 1, 1, none⟩ = some (.slice at1 (mapT (shift n j) T i).length ct1) := by
              have s0 : (wr.setCell ⟨w.heap.size + 1, 0, none⟩ (.slice a6 r6 c6)).heap[w.heap.size + 1]? = some (.cells #[.slice a6 r6 c6, .slice none 0 0] 78 (0, 0)) := by
                rw [heap_setCell_same _ _ _ _ _ _ r0]
                rfl
              rw [cell_of_row _ _ _ _ _ _ (by rw [heap_setCell_same _ _ _ _ _ _ s0])]
              rfl
            clear hbel r0
            generalize (mapT (shift n j) T i).length = lp at *
            go_wp2_with fail
            exact bodyPost_ret (v := .agg #[.slice a6 r6 c6, .slice at1 lp ct1]) (by simp [results, Tryz.results79, go_sem, y0, y1]) rfl FIN.out
      · have A2 : Hid (Ints wr (.slice (some ⟨G, at', none⟩) (n - at') (n - at')) q) := by
          obtain ⟨_, _, _, hsrc⟩ := SRC.out
          rw [if_neg hend] at hsrc
          exact hsrc
        clear SRC
        go_wp2_with (at_builtin; refine wpList_append_ints rfl _ _ rfl w1.heap.size _ zs.length _ rfl OW.out _ q rfl A2.out A3.out A4.out ?_)
        intro v5 w5 h5 g5
        obtain ⟨P5, hB5⟩ := HAP.out v5 w5 (by first | exact h5 | simpa using h5) g5
        have CS6 := Lib.hid (spans_any w5 P5.ints HPL.out)
        have HB5 := Lib.hid hB5
        obtain ⟨a5, c5, rfl⟩ := P5.is_slice
        generalize (putLs ys at' j mk).length = l5 at *
        clear P5 hB5 HAP h5 g5 OW A2 A3 A4 HPL RES IW HQI
        go_wp2_with fail
        refine CS6.out.mono ?_
        rintro e w6 ⟨v6, rfl, hS6, hb6⟩
        have HB6 := Lib.hid (below_more (below_more HB1.out HB5.out) hb6)
        have HX6 := Lib.hid (below_more (below_more HBW0.out HB5.out) hb6)
        have SP6 := Lib.hid hS6.spans
        obtain ⟨a6, c6, rfl⟩ := hS6.is_slice
        obtain ⟨RU, hRU⟩ : ∃ RU, RU = runs (putLs ys at' j mk) := ⟨_, rfl⟩
        rw [← hRU] at SP6 ⊢
        generalize RU.length = r6 at *
        have HRU := Lib.hid hRU
        clear hS6 hb6 CS6 hRU
        have lw0 := l0
        go_wp2_with fail
        go_loopw [15] (fun t wr => ∃ (i : Nat) (tv : Value), i ≤ nt ∧ t = .int .i64 i ∧ Hid (wr.heap[w6.heap.size]? = some (.cells #[.slice a6 r6 c6, tv] 78 (0, 0))) ∧ Hid (Sites wr tv (mapT (shift at' j) T i)) ∧ Below w6.heap.size w6 wr) (fun t _ => nt - (RowKit.intOf t).toNat)
        case atStart =>
          exact ⟨0, .slice none 0 0, Nat.zero_le _, rfl, heap_alloc_new _ _, Sites.nil_ _, (Below.refl _ _).alloc (Nat.le_refl _) _⟩
        case round =>
          obtain ⟨i, tv, hi, rfl, HK, HTV, hbel⟩ := hrel
          have HBw := Lib.hid (below_more HB6.out hbel)
          have HX := Lib.hid (below_more HX6.out hbel)
          have h66 : w6.heap.size < wr.heap.size := by
            rcases Nat.lt_or_ge w6.heap.size wr.heap.size with h | h
            · exact h
            · have := HK.out; rw [Array.getElem?_eq_none h] at this; cases this
          have s6 : W0.heap.size ≤ w6.heap.size := HX6.out.size
          have x0 : wr.cell? ⟨w.heap.size, 0, none⟩ = some (.slice sa ns sc) := below_cell HX.out (by omega) (by rw [cell_of_row _ _ _ _ _ _ H0.out]; rfl)
          have x1 : wr.cell? ⟨w.heap.size, 1, none⟩ = some (.slice ta nt tc) := below_cell HX.out (by omega) (by rw [cell_of_row _ _ _ _ _ _ H0.out]; rfl)
          have k0 : wr.cell? ⟨w6.heap.size, 0, none⟩ = some (.slice a6 r6 c6) := by rw [cell_of_row _ _ _ _ _ _ HK.out]; rfl
          have k1 : wr.cell? ⟨w6.heap.size, 1, none⟩ = some tv := by rw [cell_of_row _ _ _ _ _ _ HK.out]; rfl
          obtain ⟨at1, ct1, rfl⟩ := HTV.out.is_slice
          have hpl2 := mapT_len (shift at' j) T i
          by_cases hlt2 : i < nt
          · have hil : i < T.length := by rw [← hnt.out]; exact hlt2
            obtain ⟨b, off, rfl, hb, ⟨⟨m1, m2⟩, ⟨q1, q2⟩⟩, c0, c1⟩ := HT.out i hil
            obtain ⟨z1, z2⟩ := HST.out i hil
            have EQ : Hid (mapT (shift at' j) T (i + 1) = siteL (mapT (shift at' j) T i) (shift at' j (st T i))) := rfl
            have hse : ∃ e, e = st T i := ⟨_, rfl⟩
            obtain ⟨e, he⟩ := hse
            rw [← he] at m1 m2 q1 q2 c0 c1 EQ z1 z2
            obtain ⟨m, f⟩ := e
            simp only at m1 m2 q1 q2 c0 c1 EQ z1 z2
            replace c0 := below_cell HBw.out hb c0
            replace c1 := below_cell HBw.out hb c1
            have SITE : Hid (∀ (s : St) w', St.good s → Below wr.heap.size wr w' → Calls Tryz.prog 69 #[.slice at1 (mapT (shift at' j) T i).length ct1, .agg #[.int .i64 s.m, .int .i64 s.a]] w' (GivesSt w' (siteL (mapT (shift at' j) T i) s))) := fun s w' hg hb' => site_any s w' (HTV.out.below hb' (Nat.le_refl _)) hg (by omega)
            have DONE : Hid (∀ (s : St) (w8 : World) (v8 : Value), shift at' j ⟨m, f⟩ = s → Below wr.heap.size wr w8 → Sites w8 v8 (siteL (mapT (shift at' j) T i) s) → Sites (w8.setCell ⟨w6.heap.size, 1, none⟩ v8) v8 (mapT (shift at' j) T (i + 1)) ∧ (w8.setCell ⟨w6.heap.size, 1, none⟩ v8).heap[w6.heap.size]? = some (.cells #[.slice a6 r6 c6, v8] 78 (0, 0)) ∧ Below w6.heap.size w6 (w8.setCell ⟨w6.heap.size, 1, none⟩ v8) ∧ w8.cell? ⟨w6.heap.size, 1, none⟩ = some (.slice at1 (mapT (shift at' j) T i).length ct1) ∧ w8.frozen? ⟨w6.heap.size, 1, none⟩ = false) := fun s w8 v8 hs hb8 h8 => by
              have hK8 : w8.heap[w6.heap.size]? = some (.cells #[.slice a6 r6 c6, .slice at1 (mapT (shift at' j) T i).length ct1] 78 (0, 0)) := by
                rw [hb8.block _ h66]
                exact HK.out
              refine ⟨?_, ?_, ?_, ?_, block_frozen hK8⟩
              · rw [EQ.out, hs]
                exact Fl.setBlock h8 (by decide) hK8
              · rw [heap_setCell_same _ _ _ _ _ _ hK8]
                rfl
              · exact (below_more hbel hb8).setCell (p := ⟨w6.heap.size, 1, none⟩) (Nat.le_refl _) v8
              · rw [cell_of_row _ _ _ _ _ _ hK8]
                rfl
            have KA : Hid (∀ o, Below wr.heap.size wr (wr.alloc o)) := fun o => (Below.refl _ _).alloc (Nat.le_refl _) _
            generalize (mapT (shift at' j) T i).length = lp at *
            have hne : ¬ w6.heap.size = wr.heap.size := by omega
            have hne2 : ¬ wr.heap.size = w6.heap.size := by omega
            clear hbel HT HST HK HTV he
            by_cases g1 : (at' : Int) < f
            · have SG := Lib.hid (SITE.out ⟨m, f + j⟩ (wr.alloc (.cells #[.int .i64 m, .int .i64 (f + j)] 106)) (show i64 m ∧ i64 (f + (j : Int)) from ⟨⟨by omega, by omega⟩, ⟨by omega, by omega⟩⟩) (KA.out _))
              have BW := Lib.hid (KA.out (.cells #[.int .i64 m, .int .i64 (f + j)] 106))
              have SH : Hid (shift at' j ⟨m, f⟩ = ⟨m, f + j⟩) := by show _ = _; unfold shift; rw [if_pos g1]
              clear SITE EQ
              go_wp2_with fail
              refine SG.out.mono ?_
              rintro e w8 ⟨v8, rfl, h8, hb8⟩
              obtain ⟨D1, D2, D3, D4, D5⟩ := DONE.out _ w8 v8 SH.out (below_more BW.out hb8) h8
              have E1 := Lib.hid D1
              have E2 := Lib.hid D2
              have E3 := Lib.hid D3
              obtain ⟨a8, c8, rfl⟩ := h8.is_slice
              have l8 : w6.heap.size < w8.heap.size := Nat.lt_of_lt_of_le h66 (below_more BW.out hb8).size
              clear D1 D2 D3 h8 hb8 SG BW DONE
              go_wp2_with fail
              go_roundw
              case rel => exact ⟨i + 1, _, by omega, by go_num, E2.out, E1.out, E3.out⟩
              case measure => simp [RowKit.intOf]; omega
            · have SG := Lib.hid (SITE.out ⟨m, f⟩ (wr.alloc (.cells #[.int .i64 m, .int .i64 f] 106)) (show i64 m ∧ i64 (f) from ⟨⟨by omega, by omega⟩, ⟨by omega, by omega⟩⟩) (KA.out _))
              have BW := Lib.hid (KA.out (.cells #[.int .i64 m, .int .i64 f] 106))
              have SH : Hid (shift at' j ⟨m, f⟩ = ⟨m, f⟩) := by show _ = _; unfold shift; rw [if_neg g1]
              clear SITE EQ
              go_wp2_with fail
              refine SG.out.mono ?_
              rintro e w8 ⟨v8, rfl, h8, hb8⟩
              obtain ⟨D1, D2, D3, D4, D5⟩ := DONE.out _ w8 v8 SH.out (below_more BW.out hb8) h8
              have E1 := Lib.hid D1
              have E2 := Lib.hid D2
              have E3 := Lib.hid D3
              obtain ⟨a8, c8, rfl⟩ := h8.is_slice
              have l8 : w6.heap.size < w8.heap.size := Nat.lt_of_lt_of_le h66 (below_more BW.out hb8).size
              clear D1 D2 D3 h8 hb8 SG BW DONE
              go_wp2_with fail
              go_roundw
              case rel => exact ⟨i + 1, _, by omega, by go_num, E2.out, E1.out, E3.out⟩
              case measure => simp [RowKit.intOf]; omega
          · obtain rfl : i = nt := by omega
            have r0 : wr.heap[w.heap.size + 1]? = some (.cells #[.slice none 0 0, .slice none 0 0] 78 (0, 0)) := by
              rw [HX.out.block _ (by omega)]
              exact H0'.out
            have u0 : wr.cell? ⟨w.heap.size + 1, 0, none⟩ = some (.slice none 0 0) := by rw [cell_of_row _ _ _ _ _ _ r0]; rfl
            have u1 : wr.cell? ⟨w.heap.size + 1, 1, none⟩ = some (.slice none 0 0) := by rw [cell_of_row _ _ _ _ _ _ r0]; rfl
            have f0 : wr.frozen? ⟨w.heap.size + 1, 0, none⟩ = false := block_frozen r0
            have f1 : wr.frozen? ⟨w.heap.size + 1, 1, none⟩ = false := block_frozen r0
            have FS := Lib.hid (SP6.out.below hbel (Nat.le_refl _))
            have FIN : Hid (GivesM w (runs (putLs ys at' j mk)) (mapT (shift at' j) T i) (.returned (.agg #[.slice a6 r6 c6, .slice at1 (mapT (shift at' j) T i).length ct1])) ((wr.setCell ⟨w.heap.size + 1, 0, none⟩ (.slice a6 r6 c6)).setCell ⟨w.heap.size + 1, 1, none⟩ (.slice at1 (mapT (shift at' j) T i).length ct1))) := by
              have s0 : (wr.setCell ⟨w.heap.size + 1, 0, none⟩ (.slice a6 r6 c6)).heap[w.heap.size + 1]? = some (.cells #[.slice a6 r6 c6, .slice none 0 0] 78 (0, 0)) := by
                rw [heap_setCell_same _ _ _ _ _ _ r0]
                rfl
              show GivesM _ _ _ _ _
              rw [← HRU.out]
              exact ⟨_, _, rfl, Fl.setBlock (Fl.setBlock FS.out (by decide) r0) (by decide) s0, Fl.setBlock (Fl.setBlock HTV.out (by decide) r0) (by decide) s0, (HBw.out.setCell (p := ⟨w.heap.size + 1, 0, none⟩) (Nat.le_succ _) _).setCell (p := ⟨w.heap.size + 1, 1, none⟩) (Nat.le_succ _) _⟩
            have y0 : (wr.setCell ⟨w.heap.size + 1, 0, none⟩ (.slice a6 r6 c6)).cell? ⟨w.heap.size + 1, 0, none⟩ = some (.slice a6 r6 c6) := by
              rw [cell_of_row _ _ _ _ _ _ (by rw [heap_setCell_same _ _ _ _ _ _ r0])]
              rfl
            have y1 : ((wr.setCell ⟨w.heap.size + 1, 0, none⟩ (.slice a6 r6 c6)).setCell ⟨w.heap.size + 1, 1, none⟩ (.slice at1 (mapT (shift at' j) T i).length ct1)).cell? ⟨w.heap.size + 1, 1, none⟩ = some (.slice at1 (mapT (shift at' j) T i).length ct1) := by
              have s0 : (wr.setCell ⟨w.heap.size + 1, 0, none⟩ (.slice a6 r6 c6)).heap[w.heap.size + 1]? = some (.cells #[.slice a6 r6 c6, .slice none 0 0] 78 (0, 0)) := by
                rw [heap_setCell_same _ _ _ _ _ _ r0]
                rfl
              rw [cell_of_row _ _ _ _ _ _ (by rw [heap_setCell_same _ _ _ _ _ _ s0])]
              rfl
            clear hbel r0
            generalize (mapT (shift at' j) T i).length = lp at *
            go_wp2_with fail
            exact bodyPost_ret (v := .agg #[.slice a6 r6 c6, .slice at1 lp ct1]) (by simp [results, Tryz.results79, go_sem, y0, y1]) rfl FIN.out
end Go.Proofs.YtkgdfclpogiemaaGreatDoor.Rig

namespace Go.Proofs.YtkgdfclpogiemaaGreatDoor.Rig
open Go.RowKit Go.Lib Go.Proofs.YtkgdfclpogiemaaGreatDoor.Rt

def takeLs (ys : List Int) (a b : Nat) : List Int := ys.take a ++ ys.drop b
def cutS (a b : Int) (s : St) : St := if b < s.a then ⟨s.m, s.a - (b - a)⟩ else if a < s.a then ⟨s.m, a⟩ else s
def endT (T : List St) (mk a : Int) : List St := if 0 < mk then siteL T ⟨mk, a⟩ else T
theorem res_cells {W : World} {B : Nat} {T : TypeId} {a1 a2 : Option Addr} {n1 c1 n2 c2 : Nat} (r0 : W.heap[B]? = some (.cells #[.slice none 0 0, .slice none 0 0] T (0, 0))) :
    (W.setCell ⟨B, 0, none⟩ (.slice a1 n1 c1)).cell? ⟨B, 0, none⟩ = some (.slice a1 n1 c1) ∧ ((W.setCell ⟨B, 0, none⟩ (.slice a1 n1 c1)).setCell ⟨B, 1, none⟩ (.slice a2 n2 c2)).cell? ⟨B, 1, none⟩ = some (.slice a2 n2 c2) := by
  have s0 : (W.setCell ⟨B, 0, none⟩ (.slice a1 n1 c1)).heap[B]? = some (.cells #[.slice a1 n1 c1, .slice none 0 0] T (0, 0)) := by
    rw [heap_setCell_same _ _ _ _ _ _ r0]
    rfl
  constructor
  · rw [cell_of_row _ _ _ _ _ _ s0]
    rfl
  · rw [cell_of_row _ _ _ _ _ _ (by rw [heap_setCell_same _ _ _ _ _ _ s0])]
    rfl
theorem give_end {w W : World} {S : List Sp} {L : List St} {B : Nat} {T : TypeId} {a1 a2 : Option Addr} {n1 c1 n2 c2 : Nat} (hB : w.heap.size ≤ B) (r0 : W.heap[B]? = some (.cells #[.slice none 0 0, .slice none 0 0] T (0, 0)))
    (hS : Spans W (.slice a1 n1 c1) S) (hT : Sites W (.slice a2 n2 c2) L) (hb : Below w.heap.size w W) :
    GivesM w S L (.returned (.agg #[.slice a1 n1 c1, .slice a2 n2 c2])) ((W.setCell ⟨B, 0, none⟩ (.slice a1 n1 c1)).setCell ⟨B, 1, none⟩ (.slice a2 n2 c2)) := by
  have s0 : (W.setCell ⟨B, 0, none⟩ (.slice a1 n1 c1)).heap[B]? = some (.cells #[.slice a1 n1 c1, .slice none 0 0] T (0, 0)) := by
    rw [heap_setCell_same _ _ _ _ _ _ r0]
    rfl
  exact ⟨_, _, rfl, Fl.setBlock (Fl.setBlock hS (by decide) r0) (by decide) s0, Fl.setBlock (Fl.setBlock hT (by decide) r0) (by decide) s0, (hb.setCell (p := ⟨B, 0, none⟩) hB _).setCell (p := ⟨B, 1, none⟩) hB _⟩

set_option maxRecDepth 100000 in
set_option maxHeartbeats 8000000 in
theorem rtake_any {sv tv : Value} {S : List Sp} {T : List St} (n a b : Nat) (mk : Int) (w : World) (hS : Spans w sv S) (hT : Sites w tv T) (hn : n ≤ 3000) (hab : a ≤ b) (hbn : b ≤ n) (hmk : i64 mk) (hTn : T.length ≤ 3000)
    (hok : ∀ j, j < S.length → 0 ≤ (sp S j).f ∧ (sp S j).f ≤ (sp S j).t ∧ (sp S j).t ≤ (n : Int)) (hst : ∀ j, j < T.length → 0 ≤ (st T j).a ∧ (st T j).a ≤ (n : Int)) :
    Calls Tryz.prog 39 #[.agg #[sv, tv], .int .i64 n, .int .i64 a, .int .i64 b, .int .i64 mk] w (GivesM w (runs (takeLs (letters S n) a b)) (endT (mapT (cutS a b) T T.length) mk a)) := by
  have hll := letters_len S n
  obtain ⟨ta, tc, rfl, hlt, hct, hT1⟩ := hT.open_
  have HT := Lib.hid hT1
  have HST := Lib.hid hst
  have C1 : Hid (∀ w', Below w.heap.size w w' → Calls Tryz.prog 67 #[.agg #[sv, .slice ta T.length tc], .int .i64 n] w' (NewE w' n (letters S n))) := fun w' hb => each_any n w' (hS.below hb (Nat.le_refl _)) (hT.below hb (Nat.le_refl _)) (by omega) hok
  obtain ⟨sa, sc, rfl⟩ := hS.is_slice
  generalize S.length = ns at *
  obtain ⟨nt, hnt⟩ : ∃ nt, nt = T.length := ⟨_, rfl⟩
  rw [← hnt] at hlt hTn C1 ⊢
  replace hnt := Lib.hid hnt
  obtain ⟨ys, hys⟩ : ∃ ys, ys = letters S n := ⟨_, rfl⟩
  rw [← hys] at C1 hll ⊢
  have HYL := Lib.hid hll
  have HYS := Lib.hid hys
  obtain ⟨mk1, mk2⟩ := hmk
  obtain ⟨W0, hW0⟩ : ∃ W0, W0 = (w.alloc (.cells #[.slice sa ns sc, .slice ta nt tc] 78)).alloc (.cells #[.slice none 0 0, .slice none 0 0] 78) := ⟨_, rfl⟩
  have b0 : Below w.heap.size w W0 := by rw [hW0]; exact ((Below.refl _ _).alloc (Nat.le_refl _) _).alloc (by simp) _
  have h0 : W0.heap[w.heap.size]? = some (.cells #[.slice sa ns sc, .slice ta nt tc] 78 (0, 0)) := by
    rw [hW0, Below.heap_alloc _ _ _ (by simp)]
    exact heap_alloc_new _ _
  have h0' : W0.heap[w.heap.size + 1]? = some (.cells #[.slice none 0 0, .slice none 0 0] 78 (0, 0)) := by
    have := heap_alloc_new (w.alloc (.cells #[.slice sa ns sc, .slice ta nt tc] 78)) (.cells #[.slice none 0 0, .slice none 0 0] 78)
    rw [hW0]
    simpa using this
  have l0 : w.heap.size + 2 ≤ W0.heap.size := by rw [hW0]; simp
  have HW0 := Lib.hid hW0
  have B0 := Lib.hid b0
  have H0 := Lib.hid h0
  have H0' := Lib.hid h0'
  clear hT1 hS hT h0 h0' hW0 b0 hok hst hys hll
  go_enter Tryz.func39, Tryz.ntmps39
  go_wp2_with fail
  rw [← HW0.out]
  refine (C1.out _ B0.out).mono ?_
  rintro e w1 ⟨rfl, hO, hb1⟩
  have I1 := Lib.hid hO.ints
  have HB1 := Lib.hid (below_more B0.out hb1)
  have HBW0 := Lib.hid hb1
  have A1 := Lib.hid (World.ownsRow_nil w1 w1.heap.size 3 1)
  have han : a ≤ n := Nat.le_trans hab hbn
  obtain ⟨p, hp⟩ : ∃ p, p = ys.take a := ⟨_, rfl⟩
  have A2 := Lib.hid (I1.out.take_ HYL.out.symm a han)
  have hpl : p.length ≤ 3000 := by rw [hp, List.length_take]; omega
  rw [← hp] at A2
  have HP := Lib.hid hp
  have HPI : Hid (∀ x ∈ p, i64 x) := fun x hx => I1.out.1 x (List.mem_of_mem_take (by rw [← hp]; exact hx))
  have A3 : Hid (0 + p.length ≤ 100000) := by show _ ≤ _; omega
  have A4 : Hid (w1.heap.size ≤ w1.heap.size) := Nat.le_refl _
  obtain ⟨G, hG⟩ : ∃ G, G = W0.heap.size + 1 := ⟨_, rfl⟩
  rw [← hG] at A2 I1 ⊢
  have i0 : (0 : Int) ≤ (a : Int) := by omega
  have i1 : (a : Int) ≤ (n : Int) := by omega
  have i2 : (0 : Int) ≤ (b : Int) := by omega
  have i3 : (b : Int) ≤ (n : Int) := by omega
  have i4 : (a : Int) ≤ (b : Int) := by omega
  clear hO hb1 C1 hG hp
  go_wp2_with (at_builtin; refine wpList_append_ints rfl _ _ rfl w1.heap.size _ 0 [] rfl A1.out _ p rfl A2.out A3.out A4.out ?_)
  intro v2 w2 h2 g2
  have L2 : Hid (OwnI w1.heap.size w2 v2 p) := ⟨by first | exact h2 | simpa using h2, HPI.out⟩
  have HB2 : Hid (Below w1.heap.size w1 w2) := ⟨g2.os, g2.tape, g2.output, g2.size, fun q hq => g2.block q hq (by simp [Value.ownBlock])⟩
  clear h2 g2 A1 A2 A3 A4
  obtain ⟨ao, co, rfl⟩ := L2.out.is_slice
  have A4 : Hid (w1.heap.size ≤ w2.heap.size) := HB2.out.size
  have hyl : ys.length = n := HYL.out
  have IW := Lib.hid (I1.out.below HB2.out (Nat.le_refl _))
  obtain ⟨q, hq⟩ : ∃ q, q = ys.drop b := ⟨_, rfl⟩
  have hql : q.length ≤ 3000 := by rw [hq, List.length_drop]; omega
  have HQI : Hid (∀ x ∈ q, i64 x) := fun x hx => I1.out.1 x (List.mem_of_mem_drop (by rw [← hq]; exact hx))
  have A3 : Hid (p.length + q.length ≤ 100000) := by show _ ≤ _; omega
  have RES : Hid (p ++ q = takeLs ys a b) := by
    show _ = _
    rw [hq, HP.out]
    rfl
  have HAP : Hid (∀ (v5 : Value) (w5 : World), w5.ownsRow w1.heap.size 3 1 v5 (p.length + q.length) (ints p ++ ints q) → w2.grownBy w5 (Value.slice ao p.length co).ownBlock → OwnI w1.heap.size w5 v5 (takeLs ys a b) ∧ Below w1.heap.size w1 w5) := fun v5 w5 h5 g5 => by
    refine ⟨⟨?_, fun x hx => ?_⟩, HB2.out.grown g5 A4.out (fun b e => (L2.out.block b e).1)⟩
    · rw [← RES.out, List.length_append, ints_app]
      exact h5
    · rw [← RES.out, List.mem_append] at hx
      rcases hx with hx | hx
      · exact HPI.out x hx
      · exact HQI.out x hx
  have HPL : Hid ((takeLs ys a b).length ≤ 10000) := by
    show _ ≤ _
    rw [← RES.out, List.length_append]
    omega
  have OW : Hid (w2.ownsRow w1.heap.size 3 1 (.slice ao p.length co) p.length (ints p)) := L2.out.1
  have SRC : Hid (Ints w2 (.slice (if n = b then some ⟨G, 0, none⟩ else some ⟨G, b, none⟩) (n - b) (n - b)) q) := by
    have hl : q.length = n - b := by rw [hq, List.length_drop]; omega
    show Ints _ _ _
    by_cases e : n = b
    · rw [if_pos e]
      have : q = [] := List.eq_nil_of_length_eq_zero (by omega)
      rw [this, show n - b = 0 by omega]
      exact Ints.none_of (Nat.zero_le _)
    · rw [if_neg e]
      have := IW.out.drop_ hyl.symm b hbn
      rw [Nat.zero_add, ← hq] at this
      exact this
  clear hyl hq
  by_cases hend : n = b
  · have A2 : Hid (Ints w2 (.slice (some ⟨G, 0, none⟩) 0 0) q) := by
      have hsrc := SRC.out
      rw [if_pos hend, show n - b = 0 by omega] at hsrc
      exact hsrc
    clear SRC
    subst hend
    go_wp2_with (at_builtin; refine wpList_append_ints rfl _ _ rfl w1.heap.size _ p.length _ rfl OW.out _ q rfl A2.out A3.out A4.out ?_)
    intro v5 w5 h5 g5
    obtain ⟨P5, hB5⟩ := HAP.out v5 w5 (by first | exact h5 | simpa using h5) g5
    have CS6 := Lib.hid (spans_any w5 P5.ints HPL.out)
    have HB5 := Lib.hid hB5
    obtain ⟨a5, c5, rfl⟩ := P5.is_slice
    generalize (takeLs ys a n).length = l5 at *
    clear P5 hB5 HAP h5 g5 OW A2 A3 A4 HPL RES IW HQI
    go_wp2_with fail
    refine CS6.out.mono ?_
    rintro e w6 ⟨v6, rfl, hS6, hb6⟩
    have HB6 := Lib.hid (below_more (below_more HB1.out HB5.out) hb6)
    have HX6 := Lib.hid (below_more (below_more HBW0.out HB5.out) hb6)
    have SP6 := Lib.hid hS6.spans
    obtain ⟨a6, c6, rfl⟩ := hS6.is_slice
    obtain ⟨RU, hRU⟩ : ∃ RU, RU = runs (takeLs ys a n) := ⟨_, rfl⟩
    rw [← hRU] at SP6 ⊢
    generalize RU.length = r6 at *
    have HRU := Lib.hid hRU
    clear hS6 hb6 CS6 hRU
    have lw0 := l0
    go_wp2_with fail
    go_loopw [14] (fun t wr => ∃ (i : Nat) (tv : Value), i ≤ nt ∧ t = .int .i64 i ∧ Hid (wr.heap[w6.heap.size]? = some (.cells #[.slice a6 r6 c6, tv] 78 (0, 0))) ∧ Hid (Sites wr tv (mapT (cutS a n) T i)) ∧ Below w6.heap.size w6 wr) (fun t _ => nt - (RowKit.intOf t).toNat)
    case atStart =>
      exact ⟨0, .slice none 0 0, Nat.zero_le _, rfl, heap_alloc_new _ _, Sites.nil_ _, (Below.refl _ _).alloc (Nat.le_refl _) _⟩
    case round =>
      obtain ⟨i, tv, hi, rfl, HK, HTV, hbel⟩ := hrel
      have HBw := Lib.hid (below_more HB6.out hbel)
      have HX := Lib.hid (below_more HX6.out hbel)
      have h66 : w6.heap.size < wr.heap.size := by
        rcases Nat.lt_or_ge w6.heap.size wr.heap.size with h | h
        · exact h
        · have := HK.out; rw [Array.getElem?_eq_none h] at this; cases this
      have s6 : W0.heap.size ≤ w6.heap.size := HX6.out.size
      have x0 : wr.cell? ⟨w.heap.size, 0, none⟩ = some (.slice sa ns sc) := below_cell HX.out (by omega) (by rw [cell_of_row _ _ _ _ _ _ H0.out]; rfl)
      have x1 : wr.cell? ⟨w.heap.size, 1, none⟩ = some (.slice ta nt tc) := below_cell HX.out (by omega) (by rw [cell_of_row _ _ _ _ _ _ H0.out]; rfl)
      have k0 : wr.cell? ⟨w6.heap.size, 0, none⟩ = some (.slice a6 r6 c6) := by rw [cell_of_row _ _ _ _ _ _ HK.out]; rfl
      have k1 : wr.cell? ⟨w6.heap.size, 1, none⟩ = some tv := by rw [cell_of_row _ _ _ _ _ _ HK.out]; rfl
      obtain ⟨at1, ct1, rfl⟩ := HTV.out.is_slice
      have hpl2 := mapT_len (cutS a n) T i
      have SITE : Hid (∀ (s : St) w', St.good s → Below wr.heap.size wr w' → Calls Tryz.prog 69 #[.slice at1 (mapT (cutS a n) T i).length ct1, .agg #[.int .i64 s.m, .int .i64 s.a]] w' (GivesSt w' (siteL (mapT (cutS a n) T i) s))) := fun s w' hg hb' => site_any s w' (HTV.out.below hb' (Nat.le_refl _)) hg (by omega)
      have DONE : Hid (∀ (L : List St) (w8 : World) (v8 : Value), Below wr.heap.size wr w8 → Sites w8 v8 L → Sites (w8.setCell ⟨w6.heap.size, 1, none⟩ v8) v8 L ∧ (w8.setCell ⟨w6.heap.size, 1, none⟩ v8).heap[w6.heap.size]? = some (.cells #[.slice a6 r6 c6, v8] 78 (0, 0)) ∧ Below w6.heap.size w6 (w8.setCell ⟨w6.heap.size, 1, none⟩ v8) ∧ w8.cell? ⟨w6.heap.size, 1, none⟩ = some (.slice at1 (mapT (cutS a n) T i).length ct1) ∧ w8.frozen? ⟨w6.heap.size, 1, none⟩ = false) := fun L w8 v8 hb8 h8 => by
        have hK8 : w8.heap[w6.heap.size]? = some (.cells #[.slice a6 r6 c6, .slice at1 (mapT (cutS a n) T i).length ct1] 78 (0, 0)) := by
          rw [hb8.block _ h66]
          exact HK.out
        refine ⟨Fl.setBlock h8 (by decide) hK8, ?_, ?_, ?_, block_frozen hK8⟩
        · rw [heap_setCell_same _ _ _ _ _ _ hK8]
          rfl
        · exact (below_more hbel hb8).setCell (p := ⟨w6.heap.size, 1, none⟩) (Nat.le_refl _) v8
        · rw [cell_of_row _ _ _ _ _ _ hK8]
          rfl
      by_cases hlt2 : i < nt
      · have hil : i < T.length := by rw [← hnt.out]; exact hlt2
        obtain ⟨b', off, rfl, hb, ⟨⟨m1, m2⟩, ⟨q1, q2⟩⟩, c0, c1⟩ := HT.out i hil
        obtain ⟨z1, z2⟩ := HST.out i hil
        have EQ : Hid (mapT (cutS a n) T (i + 1) = siteL (mapT (cutS a n) T i) (cutS a n (st T i))) := rfl
        have hse : ∃ e, e = st T i := ⟨_, rfl⟩
        obtain ⟨e, he⟩ := hse
        rw [← he] at m1 m2 q1 q2 c0 c1 EQ z1 z2
        obtain ⟨m, f⟩ := e
        simp only at m1 m2 q1 q2 c0 c1 EQ z1 z2
        replace c0 := below_cell HBw.out hb c0
        replace c1 := below_cell HBw.out hb c1
        have KA : Hid (∀ o, Below wr.heap.size wr (wr.alloc o)) := fun o => (Below.refl _ _).alloc (Nat.le_refl _) _
        generalize (mapT (cutS a n) T i).length = lp at *
        have hne : ¬ w6.heap.size = wr.heap.size := by omega
        have hne2 : ¬ wr.heap.size = w6.heap.size := by omega
        clear hbel HT HST HK HTV he
        by_cases g1 : (n : Int) < f
        · exact absurd z2 (by omega)
        · by_cases g2 : (a : Int) < f
          · have SG := Lib.hid (SITE.out ⟨m, (a : Int)⟩ (wr.alloc (.cells #[.int .i64 m, .int .i64 ((a : Int) : Int)] 106)) (show i64 m ∧ i64 ((a : Int) : Int) from ⟨⟨by omega, by omega⟩, ⟨by omega, by omega⟩⟩) (KA.out _))
            have BW := Lib.hid (KA.out (.cells #[.int .i64 m, .int .i64 ((a : Int) : Int)] 106))
            have SH : Hid (cutS a n ⟨m, f⟩ = ⟨m, (a : Int)⟩) := by show _ = _; unfold cutS; rw [if_neg g1, if_pos g2]
            clear SITE
            go_wp2_with fail
            refine SG.out.mono ?_
            rintro e w8 ⟨v8, rfl, h8, hb8⟩
            obtain ⟨D1, D2, D3, D4, D5⟩ := DONE.out _ w8 v8 (below_more BW.out hb8) h8
            rw [← SH.out, ← EQ.out] at D1
            have E1 := Lib.hid D1
            have E2 := Lib.hid D2
            have E3 := Lib.hid D3
            obtain ⟨a8, c8, rfl⟩ := h8.is_slice
            have l8 : w6.heap.size < w8.heap.size := Nat.lt_of_lt_of_le h66 (below_more BW.out hb8).size
            clear D1 D2 D3 h8 hb8 SG BW DONE
            go_wp2_with fail
            go_roundw
            case rel => exact ⟨i + 1, _, by omega, by go_num, E2.out, E1.out, E3.out⟩
            case measure => simp [RowKit.intOf]; omega
          · have SG := Lib.hid (SITE.out ⟨m, f⟩ (wr.alloc (.cells #[.int .i64 m, .int .i64 (f : Int)] 106)) (show i64 m ∧ i64 (f : Int) from ⟨⟨by omega, by omega⟩, ⟨by omega, by omega⟩⟩) (KA.out _))
            have BW := Lib.hid (KA.out (.cells #[.int .i64 m, .int .i64 (f : Int)] 106))
            have SH : Hid (cutS a n ⟨m, f⟩ = ⟨m, f⟩) := by show _ = _; unfold cutS; rw [if_neg g1, if_neg g2]
            clear SITE
            go_wp2_with fail
            refine SG.out.mono ?_
            rintro e w8 ⟨v8, rfl, h8, hb8⟩
            obtain ⟨D1, D2, D3, D4, D5⟩ := DONE.out _ w8 v8 (below_more BW.out hb8) h8
            rw [← SH.out, ← EQ.out] at D1
            have E1 := Lib.hid D1
            have E2 := Lib.hid D2
            have E3 := Lib.hid D3
            obtain ⟨a8, c8, rfl⟩ := h8.is_slice
            have l8 : w6.heap.size < w8.heap.size := Nat.lt_of_lt_of_le h66 (below_more BW.out hb8).size
            clear D1 D2 D3 h8 hb8 SG BW DONE
            go_wp2_with fail
            go_roundw
            case rel => exact ⟨i + 1, _, by omega, by go_num, E2.out, E1.out, E3.out⟩
            case measure => simp [RowKit.intOf]; omega
      · obtain rfl : i = nt := by omega
        have r0 : wr.heap[w.heap.size + 1]? = some (.cells #[.slice none 0 0, .slice none 0 0] 78 (0, 0)) := by
          rw [HX.out.block _ (by omega)]
          exact H0'.out
        have hw16 : w.heap.size + 1 < w6.heap.size := by omega
        by_cases g3 : 0 < mk
        · have SG := Lib.hid (SITE.out ⟨mk, a⟩ wr (show i64 mk ∧ i64 (a : Int) from ⟨⟨by omega, by omega⟩, ⟨by omega, by omega⟩⟩) (Below.refl _ _))
          have R0 := Lib.hid r0
          have FS := Lib.hid (SP6.out.below hbel (Nat.le_refl _))
          have ET : Hid (endT (mapT (cutS a n) T i) mk a = siteL (mapT (cutS a n) T i) ⟨mk, a⟩) := if_pos g3
          clear hbel r0 SITE
          generalize (mapT (cutS a n) T i).length = lp at *
          go_wp2_with fail
          refine SG.out.mono ?_
          rintro e w8 ⟨v8, rfl, h8, hb8⟩
          obtain ⟨D1, D2, D3, D4, D5⟩ := DONE.out _ w8 v8 hb8 h8
          have r8 : (w8.setCell ⟨w6.heap.size, 1, none⟩ v8).heap[w.heap.size + 1]? = some (.cells #[.slice none 0 0, .slice none 0 0] 78 (0, 0)) := by
            rw [Below.heap_setCell _ _ _ _ (by exact Nat.ne_of_lt hw16), hb8.block _ (by omega)]
            exact R0.out
          have hk8 : w8.heap[w6.heap.size]? = some (.cells #[.slice a6 r6 c6, .slice at1 lp ct1] 78 (0, 0)) := by
            rw [hb8.block _ h66]
            exact HK.out
          have FS8 := Lib.hid (Fl.setBlock (i := 1) (u := v8) (FS.out.below hb8 (Nat.le_refl _)) (by decide) hk8)
          have W8 := Lib.hid (D3)
          have FIN0 := Lib.hid (D1)
          obtain ⟨a8, c8, rfl⟩ := h8.is_slice
          have FIN := Lib.hid (give_end (B := w.heap.size + 1) (Nat.le_add_right _ 1) r8 FS8.out FIN0.out (below_more HB6.out W8.out))
          obtain ⟨y0, y1⟩ := res_cells (a1 := a6) (n1 := r6) (c1 := c6) (a2 := a8) (n2 := (siteL (mapT (cutS a n) T i) ⟨mk, a⟩).length) (c2 := c8) r8
          have u0 := cell_of_row _ _ 0 _ _ _ r8
          have u1 := cell_of_row _ _ 1 _ _ _ r8
          have f0 := block_frozen (j := 0) r8
          have f1 := block_frozen (j := 1) r8
          have t0 := cell_of_row _ _ 0 _ _ _ D2
          have t1 := cell_of_row _ _ 1 _ _ _ D2
          have t2 := cell_of_row _ _ 0 _ _ _ hk8
          have l8 : w6.heap.size < w8.heap.size := Nat.lt_of_lt_of_le h66 hb8.size
          simp only [List.getElem?_toArray, List.getElem?_cons_zero, List.getElem?_cons_succ] at u0 u1 t0 t1 t2
          clear D1 D2 D3 h8 hb8 SG DONE r8 hk8 HK HTV FS
          go_wp2_with fail
          exact bodyPost_ret (v := .agg #[.slice a6 r6 c6, .slice a8 (siteL (mapT (cutS a n) T i) ⟨mk, a⟩).length c8]) (by simp [results, Tryz.results39, go_sem, y0, y1]) rfl (by rw [ET.out, ← HRU.out]; exact FIN.out)
        · have u0 : wr.cell? ⟨w.heap.size + 1, 0, none⟩ = some (.slice none 0 0) := by rw [cell_of_row _ _ _ _ _ _ r0]; rfl
          have u1 : wr.cell? ⟨w.heap.size + 1, 1, none⟩ = some (.slice none 0 0) := by rw [cell_of_row _ _ _ _ _ _ r0]; rfl
          have f0 : wr.frozen? ⟨w.heap.size + 1, 0, none⟩ = false := block_frozen r0
          have f1 : wr.frozen? ⟨w.heap.size + 1, 1, none⟩ = false := block_frozen r0
          have FS := Lib.hid (SP6.out.below hbel (Nat.le_refl _))
          have ET : Hid (endT (mapT (cutS a n) T i) mk a = mapT (cutS a n) T i) := if_neg g3
          have FIN := Lib.hid (give_end (B := w.heap.size + 1) (Nat.le_add_right _ 1) r0 FS.out HTV.out HBw.out)
          obtain ⟨y0, y1⟩ := res_cells (a1 := a6) (n1 := r6) (c1 := c6) (a2 := at1) (n2 := (mapT (cutS a n) T i).length) (c2 := ct1) r0
          clear hbel r0 SITE DONE
          generalize (mapT (cutS a n) T i).length = lp at *
          go_wp2_with fail
          exact bodyPost_ret (v := .agg #[.slice a6 r6 c6, .slice at1 lp ct1]) (by simp [results, Tryz.results39, go_sem, y0, y1]) rfl (by rw [ET.out, ← HRU.out]; exact FIN.out)
  · have A2 : Hid (Ints w2 (.slice (some ⟨G, b, none⟩) (n - b) (n - b)) q) := by
      have hsrc := SRC.out
      rw [if_neg hend] at hsrc
      exact hsrc
    clear SRC
    go_wp2_with (at_builtin; refine wpList_append_ints rfl _ _ rfl w1.heap.size _ p.length _ rfl OW.out _ q rfl A2.out A3.out A4.out ?_)
    intro v5 w5 h5 g5
    obtain ⟨P5, hB5⟩ := HAP.out v5 w5 (by first | exact h5 | simpa using h5) g5
    have CS6 := Lib.hid (spans_any w5 P5.ints HPL.out)
    have HB5 := Lib.hid hB5
    obtain ⟨a5, c5, rfl⟩ := P5.is_slice
    generalize (takeLs ys a b).length = l5 at *
    clear P5 hB5 HAP h5 g5 OW A2 A3 A4 HPL RES IW HQI
    go_wp2_with fail
    refine CS6.out.mono ?_
    rintro e w6 ⟨v6, rfl, hS6, hb6⟩
    have HB6 := Lib.hid (below_more (below_more HB1.out HB5.out) hb6)
    have HX6 := Lib.hid (below_more (below_more HBW0.out HB5.out) hb6)
    have SP6 := Lib.hid hS6.spans
    obtain ⟨a6, c6, rfl⟩ := hS6.is_slice
    obtain ⟨RU, hRU⟩ : ∃ RU, RU = runs (takeLs ys a b) := ⟨_, rfl⟩
    rw [← hRU] at SP6 ⊢
    generalize RU.length = r6 at *
    have HRU := Lib.hid hRU
    clear hS6 hb6 CS6 hRU
    have lw0 := l0
    go_wp2_with fail
    go_loopw [14] (fun t wr => ∃ (i : Nat) (tv : Value), i ≤ nt ∧ t = .int .i64 i ∧ Hid (wr.heap[w6.heap.size]? = some (.cells #[.slice a6 r6 c6, tv] 78 (0, 0))) ∧ Hid (Sites wr tv (mapT (cutS a b) T i)) ∧ Below w6.heap.size w6 wr) (fun t _ => nt - (RowKit.intOf t).toNat)
    case atStart =>
      exact ⟨0, .slice none 0 0, Nat.zero_le _, rfl, heap_alloc_new _ _, Sites.nil_ _, (Below.refl _ _).alloc (Nat.le_refl _) _⟩
    case round =>
      obtain ⟨i, tv, hi, rfl, HK, HTV, hbel⟩ := hrel
      have HBw := Lib.hid (below_more HB6.out hbel)
      have HX := Lib.hid (below_more HX6.out hbel)
      have h66 : w6.heap.size < wr.heap.size := by
        rcases Nat.lt_or_ge w6.heap.size wr.heap.size with h | h
        · exact h
        · have := HK.out; rw [Array.getElem?_eq_none h] at this; cases this
      have s6 : W0.heap.size ≤ w6.heap.size := HX6.out.size
      have x0 : wr.cell? ⟨w.heap.size, 0, none⟩ = some (.slice sa ns sc) := below_cell HX.out (by omega) (by rw [cell_of_row _ _ _ _ _ _ H0.out]; rfl)
      have x1 : wr.cell? ⟨w.heap.size, 1, none⟩ = some (.slice ta nt tc) := below_cell HX.out (by omega) (by rw [cell_of_row _ _ _ _ _ _ H0.out]; rfl)
      have k0 : wr.cell? ⟨w6.heap.size, 0, none⟩ = some (.slice a6 r6 c6) := by rw [cell_of_row _ _ _ _ _ _ HK.out]; rfl
      have k1 : wr.cell? ⟨w6.heap.size, 1, none⟩ = some tv := by rw [cell_of_row _ _ _ _ _ _ HK.out]; rfl
      obtain ⟨at1, ct1, rfl⟩ := HTV.out.is_slice
      have hpl2 := mapT_len (cutS a b) T i
      have SITE : Hid (∀ (s : St) w', St.good s → Below wr.heap.size wr w' → Calls Tryz.prog 69 #[.slice at1 (mapT (cutS a b) T i).length ct1, .agg #[.int .i64 s.m, .int .i64 s.a]] w' (GivesSt w' (siteL (mapT (cutS a b) T i) s))) := fun s w' hg hb' => site_any s w' (HTV.out.below hb' (Nat.le_refl _)) hg (by omega)
      have DONE : Hid (∀ (L : List St) (w8 : World) (v8 : Value), Below wr.heap.size wr w8 → Sites w8 v8 L → Sites (w8.setCell ⟨w6.heap.size, 1, none⟩ v8) v8 L ∧ (w8.setCell ⟨w6.heap.size, 1, none⟩ v8).heap[w6.heap.size]? = some (.cells #[.slice a6 r6 c6, v8] 78 (0, 0)) ∧ Below w6.heap.size w6 (w8.setCell ⟨w6.heap.size, 1, none⟩ v8) ∧ w8.cell? ⟨w6.heap.size, 1, none⟩ = some (.slice at1 (mapT (cutS a b) T i).length ct1) ∧ w8.frozen? ⟨w6.heap.size, 1, none⟩ = false) := fun L w8 v8 hb8 h8 => by
        have hK8 : w8.heap[w6.heap.size]? = some (.cells #[.slice a6 r6 c6, .slice at1 (mapT (cutS a b) T i).length ct1] 78 (0, 0)) := by
          rw [hb8.block _ h66]
          exact HK.out
        refine ⟨Fl.setBlock h8 (by decide) hK8, ?_, ?_, ?_, block_frozen hK8⟩
        · rw [heap_setCell_same _ _ _ _ _ _ hK8]
          rfl
        · exact (below_more hbel hb8).setCell (p := ⟨w6.heap.size, 1, none⟩) (Nat.le_refl _) v8
        · rw [cell_of_row _ _ _ _ _ _ hK8]
          rfl
      by_cases hlt2 : i < nt
      · have hil : i < T.length := by rw [← hnt.out]; exact hlt2
        obtain ⟨b', off, rfl, hb, ⟨⟨m1, m2⟩, ⟨q1, q2⟩⟩, c0, c1⟩ := HT.out i hil
        obtain ⟨z1, z2⟩ := HST.out i hil
        have EQ : Hid (mapT (cutS a b) T (i + 1) = siteL (mapT (cutS a b) T i) (cutS a b (st T i))) := rfl
        have hse : ∃ e, e = st T i := ⟨_, rfl⟩
        obtain ⟨e, he⟩ := hse
        rw [← he] at m1 m2 q1 q2 c0 c1 EQ z1 z2
        obtain ⟨m, f⟩ := e
        simp only at m1 m2 q1 q2 c0 c1 EQ z1 z2
        replace c0 := below_cell HBw.out hb c0
        replace c1 := below_cell HBw.out hb c1
        have KA : Hid (∀ o, Below wr.heap.size wr (wr.alloc o)) := fun o => (Below.refl _ _).alloc (Nat.le_refl _) _
        generalize (mapT (cutS a b) T i).length = lp at *
        have hne : ¬ w6.heap.size = wr.heap.size := by omega
        have hne2 : ¬ wr.heap.size = w6.heap.size := by omega
        clear hbel HT HST HK HTV he
        by_cases g1 : (b : Int) < f
        · have SG := Lib.hid (SITE.out ⟨m, f - ((b : Int) - (a : Int))⟩ (wr.alloc (.cells #[.int .i64 m, .int .i64 (f - ((b : Int) - (a : Int)) : Int)] 106)) (show i64 m ∧ i64 (f - ((b : Int) - (a : Int)) : Int) from ⟨⟨by omega, by omega⟩, ⟨by omega, by omega⟩⟩) (KA.out _))
          have BW := Lib.hid (KA.out (.cells #[.int .i64 m, .int .i64 (f - ((b : Int) - (a : Int)) : Int)] 106))
          have SH : Hid (cutS a b ⟨m, f⟩ = ⟨m, f - ((b : Int) - (a : Int))⟩) := by show _ = _; unfold cutS; rw [if_pos g1]
          clear SITE
          go_wp2_with fail
          refine SG.out.mono ?_
          rintro e w8 ⟨v8, rfl, h8, hb8⟩
          obtain ⟨D1, D2, D3, D4, D5⟩ := DONE.out _ w8 v8 (below_more BW.out hb8) h8
          rw [← SH.out, ← EQ.out] at D1
          have E1 := Lib.hid D1
          have E2 := Lib.hid D2
          have E3 := Lib.hid D3
          obtain ⟨a8, c8, rfl⟩ := h8.is_slice
          have l8 : w6.heap.size < w8.heap.size := Nat.lt_of_lt_of_le h66 (below_more BW.out hb8).size
          clear D1 D2 D3 h8 hb8 SG BW DONE
          go_wp2_with fail
          go_roundw
          case rel => exact ⟨i + 1, _, by omega, by go_num, E2.out, E1.out, E3.out⟩
          case measure => simp [RowKit.intOf]; omega
        · by_cases g2 : (a : Int) < f
          · have SG := Lib.hid (SITE.out ⟨m, (a : Int)⟩ (wr.alloc (.cells #[.int .i64 m, .int .i64 ((a : Int) : Int)] 106)) (show i64 m ∧ i64 ((a : Int) : Int) from ⟨⟨by omega, by omega⟩, ⟨by omega, by omega⟩⟩) (KA.out _))
            have BW := Lib.hid (KA.out (.cells #[.int .i64 m, .int .i64 ((a : Int) : Int)] 106))
            have SH : Hid (cutS a b ⟨m, f⟩ = ⟨m, (a : Int)⟩) := by show _ = _; unfold cutS; rw [if_neg g1, if_pos g2]
            clear SITE
            go_wp2_with fail
            refine SG.out.mono ?_
            rintro e w8 ⟨v8, rfl, h8, hb8⟩
            obtain ⟨D1, D2, D3, D4, D5⟩ := DONE.out _ w8 v8 (below_more BW.out hb8) h8
            rw [← SH.out, ← EQ.out] at D1
            have E1 := Lib.hid D1
            have E2 := Lib.hid D2
            have E3 := Lib.hid D3
            obtain ⟨a8, c8, rfl⟩ := h8.is_slice
            have l8 : w6.heap.size < w8.heap.size := Nat.lt_of_lt_of_le h66 (below_more BW.out hb8).size
            clear D1 D2 D3 h8 hb8 SG BW DONE
            go_wp2_with fail
            go_roundw
            case rel => exact ⟨i + 1, _, by omega, by go_num, E2.out, E1.out, E3.out⟩
            case measure => simp [RowKit.intOf]; omega
          · have SG := Lib.hid (SITE.out ⟨m, f⟩ (wr.alloc (.cells #[.int .i64 m, .int .i64 (f : Int)] 106)) (show i64 m ∧ i64 (f : Int) from ⟨⟨by omega, by omega⟩, ⟨by omega, by omega⟩⟩) (KA.out _))
            have BW := Lib.hid (KA.out (.cells #[.int .i64 m, .int .i64 (f : Int)] 106))
            have SH : Hid (cutS a b ⟨m, f⟩ = ⟨m, f⟩) := by show _ = _; unfold cutS; rw [if_neg g1, if_neg g2]
            clear SITE
            go_wp2_with fail
            refine SG.out.mono ?_
            rintro e w8 ⟨v8, rfl, h8, hb8⟩
            obtain ⟨D1, D2, D3, D4, D5⟩ := DONE.out _ w8 v8 (below_more BW.out hb8) h8
            rw [← SH.out, ← EQ.out] at D1
            have E1 := Lib.hid D1
            have E2 := Lib.hid D2
            have E3 := Lib.hid D3
            obtain ⟨a8, c8, rfl⟩ := h8.is_slice
            have l8 : w6.heap.size < w8.heap.size := Nat.lt_of_lt_of_le h66 (below_more BW.out hb8).size
            clear D1 D2 D3 h8 hb8 SG BW DONE
            go_wp2_with fail
            go_roundw
            case rel => exact ⟨i + 1, _, by omega, by go_num, E2.out, E1.out, E3.out⟩
            case measure => simp [RowKit.intOf]; omega
      · obtain rfl : i = nt := by omega
        have r0 : wr.heap[w.heap.size + 1]? = some (.cells #[.slice none 0 0, .slice none 0 0] 78 (0, 0)) := by
          rw [HX.out.block _ (by omega)]
          exact H0'.out
        have hw16 : w.heap.size + 1 < w6.heap.size := by omega
        by_cases g3 : 0 < mk
        · have SG := Lib.hid (SITE.out ⟨mk, a⟩ wr (show i64 mk ∧ i64 (a : Int) from ⟨⟨by omega, by omega⟩, ⟨by omega, by omega⟩⟩) (Below.refl _ _))
          have R0 := Lib.hid r0
          have FS := Lib.hid (SP6.out.below hbel (Nat.le_refl _))
          have ET : Hid (endT (mapT (cutS a b) T i) mk a = siteL (mapT (cutS a b) T i) ⟨mk, a⟩) := if_pos g3
          clear hbel r0 SITE
          generalize (mapT (cutS a b) T i).length = lp at *
          go_wp2_with fail
          refine SG.out.mono ?_
          rintro e w8 ⟨v8, rfl, h8, hb8⟩
          obtain ⟨D1, D2, D3, D4, D5⟩ := DONE.out _ w8 v8 hb8 h8
          have r8 : (w8.setCell ⟨w6.heap.size, 1, none⟩ v8).heap[w.heap.size + 1]? = some (.cells #[.slice none 0 0, .slice none 0 0] 78 (0, 0)) := by
            rw [Below.heap_setCell _ _ _ _ (by exact Nat.ne_of_lt hw16), hb8.block _ (by omega)]
            exact R0.out
          have hk8 : w8.heap[w6.heap.size]? = some (.cells #[.slice a6 r6 c6, .slice at1 lp ct1] 78 (0, 0)) := by
            rw [hb8.block _ h66]
            exact HK.out
          have FS8 := Lib.hid (Fl.setBlock (i := 1) (u := v8) (FS.out.below hb8 (Nat.le_refl _)) (by decide) hk8)
          have W8 := Lib.hid (D3)
          have FIN0 := Lib.hid (D1)
          obtain ⟨a8, c8, rfl⟩ := h8.is_slice
          have FIN := Lib.hid (give_end (B := w.heap.size + 1) (Nat.le_add_right _ 1) r8 FS8.out FIN0.out (below_more HB6.out W8.out))
          obtain ⟨y0, y1⟩ := res_cells (a1 := a6) (n1 := r6) (c1 := c6) (a2 := a8) (n2 := (siteL (mapT (cutS a b) T i) ⟨mk, a⟩).length) (c2 := c8) r8
          have u0 := cell_of_row _ _ 0 _ _ _ r8
          have u1 := cell_of_row _ _ 1 _ _ _ r8
          have f0 := block_frozen (j := 0) r8
          have f1 := block_frozen (j := 1) r8
          have t0 := cell_of_row _ _ 0 _ _ _ D2
          have t1 := cell_of_row _ _ 1 _ _ _ D2
          have t2 := cell_of_row _ _ 0 _ _ _ hk8
          have l8 : w6.heap.size < w8.heap.size := Nat.lt_of_lt_of_le h66 hb8.size
          simp only [List.getElem?_toArray, List.getElem?_cons_zero, List.getElem?_cons_succ] at u0 u1 t0 t1 t2
          clear D1 D2 D3 h8 hb8 SG DONE r8 hk8 HK HTV FS
          go_wp2_with fail
          exact bodyPost_ret (v := .agg #[.slice a6 r6 c6, .slice a8 (siteL (mapT (cutS a b) T i) ⟨mk, a⟩).length c8]) (by simp [results, Tryz.results39, go_sem, y0, y1]) rfl (by rw [ET.out, ← HRU.out]; exact FIN.out)
        · have u0 : wr.cell? ⟨w.heap.size + 1, 0, none⟩ = some (.slice none 0 0) := by rw [cell_of_row _ _ _ _ _ _ r0]; rfl
          have u1 : wr.cell? ⟨w.heap.size + 1, 1, none⟩ = some (.slice none 0 0) := by rw [cell_of_row _ _ _ _ _ _ r0]; rfl
          have f0 : wr.frozen? ⟨w.heap.size + 1, 0, none⟩ = false := block_frozen r0
          have f1 : wr.frozen? ⟨w.heap.size + 1, 1, none⟩ = false := block_frozen r0
          have FS := Lib.hid (SP6.out.below hbel (Nat.le_refl _))
          have ET : Hid (endT (mapT (cutS a b) T i) mk a = mapT (cutS a b) T i) := if_neg g3
          have FIN := Lib.hid (give_end (B := w.heap.size + 1) (Nat.le_add_right _ 1) r0 FS.out HTV.out HBw.out)
          obtain ⟨y0, y1⟩ := res_cells (a1 := a6) (n1 := r6) (c1 := c6) (a2 := at1) (n2 := (mapT (cutS a b) T i).length) (c2 := ct1) r0
          clear hbel r0 SITE DONE
          generalize (mapT (cutS a b) T i).length = lp at *
          go_wp2_with fail
          exact bodyPost_ret (v := .agg #[.slice a6 r6 c6, .slice at1 lp ct1]) (by simp [results, Tryz.results39, go_sem, y0, y1]) rfl (by rw [ET.out, ← HRU.out]; exact FIN.out)
end Go.Proofs.YtkgdfclpogiemaaGreatDoor.Rig

namespace Go.Proofs.YtkgdfclpogiemaaGreatDoor.Rig
open Go.RowKit Go.Lib Go.Proofs.YtkgdfclpogiemaaGreatDoor.Rt

def partA (at' : Int) (T : List St) : Nat → List St
  | 0 => []
  | i + 1 => if (st T i).a ≤ at' then siteL (partA at' T i) (st T i) else partA at' T i
def partB (at' : Int) (T : List St) : Nat → List St
  | 0 => []
  | i + 1 => if (st T i).a ≤ at' then partB at' T i else siteL (partB at' T i) ⟨(st T i).m, (st T i).a - at'⟩
theorem partA_len (at' : Int) (T : List St) : ∀ i, (partA at' T i).length ≤ i
  | 0 => Nat.le_refl _
  | i + 1 => by
    have h1 := partA_len at' T i
    have h2 := siteL_len (partA at' T i) (st T i)
    unfold partA
    split <;> omega
theorem partB_len (at' : Int) (T : List St) : ∀ i, (partB at' T i).length ≤ i
  | 0 => Nat.le_refl _
  | i + 1 => by
    have h1 := partB_len at' T i
    have h2 := siteL_len (partB at' T i) ⟨(st T i).m, (st T i).a - at'⟩
    unfold partB
    split <;> omega
/-- It hands two marks back. -/
def GivesM2 (w : World) (S : List Sp) (T : List St) (S' : List Sp) (T' : List St) (e : Ending) (w' : World) : Prop := ∃ v1 v2 v3 v4, e = .returned (.tuple #[.agg #[v1, v2], .agg #[v3, v4]]) ∧ Spans w' v1 S ∧ Sites w' v2 T ∧ Spans w' v3 S' ∧ Sites w' v4 T' ∧ Below w.heap.size w w'

theorem set2_fl {W : World} {v : Value} {n k : Nat} {zs : List Int} {B : Nat} {T : TypeId} {a1 a2 : Option Addr} {n1 c1 n2 c2 : Nat} (h : Fl W v n k zs) (hk : 0 < k) (r0 : W.heap[B]? = some (.cells #[.slice none 0 0, .slice none 0 0] T (0, 0))) :
    Fl ((W.setCell ⟨B, 0, none⟩ (.slice a1 n1 c1)).setCell ⟨B, 1, none⟩ (.slice a2 n2 c2)) v n k zs := by
  have s0 : (W.setCell ⟨B, 0, none⟩ (.slice a1 n1 c1)).heap[B]? = some (.cells #[.slice a1 n1 c1, .slice none 0 0] T (0, 0)) := by
    rw [heap_setCell_same _ _ _ _ _ _ r0]
    rfl
  exact Fl.setBlock (Fl.setBlock h hk r0) hk s0
theorem give_end2 {w W : World} {S S' : List Sp} {L L' : List St} {B B' : Nat} {T : TypeId} {a1 a2 a3 a4 : Option Addr} {n1 c1 n2 c2 n3 c3 n4 c4 : Nat} (hB : w.heap.size ≤ B) (hB' : w.heap.size ≤ B') (hne : B' ≠ B) (r1 : W.heap[B]? = some (.cells #[.slice none 0 0, .slice none 0 0] T (0, 0))) (r2 : W.heap[B']? = some (.cells #[.slice none 0 0, .slice none 0 0] T (0, 0)))
    (hS : Spans W (.slice a1 n1 c1) S) (hT : Sites W (.slice a2 n2 c2) L) (hS' : Spans W (.slice a3 n3 c3) S') (hT' : Sites W (.slice a4 n4 c4) L') (hb : Below w.heap.size w W) :
    GivesM2 w S L S' L' (.returned (.tuple #[.agg #[.slice a1 n1 c1, .slice a2 n2 c2], .agg #[.slice a3 n3 c3, .slice a4 n4 c4]])) ((((W.setCell ⟨B, 0, none⟩ (.slice a1 n1 c1)).setCell ⟨B, 1, none⟩ (.slice a2 n2 c2)).setCell ⟨B', 0, none⟩ (.slice a3 n3 c3)).setCell ⟨B', 1, none⟩ (.slice a4 n4 c4)).drew := by
  have r2' : ((W.setCell ⟨B, 0, none⟩ (.slice a1 n1 c1)).setCell ⟨B, 1, none⟩ (.slice a2 n2 c2)).heap[B']? = some (.cells #[.slice none 0 0, .slice none 0 0] T (0, 0)) := by
    rw [Below.heap_setCell _ _ _ _ (by exact hne), Below.heap_setCell _ _ _ _ (by exact hne)]
    exact r2
  have bd : Below ((((W.setCell ⟨B, 0, none⟩ (.slice a1 n1 c1)).setCell ⟨B, 1, none⟩ (.slice a2 n2 c2)).setCell ⟨B', 0, none⟩ (.slice a3 n3 c3)).setCell ⟨B', 1, none⟩ (.slice a4 n4 c4)).heap.size _ _ := (Below.refl _ ((((W.setCell ⟨B, 0, none⟩ (.slice a1 n1 c1)).setCell ⟨B, 1, none⟩ (.slice a2 n2 c2)).setCell ⟨B', 0, none⟩ (.slice a3 n3 c3)).setCell ⟨B', 1, none⟩ (.slice a4 n4 c4))).drew
  refine ⟨_, _, _, _, rfl, ?_, ?_, ?_, ?_, ((((hb.setCell (p := ⟨B, 0, none⟩) hB _).setCell (p := ⟨B, 1, none⟩) hB _).setCell (p := ⟨B', 0, none⟩) hB' _).setCell (p := ⟨B', 1, none⟩) hB' _).drew⟩
  · have h := set2_fl (a1 := a3) (n1 := n3) (c1 := c3) (a2 := a4) (n2 := n4) (c2 := c4) (set2_fl (a1 := a1) (n1 := n1) (c1 := c1) (a2 := a2) (n2 := n2) (c2 := c2) hS (by decide) r1) (by decide) r2'
    exact Fl.below h bd (Nat.le_refl _)
  · have h := set2_fl (a1 := a3) (n1 := n3) (c1 := c3) (a2 := a4) (n2 := n4) (c2 := c4) (set2_fl (a1 := a1) (n1 := n1) (c1 := c1) (a2 := a2) (n2 := n2) (c2 := c2) hT (by decide) r1) (by decide) r2'
    exact Fl.below h bd (Nat.le_refl _)
  · have h := set2_fl (a1 := a3) (n1 := n3) (c1 := c3) (a2 := a4) (n2 := n4) (c2 := c4) (set2_fl (a1 := a1) (n1 := n1) (c1 := c1) (a2 := a2) (n2 := n2) (c2 := c2) hS' (by decide) r1) (by decide) r2'
    exact Fl.below h bd (Nat.le_refl _)
  · have h := set2_fl (a1 := a3) (n1 := n3) (c1 := c3) (a2 := a4) (n2 := n4) (c2 := c4) (set2_fl (a1 := a1) (n1 := n1) (c1 := c1) (a2 := a2) (n2 := n2) (c2 := c2) hT' (by decide) r1) (by decide) r2'
    exact Fl.below h bd (Nat.le_refl _)

end Go.Proofs.YtkgdfclpogiemaaGreatDoor.Rig

namespace Go.Proofs.YtkgdfclpogiemaaGreatDoor.Rig
open Go.RowKit Go.Lib Go.Proofs.YtkgdfclpogiemaaGreatDoor.Rt

def dropS (S : List Sp) (mk : Int) : List Sp := S.filter fun s => decide (s.m ≠ mk)
def dropT (T : List St) (mk : Int) : List St := T.filter fun s => decide (s.m ≠ mk)
theorem dropS_take {S : List Sp} {k : Nat} (mk : Int) (h : k < S.length) : dropS (S.take (k + 1)) mk = dropS (S.take k) mk ++ (if (sp S k).m = mk then [] else [sp S k]) := by
  unfold dropS
  rw [List.take_succ_eq_append_getElem h, List.filter_append, sp_get h]
  by_cases e : S[k].m = mk
  · rw [if_pos e]; simp [e]
  · rw [if_neg e]; simp [e]
theorem dropT_take {T : List St} {k : Nat} (mk : Int) (h : k < T.length) : dropT (T.take (k + 1)) mk = dropT (T.take k) mk ++ (if (st T k).m = mk then [] else [st T k]) := by
  unfold dropT
  rw [List.take_succ_eq_append_getElem h, List.filter_append, st_get h]
  by_cases e : T[k].m = mk
  · rw [if_pos e]; simp [e]
  · rw [if_neg e]; simp [e]
theorem dropS_len (S : List Sp) (mk : Int) (k : Nat) : (dropS (S.take k) mk).length ≤ k := by
  unfold dropS
  have h1 := List.length_filter_le (fun s : Sp => decide (s.m ≠ mk)) (S.take k)
  have h2 := List.length_take_le k S
  omega
theorem dropT_len (T : List St) (mk : Int) (k : Nat) : (dropT (T.take k) mk).length ≤ k := by
  unfold dropT
  have h1 := List.length_filter_le (fun s : St => decide (s.m ≠ mk)) (T.take k)
  have h2 := List.length_take_le k T
  omega
/-- The append of one record, as a step of a region that draws. -/
theorem step_append_rec {w : World} {ops : Array Oper} {o : Oper} {a : Act} {K : Act → World → Prop} {Q : Exit → Act → World → Prop} {E : Prop} (hgd : o.guard = none) (s x : Operand) (tS e : TypeId) (k bytes : Nat) (z : Value)
    (ht : Tryz.prog.underlying tS = some (.slice e)) (hinfo : (Tryz.prog.info? e).map (fun i => (i.zero, i.size, i.bytes)) = some (some z, k, bytes)) (hzs : z.cells.size = k) (hk : 0 < k) (hby : bytes ≤ 1000)
    (ho : o.op = .call { callee := .builtin .append, args := #[s, x], argTypes := #[tS, tS] }) (base : Nat) (v : Value) (n : Nat) (zs : List Int) (hs : a.eval s = v) (hown : OwnF e base w v n k zs)
    (b : Nat) (ys : List Int) (hx : a.eval x = .slice (some ⟨b, 0, none⟩) 1 1) (hb : w.heap[b]? = some (.cells (ints ys).toArray e (0, 0))) (hyl : ys.length = k) (hy : ∀ y ∈ ys, i64 y) (hn : n ≤ 100000) (hbase : base ≤ w.heap.size)
    (h : ∀ v' w', OwnF e base w' v' (n + 1) k (zs ++ ys) → w.grownBy w' v.ownBlock → K (a.put o.dst v') w') : if Region.wanted o (yielded ops a.tmps) = true then Oper.wp Tryz.prog o a w K Q else E := by
  have hw : Region.wanted o (yielded ops a.tmps) = true := by simp [Region.wanted, hgd]
  rw [if_pos hw]
  obtain ⟨i0, hi, hz0, hz1, hz2⟩ := info_parts hinfo
  have hbig : (n + 1) * bytes ≤ 140737488355328 := Nat.le_trans (Nat.mul_le_mul (show n + 1 ≤ 100001 by omega) hby) (by decide)
  refine wp_append_own w s x tS ho base e i0 z k bytes ht hi hz0 hz1 hz2 hzs hk v n (ints zs) hs hown.1 ⟨b, 0, none⟩ 1 1 (ints ys) hx (by rw [ints_len]; omega) ?_ ints_one (by unfold maxLen; omega) hbig hbase ?_
  · intro j u hj
    have hadd : (⟨b, 0, none⟩ : Addr).add j = ⟨b, j, none⟩ := by unfold Addr.add; split <;> simp_all
    rw [hadd, cell_of_row w b j _ _ (0, 0) hb]
    simpa using hj
  · intro v' w' h1 h2 _
    refine h v' w' ⟨?_, fun q hq => ?_⟩ h2
    · rw [ints_app]
      exact h1
    · rw [List.mem_append] at hq
      rcases hq with hq | hq
      · exact hown.2 q hq
      · exact hy q hq
theorem grown_setCell {w : World} (B i : Nat) (u : Value) : w.grownBy (w.setCell ⟨B, i, none⟩ u) (some B) := ⟨rfl, rfl, rfl, by simp, fun q hq hne => Below.heap_setCell _ _ _ _ (fun e => hne (by rw [e]))⟩

set_option maxRecDepth 100000 in
set_option maxHeartbeats 8000000 in
theorem rdrop_any {sv tv : Value} {S : List Sp} {T : List St} (mk : Int) (w : World) (hS : Spans w sv S) (hT : Sites w tv T) (hmk : i64 mk) (hn : S.length ≤ 10000) (hn2 : T.length ≤ 10000) :
    Calls Tryz.prog 56 #[.agg #[sv, tv], .int .i64 mk] w (GivesM w (dropS S mk) (dropT T mk)) := by
  obtain ⟨sa, sc, rfl, hls, hcs, hS1⟩ := hS.open_
  obtain ⟨ta, tc, rfl, hlt, hct, hT1⟩ := hT.open_
  have HS := Lib.hid hS1
  have HT := Lib.hid hT1
  obtain ⟨ns, hns⟩ : ∃ ns, ns = S.length := ⟨_, rfl⟩
  obtain ⟨nt, hnt⟩ : ∃ nt, nt = T.length := ⟨_, rfl⟩
  have ES : Hid (dropS (S.take ns) mk = dropS S mk) := by show _ = _; rw [hns, List.take_length]
  have ET : Hid (dropT (T.take nt) mk = dropT T mk) := by show _ = _; rw [hnt, List.take_length]
  rw [← hns] at hls hn ⊢
  rw [← hnt] at hlt hn2 ⊢
  replace hns := Lib.hid hns
  replace hnt := Lib.hid hnt
  obtain ⟨n1, n2⟩ := hmk
  obtain ⟨W0, hW0⟩ : ∃ W0, W0 = ((w.alloc (.cells #[.slice sa ns sc, .slice ta nt tc] 78)).alloc (.cells #[.slice none 0 0, .slice none 0 0] 78)).alloc (.cells #[.slice none 0 0, .slice none 0 0] 78) := ⟨_, rfl⟩
  have b0 : Below w.heap.size w W0 := by rw [hW0]; exact (((Below.refl _ _).alloc (Nat.le_refl _) _).alloc (by simp) _).alloc (by simp; omega) _
  have h0 : W0.heap[w.heap.size]? = some (.cells #[.slice sa ns sc, .slice ta nt tc] 78 (0, 0)) := by
    rw [hW0, Below.heap_alloc _ _ _ (by simp; omega), Below.heap_alloc _ _ _ (by simp)]
    exact heap_alloc_new _ _
  have h0' : W0.heap[w.heap.size + 1]? = some (.cells #[.slice none 0 0, .slice none 0 0] 78 (0, 0)) := by
    have := heap_alloc_new (w.alloc (.cells #[.slice sa ns sc, .slice ta nt tc] 78)) (.cells #[.slice none 0 0, .slice none 0 0] 78)
    rw [hW0, Below.heap_alloc _ _ _ (by simp)]
    simpa using this
  have h0'' : W0.heap[w.heap.size + 1 + 1]? = some (.cells #[.slice none 0 0, .slice none 0 0] 78 (0, 0)) := by
    have := heap_alloc_new ((w.alloc (.cells #[.slice sa ns sc, .slice ta nt tc] 78)).alloc (.cells #[.slice none 0 0, .slice none 0 0] 78)) (.cells #[.slice none 0 0, .slice none 0 0] 78)
    rw [hW0]
    simpa using this
  have l0 : w.heap.size + 1 + 1 < W0.heap.size := by rw [hW0]; simp
  have BX : Hid (∀ w', Below (w.heap.size + 1 + 1) W0 w' → w'.cell? ⟨w.heap.size, 0, none⟩ = some (.slice sa ns sc) ∧ w'.cell? ⟨w.heap.size, 1, none⟩ = some (.slice ta nt tc)) := fun w' hb => by
    refine ⟨below_cell hb (by omega) ?_, below_cell hb (by omega) ?_⟩ <;> (rw [cell_of_row _ _ _ _ _ _ h0]; rfl)
  have HW0 := Lib.hid hW0
  have B0 := Lib.hid b0
  have H0' := Lib.hid h0'
  have H0'' := Lib.hid h0''
  clear hS1 hT1 hS hT h0 h0' h0'' hW0 b0
  go_enter Tryz.func56, Tryz.ntmps56
  go_wp2_with fail
  rw [← HW0.out]
  go_loopw [6] (fun i wr => ∃ (k : Nat) (v : Value), k ≤ ns ∧ i = .int .i64 k ∧ Hid (wr.heap[w.heap.size + 1 + 1]? = some (.cells #[v, .slice none 0 0] 78 (0, 0))) ∧ Hid (OwnSp W0.heap.size wr v (dropS (S.take k) mk)) ∧ Below (w.heap.size + 1 + 1) W0 wr) (fun i _ => ns - (RowKit.intOf i).toNat)
  case atStart => exact ⟨0, .slice none 0 0, Nat.zero_le _, rfl, H0''.out, OwnF.nil_ _ _ _ _, Below.refl _ _⟩
  case round =>
    obtain ⟨k, v, hk, rfl, HK, HO, hbel⟩ := hrel
    obtain ⟨x0, x1⟩ := BX.out _ hbel
    obtain ⟨R, hR⟩ : ∃ R, R = dropS (S.take k) mk := ⟨_, rfl⟩
    have hrl : R.length ≤ k := by rw [hR]; exact dropS_len S mk k
    rw [← hR] at HO
    obtain ⟨ao, co, rfl⟩ := HO.out.is_slice
    have HBwr := Lib.hid hbel
    have w0 : W0.heap.size ≤ wr.heap.size := hbel.size
    have y0 : wr.cell? ⟨w.heap.size + 1 + 1, 0, none⟩ = some (.slice ao R.length co) := by rw [cell_of_row _ _ _ _ _ _ HK.out]; rfl
    have y1 : wr.cell? ⟨w.heap.size + 1 + 1, 1, none⟩ = some (.slice none 0 0) := by rw [cell_of_row _ _ _ _ _ _ HK.out]; rfl
    by_cases hltk : k < ns
    · have hkl : k < S.length := by rw [← hns.out]; exact hltk
      obtain ⟨b, off, rfl, hb, ⟨⟨m1, m2⟩, ⟨f1, f2⟩, ⟨t1, t2⟩⟩, c0, c1, c2⟩ := HS.out k hkl
      have EQ := Lib.hid (dropS_take mk hkl)
      rw [← hR] at EQ
      have hse : ∃ e, e = sp S k := ⟨_, rfl⟩
      obtain ⟨e, he⟩ := hse
      rw [← he] at m1 m2 f1 f2 t1 t2 c0 c1 c2 EQ
      obtain ⟨m, f, t⟩ := e
      simp only at m1 m2 f1 f2 t1 t2 c0 c1 c2 EQ
      have hbel2 : Below w.heap.size w wr := B0.out.trans (hbel.mono (by omega))
      replace c0 := below_cell hbel2 hb c0
      replace c1 := below_cell hbel2 hb c1
      replace c2 := below_cell hbel2 hb c2
      clear hbel hbel2 HS HT hR he
      by_cases q : m = mk
      · have d : (m != mk) = false := by simpa using q
        have EN := Lib.hid (EQ.out.trans (by rw [if_pos q, List.append_nil]))
        clear EQ
        subst q
        go_wp2_with fail
        go_roundw
        case rel => exact ⟨k + 1, _, by omega, by go_num, HK.out, by rw [EN.out]; exact HO.out, HBwr.out⟩
        case measure => simp [RowKit.intOf]; omega
      · have d : (m != mk) = true := by simpa using q
        have EN := Lib.hid (EQ.out.trans (by rw [if_neg q]))
        clear EQ
        have A1 := Lib.hid (OwnF.below HO.out (((Below.refl _ wr).alloc (Nat.le_refl _) (.cells #[.int .i64 m, .int .i64 f, .int .i64 t] 95)).drew))
        have A2 : Hid ((wr.alloc (.cells #[.int .i64 m, .int .i64 f, .int .i64 t] 95)).drew.heap[wr.heap.size]? = some (.cells #[.int .i64 m, .int .i64 f, .int .i64 t] 95 (0, 0))) := heap_alloc_new wr (.cells #[.int .i64 m, .int .i64 f, .int .i64 t] 95)
        have A3 : Hid (R.length ≤ 100000) := by show _ ≤ _; omega
        have A4 : Hid (W0.heap.size ≤ (wr.alloc (.cells #[.int .i64 m, .int .i64 f, .int .i64 t] 95)).drew.heap.size) := by
          show W0.heap.size ≤ (wr.alloc _).heap.size
          simp; omega
        have A5 : Hid (∀ q ∈ [m, f, t], i64 q) := fun q hq => by
          simp at hq
          rcases hq with rfl | rfl | rfl <;> exact ⟨by omega, by omega⟩
        obtain ⟨l6, hl6⟩ : ∃ l6, l6 = (dropS (S.take (k + 1)) mk).length := ⟨_, rfl⟩
        have HAP : Hid (∀ (v6 : Value) (w6 : World), OwnF 95 W0.heap.size w6 v6 (R.length + 1) 3 (fl3 R ++ [m, f, t]) → ((wr.alloc (.cells #[.int .i64 m, .int .i64 f, .int .i64 t] 95)).drew).grownBy w6 (Value.slice ao R.length co).ownBlock →
            (∃ a6 c6, v6 = .slice a6 l6 c6) ∧ w6.cell? ⟨w.heap.size + 1 + 1, 0, none⟩ = some (.slice ao R.length co) ∧ w6.cell? ⟨w.heap.size + 1 + 1, 1, none⟩ = some (.slice none 0 0) ∧ w6.frozen? ⟨w.heap.size + 1 + 1, 0, none⟩ = false ∧
            Hid ((w6.setCell ⟨w.heap.size + 1 + 1, 0, none⟩ v6).heap[w.heap.size + 1 + 1]? = some (.cells #[v6, .slice none 0 0] 78 (0, 0))) ∧ Hid (OwnSp W0.heap.size (w6.setCell ⟨w.heap.size + 1 + 1, 0, none⟩ v6) v6 (dropS (S.take (k + 1)) mk)) ∧ Hid (Below (w.heap.size + 1 + 1) W0 (w6.setCell ⟨w.heap.size + 1 + 1, 0, none⟩ v6))) := fun v6 w6 h5 g5 => by
          have K6 : OwnSp W0.heap.size w6 v6 (dropS (S.take (k + 1)) mk) := by
            show OwnF _ _ _ _ _ _ _
            rw [EN.out, fl3_app, List.length_append]
            exact h5
          have hB6 : w6.heap[w.heap.size + 1 + 1]? = some (.cells #[.slice ao R.length co, .slice none 0 0] 78 (0, 0)) := by
            rw [g5.block _ (by show w.heap.size + 1 + 1 < (wr.alloc _).heap.size; simp; omega) (fun e => by have := (A1.out.block _ e.symm).1; omega)]
            show (wr.alloc _).heap[_]? = _
            rw [Below.heap_alloc _ _ _ (by omega)]
            exact HK.out
          refine ⟨by rw [hl6]; exact K6.is_slice, by rw [cell_of_row _ _ _ _ _ _ hB6]; rfl, by rw [cell_of_row _ _ _ _ _ _ hB6]; rfl, block_frozen hB6, ?_, ?_, ?_⟩
          · show _ = _
            rw [heap_setCell_same _ _ _ _ _ _ hB6]
            rfl
          · exact K6.kept (grown_setCell _ _ _) (.inr (fun e => by have := (K6.block _ e).1; omega))
          · exact (((HBwr.out.alloc (by omega) _).drew.grown g5 (by show w.heap.size + 1 + 1 ≤ (wr.alloc _).heap.size; simp; omega) (fun q e => by have := (A1.out.block q e).1; omega))).setCell (p := ⟨w.heap.size + 1 + 1, 0, none⟩) (Nat.le_refl _) _
        clear hl6
        have ya : (wr.alloc (.cells #[.int .i64 m, .int .i64 f, .int .i64 t] 95)).cell? ⟨w.heap.size + 1 + 1, 0, none⟩ = some (.slice ao R.length co) := by
          rw [cell_of_row _ _ _ _ _ _ (by rw [Below.heap_alloc _ _ _ (by omega)]; exact HK.out)]
          rfl
        go_wp2_with fail
        go_region_law (refine step_append_rec rfl _ _ 22 95 3 24 _ Tryz.underlying22 infoSpan rfl (by decide) (by decide) rfl W0.heap.size _ R.length _ rfl A1.out wr.heap.size [m, f, t] rfl A2.out rfl A5.out A3.out A4.out ?_; intro v6 w6 h5 g5; obtain ⟨⟨a6, c6, rfl⟩, u6, u7, f6, E1, E2, E3⟩ := HAP.out v6 w6 h5 g5; clear h5 g5)
        all_goals go_wp2_with fail
        all_goals go_roundw
        all_goals first | (exact ⟨k + 1, _, by omega, by go_num, E1.out, E2.out, E3.out⟩) | (simp [RowKit.intOf]; omega)
    · obtain rfl : k = ns := by omega
      have HR : Hid (R = dropS S mk) := hR.trans ES.out
      have HV1 : Hid (∀ b, (Value.slice ao R.length co).ownBlock = some b → W0.heap.size ≤ b ∧ b < wr.heap.size) := HO.out.block
      have HOW := Lib.hid hbel
      have HOr := HO
      rw [show R = dropS S mk from HR.out] at HK HO HV1
      obtain ⟨D, hD⟩ : ∃ D, D = dropS S mk := ⟨_, rfl⟩
      rw [← hD] at HK HO HV1 ⊢
      obtain ⟨w1, hw1⟩ : ∃ w1 : World, w1 = wr := ⟨_, rfl⟩
      have w10 := w0
      rw [← hw1] at HK HO HV1 HOW w10
      clear HBwr HOr HR hR hrl hbel x0 x1 y0 y1 w0
      have HDD := Lib.hid hD
      clear hD
      subst hw1
      have x0 := (BX.out _ HOW.out).1
      have x1 := (BX.out _ HOW.out).2
      generalize D.length = d1 at *
      go_wp2_with fail
      go_loopw [7] (fun i wr => ∃ (k : Nat) (v : Value), k ≤ nt ∧ i = .int .i64 k ∧ Hid (wr.heap[w.heap.size + 1 + 1]? = some (.cells #[.slice ao d1 co, v] 78 (0, 0))) ∧ Hid (OwnSp W0.heap.size wr (.slice ao d1 co) D) ∧ Hid (OwnSt w1.heap.size wr v (dropT (T.take k) mk)) ∧ Hid (w1.heap.size ≤ wr.heap.size) ∧ Below (w.heap.size + 1 + 1) W0 wr) (fun i _ => nt - (RowKit.intOf i).toNat)
      case atStart => exact ⟨0, .slice none 0 0, Nat.zero_le _, rfl, HK.out, HO.out, OwnF.nil_ _ _ _ _, Nat.le_refl _, HOW.out⟩
      case round =>
        clear HK HO HOW x0 x1
        obtain ⟨k, v, hk, rfl, HK, HD, HO, HL, hbel⟩ := hrel
        obtain ⟨x0, x1⟩ := BX.out _ hbel
        obtain ⟨R, hR⟩ : ∃ R, R = dropT (T.take k) mk := ⟨_, rfl⟩
        have hrl : R.length ≤ k := by rw [hR]; exact dropT_len T mk k
        rw [← hR] at HO
        obtain ⟨bo, do_, rfl⟩ := HO.out.is_slice
        have HBwr := Lib.hid hbel
        have w0 : w1.heap.size ≤ wr.heap.size := HL.out
        have y0 : wr.cell? ⟨w.heap.size + 1 + 1, 0, none⟩ = some (.slice ao d1 co) := by rw [cell_of_row _ _ _ _ _ _ HK.out]; rfl
        have y1 : wr.cell? ⟨w.heap.size + 1 + 1, 1, none⟩ = some (.slice bo R.length do_) := by rw [cell_of_row _ _ _ _ _ _ HK.out]; rfl
        by_cases hltk : k < nt
        · have hkl : k < T.length := by rw [← hnt.out]; exact hltk
          obtain ⟨b, off, rfl, hb, ⟨⟨m1, m2⟩, ⟨f1, f2⟩⟩, c0, c1⟩ := HT.out k hkl
          have EQ := Lib.hid (dropT_take mk hkl)
          rw [← hR] at EQ
          have hse : ∃ e, e = st T k := ⟨_, rfl⟩
          obtain ⟨e, he⟩ := hse
          rw [← he] at m1 m2 f1 f2 c0 c1 EQ
          obtain ⟨m, f⟩ := e
          simp only at m1 m2 f1 f2 c0 c1 EQ
          have hbel2 : Below w.heap.size w wr := B0.out.trans (hbel.mono (by omega))
          replace c0 := below_cell hbel2 hb c0
          replace c1 := below_cell hbel2 hb c1
          clear hbel hbel2 HS HT hR he
          by_cases q : m = mk
          · have d : (m != mk) = false := by simpa using q
            have EN := Lib.hid (EQ.out.trans (by rw [if_pos q, List.append_nil]))
            clear EQ
            subst q
            go_wp2_with fail
            go_roundw
            case rel => exact ⟨k + 1, _, by omega, by go_num, HK.out, HD.out, by rw [EN.out]; exact HO.out, HL.out, HBwr.out⟩
            case measure => simp [RowKit.intOf]; omega
          · have d : (m != mk) = true := by simpa using q
            have EN := Lib.hid (EQ.out.trans (by rw [if_neg q]))
            clear EQ
            have A0 := Lib.hid (((Below.refl _ wr).alloc (Nat.le_refl _) (.cells #[.int .i64 m, .int .i64 f] 106)).drew)
            have A1 := Lib.hid (OwnF.below HO.out A0.out)
            have A2 : Hid ((wr.alloc (.cells #[.int .i64 m, .int .i64 f] 106)).drew.heap[wr.heap.size]? = some (.cells #[.int .i64 m, .int .i64 f] 106 (0, 0))) := heap_alloc_new wr (.cells #[.int .i64 m, .int .i64 f] 106)
            have A3 : Hid (R.length ≤ 100000) := by show _ ≤ _; omega
            have A4 : Hid (w1.heap.size ≤ (wr.alloc (.cells #[.int .i64 m, .int .i64 f] 106)).drew.heap.size) := by
              show w1.heap.size ≤ (wr.alloc _).heap.size
              simp; omega
            have A5 : Hid (∀ q ∈ [m, f], i64 q) := fun q hq => by
              simp at hq
              rcases hq with rfl | rfl <;> exact ⟨by omega, by omega⟩
            obtain ⟨l6, hl6⟩ : ∃ l6, l6 = (dropT (T.take (k + 1)) mk).length := ⟨_, rfl⟩
            have HAP : Hid (∀ (v6 : Value) (w6 : World), OwnF 106 w1.heap.size w6 v6 (R.length + 1) 2 (fl2 R ++ [m, f]) → ((wr.alloc (.cells #[.int .i64 m, .int .i64 f] 106)).drew).grownBy w6 (Value.slice bo R.length do_).ownBlock →
                (∃ a6 c6, v6 = .slice a6 l6 c6) ∧ w6.cell? ⟨w.heap.size + 1 + 1, 0, none⟩ = some (.slice ao d1 co) ∧ w6.cell? ⟨w.heap.size + 1 + 1, 1, none⟩ = some (.slice bo R.length do_) ∧ w6.frozen? ⟨w.heap.size + 1 + 1, 1, none⟩ = false ∧
                Hid ((w6.setCell ⟨w.heap.size + 1 + 1, 1, none⟩ v6).heap[w.heap.size + 1 + 1]? = some (.cells #[.slice ao d1 co, v6] 78 (0, 0))) ∧ Hid (OwnSp W0.heap.size (w6.setCell ⟨w.heap.size + 1 + 1, 1, none⟩ v6) (.slice ao d1 co) D) ∧ Hid (OwnSt w1.heap.size (w6.setCell ⟨w.heap.size + 1 + 1, 1, none⟩ v6) v6 (dropT (T.take (k + 1)) mk)) ∧ Hid (w1.heap.size ≤ (w6.setCell ⟨w.heap.size + 1 + 1, 1, none⟩ v6).heap.size) ∧ Hid (Below (w.heap.size + 1 + 1) W0 (w6.setCell ⟨w.heap.size + 1 + 1, 1, none⟩ v6))) := fun v6 w6 h5 g5 => by
              have K6 : OwnSt w1.heap.size w6 v6 (dropT (T.take (k + 1)) mk) := by
                show OwnF _ _ _ _ _ _ _
                rw [EN.out, fl2_app, List.length_append]
                exact h5
              have hB6 : w6.heap[w.heap.size + 1 + 1]? = some (.cells #[.slice ao d1 co, .slice bo R.length do_] 78 (0, 0)) := by
                rw [g5.block _ (by show w.heap.size + 1 + 1 < (wr.alloc _).heap.size; simp; omega) (fun e => by have := (A1.out.block _ e.symm).1; omega)]
                show (wr.alloc _).heap[_]? = _
                rw [Below.heap_alloc _ _ _ (by omega)]
                exact HK.out
              have hD6 : OwnSp W0.heap.size w6 (.slice ao d1 co) D := (OwnF.below HD.out A0.out).kept g5 (by
                cases hx : (Value.slice ao d1 co).ownBlock with
                | none => exact .inl rfl
                | some x =>
                  refine .inr (fun e => ?_)
                  have h1 := (HV1.out x hx).2
                  have h2 := (A1.out.block x e.symm).1
                  omega)
              refine ⟨by rw [hl6]; exact K6.is_slice, by rw [cell_of_row _ _ _ _ _ _ hB6]; rfl, by rw [cell_of_row _ _ _ _ _ _ hB6]; rfl, block_frozen hB6, ?_, ?_, ?_, ?_, ?_⟩
              · show _ = _
                rw [heap_setCell_same _ _ _ _ _ _ hB6]
                rfl
              · exact OwnF.kept hD6 (grown_setCell _ _ _) (.inr (fun e => by have := (OwnF.block hD6 _ e).1; omega))
              · exact OwnF.kept K6 (grown_setCell _ _ _) (.inr (fun e => by have := (OwnF.block K6 _ e).1; omega))
              · show w1.heap.size ≤ _
                have := g5.size
                have h2 := A4.out
                simp
                omega
              · exact (((HBwr.out.alloc (by omega) _).drew.grown g5 (by show w.heap.size + 1 + 1 ≤ (wr.alloc _).heap.size; simp; omega) (fun q e => by have := (A1.out.block q e).1; omega))).setCell (p := ⟨w.heap.size + 1 + 1, 1, none⟩) (Nat.le_refl _) _
            clear hl6
            have hn3 : ¬ w.heap.size + 1 + 1 = wr.heap.size := by omega
            have yc : ∀ j, (wr.alloc (.cells #[.int .i64 m, .int .i64 f] 106)).cell? ⟨w.heap.size + 1 + 1, j, none⟩ = wr.cell? ⟨w.heap.size + 1 + 1, j, none⟩ := fun j => by
              rw [cell_of_row _ _ _ _ _ _ HK.out, cell_of_row _ _ _ _ _ _ (by rw [Below.heap_alloc _ _ _ (by omega)]; exact HK.out)]
            have ya := (yc 0).trans y0
            have yb := (yc 1).trans y1
            clear yc
            go_wp2_with fail
            go_region_law (refine step_append_rec rfl _ _ 23 106 2 16 _ Tryz.underlying23 infoSite rfl (by decide) (by decide) rfl w1.heap.size _ R.length _ rfl A1.out wr.heap.size [m, f] rfl A2.out rfl A5.out A3.out A4.out ?_; intro v6 w6 h5 g5; obtain ⟨⟨a6, c6, rfl⟩, u6, u7, f6, E1, E2, E3, E4, E5⟩ := HAP.out v6 w6 h5 g5; clear h5 g5)
            all_goals go_wp2_with fail
            all_goals go_roundw
            all_goals first | (exact ⟨k + 1, _, by omega, by go_num, E1.out, E2.out, E3.out, E4.out, E5.out⟩) | (simp [RowKit.intOf]; omega)
        · obtain rfl : k = nt := by omega
          have HR : Hid (R = dropT T mk) := hR.trans ET.out
          have r0 : wr.heap[w.heap.size + 1]? = some (.cells #[.slice none 0 0, .slice none 0 0] 78 (0, 0)) := by
            rw [HBwr.out.block _ (by omega)]
            exact H0'.out
          have u0 : wr.cell? ⟨w.heap.size + 1, 0, none⟩ = some (.slice none 0 0) := by rw [cell_of_row _ _ _ _ _ _ r0]; rfl
          have u1 : wr.cell? ⟨w.heap.size + 1, 1, none⟩ = some (.slice none 0 0) := by rw [cell_of_row _ _ _ _ _ _ r0]; rfl
          have f0 : wr.frozen? ⟨w.heap.size + 1, 0, none⟩ = false := block_frozen r0
          have f1 : wr.frozen? ⟨w.heap.size + 1, 1, none⟩ = false := block_frozen r0
          have FIN := Lib.hid (give_end (B := w.heap.size + 1) (Nat.le_add_right _ 1) r0 (OwnSp.spans HD.out) (OwnSt.sites HO.out) (B0.out.trans (HBwr.out.mono (by omega))))
          obtain ⟨z0, z1⟩ := res_cells (a1 := ao) (n1 := d1) (c1 := co) (a2 := bo) (n2 := R.length) (c2 := do_) r0
          clear hbel r0 hR HD HO HS HT
          generalize R.length = rn at *
          go_wp2_with fail
          exact bodyPost_ret (v := .agg #[.slice ao d1 co, .slice bo rn do_]) (by simp [results, Tryz.results56, go_sem, z0, z1]) rfl (by rw [← HR.out]; first | exact FIN.out | (rw [← HDD.out]; exact FIN.out))
end Go.Proofs.YtkgdfclpogiemaaGreatDoor.Rig
