/- Contracts: Put and Take of the plain text. -/
import Derived.Test.YtengmiolcfgdiaaDoorMsite
import Derived.Test.YtengmiolcfgdiaaDoorAppend
set_option linter.unusedVariables false
namespace Go.Proofs.YtengmiolcfgdiaaDoor.Rig
open Go.RowKit Go.Lib Go.Proofs.YtengmiolcfgdiaaDoor.Rt

theorem letters_len (S : List Sp) (n : Nat) : (letters S n).length = n := by simp [letters]
theorem at_take2 {xs : List Int} {i j : Nat} (h : j < i) : at_ (xs.take i) j = at_ xs j := by
  unfold at_
  rw [List.getD_eq_getElem?_getD, List.getD_eq_getElem?_getD, List.getElem?_take_of_lt h]
theorem at_drop2 (xs : List Int) (i j : Nat) : at_ (xs.drop i) j = at_ xs (i + j) := by
  unfold at_
  rw [List.getD_eq_getElem?_getD, List.getD_eq_getElem?_getD, List.getElem?_drop]
theorem Ints.take_ {w : World} {g off n c : Nat} {ys : List Int} (h : Ints w (.slice (some ⟨g, off, none⟩) n c) ys) (hn : n = ys.length) (i : Nat) (hi : i ≤ n) : Ints w (.slice (some ⟨g, off, none⟩) i c) (ys.take i) := by
  obtain ⟨h0, a, cap, hv, h1, h2, h3⟩ := h
  have hl : (ys.take i).length = i := by rw [List.length_take]; omega
  injection hv with e1 e2 e3
  subst e3
  refine ⟨fun x hx => h0 x (List.mem_of_mem_take hx), some ⟨g, off, none⟩, c, by rw [hl], by omega, h2, ?_⟩
  rcases h3 with h3 | ⟨b, o, e, hb, hc⟩
  · left; rw [h3, List.take_nil]
  · rw [← e1] at e
    refine .inr ⟨b, o, e, hb, fun j hj => ?_⟩
    rw [hl] at hj
    rw [at_take2 hj]
    exact hc j (by omega)
theorem Ints.drop_ {w : World} {g off n c : Nat} {ys : List Int} (h : Ints w (.slice (some ⟨g, off, none⟩) n c) ys) (hn : n = ys.length) (i : Nat) (hi : i ≤ n) : Ints w (.slice (some ⟨g, off + i, none⟩) (n - i) (c - i)) (ys.drop i) := by
  obtain ⟨h0, a, cap, hv, h1, h2, h3⟩ := h
  have hl : (ys.drop i).length = n - i := by rw [List.length_drop]; omega
  injection hv with e1 e2 e3
  subst e3
  refine ⟨fun x hx => h0 x (List.mem_of_mem_drop hx), some ⟨g, off + i, none⟩, c - i, by rw [hl], by omega, by omega, ?_⟩
  rcases h3 with h3 | ⟨b, o, e, hb, hc⟩
  · left; rw [h3, List.drop_nil]
  · rw [← e1] at e
    injection e with e
    injection e with e2 e3
    subst e2 e3
    refine .inr ⟨g, off + i, rfl, hb, fun j hj => ?_⟩
    rw [hl] at hj
    rw [at_drop2, Nat.add_assoc]
    exact hc (i + j) (by omega)
theorem Ints.none_of {w : World} {g off c : Nat} (hg : c ≤ maxLen) : Ints w (.slice (some ⟨g, off, none⟩) 0 c) [] := ⟨fun x hx => by simp at hx, _, c, rfl, Nat.zero_le _, hg, .inl rfl⟩

def putLs (ys : List Int) (i k : Nat) (mk : Int) : List Int := ys.take i ++ (List.replicate k (max mk 0) ++ ys.drop i)
def shift (at' : Int) (k : Int) (s : St) : St := if at' < s.a then ⟨s.m, s.a + k⟩ else s
/-- The sites, each carried by g, in their places (a site that stands already is not added). -/
def mapT (g : St → St) (T : List St) : Nat → List St
  | 0 => []
  | i + 1 => siteL (mapT g T i) (g (st T i))
theorem mapT_len (g : St → St) (T : List St) : ∀ i, (mapT g T i).length ≤ i
  | 0 => Nat.le_refl _
  | i + 1 => by
    have h1 := mapT_len g T i
    have h2 := siteL_len (mapT g T i) (g (st T i))
    unfold mapT
    omega

theorem block_frozen {w : World} {g j : Nat} {cur : Array Value} {t : TypeId} (h : w.heap[g]? = some (.cells cur t (0, 0))) : w.frozen? ⟨g, j, none⟩ = false := frozen_of_row w g j cur t h
theorem two_slices {w : World} {B o : Nat} {T : TypeId} {a1 a2 : Option Addr} {n1 c1 n2 c2 : Nat} {x : Int} (h : w.heap[B]? = some (.cells #[.slice a1 n1 c1, .slice a2 n2 c2] T (0, 0))) : w.cell? ⟨B, o, none⟩ ≠ some (.int .i64 x) := by
  rw [cell_of_row _ _ _ _ _ _ h]
  match o with
  | 0 => simp
  | 1 => simp
  | o + 2 => simp
theorem Fl.setBlock {w : World} {v u : Value} {n k : Nat} {zs : List Int} {B i : Nat} {T : TypeId} {a1 a2 : Option Addr} {n1 c1 n2 c2 : Nat} (h : Fl w v n k zs) (hk : 0 < k) (hB : w.heap[B]? = some (.cells #[.slice a1 n1 c1, .slice a2 n2 c2] T (0, 0))) : Fl (w.setCell ⟨B, i, none⟩ u) v n k zs := by
  obtain ⟨h0, h0', a, cap, rfl, h1, h2, h3⟩ := h
  refine ⟨h0, h0', a, cap, rfl, h1, h2, ?_⟩
  rcases h3 with h3 | ⟨b, off, rfl, hlt, hc⟩
  · exact .inl h3
  · by_cases hn : n = 0
    · exact .inl hn
    · have hne : b ≠ B := by
        rintro rfl
        have := hc 0 (Nat.mul_pos (Nat.pos_of_ne_zero hn) hk)
        exact two_slices hB this
      refine .inr ⟨b, off, rfl, by simpa using hlt, fun j hj => ?_⟩
      rw [World.cell?_of_block (w := w) (a := ⟨b, off + j, none⟩) (Below.heap_setCell w ⟨B, i, none⟩ u b (by exact hne))]
      exact hc j hj

/-- It hands marks back; nothing old has turned. -/
def GivesM (w : World) (S : List Sp) (T : List St) (e : Ending) (w' : World) : Prop := ∃ v1 v2, e = .returned (.agg #[v1, v2]) ∧ Spans w' v1 S ∧ Sites w' v2 T ∧ Below w.heap.size w w'

set_option maxRecDepth 100000 in
set_option maxHeartbeats 8000000 in
theorem rput_any {sv tv : Value} {S : List Sp} {T : List St} (n at' k : Nat) (mk : Int) (w : World) (hS : Spans w sv S) (hT : Sites w tv T) (hn : n ≤ 3000) (hat : at' ≤ n) (hk : k ≤ 3000) (hmk : i64 mk) (hTn : T.length ≤ 3000)
    (hok : ∀ j, j < S.length → 0 ≤ (sp S j).f ∧ (sp S j).f ≤ (sp S j).t ∧ (sp S j).t ≤ (n : Int)) (hst : ∀ j, j < T.length → 0 ≤ (st T j).a ∧ (st T j).a ≤ (n : Int)) :
    Calls Tryd.prog 50 #[.agg #[sv, tv], .int .i64 n, .int .i64 at', .int .i64 k, .int .i64 mk] w (GivesM w (runs (putLs (letters S n) at' k mk)) (mapT (shift at' k) T T.length)) := by
  have hll := letters_len S n
  obtain ⟨ta, tc, rfl, hlt, hct, hT1⟩ := hT.open_
  have HT := Lib.hid hT1
  have HST := Lib.hid hst
  have C1 : Hid (∀ w', Below w.heap.size w w' → Calls Tryd.prog 75 #[.agg #[sv, .slice ta T.length tc], .int .i64 n] w' (NewE w' n (letters S n))) := fun w' hb => each_any n w' (hS.below hb (Nat.le_refl _)) (hT.below hb (Nat.le_refl _)) (by omega) hok
  obtain ⟨sa, sc, rfl⟩ := hS.is_slice
  generalize S.length = ns at *
  obtain ⟨nt, hnt⟩ : ∃ nt, nt = T.length := ⟨_, rfl⟩
  rw [← hnt] at hlt hTn C1 ⊢
  replace hnt := Lib.hid hnt
  obtain ⟨ys, hys⟩ : ∃ ys, ys = letters S n := ⟨_, rfl⟩
  rw [← hys] at C1 hll ⊢
  have HYL := Lib.hid hll
  have HYS := Lib.hid hys
  obtain ⟨mk1, mk2⟩ := hmk
  obtain ⟨W0, hW0⟩ : ∃ W0, W0 = (w.alloc (.cells #[.slice sa ns sc, .slice ta nt tc] 69)).alloc (.cells #[.slice none 0 0, .slice none 0 0] 69) := ⟨_, rfl⟩
  have b0 : Below w.heap.size w W0 := by rw [hW0]; exact ((Below.refl _ _).alloc (Nat.le_refl _) _).alloc (by simp) _
  have h0 : W0.heap[w.heap.size]? = some (.cells #[.slice sa ns sc, .slice ta nt tc] 69 (0, 0)) := by
    rw [hW0, Below.heap_alloc _ _ _ (by simp)]
    exact heap_alloc_new _ _
  have h0' : W0.heap[w.heap.size + 1]? = some (.cells #[.slice none 0 0, .slice none 0 0] 69 (0, 0)) := by
    have := heap_alloc_new (w.alloc (.cells #[.slice sa ns sc, .slice ta nt tc] 69)) (.cells #[.slice none 0 0, .slice none 0 0] 69)
    rw [hW0]
    simpa using this
  have l0 : w.heap.size + 2 ≤ W0.heap.size := by rw [hW0]; simp
  have HW0 := Lib.hid hW0
  have B0 := Lib.hid b0
  have H0 := Lib.hid h0
  have H0' := Lib.hid h0'
  clear hT1 hS hT h0 h0' hW0 b0 hok hst hys hll
  go_enter Tryd.func50, Tryd.ntmps50
  go_wp2_with fail
  rw [← HW0.out]
  refine (C1.out _ B0.out).mono ?_
  rintro e w1 ⟨rfl, hO, hb1⟩
  have I1 := Lib.hid hO.ints
  have HB1 := Lib.hid (below_more B0.out hb1)
  have HBW0 := Lib.hid hb1
  have A1 := Lib.hid (World.ownsRow_nil w1 w1.heap.size 3 1)
  obtain ⟨p, hp⟩ : ∃ p, p = ys.take at' := ⟨_, rfl⟩
  have A2 := Lib.hid (I1.out.take_ HYL.out.symm at' hat)
  have hpl : p.length ≤ 3000 := by rw [hp, List.length_take]; omega
  rw [← hp] at A2
  have HP := Lib.hid hp
  have HPI : Hid (∀ x ∈ p, i64 x) := fun x hx => I1.out.1 x (List.mem_of_mem_take (by rw [← hp]; exact hx))
  have A3 : Hid (0 + p.length ≤ 100000) := by show _ ≤ _; omega
  have A4 : Hid (w1.heap.size ≤ w1.heap.size) := Nat.le_refl _
  obtain ⟨G, hG⟩ : ∃ G, G = W0.heap.size + 1 := ⟨_, rfl⟩
  rw [← hG] at A2 I1 ⊢
  have i0 : (0 : Int) ≤ (at' : Int) := by omega
  have i1 : (at' : Int) ≤ (n : Int) := by omega
  clear hO hb1 C1 hG hp
  go_wp2_with (at_builtin; refine wpList_append_ints rfl _ _ rfl w1.heap.size _ 0 [] rfl A1.out _ p rfl A2.out A3.out A4.out ?_)
  intro v2 w2 h2 g2
  have L2 : Hid (OwnI w1.heap.size w2 v2 p) := ⟨by first | exact h2 | simpa using h2, HPI.out⟩
  have HB2 : Hid (Below w1.heap.size w1 w2) := ⟨g2.os, g2.tape, g2.output, g2.size, fun q hq => g2.block q hq (by simp [Value.ownBlock])⟩
  clear h2 g2 A1 A2 A3 A4
  obtain ⟨mx, hmx⟩ : ∃ mx, mx = max mk 0 := ⟨_, rfl⟩
  have MX : Hid (mx = max mk 0) := hmx
  have mx1 : 0 ≤ mx := by omega
  have mx2 : mx ≤ 9223372036854775807 := by omega
  have mxp : 0 ≤ mk → mx = mk := by omega
  have mxn : mk < 0 → mx = 0 := by omega
  have MXP := Lib.hid mxp
  have MXN := Lib.hid mxn
  clear hmx mxp mxn
  go_wp2_with fail
  go_loopw [12, 13] (fun t i wr => ∃ j : Nat, j ≤ k ∧ i = .int .i64 j ∧ Hid (OwnI w1.heap.size wr t (p ++ List.replicate j mx)) ∧ Below w1.heap.size w1 wr) (fun _ i _ => k - (RowKit.intOf i).toNat)
  case atStart => exact ⟨0, Nat.zero_le _, rfl, by rw [List.replicate_zero, List.append_nil]; exact L2.out, HB2.out⟩
  case round =>
    obtain ⟨j, hj, rfl, HO, hbel⟩ := hrel
    obtain ⟨zs, hzs⟩ : ∃ zs, zs = p ++ List.replicate j mx := ⟨_, rfl⟩
    have hzl : zs.length ≤ 6000 := by rw [hzs, List.length_append, List.length_replicate]; omega
    rw [← hzs] at HO
    obtain ⟨ao, co, rfl⟩ := HO.out.is_slice
    have HBwr := Lib.hid hbel
    by_cases hjk : j < k
    · have A1 := Lib.hid (OwnI.below HO.out ((Below.refl _ wr).alloc (Nat.le_refl _) (.cells #[.int .i64 mx] 3)))
      have A2 := Lib.hid (heap_alloc_new wr (.cells #[.int .i64 mx] 3))
      have A3 : Hid (zs.length ≤ 10000) := by show _ ≤ _; omega
      have A4 : Hid (w1.heap.size ≤ (wr.alloc (.cells #[.int .i64 mx] 3)).heap.size) := by show _ ≤ _; have := HBwr.out.size; simp; omega
      have A5 : Hid (i64 mx) := ⟨by omega, by omega⟩
      have HZ := Lib.hid hzs
      clear hbel hzs HT
      by_cases hm : 0 ≤ mk
      · have e : mx = mk := MXP.out hm
        have dm : ¬ mk < 0 := by omega
        subst e
        go_wp2_with (at_builtin; refine wpList_append_one rfl _ _ rfl w1.heap.size _ _ rfl A1.out wr.heap.size _ rfl A2.out A5.out A3.out A4.out ?_)
        intro v5 w5 h5 g5
        have K5 : Hid (OwnI w1.heap.size w5 v5 (p ++ List.replicate (j + 1) mx)) := by
          show OwnI _ _ _ _
          rw [List.replicate_succ', ← List.append_assoc, ← HZ.out]
          exact h5
        have B5 := Lib.hid ((HBwr.out.alloc HBwr.out.size _).grown g5 A4.out (fun q e => (A1.out.block q e).1))
        obtain ⟨a5, c5, rfl⟩ := K5.out.is_slice
        generalize (p ++ List.replicate (j + 1) mx).length = l5 at *
        clear h5 g5 A1 A2 A3 A4 A5 HO HZ
        go_wp2_with fail
        go_roundw
        case rel => exact ⟨j + 1, by omega, by go_num, K5.out, B5.out⟩
        case measure => simp [RowKit.intOf]; omega
      · have e : mx = 0 := MXN.out (by omega)
        have dm : mk < 0 := by omega
        subst e
        go_wp2_with (at_builtin; refine wpList_append_one rfl _ _ rfl w1.heap.size _ _ rfl A1.out wr.heap.size _ rfl A2.out A5.out A3.out A4.out ?_)
        intro v5 w5 h5 g5
        have K5 : Hid (OwnI w1.heap.size w5 v5 (p ++ List.replicate (j + 1) 0)) := by
          show OwnI _ _ _ _
          rw [List.replicate_succ', ← List.append_assoc, ← HZ.out]
          exact h5
        have B5 := Lib.hid ((HBwr.out.alloc HBwr.out.size _).grown g5 A4.out (fun q e => (A1.out.block q e).1))
        obtain ⟨a5, c5, rfl⟩ := K5.out.is_slice
        generalize (p ++ List.replicate (j + 1) 0).length = l5 at *
        clear h5 g5 A1 A2 A3 A4 A5 HO HZ
        go_wp2_with fail
        go_roundw
        case rel => exact ⟨j + 1, by omega, by go_num, K5.out, B5.out⟩
        case measure => simp [RowKit.intOf]; omega
    · obtain rfl : j = k := by omega
      have A4 : Hid (w1.heap.size ≤ wr.heap.size) := hbel.size
      have hyl : ys.length = n := HYL.out
      have IW := Lib.hid (I1.out.below hbel (Nat.le_refl _))
      obtain ⟨q, hq⟩ : ∃ q, q = ys.drop at' := ⟨_, rfl⟩
      have hql : q.length ≤ 3000 := by rw [hq, List.length_drop]; omega
      have HQI : Hid (∀ x ∈ q, i64 x) := fun x hx => I1.out.1 x (List.mem_of_mem_drop (by rw [← hq]; exact hx))
      have A3 : Hid (zs.length + q.length ≤ 100000) := by show _ ≤ _; omega
      have RES : Hid (zs ++ q = putLs ys at' j mk) := by
        show _ = _
        rw [hzs, hq, HP.out, List.append_assoc]
        unfold putLs
        rw [show max mk 0 = mx by by_cases hm : 0 ≤ mk <;> first | (rw [MXP.out hm]; omega) | (rw [MXN.out (by omega)]; omega)]
      have HAP : Hid (∀ (v5 : Value) (w5 : World), w5.ownsRow w1.heap.size 3 1 v5 (zs.length + q.length) (ints zs ++ ints q) → wr.grownBy w5 (Value.slice ao zs.length co).ownBlock → OwnI w1.heap.size w5 v5 (putLs ys at' j mk) ∧ Below w1.heap.size w1 w5) := fun v5 w5 h5 g5 => by
        refine ⟨⟨?_, fun x hx => ?_⟩, HBwr.out.grown g5 A4.out (fun b e => (HO.out.block b e).1)⟩
        · rw [← RES.out, List.length_append, ints_app]
          exact h5
        · rw [← RES.out, List.mem_append] at hx
          rcases hx with hx | hx
          · exact HO.out.2 x hx
          · exact HQI.out x hx
      have HPL : Hid ((putLs ys at' j mk).length ≤ 10000) := by
        show _ ≤ _
        rw [← RES.out, List.length_append]
        omega
      have OW : Hid (wr.ownsRow w1.heap.size 3 1 (.slice ao zs.length co) zs.length (ints zs)) := HO.out.1
      have SRC : Hid (∃ a' c', (Value.slice (if n = at' then some ⟨G, 0, none⟩ else some ⟨G, at', none⟩) (n - at') (n - at')) = .slice a' q.length c' ∧ Ints wr (.slice (if n = at' then some ⟨G, 0, none⟩ else some ⟨G, at', none⟩) (n - at') (n - at')) q) := by
        have hl : q.length = n - at' := by rw [hq, List.length_drop]; omega
        refine ⟨_, _, by rw [hl], ?_⟩
        by_cases e : n = at'
        · rw [if_pos e]
          have : q = [] := List.eq_nil_of_length_eq_zero (by omega)
          rw [this, show n - at' = 0 by omega]
          exact Ints.none_of (Nat.zero_le _)
        · rw [if_neg e]
          have := IW.out.drop_ hyl.symm at' hat
          rw [Nat.zero_add, ← hq] at this
          exact this
      clear hbel hzs hyl hq HO
      by_cases hend : n = at'
      · have A2 : Hid (Ints wr (.slice (some ⟨G, 0, none⟩) 0 0) q) := by
          obtain ⟨_, _, _, hsrc⟩ := SRC.out
          rw [if_pos hend, show n - at' = 0 by omega] at hsrc
          exact hsrc
        clear SRC
        subst hend
        go_wp2_with (at_builtin; refine wpList_append_ints rfl _ _ rfl w1.heap.size _ zs.length _ rfl OW.out _ q rfl A2.out A3.out A4.out ?_)
        intro v5 w5 h5 g5
        obtain ⟨P5, hB5⟩ := HAP.out v5 w5 (by first | exact h5 | simpa using h5) g5
        have CS6 := Lib.hid (spans_any w5 P5.ints HPL.out)
        have HB5 := Lib.hid hB5
        obtain ⟨a5, c5, rfl⟩ := P5.is_slice
        generalize (putLs ys n j mk).length = l5 at *
        clear P5 hB5 HAP h5 g5 OW A2 A3 A4 HPL RES IW HQI
        go_wp2_with fail
        refine CS6.out.mono ?_
        rintro e w6 ⟨v6, rfl, hS6, hb6⟩
        have HB6 := Lib.hid (below_more (below_more HB1.out HB5.out) hb6)
        have HX6 := Lib.hid (below_more (below_more HBW0.out HB5.out) hb6)
        have SP6 := Lib.hid hS6.spans
        obtain ⟨a6, c6, rfl⟩ := hS6.is_slice
        obtain ⟨RU, hRU⟩ : ∃ RU, RU = runs (putLs ys n j mk) := ⟨_, rfl⟩
        rw [← hRU] at SP6 ⊢
        generalize RU.length = r6 at *
        have HRU := Lib.hid hRU
        clear hS6 hb6 CS6 hRU
        have lw0 := l0
        go_wp2_with fail
        go_loopw [15] (fun t wr => ∃ (i : Nat) (tv : Value), i ≤ nt ∧ t = .int .i64 i ∧ Hid (wr.heap[w6.heap.size]? = some (.cells #[.slice a6 r6 c6, tv] 69 (0, 0))) ∧ Hid (Sites wr tv (mapT (shift n j) T i)) ∧ Below w6.heap.size w6 wr) (fun t _ => nt - (RowKit.intOf t).toNat)
        case atStart =>
          exact ⟨0, .slice none 0 0, Nat.zero_le _, rfl, heap_alloc_new _ _, Sites.nil_ _, (Below.refl _ _).alloc (Nat.le_refl _) _⟩
        case round =>
          obtain ⟨i, tv, hi, rfl, HK, HTV, hbel⟩ := hrel
          have HBw := Lib.hid (below_more HB6.out hbel)
          have HX := Lib.hid (below_more HX6.out hbel)
          have h66 : w6.heap.size < wr.heap.size := by
            rcases Nat.lt_or_ge w6.heap.size wr.heap.size with h | h
            · exact h
            · have := HK.out; rw [Array.getElem?_eq_none h] at this; cases this
          have s6 : W0.heap.size ≤ w6.heap.size := HX6.out.size
          have x0 : wr.cell? ⟨w.heap.size, 0, none⟩ = some (.slice sa ns sc) := below_cell HX.out (by omega) (by rw [cell_of_row _ _ _ _ _ _ H0.out]; rfl)
          have x1 : wr.cell? ⟨w.heap.size, 1, none⟩ = some (.slice ta nt tc) := below_cell HX.out (by omega) (by rw [cell_of_row _ _ _ _ _ _ H0.out]; rfl)
          have k0 : wr.cell? ⟨w6.heap.size, 0, none⟩ = some (.slice a6 r6 c6) := by rw [cell_of_row _ _ _ _ _ _ HK.out]; rfl
          have k1 : wr.cell? ⟨w6.heap.size, 1, none⟩ = some tv := by rw [cell_of_row _ _ _ _ _ _ HK.out]; rfl
          obtain ⟨at1, ct1, rfl⟩ := HTV.out.is_slice
          have hpl2 := mapT_len (shift n j) T i
          by_cases hlt2 : i < nt
          · have hil : i < T.length := by rw [← hnt.out]; exact hlt2
            obtain ⟨b, off, rfl, hb, ⟨⟨m1, m2⟩, ⟨q1, q2⟩⟩, c0, c1⟩ := HT.out i hil
            obtain ⟨z1, z2⟩ := HST.out i hil
            have EQ : Hid (mapT (shift n j) T (i + 1) = siteL (mapT (shift n j) T i) (shift n j (st T i))) := rfl
            have hse : ∃ e, e = st T i := ⟨_, rfl⟩
            obtain ⟨e, he⟩ := hse
            rw [← he] at m1 m2 q1 q2 c0 c1 EQ z1 z2
            obtain ⟨m, f⟩ := e
            simp only at m1 m2 q1 q2 c0 c1 EQ z1 z2
            replace c0 := below_cell HBw.out hb c0
            replace c1 := below_cell HBw.out hb c1
            have SITE : Hid (∀ (s : St) w', St.good s → Below wr.heap.size wr w' → Calls Tryd.prog 77 #[.slice at1 (mapT (shift n j) T i).length ct1, .agg #[.int .i64 s.m, .int .i64 s.a]] w' (GivesSt w' (siteL (mapT (shift n j) T i) s))) := fun s w' hg hb' => site_any s w' (HTV.out.below hb' (Nat.le_refl _)) hg (by omega)
            have DONE : Hid (∀ (s : St) (w8 : World) (v8 : Value), shift n j ⟨m, f⟩ = s → Below wr.heap.size wr w8 → Sites w8 v8 (siteL (mapT (shift n j) T i) s) → Sites (w8.setCell ⟨w6.heap.size, 1, none⟩ v8) v8 (mapT (shift n j) T (i + 1)) ∧ (w8.setCell ⟨w6.heap.size, 1, none⟩ v8).heap[w6.heap.size]? = some (.cells #[.slice a6 r6 c6, v8] 69 (0, 0)) ∧ Below w6.heap.size w6 (w8.setCell ⟨w6.heap.size, 1, none⟩ v8) ∧ w8.cell? ⟨w6.heap.size, 1, none⟩ = some (.slice at1 (mapT (shift n j) T i).length ct1) ∧ w8.frozen? ⟨w6.heap.size, 1, none⟩ = false) := fun s w8 v8 hs hb8 h8 => by
              have hK8 : w8.heap[w6.heap.size]? = some (.cells #[.slice a6 r6 c6, .slice at1 (mapT (shift n j) T i).length ct1] 69 (0, 0)) := by
                rw [hb8.block _ h66]
                exact HK.out
              refine ⟨?_, ?_, ?_, ?_, block_frozen hK8⟩
              · rw [EQ.out, hs]
                exact Fl.setBlock h8 (by decide) hK8
              · rw [heap_setCell_same _ _ _ _ _ _ hK8]
                rfl
              · exact (below_more hbel hb8).setCell (p := ⟨w6.heap.size, 1, none⟩) (Nat.le_refl _) v8
              · rw [cell_of_row _ _ _ _ _ _ hK8]
                rfl
            have KA : Hid (∀ o, Below wr.heap.size wr (wr.alloc o)) := fun o => (Below.refl _ _).alloc (Nat.le_refl _) _
            generalize (mapT (shift n j) T i).length = lp at *
            have hne : ¬ w6.heap.size = wr.heap.size := by omega
            have hne2 : ¬ wr.heap.size = w6.heap.size := by omega
            clear hbel HT HST HK HTV he
            by_cases g1 : (n : Int) < f
            · exact absurd z2 (by omega)
            · have SG := Lib.hid (SITE.out ⟨m, f⟩ (wr.alloc (.cells #[.int .i64 m, .int .i64 f] 120)) (show i64 m ∧ i64 (f) from ⟨⟨by omega, by omega⟩, ⟨by omega, by omega⟩⟩) (KA.out _))
              have BW := Lib.hid (KA.out (.cells #[.int .i64 m, .int .i64 f] 120))
              have SH : Hid (shift n j ⟨m, f⟩ = ⟨m, f⟩) := by show _ = _; unfold shift; rw [if_neg g1]
              clear SITE EQ
              go_wp2_with fail
              refine SG.out.mono ?_
              rintro e w8 ⟨v8, rfl, h8, hb8⟩
              obtain ⟨D1, D2, D3, D4, D5⟩ := DONE.out _ w8 v8 SH.out (below_more BW.out hb8) h8
              have E1 := Lib.hid D1
              have E2 := Lib.hid D2
              have E3 := Lib.hid D3
              obtain ⟨a8, c8, rfl⟩ := h8.is_slice
              have l8 : w6.heap.size < w8.heap.size := Nat.lt_of_lt_of_le h66 (below_more BW.out hb8).size
              clear D1 D2 D3 h8 hb8 SG BW DONE
              go_wp2_with fail
              go_roundw
              case rel => exact ⟨i + 1, _, by omega, by go_num, E2.out, E1.out, E3.out⟩
              case measure => simp [RowKit.intOf]; omega
          · obtain rfl : i = nt := by omega
            have r0 : wr.heap[w.heap.size + 1]? = some (.cells #[.slice none 0 0, .slice none 0 0] 69 (0, 0)) := by
              rw [HX.out.block _ (by omega)]
              exact H0'.out
            have u0 : wr.cell? ⟨w.heap.size + 1, 0, none⟩ = some (.slice none 0 0) := by rw [cell_of_row _ _ _ _ _ _ r0]; rfl
            have u1 : wr.cell? ⟨w.heap.size + 1, 1, none⟩ = some (.slice none 0 0) := by rw [cell_of_row _ _ _ _ _ _ r0]; rfl
            have f0 : wr.frozen? ⟨w.heap.size + 1, 0, none⟩ = false := block_frozen r0
            have f1 : wr.frozen? ⟨w.heap.size + 1, 1, none⟩ = false := block_frozen r0
            have FS := Lib.hid (SP6.out.below hbel (Nat.le_refl _))
            have FIN : Hid (GivesM w (runs (putLs ys n j mk)) (mapT (shift n j) T i) (.returned (.agg #[.slice a6 r6 c6, .slice at1 (mapT (shift n j) T i).length ct1])) ((wr.setCell ⟨w.heap.size + 1, 0, none⟩ (.slice a6 r6 c6)).setCell ⟨w.heap.size + 1, 1, none⟩ (.slice at1 (mapT (shift n j) T i).length ct1))) := by
              have s0 : (wr.setCell ⟨w.heap.size + 1, 0, none⟩ (.slice a6 r6 c6)).heap[w.heap.size + 1]? = some (.cells #[.slice a6 r6 c6, .slice none 0 0] 69 (0, 0)) := by
                rw [heap_setCell_same _ _ _ _ _ _ r0]
                rfl
              show GivesM _ _ _ _ _
              rw [← HRU.out]
              exact ⟨_, _, rfl, Fl.setBlock (Fl.setBlock FS.out (by decide) r0) (by decide) s0, Fl.setBlock (Fl.setBlock HTV.out (by decide) r0) (by decide) s0, (HBw.out.setCell (p := ⟨w.heap.size + 1, 0, none⟩) (Nat.le_succ _) _).setCell (p := ⟨w.heap.size + 1, 1, none⟩) (Nat.le_succ _) _⟩
            have y0 : (wr.setCell ⟨w.heap.size + 1, 0, none⟩ (.slice a6 r6 c6)).cell? ⟨w.heap.size + 1, 0, none⟩ = some (.slice a6 r6 c6) := by
              rw [cell_of_row _ _ _ _ _ _ (by rw [heap_setCell_same _ _ _ _ _ _ r0])]
              rfl
            have y1 : ((wr.setCell ⟨w.heap.size + 1, 0, none⟩ (.slice a6 r6 c6)).setCell ⟨w.heap.size + 1, 1, none⟩ (.slice at1 (mapT (shift n j) T i).length ct1)).cell? ⟨w.heap.size + 1, 1, none⟩ = some (.slice at1 (mapT (shift n j) T i).length ct1) := by
              have s0 : (wr.setCell ⟨w.heap.size + 1, 0, none⟩ (.slice a6 r6 c6)).heap[w.heap.size + 1]? = some (.cells #[.slice a6 r6 c6, .slice none 0 0] 69 (0, 0)) := by
                rw [heap_setCell_same _ _ _ _ _ _ r0]
                rfl
              rw [cell_of_row _ _ _ _ _ _ (by rw [heap_setCell_same _ _ _ _ _ _ s0])]
              rfl
            clear hbel r0
            generalize (mapT (shift n j) T i).length = lp at *
            go_wp2_with fail
            exact bodyPost_ret (v := .agg #[.slice a6 r6 c6, .slice at1 lp ct1]) (by simp [results, Tryd.results50, go_sem, y0, y1]) rfl FIN.out
      · have A2 : Hid (Ints wr (.slice (some ⟨G, at', none⟩) (n - at') (n - at')) q) := by
          obtain ⟨_, _, _, hsrc⟩ := SRC.out
          rw [if_neg hend] at hsrc
          exact hsrc
        clear SRC
        go_wp2_with (at_builtin; refine wpList_append_ints rfl _ _ rfl w1.heap.size _ zs.length _ rfl OW.out _ q rfl A2.out A3.out A4.out ?_)
        intro v5 w5 h5 g5
        obtain ⟨P5, hB5⟩ := HAP.out v5 w5 (by first | exact h5 | simpa using h5) g5
        have CS6 := Lib.hid (spans_any w5 P5.ints HPL.out)
        have HB5 := Lib.hid hB5
        obtain ⟨a5, c5, rfl⟩ := P5.is_slice
        generalize (putLs ys at' j mk).length = l5 at *
        clear P5 hB5 HAP h5 g5 OW A2 A3 A4 HPL RES IW HQI
        go_wp2_with fail
        refine CS6.out.mono ?_
        rintro e w6 ⟨v6, rfl, hS6, hb6⟩
        have HB6 := Lib.hid (below_more (below_more HB1.out HB5.out) hb6)
        have HX6 := Lib.hid (below_more (below_more HBW0.out HB5.out) hb6)
        have SP6 := Lib.hid hS6.spans
        obtain ⟨a6, c6, rfl⟩ := hS6.is_slice
        obtain ⟨RU, hRU⟩ : ∃ RU, RU = runs (putLs ys at' j mk) := ⟨_, rfl⟩
        rw [← hRU] at SP6 ⊢
        generalize RU.length = r6 at *
        have HRU := Lib.hid hRU
        clear hS6 hb6 CS6 hRU
        have lw0 := l0
        go_wp2_with fail
        go_loopw [15] (fun t wr => ∃ (i : Nat) (tv : Value), i ≤ nt ∧ t = .int .i64 i ∧ Hid (wr.heap[w6.heap.size]? = some (.cells #[.slice a6 r6 c6, tv] 69 (0, 0))) ∧ Hid (Sites wr tv (mapT (shift at' j) T i)) ∧ Below w6.heap.size w6 wr) (fun t _ => nt - (RowKit.intOf t).toNat)
        case atStart =>
          exact ⟨0, .slice none 0 0, Nat.zero_le _, rfl, heap_alloc_new _ _, Sites.nil_ _, (Below.refl _ _).alloc (Nat.le_refl _) _⟩
        case round =>
          obtain ⟨i, tv, hi, rfl, HK, HTV, hbel⟩ := hrel
          have HBw := Lib.hid (below_more HB6.out hbel)
          have HX := Lib.hid (below_more HX6.out hbel)
          have h66 : w6.heap.size < wr.heap.size := by
            rcases Nat.lt_or_ge w6.heap.size wr.heap.size with h | h
            · exact h
            · have := HK.out; rw [Array.getElem?_eq_none h] at this; cases this
          have s6 : W0.heap.size ≤ w6.heap.size := HX6.out.size
          have x0 : wr.cell? ⟨w.heap.size, 0, none⟩ = some (.slice sa ns sc) := below_cell HX.out (by omega) (by rw [cell_of_row _ _ _ _ _ _ H0.out]; rfl)
          have x1 : wr.cell? ⟨w.heap.size, 1, none⟩ = some (.slice ta nt tc) := below_cell HX.out (by omega) (by rw [cell_of_row _ _ _ _ _ _ H0.out]; rfl)
          have k0 : wr.cell? ⟨w6.heap.size, 0, none⟩ = some (.slice a6 r6 c6) := by rw [cell_of_row _ _ _ _ _ _ HK.out]; rfl
          have k1 : wr.cell? ⟨w6.heap.size, 1, none⟩ = some tv := by rw [cell_of_row _ _ _ _ _ _ HK.out]; rfl
          obtain ⟨at1, ct1, rfl⟩ := HTV.out.is_slice
          have hpl2 := mapT_len (shift at' j) T i
          by_cases hlt2 : i < nt
          · have hil : i < T.length := by rw [← hnt.out]; exact hlt2
            obtain ⟨b, off, rfl, hb, ⟨⟨m1, m2⟩, ⟨q1, q2⟩⟩, c0, c1⟩ := HT.out i hil
            obtain ⟨z1, z2⟩ := HST.out i hil
            have EQ : Hid (mapT (shift at' j) T (i + 1) = siteL (mapT (shift at' j) T i) (shift at' j (st T i))) := rfl
            have hse : ∃ e, e = st T i := ⟨_, rfl⟩
            obtain ⟨e, he⟩ := hse
            rw [← he] at m1 m2 q1 q2 c0 c1 EQ z1 z2
            obtain ⟨m, f⟩ := e
            simp only at m1 m2 q1 q2 c0 c1 EQ z1 z2
            replace c0 := below_cell HBw.out hb c0
            replace c1 := below_cell HBw.out hb c1
            have SITE : Hid (∀ (s : St) w', St.good s → Below wr.heap.size wr w' → Calls Tryd.prog 77 #[.slice at1 (mapT (shift at' j) T i).length ct1, .agg #[.int .i64 s.m, .int .i64 s.a]] w' (GivesSt w' (siteL (mapT (shift at' j) T i) s))) := fun s w' hg hb' => site_any s w' (HTV.out.below hb' (Nat.le_refl _)) hg (by omega)
            have DONE : Hid (∀ (s : St) (w8 : World) (v8 : Value), shift at' j ⟨m, f⟩ = s → Below wr.heap.size wr w8 → Sites w8 v8 (siteL (mapT (shift at' j) T i) s) → Sites (w8.setCell ⟨w6.heap.size, 1, none⟩ v8) v8 (mapT (shift at' j) T (i + 1)) ∧ (w8.setCell ⟨w6.heap.size, 1, none⟩ v8).heap[w6.heap.size]? = some (.cells #[.slice a6 r6 c6, v8] 69 (0, 0)) ∧ Below w6.heap.size w6 (w8.setCell ⟨w6.heap.size, 1, none⟩ v8) ∧ w8.cell? ⟨w6.heap.size, 1, none⟩ = some (.slice at1 (mapT (shift at' j) T i).length ct1) ∧ w8.frozen? ⟨w6.heap.size, 1, none⟩ = false) := fun s w8 v8 hs hb8 h8 => by
              have hK8 : w8.heap[w6.heap.size]? = some (.cells #[.slice a6 r6 c6, .slice at1 (mapT (shift at' j) T i).length ct1] 69 (0, 0)) := by
                rw [hb8.block _ h66]
                exact HK.out
              refine ⟨?_, ?_, ?_, ?_, block_frozen hK8⟩
              · rw [EQ.out, hs]
                exact Fl.setBlock h8 (by decide) hK8
              · rw [heap_setCell_same _ _ _ _ _ _ hK8]
                rfl
              · exact (below_more hbel hb8).setCell (p := ⟨w6.heap.size, 1, none⟩) (Nat.le_refl _) v8
              · rw [cell_of_row _ _ _ _ _ _ hK8]
                rfl
            have KA : Hid (∀ o, Below wr.heap.size wr (wr.alloc o)) := fun o => (Below.refl _ _).alloc (Nat.le_refl _) _
            generalize (mapT (shift at' j) T i).length = lp at *
            have hne : ¬ w6.heap.size = wr.heap.size := by omega
            have hne2 : ¬ wr.heap.size = w6.heap.size := by omega
            clear hbel HT HST HK HTV he
            by_cases g1 : (at' : Int) < f
            · have SG := Lib.hid (SITE.out ⟨m, f + j⟩ (wr.alloc (.cells #[.int .i64 m, .int .i64 (f + j)] 120)) (show i64 m ∧ i64 (f + (j : Int)) from ⟨⟨by omega, by omega⟩, ⟨by omega, by omega⟩⟩) (KA.out _))
              have BW := Lib.hid (KA.out (.cells #[.int .i64 m, .int .i64 (f + j)] 120))
              have SH : Hid (shift at' j ⟨m, f⟩ = ⟨m, f + j⟩) := by show _ = _; unfold shift; rw [if_pos g1]
              clear SITE EQ
              go_wp2_with fail
              refine SG.out.mono ?_
              rintro e w8 ⟨v8, rfl, h8, hb8⟩
              obtain ⟨D1, D2, D3, D4, D5⟩ := DONE.out _ w8 v8 SH.out (below_more BW.out hb8) h8
              have E1 := Lib.hid D1
              have E2 := Lib.hid D2
              have E3 := Lib.hid D3
              obtain ⟨a8, c8, rfl⟩ := h8.is_slice
              have l8 : w6.heap.size < w8.heap.size := Nat.lt_of_lt_of_le h66 (below_more BW.out hb8).size
              clear D1 D2 D3 h8 hb8 SG BW DONE
              go_wp2_with fail
              go_roundw
              case rel => exact ⟨i + 1, _, by omega, by go_num, E2.out, E1.out, E3.out⟩
              case measure => simp [RowKit.intOf]; omega
            · have SG := Lib.hid (SITE.out ⟨m, f⟩ (wr.alloc (.cells #[.int .i64 m, .int .i64 f] 120)) (show i64 m ∧ i64 (f) from ⟨⟨by omega, by omega⟩, ⟨by omega, by omega⟩⟩) (KA.out _))
              have BW := Lib.hid (KA.out (.cells #[.int .i64 m, .int .i64 f] 120))
              have SH : Hid (shift at' j ⟨m, f⟩ = ⟨m, f⟩) := by show _ = _; unfold shift; rw [if_neg g1]
              clear SITE EQ
              go_wp2_with fail
              refine SG.out.mono ?_
              rintro e w8 ⟨v8, rfl, h8, hb8⟩
              obtain ⟨D1, D2, D3, D4, D5⟩ := DONE.out _ w8 v8 SH.out (below_more BW.out hb8) h8
              have E1 := Lib.hid D1
              have E2 := Lib.hid D2
              have E3 := Lib.hid D3
              obtain ⟨a8, c8, rfl⟩ := h8.is_slice
              have l8 : w6.heap.size < w8.heap.size := Nat.lt_of_lt_of_le h66 (below_more BW.out hb8).size
              clear D1 D2 D3 h8 hb8 SG BW DONE
              go_wp2_with fail
              go_roundw
              case rel => exact ⟨i + 1, _, by omega, by go_num, E2.out, E1.out, E3.out⟩
              case measure => simp [RowKit.intOf]; omega
          · obtain rfl : i = nt := by omega
            have r0 : wr.heap[w.heap.size + 1]? = some (.cells #[.slice none 0 0, .slice none 0 0] 69 (0, 0)) := by
              rw [HX.out.block _ (by omega)]
              exact H0'.out
            have u0 : wr.cell? ⟨w.heap.size + 1, 0, none⟩ = some (.slice none 0 0) := by rw [cell_of_row _ _ _ _ _ _ r0]; rfl
            have u1 : wr.cell? ⟨w.heap.size + 1, 1, none⟩ = some (.slice none 0 0) := by rw [cell_of_row _ _ _ _ _ _ r0]; rfl
            have f0 : wr.frozen? ⟨w.heap.size + 1, 0, none⟩ = false := block_frozen r0
            have f1 : wr.frozen? ⟨w.heap.size + 1, 1, none⟩ = false := block_frozen r0
            have FS := Lib.hid (SP6.out.below hbel (Nat.le_refl _))
            have FIN : Hid (GivesM w (runs (putLs ys at' j mk)) (mapT (shift at' j) T i) (.returned (.agg #[.slice a6 r6 c6, .slice at1 (mapT (shift at' j) T i).length ct1])) ((wr.setCell ⟨w.heap.size + 1, 0, none⟩ (.slice a6 r6 c6)).setCell ⟨w.heap.size + 1, 1, none⟩ (.slice at1 (mapT (shift at' j) T i).length ct1))) := by
              have s0 : (wr.setCell ⟨w.heap.size + 1, 0, none⟩ (.slice a6 r6 c6)).heap[w.heap.size + 1]? = some (.cells #[.slice a6 r6 c6, .slice none 0 0] 69 (0, 0)) := by
                rw [heap_setCell_same _ _ _ _ _ _ r0]
                rfl
              show GivesM _ _ _ _ _
              rw [← HRU.out]
              exact ⟨_, _, rfl, Fl.setBlock (Fl.setBlock FS.out (by decide) r0) (by decide) s0, Fl.setBlock (Fl.setBlock HTV.out (by decide) r0) (by decide) s0, (HBw.out.setCell (p := ⟨w.heap.size + 1, 0, none⟩) (Nat.le_succ _) _).setCell (p := ⟨w.heap.size + 1, 1, none⟩) (Nat.le_succ _) _⟩
            have y0 : (wr.setCell ⟨w.heap.size + 1, 0, none⟩ (.slice a6 r6 c6)).cell? ⟨w.heap.size + 1, 0, none⟩ = some (.slice a6 r6 c6) := by
              rw [cell_of_row _ _ _ _ _ _ (by rw [heap_setCell_same _ _ _ _ _ _ r0])]
              rfl
            have y1 : ((wr.setCell ⟨w.heap.size + 1, 0, none⟩ (.slice a6 r6 c6)).setCell ⟨w.heap.size + 1, 1, none⟩ (.slice at1 (mapT (shift at' j) T i).length ct1)).cell? ⟨w.heap.size + 1, 1, none⟩ = some (.slice at1 (mapT (shift at' j) T i).length ct1) := by
              have s0 : (wr.setCell ⟨w.heap.size + 1, 0, none⟩ (.slice a6 r6 c6)).heap[w.heap.size + 1]? = some (.cells #[.slice a6 r6 c6, .slice none 0 0] 69 (0, 0)) := by
                rw [heap_setCell_same _ _ _ _ _ _ r0]
                rfl
              rw [cell_of_row _ _ _ _ _ _ (by rw [heap_setCell_same _ _ _ _ _ _ s0])]
              rfl
            clear hbel r0
            generalize (mapT (shift at' j) T i).length = lp at *
            go_wp2_with fail
            exact bodyPost_ret (v := .agg #[.slice a6 r6 c6, .slice at1 lp ct1]) (by simp [results, Tryd.results50, go_sem, y0, y1]) rfl FIN.out
end Go.Proofs.YtengmiolcfgdiaaDoor.Rig
