/- Contract: Take of the plain text. -/
import Derived.Test.YtengmiolcfgdiaaGreatDoorMput
set_option linter.unusedVariables false
namespace Go.Proofs.YtengmiolcfgdiaaGreatDoor.Rig
open Go.RowKit Go.Lib Go.Proofs.YtengmiolcfgdiaaGreatDoor.Rt

def takeLs (ys : List Int) (a b : Nat) : List Int := ys.take a ++ ys.drop b
def cutS (a b : Int) (s : St) : St := if b < s.a then ⟨s.m, s.a - (b - a)⟩ else if a < s.a then ⟨s.m, a⟩ else s
def endT (T : List St) (mk a : Int) : List St := if 0 < mk then siteL T ⟨mk, a⟩ else T
theorem res_cells {W : World} {B : Nat} {T : TypeId} {a1 a2 : Option Addr} {n1 c1 n2 c2 : Nat} (r0 : W.heap[B]? = some (.cells #[.slice none 0 0, .slice none 0 0] T (0, 0))) :
    (W.setCell ⟨B, 0, none⟩ (.slice a1 n1 c1)).cell? ⟨B, 0, none⟩ = some (.slice a1 n1 c1) ∧ ((W.setCell ⟨B, 0, none⟩ (.slice a1 n1 c1)).setCell ⟨B, 1, none⟩ (.slice a2 n2 c2)).cell? ⟨B, 1, none⟩ = some (.slice a2 n2 c2) := by
  have s0 : (W.setCell ⟨B, 0, none⟩ (.slice a1 n1 c1)).heap[B]? = some (.cells #[.slice a1 n1 c1, .slice none 0 0] T (0, 0)) := by
    rw [heap_setCell_same _ _ _ _ _ _ r0]
    rfl
  constructor
  · rw [cell_of_row _ _ _ _ _ _ s0]
    rfl
  · rw [cell_of_row _ _ _ _ _ _ (by rw [heap_setCell_same _ _ _ _ _ _ s0])]
    rfl
theorem give_end {w W : World} {S : List Sp} {L : List St} {B : Nat} {T : TypeId} {a1 a2 : Option Addr} {n1 c1 n2 c2 : Nat} (hB : w.heap.size ≤ B) (r0 : W.heap[B]? = some (.cells #[.slice none 0 0, .slice none 0 0] T (0, 0)))
    (hS : Spans W (.slice a1 n1 c1) S) (hT : Sites W (.slice a2 n2 c2) L) (hb : Below w.heap.size w W) :
    GivesM w S L (.returned (.agg #[.slice a1 n1 c1, .slice a2 n2 c2])) ((W.setCell ⟨B, 0, none⟩ (.slice a1 n1 c1)).setCell ⟨B, 1, none⟩ (.slice a2 n2 c2)) := by
  have s0 : (W.setCell ⟨B, 0, none⟩ (.slice a1 n1 c1)).heap[B]? = some (.cells #[.slice a1 n1 c1, .slice none 0 0] T (0, 0)) := by
    rw [heap_setCell_same _ _ _ _ _ _ r0]
    rfl
  exact ⟨_, _, rfl, Fl.setBlock (Fl.setBlock hS (by decide) r0) (by decide) s0, Fl.setBlock (Fl.setBlock hT (by decide) r0) (by decide) s0, (hb.setCell (p := ⟨B, 0, none⟩) hB _).setCell (p := ⟨B, 1, none⟩) hB _⟩

set_option maxRecDepth 100000 in
set_option maxHeartbeats 8000000 in
theorem rtake_any {sv tv : Value} {S : List Sp} {T : List St} (n a b : Nat) (mk : Int) (w : World) (hS : Spans w sv S) (hT : Sites w tv T) (hn : n ≤ 3000) (hab : a ≤ b) (hbn : b ≤ n) (hmk : i64 mk) (hTn : T.length ≤ 3000)
    (hok : ∀ j, j < S.length → 0 ≤ (sp S j).f ∧ (sp S j).f ≤ (sp S j).t ∧ (sp S j).t ≤ (n : Int)) (hst : ∀ j, j < T.length → 0 ≤ (st T j).a ∧ (st T j).a ≤ (n : Int)) :
    Calls Tryz.prog 40 #[.agg #[sv, tv], .int .i64 n, .int .i64 a, .int .i64 b, .int .i64 mk] w (GivesM w (runs (takeLs (letters S n) a b)) (endT (mapT (cutS a b) T T.length) mk a)) := by
  have hll := letters_len S n
  obtain ⟨ta, tc, rfl, hlt, hct, hT1⟩ := hT.open_
  have HT := Lib.hid hT1
  have HST := Lib.hid hst
  have C1 : Hid (∀ w', Below w.heap.size w w' → Calls Tryz.prog 68 #[.agg #[sv, .slice ta T.length tc], .int .i64 n] w' (NewE w' n (letters S n))) := fun w' hb => each_any n w' (hS.below hb (Nat.le_refl _)) (hT.below hb (Nat.le_refl _)) (by omega) hok
  obtain ⟨sa, sc, rfl⟩ := hS.is_slice
  generalize S.length = ns at *
  obtain ⟨nt, hnt⟩ : ∃ nt, nt = T.length := ⟨_, rfl⟩
  rw [← hnt] at hlt hTn C1 ⊢
  replace hnt := Lib.hid hnt
  obtain ⟨ys, hys⟩ : ∃ ys, ys = letters S n := ⟨_, rfl⟩
  rw [← hys] at C1 hll ⊢
  have HYL := Lib.hid hll
  have HYS := Lib.hid hys
  obtain ⟨mk1, mk2⟩ := hmk
  obtain ⟨W0, hW0⟩ : ∃ W0, W0 = (w.alloc (.cells #[.slice sa ns sc, .slice ta nt tc] 78)).alloc (.cells #[.slice none 0 0, .slice none 0 0] 78) := ⟨_, rfl⟩
  have b0 : Below w.heap.size w W0 := by rw [hW0]; exact ((Below.refl _ _).alloc (Nat.le_refl _) _).alloc (by simp) _
  have h0 : W0.heap[w.heap.size]? = some (.cells #[.slice sa ns sc, .slice ta nt tc] 78 (0, 0)) := by
    rw [hW0, Below.heap_alloc _ _ _ (by simp)]
    exact heap_alloc_new _ _
  have h0' : W0.heap[w.heap.size + 1]? = some (.cells #[.slice none 0 0, .slice none 0 0] 78 (0, 0)) := by
    have := heap_alloc_new (w.alloc (.cells #[.slice sa ns sc, .slice ta nt tc] 78)) (.cells #[.slice none 0 0, .slice none 0 0] 78)
    rw [hW0]
    simpa using this
  have l0 : w.heap.size + 2 ≤ W0.heap.size := by rw [hW0]; simp
  have HW0 := Lib.hid hW0
  have B0 := Lib.hid b0
  have H0 := Lib.hid h0
  have H0' := Lib.hid h0'
  clear hT1 hS hT h0 h0' hW0 b0 hok hst hys hll
  go_enter Tryz.func40, Tryz.ntmps40
  go_wp2_with fail
  rw [← HW0.out]
  refine (C1.out _ B0.out).mono ?_
  rintro e w1 ⟨rfl, hO, hb1⟩
  have I1 := Lib.hid hO.ints
  have HB1 := Lib.hid (below_more B0.out hb1)
  have HBW0 := Lib.hid hb1
  have A1 := Lib.hid (World.ownsRow_nil w1 w1.heap.size 3 1)
  have han : a ≤ n := Nat.le_trans hab hbn
  obtain ⟨p, hp⟩ : ∃ p, p = ys.take a := ⟨_, rfl⟩
  have A2 := Lib.hid (I1.out.take_ HYL.out.symm a han)
  have hpl : p.length ≤ 3000 := by rw [hp, List.length_take]; omega
  rw [← hp] at A2
  have HP := Lib.hid hp
  have HPI : Hid (∀ x ∈ p, i64 x) := fun x hx => I1.out.1 x (List.mem_of_mem_take (by rw [← hp]; exact hx))
  have A3 : Hid (0 + p.length ≤ 100000) := by show _ ≤ _; omega
  have A4 : Hid (w1.heap.size ≤ w1.heap.size) := Nat.le_refl _
  obtain ⟨G, hG⟩ : ∃ G, G = W0.heap.size + 1 := ⟨_, rfl⟩
  rw [← hG] at A2 I1 ⊢
  have i0 : (0 : Int) ≤ (a : Int) := by omega
  have i1 : (a : Int) ≤ (n : Int) := by omega
  have i2 : (0 : Int) ≤ (b : Int) := by omega
  have i3 : (b : Int) ≤ (n : Int) := by omega
  have i4 : (a : Int) ≤ (b : Int) := by omega
  clear hO hb1 C1 hG hp
  go_wp2_with (at_builtin; refine wpList_append_ints rfl _ _ rfl w1.heap.size _ 0 [] rfl A1.out _ p rfl A2.out A3.out A4.out ?_)
  intro v2 w2 h2 g2
  have L2 : Hid (OwnI w1.heap.size w2 v2 p) := ⟨by first | exact h2 | simpa using h2, HPI.out⟩
  have HB2 : Hid (Below w1.heap.size w1 w2) := ⟨g2.os, g2.tape, g2.output, g2.size, fun q hq => g2.block q hq (by simp [Value.ownBlock])⟩
  clear h2 g2 A1 A2 A3 A4
  obtain ⟨ao, co, rfl⟩ := L2.out.is_slice
  have A4 : Hid (w1.heap.size ≤ w2.heap.size) := HB2.out.size
  have hyl : ys.length = n := HYL.out
  have IW := Lib.hid (I1.out.below HB2.out (Nat.le_refl _))
  obtain ⟨q, hq⟩ : ∃ q, q = ys.drop b := ⟨_, rfl⟩
  have hql : q.length ≤ 3000 := by rw [hq, List.length_drop]; omega
  have HQI : Hid (∀ x ∈ q, i64 x) := fun x hx => I1.out.1 x (List.mem_of_mem_drop (by rw [← hq]; exact hx))
  have A3 : Hid (p.length + q.length ≤ 100000) := by show _ ≤ _; omega
  have RES : Hid (p ++ q = takeLs ys a b) := by
    show _ = _
    rw [hq, HP.out]
    rfl
  have HAP : Hid (∀ (v5 : Value) (w5 : World), w5.ownsRow w1.heap.size 3 1 v5 (p.length + q.length) (ints p ++ ints q) → w2.grownBy w5 (Value.slice ao p.length co).ownBlock → OwnI w1.heap.size w5 v5 (takeLs ys a b) ∧ Below w1.heap.size w1 w5) := fun v5 w5 h5 g5 => by
    refine ⟨⟨?_, fun x hx => ?_⟩, HB2.out.grown g5 A4.out (fun b e => (L2.out.block b e).1)⟩
    · rw [← RES.out, List.length_append, ints_app]
      exact h5
    · rw [← RES.out, List.mem_append] at hx
      rcases hx with hx | hx
      · exact HPI.out x hx
      · exact HQI.out x hx
  have HPL : Hid ((takeLs ys a b).length ≤ 10000) := by
    show _ ≤ _
    rw [← RES.out, List.length_append]
    omega
  have OW : Hid (w2.ownsRow w1.heap.size 3 1 (.slice ao p.length co) p.length (ints p)) := L2.out.1
  have SRC : Hid (Ints w2 (.slice (if n = b then some ⟨G, 0, none⟩ else some ⟨G, b, none⟩) (n - b) (n - b)) q) := by
    have hl : q.length = n - b := by rw [hq, List.length_drop]; omega
    show Ints _ _ _
    by_cases e : n = b
    · rw [if_pos e]
      have : q = [] := List.eq_nil_of_length_eq_zero (by omega)
      rw [this, show n - b = 0 by omega]
      exact Ints.none_of (Nat.zero_le _)
    · rw [if_neg e]
      have := IW.out.drop_ hyl.symm b hbn
      rw [Nat.zero_add, ← hq] at this
      exact this
  clear hyl hq
  by_cases hend : n = b
  · have A2 : Hid (Ints w2 (.slice (some ⟨G, 0, none⟩) 0 0) q) := by
      have hsrc := SRC.out
      rw [if_pos hend, show n - b = 0 by omega] at hsrc
      exact hsrc
    clear SRC
    subst hend
    go_wp2_with (at_builtin; refine wpList_append_ints rfl _ _ rfl w1.heap.size _ p.length _ rfl OW.out _ q rfl A2.out A3.out A4.out ?_)
    intro v5 w5 h5 g5
    obtain ⟨P5, hB5⟩ := HAP.out v5 w5 (by first | exact h5 | simpa using h5) g5
    have CS6 := Lib.hid (spans_any w5 P5.ints HPL.out)
    have HB5 := Lib.hid hB5
    obtain ⟨a5, c5, rfl⟩ := P5.is_slice
    generalize (takeLs ys a n).length = l5 at *
    clear P5 hB5 HAP h5 g5 OW A2 A3 A4 HPL RES IW HQI
    go_wp2_with fail
    refine CS6.out.mono ?_
    rintro e w6 ⟨v6, rfl, hS6, hb6⟩
    have HB6 := Lib.hid (below_more (below_more HB1.out HB5.out) hb6)
    have HX6 := Lib.hid (below_more (below_more HBW0.out HB5.out) hb6)
    have SP6 := Lib.hid hS6.spans
    obtain ⟨a6, c6, rfl⟩ := hS6.is_slice
    obtain ⟨RU, hRU⟩ : ∃ RU, RU = runs (takeLs ys a n) := ⟨_, rfl⟩
    rw [← hRU] at SP6 ⊢
    generalize RU.length = r6 at *
    have HRU := Lib.hid hRU
    clear hS6 hb6 CS6 hRU
    have lw0 := l0
    go_wp2_with fail
    go_loopw [14] (fun t wr => ∃ (i : Nat) (tv : Value), i ≤ nt ∧ t = .int .i64 i ∧ Hid (wr.heap[w6.heap.size]? = some (.cells #[.slice a6 r6 c6, tv] 78 (0, 0))) ∧ Hid (Sites wr tv (mapT (cutS a n) T i)) ∧ Below w6.heap.size w6 wr) (fun t _ => nt - (RowKit.intOf t).toNat)
    case atStart =>
      exact ⟨0, .slice none 0 0, Nat.zero_le _, rfl, heap_alloc_new _ _, Sites.nil_ _, (Below.refl _ _).alloc (Nat.le_refl _) _⟩
    case round =>
      obtain ⟨i, tv, hi, rfl, HK, HTV, hbel⟩ := hrel
      have HBw := Lib.hid (below_more HB6.out hbel)
      have HX := Lib.hid (below_more HX6.out hbel)
      have h66 : w6.heap.size < wr.heap.size := by
        rcases Nat.lt_or_ge w6.heap.size wr.heap.size with h | h
        · exact h
        · have := HK.out; rw [Array.getElem?_eq_none h] at this; cases this
      have s6 : W0.heap.size ≤ w6.heap.size := HX6.out.size
      have x0 : wr.cell? ⟨w.heap.size, 0, none⟩ = some (.slice sa ns sc) := below_cell HX.out (by omega) (by rw [cell_of_row _ _ _ _ _ _ H0.out]; rfl)
      have x1 : wr.cell? ⟨w.heap.size, 1, none⟩ = some (.slice ta nt tc) := below_cell HX.out (by omega) (by rw [cell_of_row _ _ _ _ _ _ H0.out]; rfl)
      have k0 : wr.cell? ⟨w6.heap.size, 0, none⟩ = some (.slice a6 r6 c6) := by rw [cell_of_row _ _ _ _ _ _ HK.out]; rfl
      have k1 : wr.cell? ⟨w6.heap.size, 1, none⟩ = some tv := by rw [cell_of_row _ _ _ _ _ _ HK.out]; rfl
      obtain ⟨at1, ct1, rfl⟩ := HTV.out.is_slice
      have hpl2 := mapT_len (cutS a n) T i
      have SITE : Hid (∀ (s : St) w', St.good s → Below wr.heap.size wr w' → Calls Tryz.prog 70 #[.slice at1 (mapT (cutS a n) T i).length ct1, .agg #[.int .i64 s.m, .int .i64 s.a]] w' (GivesSt w' (siteL (mapT (cutS a n) T i) s))) := fun s w' hg hb' => site_any s w' (HTV.out.below hb' (Nat.le_refl _)) hg (by omega)
      have DONE : Hid (∀ (L : List St) (w8 : World) (v8 : Value), Below wr.heap.size wr w8 → Sites w8 v8 L → Sites (w8.setCell ⟨w6.heap.size, 1, none⟩ v8) v8 L ∧ (w8.setCell ⟨w6.heap.size, 1, none⟩ v8).heap[w6.heap.size]? = some (.cells #[.slice a6 r6 c6, v8] 78 (0, 0)) ∧ Below w6.heap.size w6 (w8.setCell ⟨w6.heap.size, 1, none⟩ v8) ∧ w8.cell? ⟨w6.heap.size, 1, none⟩ = some (.slice at1 (mapT (cutS a n) T i).length ct1) ∧ w8.frozen? ⟨w6.heap.size, 1, none⟩ = false) := fun L w8 v8 hb8 h8 => by
        have hK8 : w8.heap[w6.heap.size]? = some (.cells #[.slice a6 r6 c6, .slice at1 (mapT (cutS a n) T i).length ct1] 78 (0, 0)) := by
          rw [hb8.block _ h66]
          exact HK.out
        refine ⟨Fl.setBlock h8 (by decide) hK8, ?_, ?_, ?_, block_frozen hK8⟩
        · rw [heap_setCell_same _ _ _ _ _ _ hK8]
          rfl
        · exact (below_more hbel hb8).setCell (p := ⟨w6.heap.size, 1, none⟩) (Nat.le_refl _) v8
        · rw [cell_of_row _ _ _ _ _ _ hK8]
          rfl
      by_cases hlt2 : i < nt
      · have hil : i < T.length := by rw [← hnt.out]; exact hlt2
        obtain ⟨b', off, rfl, hb, ⟨⟨m1, m2⟩, ⟨q1, q2⟩⟩, c0, c1⟩ := HT.out i hil
        obtain ⟨z1, z2⟩ := HST.out i hil
        have EQ : Hid (mapT (cutS a n) T (i + 1) = siteL (mapT (cutS a n) T i) (cutS a n (st T i))) := rfl
        have hse : ∃ e, e = st T i := ⟨_, rfl⟩
        obtain ⟨e, he⟩ := hse
        rw [← he] at m1 m2 q1 q2 c0 c1 EQ z1 z2
        obtain ⟨m, f⟩ := e
        simp only at m1 m2 q1 q2 c0 c1 EQ z1 z2
        replace c0 := below_cell HBw.out hb c0
        replace c1 := below_cell HBw.out hb c1
        have KA : Hid (∀ o, Below wr.heap.size wr (wr.alloc o)) := fun o => (Below.refl _ _).alloc (Nat.le_refl _) _
        generalize (mapT (cutS a n) T i).length = lp at *
        have hne : ¬ w6.heap.size = wr.heap.size := by omega
        have hne2 : ¬ wr.heap.size = w6.heap.size := by omega
        clear hbel HT HST HK HTV he
        by_cases g1 : (n : Int) < f
        · exact absurd z2 (by omega)
        · by_cases g2 : (a : Int) < f
          · have SG := Lib.hid (SITE.out ⟨m, (a : Int)⟩ (wr.alloc (.cells #[.int .i64 m, .int .i64 ((a : Int) : Int)] 106)) (show i64 m ∧ i64 ((a : Int) : Int) from ⟨⟨by omega, by omega⟩, ⟨by omega, by omega⟩⟩) (KA.out _))
            have BW := Lib.hid (KA.out (.cells #[.int .i64 m, .int .i64 ((a : Int) : Int)] 106))
            have SH : Hid (cutS a n ⟨m, f⟩ = ⟨m, (a : Int)⟩) := by show _ = _; unfold cutS; rw [if_neg g1, if_pos g2]
            clear SITE
            go_wp2_with fail
            refine SG.out.mono ?_
            rintro e w8 ⟨v8, rfl, h8, hb8⟩
            obtain ⟨D1, D2, D3, D4, D5⟩ := DONE.out _ w8 v8 (below_more BW.out hb8) h8
            rw [← SH.out, ← EQ.out] at D1
            have E1 := Lib.hid D1
            have E2 := Lib.hid D2
            have E3 := Lib.hid D3
            obtain ⟨a8, c8, rfl⟩ := h8.is_slice
            have l8 : w6.heap.size < w8.heap.size := Nat.lt_of_lt_of_le h66 (below_more BW.out hb8).size
            clear D1 D2 D3 h8 hb8 SG BW DONE
            go_wp2_with fail
            go_roundw
            case rel => exact ⟨i + 1, _, by omega, by go_num, E2.out, E1.out, E3.out⟩
            case measure => simp [RowKit.intOf]; omega
          · have SG := Lib.hid (SITE.out ⟨m, f⟩ (wr.alloc (.cells #[.int .i64 m, .int .i64 (f : Int)] 106)) (show i64 m ∧ i64 (f : Int) from ⟨⟨by omega, by omega⟩, ⟨by omega, by omega⟩⟩) (KA.out _))
            have BW := Lib.hid (KA.out (.cells #[.int .i64 m, .int .i64 (f : Int)] 106))
            have SH : Hid (cutS a n ⟨m, f⟩ = ⟨m, f⟩) := by show _ = _; unfold cutS; rw [if_neg g1, if_neg g2]
            clear SITE
            go_wp2_with fail
            refine SG.out.mono ?_
            rintro e w8 ⟨v8, rfl, h8, hb8⟩
            obtain ⟨D1, D2, D3, D4, D5⟩ := DONE.out _ w8 v8 (below_more BW.out hb8) h8
            rw [← SH.out, ← EQ.out] at D1
            have E1 := Lib.hid D1
            have E2 := Lib.hid D2
            have E3 := Lib.hid D3
            obtain ⟨a8, c8, rfl⟩ := h8.is_slice
            have l8 : w6.heap.size < w8.heap.size := Nat.lt_of_lt_of_le h66 (below_more BW.out hb8).size
            clear D1 D2 D3 h8 hb8 SG BW DONE
            go_wp2_with fail
            go_roundw
            case rel => exact ⟨i + 1, _, by omega, by go_num, E2.out, E1.out, E3.out⟩
            case measure => simp [RowKit.intOf]; omega
      · obtain rfl : i = nt := by omega
        have r0 : wr.heap[w.heap.size + 1]? = some (.cells #[.slice none 0 0, .slice none 0 0] 78 (0, 0)) := by
          rw [HX.out.block _ (by omega)]
          exact H0'.out
        have hw16 : w.heap.size + 1 < w6.heap.size := by omega
        by_cases g3 : 0 < mk
        · have SG := Lib.hid (SITE.out ⟨mk, a⟩ wr (show i64 mk ∧ i64 (a : Int) from ⟨⟨by omega, by omega⟩, ⟨by omega, by omega⟩⟩) (Below.refl _ _))
          have R0 := Lib.hid r0
          have FS := Lib.hid (SP6.out.below hbel (Nat.le_refl _))
          have ET : Hid (endT (mapT (cutS a n) T i) mk a = siteL (mapT (cutS a n) T i) ⟨mk, a⟩) := if_pos g3
          clear hbel r0 SITE
          generalize (mapT (cutS a n) T i).length = lp at *
          go_wp2_with fail
          refine SG.out.mono ?_
          rintro e w8 ⟨v8, rfl, h8, hb8⟩
          obtain ⟨D1, D2, D3, D4, D5⟩ := DONE.out _ w8 v8 hb8 h8
          have r8 : (w8.setCell ⟨w6.heap.size, 1, none⟩ v8).heap[w.heap.size + 1]? = some (.cells #[.slice none 0 0, .slice none 0 0] 78 (0, 0)) := by
            rw [Below.heap_setCell _ _ _ _ (by exact Nat.ne_of_lt hw16), hb8.block _ (by omega)]
            exact R0.out
          have hk8 : w8.heap[w6.heap.size]? = some (.cells #[.slice a6 r6 c6, .slice at1 lp ct1] 78 (0, 0)) := by
            rw [hb8.block _ h66]
            exact HK.out
          have FS8 := Lib.hid (Fl.setBlock (i := 1) (u := v8) (FS.out.below hb8 (Nat.le_refl _)) (by decide) hk8)
          have W8 := Lib.hid (D3)
          have FIN0 := Lib.hid (D1)
          obtain ⟨a8, c8, rfl⟩ := h8.is_slice
          have FIN := Lib.hid (give_end (B := w.heap.size + 1) (Nat.le_add_right _ 1) r8 FS8.out FIN0.out (below_more HB6.out W8.out))
          obtain ⟨y0, y1⟩ := res_cells (a1 := a6) (n1 := r6) (c1 := c6) (a2 := a8) (n2 := (siteL (mapT (cutS a n) T i) ⟨mk, a⟩).length) (c2 := c8) r8
          have u0 := cell_of_row _ _ 0 _ _ _ r8
          have u1 := cell_of_row _ _ 1 _ _ _ r8
          have f0 := block_frozen (j := 0) r8
          have f1 := block_frozen (j := 1) r8
          have t0 := cell_of_row _ _ 0 _ _ _ D2
          have t1 := cell_of_row _ _ 1 _ _ _ D2
          have t2 := cell_of_row _ _ 0 _ _ _ hk8
          have l8 : w6.heap.size < w8.heap.size := Nat.lt_of_lt_of_le h66 hb8.size
          simp only [List.getElem?_toArray, List.getElem?_cons_zero, List.getElem?_cons_succ] at u0 u1 t0 t1 t2
          clear D1 D2 D3 h8 hb8 SG DONE r8 hk8 HK HTV FS
          go_wp2_with fail
          exact bodyPost_ret (v := .agg #[.slice a6 r6 c6, .slice a8 (siteL (mapT (cutS a n) T i) ⟨mk, a⟩).length c8]) (by simp [results, Tryz.results40, go_sem, y0, y1]) rfl (by rw [ET.out, ← HRU.out]; exact FIN.out)
        · have u0 : wr.cell? ⟨w.heap.size + 1, 0, none⟩ = some (.slice none 0 0) := by rw [cell_of_row _ _ _ _ _ _ r0]; rfl
          have u1 : wr.cell? ⟨w.heap.size + 1, 1, none⟩ = some (.slice none 0 0) := by rw [cell_of_row _ _ _ _ _ _ r0]; rfl
          have f0 : wr.frozen? ⟨w.heap.size + 1, 0, none⟩ = false := block_frozen r0
          have f1 : wr.frozen? ⟨w.heap.size + 1, 1, none⟩ = false := block_frozen r0
          have FS := Lib.hid (SP6.out.below hbel (Nat.le_refl _))
          have ET : Hid (endT (mapT (cutS a n) T i) mk a = mapT (cutS a n) T i) := if_neg g3
          have FIN := Lib.hid (give_end (B := w.heap.size + 1) (Nat.le_add_right _ 1) r0 FS.out HTV.out HBw.out)
          obtain ⟨y0, y1⟩ := res_cells (a1 := a6) (n1 := r6) (c1 := c6) (a2 := at1) (n2 := (mapT (cutS a n) T i).length) (c2 := ct1) r0
          clear hbel r0 SITE DONE
          generalize (mapT (cutS a n) T i).length = lp at *
          go_wp2_with fail
          exact bodyPost_ret (v := .agg #[.slice a6 r6 c6, .slice at1 lp ct1]) (by simp [results, Tryz.results40, go_sem, y0, y1]) rfl (by rw [ET.out, ← HRU.out]; exact FIN.out)
  · have A2 : Hid (Ints w2 (.slice (some ⟨G, b, none⟩) (n - b) (n - b)) q) := by
      have hsrc := SRC.out
      rw [if_neg hend] at hsrc
      exact hsrc
    clear SRC
    go_wp2_with (at_builtin; refine wpList_append_ints rfl _ _ rfl w1.heap.size _ p.length _ rfl OW.out _ q rfl A2.out A3.out A4.out ?_)
    intro v5 w5 h5 g5
    obtain ⟨P5, hB5⟩ := HAP.out v5 w5 (by first | exact h5 | simpa using h5) g5
    have CS6 := Lib.hid (spans_any w5 P5.ints HPL.out)
    have HB5 := Lib.hid hB5
    obtain ⟨a5, c5, rfl⟩ := P5.is_slice
    generalize (takeLs ys a b).length = l5 at *
    clear P5 hB5 HAP h5 g5 OW A2 A3 A4 HPL RES IW HQI
    go_wp2_with fail
    refine CS6.out.mono ?_
    rintro e w6 ⟨v6, rfl, hS6, hb6⟩
    have HB6 := Lib.hid (below_more (below_more HB1.out HB5.out) hb6)
    have HX6 := Lib.hid (below_more (below_more HBW0.out HB5.out) hb6)
    have SP6 := Lib.hid hS6.spans
    obtain ⟨a6, c6, rfl⟩ := hS6.is_slice
    obtain ⟨RU, hRU⟩ : ∃ RU, RU = runs (takeLs ys a b) := ⟨_, rfl⟩
    rw [← hRU] at SP6 ⊢
    generalize RU.length = r6 at *
    have HRU := Lib.hid hRU
    clear hS6 hb6 CS6 hRU
    have lw0 := l0
    go_wp2_with fail
    go_loopw [14] (fun t wr => ∃ (i : Nat) (tv : Value), i ≤ nt ∧ t = .int .i64 i ∧ Hid (wr.heap[w6.heap.size]? = some (.cells #[.slice a6 r6 c6, tv] 78 (0, 0))) ∧ Hid (Sites wr tv (mapT (cutS a b) T i)) ∧ Below w6.heap.size w6 wr) (fun t _ => nt - (RowKit.intOf t).toNat)
    case atStart =>
      exact ⟨0, .slice none 0 0, Nat.zero_le _, rfl, heap_alloc_new _ _, Sites.nil_ _, (Below.refl _ _).alloc (Nat.le_refl _) _⟩
    case round =>
      obtain ⟨i, tv, hi, rfl, HK, HTV, hbel⟩ := hrel
      have HBw := Lib.hid (below_more HB6.out hbel)
      have HX := Lib.hid (below_more HX6.out hbel)
      have h66 : w6.heap.size < wr.heap.size := by
        rcases Nat.lt_or_ge w6.heap.size wr.heap.size with h | h
        · exact h
        · have := HK.out; rw [Array.getElem?_eq_none h] at this; cases this
      have s6 : W0.heap.size ≤ w6.heap.size := HX6.out.size
      have x0 : wr.cell? ⟨w.heap.size, 0, none⟩ = some (.slice sa ns sc) := below_cell HX.out (by omega) (by rw [cell_of_row _ _ _ _ _ _ H0.out]; rfl)
      have x1 : wr.cell? ⟨w.heap.size, 1, none⟩ = some (.slice ta nt tc) := below_cell HX.out (by omega) (by rw [cell_of_row _ _ _ _ _ _ H0.out]; rfl)
      have k0 : wr.cell? ⟨w6.heap.size, 0, none⟩ = some (.slice a6 r6 c6) := by rw [cell_of_row _ _ _ _ _ _ HK.out]; rfl
      have k1 : wr.cell? ⟨w6.heap.size, 1, none⟩ = some tv := by rw [cell_of_row _ _ _ _ _ _ HK.out]; rfl
      obtain ⟨at1, ct1, rfl⟩ := HTV.out.is_slice
      have hpl2 := mapT_len (cutS a b) T i
      have SITE : Hid (∀ (s : St) w', St.good s → Below wr.heap.size wr w' → Calls Tryz.prog 70 #[.slice at1 (mapT (cutS a b) T i).length ct1, .agg #[.int .i64 s.m, .int .i64 s.a]] w' (GivesSt w' (siteL (mapT (cutS a b) T i) s))) := fun s w' hg hb' => site_any s w' (HTV.out.below hb' (Nat.le_refl _)) hg (by omega)
      have DONE : Hid (∀ (L : List St) (w8 : World) (v8 : Value), Below wr.heap.size wr w8 → Sites w8 v8 L → Sites (w8.setCell ⟨w6.heap.size, 1, none⟩ v8) v8 L ∧ (w8.setCell ⟨w6.heap.size, 1, none⟩ v8).heap[w6.heap.size]? = some (.cells #[.slice a6 r6 c6, v8] 78 (0, 0)) ∧ Below w6.heap.size w6 (w8.setCell ⟨w6.heap.size, 1, none⟩ v8) ∧ w8.cell? ⟨w6.heap.size, 1, none⟩ = some (.slice at1 (mapT (cutS a b) T i).length ct1) ∧ w8.frozen? ⟨w6.heap.size, 1, none⟩ = false) := fun L w8 v8 hb8 h8 => by
        have hK8 : w8.heap[w6.heap.size]? = some (.cells #[.slice a6 r6 c6, .slice at1 (mapT (cutS a b) T i).length ct1] 78 (0, 0)) := by
          rw [hb8.block _ h66]
          exact HK.out
        refine ⟨Fl.setBlock h8 (by decide) hK8, ?_, ?_, ?_, block_frozen hK8⟩
        · rw [heap_setCell_same _ _ _ _ _ _ hK8]
          rfl
        · exact (below_more hbel hb8).setCell (p := ⟨w6.heap.size, 1, none⟩) (Nat.le_refl _) v8
        · rw [cell_of_row _ _ _ _ _ _ hK8]
          rfl
      by_cases hlt2 : i < nt
      · have hil : i < T.length := by rw [← hnt.out]; exact hlt2
        obtain ⟨b', off, rfl, hb, ⟨⟨m1, m2⟩, ⟨q1, q2⟩⟩, c0, c1⟩ := HT.out i hil
        obtain ⟨z1, z2⟩ := HST.out i hil
        have EQ : Hid (mapT (cutS a b) T (i + 1) = siteL (mapT (cutS a b) T i) (cutS a b (st T i))) := rfl
        have hse : ∃ e, e = st T i := ⟨_, rfl⟩
        obtain ⟨e, he⟩ := hse
        rw [← he] at m1 m2 q1 q2 c0 c1 EQ z1 z2
        obtain ⟨m, f⟩ := e
        simp only at m1 m2 q1 q2 c0 c1 EQ z1 z2
        replace c0 := below_cell HBw.out hb c0
        replace c1 := below_cell HBw.out hb c1
        have KA : Hid (∀ o, Below wr.heap.size wr (wr.alloc o)) := fun o => (Below.refl _ _).alloc (Nat.le_refl _) _
        generalize (mapT (cutS a b) T i).length = lp at *
        have hne : ¬ w6.heap.size = wr.heap.size := by omega
        have hne2 : ¬ wr.heap.size = w6.heap.size := by omega
        clear hbel HT HST HK HTV he
        by_cases g1 : (b : Int) < f
        · have SG := Lib.hid (SITE.out ⟨m, f - ((b : Int) - (a : Int))⟩ (wr.alloc (.cells #[.int .i64 m, .int .i64 (f - ((b : Int) - (a : Int)) : Int)] 106)) (show i64 m ∧ i64 (f - ((b : Int) - (a : Int)) : Int) from ⟨⟨by omega, by omega⟩, ⟨by omega, by omega⟩⟩) (KA.out _))
          have BW := Lib.hid (KA.out (.cells #[.int .i64 m, .int .i64 (f - ((b : Int) - (a : Int)) : Int)] 106))
          have SH : Hid (cutS a b ⟨m, f⟩ = ⟨m, f - ((b : Int) - (a : Int))⟩) := by show _ = _; unfold cutS; rw [if_pos g1]
          clear SITE
          go_wp2_with fail
          refine SG.out.mono ?_
          rintro e w8 ⟨v8, rfl, h8, hb8⟩
          obtain ⟨D1, D2, D3, D4, D5⟩ := DONE.out _ w8 v8 (below_more BW.out hb8) h8
          rw [← SH.out, ← EQ.out] at D1
          have E1 := Lib.hid D1
          have E2 := Lib.hid D2
          have E3 := Lib.hid D3
          obtain ⟨a8, c8, rfl⟩ := h8.is_slice
          have l8 : w6.heap.size < w8.heap.size := Nat.lt_of_lt_of_le h66 (below_more BW.out hb8).size
          clear D1 D2 D3 h8 hb8 SG BW DONE
          go_wp2_with fail
          go_roundw
          case rel => exact ⟨i + 1, _, by omega, by go_num, E2.out, E1.out, E3.out⟩
          case measure => simp [RowKit.intOf]; omega
        · by_cases g2 : (a : Int) < f
          · have SG := Lib.hid (SITE.out ⟨m, (a : Int)⟩ (wr.alloc (.cells #[.int .i64 m, .int .i64 ((a : Int) : Int)] 106)) (show i64 m ∧ i64 ((a : Int) : Int) from ⟨⟨by omega, by omega⟩, ⟨by omega, by omega⟩⟩) (KA.out _))
            have BW := Lib.hid (KA.out (.cells #[.int .i64 m, .int .i64 ((a : Int) : Int)] 106))
            have SH : Hid (cutS a b ⟨m, f⟩ = ⟨m, (a : Int)⟩) := by show _ = _; unfold cutS; rw [if_neg g1, if_pos g2]
            clear SITE
            go_wp2_with fail
            refine SG.out.mono ?_
            rintro e w8 ⟨v8, rfl, h8, hb8⟩
            obtain ⟨D1, D2, D3, D4, D5⟩ := DONE.out _ w8 v8 (below_more BW.out hb8) h8
            rw [← SH.out, ← EQ.out] at D1
            have E1 := Lib.hid D1
            have E2 := Lib.hid D2
            have E3 := Lib.hid D3
            obtain ⟨a8, c8, rfl⟩ := h8.is_slice
            have l8 : w6.heap.size < w8.heap.size := Nat.lt_of_lt_of_le h66 (below_more BW.out hb8).size
            clear D1 D2 D3 h8 hb8 SG BW DONE
            go_wp2_with fail
            go_roundw
            case rel => exact ⟨i + 1, _, by omega, by go_num, E2.out, E1.out, E3.out⟩
            case measure => simp [RowKit.intOf]; omega
          · have SG := Lib.hid (SITE.out ⟨m, f⟩ (wr.alloc (.cells #[.int .i64 m, .int .i64 (f : Int)] 106)) (show i64 m ∧ i64 (f : Int) from ⟨⟨by omega, by omega⟩, ⟨by omega, by omega⟩⟩) (KA.out _))
            have BW := Lib.hid (KA.out (.cells #[.int .i64 m, .int .i64 (f : Int)] 106))
            have SH : Hid (cutS a b ⟨m, f⟩ = ⟨m, f⟩) := by show _ = _; unfold cutS; rw [if_neg g1, if_neg g2]
            clear SITE
            go_wp2_with fail
            refine SG.out.mono ?_
            rintro e w8 ⟨v8, rfl, h8, hb8⟩
            obtain ⟨D1, D2, D3, D4, D5⟩ := DONE.out _ w8 v8 (below_more BW.out hb8) h8
            rw [← SH.out, ← EQ.out] at D1
            have E1 := Lib.hid D1
            have E2 := Lib.hid D2
            have E3 := Lib.hid D3
            obtain ⟨a8, c8, rfl⟩ := h8.is_slice
            have l8 : w6.heap.size < w8.heap.size := Nat.lt_of_lt_of_le h66 (below_more BW.out hb8).size
            clear D1 D2 D3 h8 hb8 SG BW DONE
            go_wp2_with fail
            go_roundw
            case rel => exact ⟨i + 1, _, by omega, by go_num, E2.out, E1.out, E3.out⟩
            case measure => simp [RowKit.intOf]; omega
      · obtain rfl : i = nt := by omega
        have r0 : wr.heap[w.heap.size + 1]? = some (.cells #[.slice none 0 0, .slice none 0 0] 78 (0, 0)) := by
          rw [HX.out.block _ (by omega)]
          exact H0'.out
        have hw16 : w.heap.size + 1 < w6.heap.size := by omega
        by_cases g3 : 0 < mk
        · have SG := Lib.hid (SITE.out ⟨mk, a⟩ wr (show i64 mk ∧ i64 (a : Int) from ⟨⟨by omega, by omega⟩, ⟨by omega, by omega⟩⟩) (Below.refl _ _))
          have R0 := Lib.hid r0
          have FS := Lib.hid (SP6.out.below hbel (Nat.le_refl _))
          have ET : Hid (endT (mapT (cutS a b) T i) mk a = siteL (mapT (cutS a b) T i) ⟨mk, a⟩) := if_pos g3
          clear hbel r0 SITE
          generalize (mapT (cutS a b) T i).length = lp at *
          go_wp2_with fail
          refine SG.out.mono ?_
          rintro e w8 ⟨v8, rfl, h8, hb8⟩
          obtain ⟨D1, D2, D3, D4, D5⟩ := DONE.out _ w8 v8 hb8 h8
          have r8 : (w8.setCell ⟨w6.heap.size, 1, none⟩ v8).heap[w.heap.size + 1]? = some (.cells #[.slice none 0 0, .slice none 0 0] 78 (0, 0)) := by
            rw [Below.heap_setCell _ _ _ _ (by exact Nat.ne_of_lt hw16), hb8.block _ (by omega)]
            exact R0.out
          have hk8 : w8.heap[w6.heap.size]? = some (.cells #[.slice a6 r6 c6, .slice at1 lp ct1] 78 (0, 0)) := by
            rw [hb8.block _ h66]
            exact HK.out
          have FS8 := Lib.hid (Fl.setBlock (i := 1) (u := v8) (FS.out.below hb8 (Nat.le_refl _)) (by decide) hk8)
          have W8 := Lib.hid (D3)
          have FIN0 := Lib.hid (D1)
          obtain ⟨a8, c8, rfl⟩ := h8.is_slice
          have FIN := Lib.hid (give_end (B := w.heap.size + 1) (Nat.le_add_right _ 1) r8 FS8.out FIN0.out (below_more HB6.out W8.out))
          obtain ⟨y0, y1⟩ := res_cells (a1 := a6) (n1 := r6) (c1 := c6) (a2 := a8) (n2 := (siteL (mapT (cutS a b) T i) ⟨mk, a⟩).length) (c2 := c8) r8
          have u0 := cell_of_row _ _ 0 _ _ _ r8
          have u1 := cell_of_row _ _ 1 _ _ _ r8
          have f0 := block_frozen (j := 0) r8
          have f1 := block_frozen (j := 1) r8
          have t0 := cell_of_row _ _ 0 _ _ _ D2
          have t1 := cell_of_row _ _ 1 _ _ _ D2
          have t2 := cell_of_row _ _ 0 _ _ _ hk8
          have l8 : w6.heap.size < w8.heap.size := Nat.lt_of_lt_of_le h66 hb8.size
          simp only [List.getElem?_toArray, List.getElem?_cons_zero, List.getElem?_cons_succ] at u0 u1 t0 t1 t2
          clear D1 D2 D3 h8 hb8 SG DONE r8 hk8 HK HTV FS
          go_wp2_with fail
          exact bodyPost_ret (v := .agg #[.slice a6 r6 c6, .slice a8 (siteL (mapT (cutS a b) T i) ⟨mk, a⟩).length c8]) (by simp [results, Tryz.results40, go_sem, y0, y1]) rfl (by rw [ET.out, ← HRU.out]; exact FIN.out)
        · have u0 : wr.cell? ⟨w.heap.size + 1, 0, none⟩ = some (.slice none 0 0) := by rw [cell_of_row _ _ _ _ _ _ r0]; rfl
          have u1 : wr.cell? ⟨w.heap.size + 1, 1, none⟩ = some (.slice none 0 0) := by rw [cell_of_row _ _ _ _ _ _ r0]; rfl
          have f0 : wr.frozen? ⟨w.heap.size + 1, 0, none⟩ = false := block_frozen r0
          have f1 : wr.frozen? ⟨w.heap.size + 1, 1, none⟩ = false := block_frozen r0
          have FS := Lib.hid (SP6.out.below hbel (Nat.le_refl _))
          have ET : Hid (endT (mapT (cutS a b) T i) mk a = mapT (cutS a b) T i) := if_neg g3
          have FIN := Lib.hid (give_end (B := w.heap.size + 1) (Nat.le_add_right _ 1) r0 FS.out HTV.out HBw.out)
          obtain ⟨y0, y1⟩ := res_cells (a1 := a6) (n1 := r6) (c1 := c6) (a2 := at1) (n2 := (mapT (cutS a b) T i).length) (c2 := ct1) r0
          clear hbel r0 SITE DONE
          generalize (mapT (cutS a b) T i).length = lp at *
          go_wp2_with fail
          exact bodyPost_ret (v := .agg #[.slice a6 r6 c6, .slice at1 lp ct1]) (by simp [results, Tryz.results40, go_sem, y0, y1]) rfl (by rw [ET.out, ← HRU.out]; exact FIN.out)
end Go.Proofs.YtengmiolcfgdiaaGreatDoor.Rig
