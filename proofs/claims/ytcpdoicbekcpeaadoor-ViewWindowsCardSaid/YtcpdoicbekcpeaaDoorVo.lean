/- View: Look. -/
import Derived.Test.YtcpdoicbekcpeaaDoorVe
import Derived.Test.YtcpdoicbekcpeaaDoorVn
import Derived.Test.YtcpdoicbekcpeaaDoorHx
import Derived.Test.YtcpdoicbekcpeaaDoorHr
import Derived.Deep.RegionHeld3
import Derived.Deep.DeepCutAuto
import Derived.Deep.CutBlock
set_option linter.unusedVariables false
set_option linter.unusedSimpArgs false
set_option maxRecDepth 100000
namespace Go.Proofs.YtcpdoicbekcpeaaDoor.Vi
open Go.RowKit Go.Lib Go.Shelf Go.Proofs.YtcpdoicbekcpeaaDoor.Rk Go.Proofs.YtcpdoicbekcpeaaDoor.Rt Go.Proofs.YtcpdoicbekcpeaaDoor.Rig Go.Proofs.YtcpdoicbekcpeaaDoor.Seg Go.Proofs.YtcpdoicbekcpeaaDoor.She

/-- What is seen of a segment. -/
structure Vw where
  i : Int
  l : Int
  o : Bool
  L : List UInt8
def vw (o : Int → Bool) (g : G5) : Vw := ⟨g.i, g.l, o g.l, if o g.l = true then g.L else []⟩
def Vw.pc (x : Vw) : Pc := ⟨x.i, x.l, if x.o = true then (Let.cnt x.L : Int) else 0, x.o⟩
def Lk (o : Int → Bool) (G : List G5) : List Pc := (G.map (vw o)).map Vw.pc
/-- A segment whose values may be told. -/
def G5.vok (g : G5) : Prop := in64 g.i ∧ in64 g.l ∧ g.L.length ≤ 10000
theorem vw_good (o : Int → Bool) {g : G5} (h : G5.vok g) : (vw o g).pc.good ∧ 0 ≤ (vw o g).pc.n ∧ (vw o g).pc.n ≤ 1099511627776 := by
  obtain ⟨h1, h2, h3⟩ := h
  have h4 := Let.cnt_len g.L
  unfold vw Vw.pc Pc.good in64 at *
  cases o g.l <;> simp <;> omega
theorem lk_take (o : Int → Bool) (G : List G5) {k : Nat} (hk : k < G.length) : Lk o (G.take (k + 1)) = Lk o (G.take k) ++ [(vw o G[k]).pc] := by
  unfold Lk
  rw [List.take_succ_eq_append_getElem hk, List.map_append, List.map_append]
  rfl
theorem infoPc : (Tryd.prog.info? 89).map (fun i => (i.zero, i.size, i.bytes)) = some (some (.agg #[.int .i64 0, .int .i64 0, .int .i64 0, .bool false]), 4, 32) := by kernel_rfl
/-- Pieces of the call's own. -/
def OPc (base : Nat) (w : World) (v : Value) (A : List Pc) : Prop := Rk.OwnK 89 4 base w v (A.map Pc.cells)
theorem OPc.nil_ (base : Nat) (w : World) : OPc base w (.slice none 0 0) [] := Rk.OwnK.nil_ _ _ _ _
theorem OPc.below {base : Nat} {w w' : World} {v : Value} {A : List Pc} (h : OPc base w v A) (hb : Below w.heap.size w w') : OPc base w' v A := Rk.OwnK.below h hb
theorem OPc.is_slice {base : Nat} {w : World} {v : Value} {A : List Pc} (h : OPc base w v A) : ∃ a cap, v = .slice a A.length cap := by
  obtain ⟨a, c, e⟩ := Rk.OwnK.is_slice h
  exact ⟨a, c, by rw [e, List.length_map]⟩
def GiveLk (A : List Pc) (w : World) (e : Ending) (w' : World) : Prop := ∃ s, e = .returned s ∧ Pcs w' s A ∧ Below w.heap.size w w'
theorem four_cells {w : World} {B : Nat} {x0 x1 x2 x3 : Value} {ty : TypeId} (z : w.heap[B]? = some (.cells #[x0, x1, x2, x3] ty (0, 0))) :
    w.cell? ⟨B, 0, none⟩ = some x0 ∧ w.cell? ⟨B, 1, none⟩ = some x1 ∧ w.cell? ⟨B, 2, none⟩ = some x2 ∧ w.cell? ⟨B, 3, none⟩ = some x3 ∧ w.frozen? ⟨B, 0, none⟩ = false ∧ w.frozen? ⟨B, 1, none⟩ = false ∧ w.frozen? ⟨B, 2, none⟩ = false ∧ w.frozen? ⟨B, 3, none⟩ = false := by
  refine ⟨?_, ?_, ?_, ?_, ?_, ?_, ?_, ?_⟩
  · rw [cell_of_row _ _ _ _ _ _ z]; rfl
  · rw [cell_of_row _ _ _ _ _ _ z]; rfl
  · rw [cell_of_row _ _ _ _ _ _ z]; rfl
  · rw [cell_of_row _ _ _ _ _ _ z]; rfl
  all_goals (unfold World.frozen?; simp [z])
theorem cutP {p q r : Prop} (f : p → q) (hp : p) (k : q → r) : r := k (f hp)
/-- A box of a region's own: made, not yet filled. -/
structure ZP (W w : World) (NB : Nat) : Prop where
  z : w.heap[NB]? = some (.cells #[.int .i64 0, .int .i64 0, .int .i64 0, .bool false] 89 (0, 0))
  s : W.heap.size ≤ NB
theorem ZP.below {W w w' : World} {NB : Nat} (h : ZP W w NB) (hb : Below w.heap.size w w') : ZP W w' NB := ⟨(hb.block NB (Array.getElem?_eq_some_iff.1 h.z).1).trans h.z, h.s⟩
theorem ZP.alloc {W w : World} {NB : Nat} (h : ZP W w NB) (o : Obj) : ZP W (w.alloc o) NB := h.below ((Below.refl _ _).alloc (Nat.le_refl _) o)
theorem ZP.drew {W w : World} {NB : Nat} (h : ZP W w NB) : ZP W w.drew NB := ⟨h.z, h.s⟩
theorem ZP.drews {W w : World} {NB : Nat} (h : ZP W w NB) (n : Nat) : ZP W (w.drewN n) NB := h.below (below_drews (Below.refl _ _) n)
theorem zp_base {W w : World} (hk : Below W.heap.size W w) : ZP W (w.alloc (.cells #[.int .i64 0, .int .i64 0, .int .i64 0, .bool false] 89)) w.heap.size := ⟨heap_alloc_new _ _, hk.size⟩
theorem zp_at {W w : World} {NB : Nat} (hk : Below W.heap.size W w) (e : NB = w.heap.size) : ZP W (w.alloc (.cells #[.int .i64 0, .int .i64 0, .int .i64 0, .bool false] 89)) NB := e ▸ zp_base hk
def FilP (W w : World) (NB : Nat) (yi yl : Int) : Prop := w.heap[NB]? = some (.cells #[.int .i64 yi, .int .i64 yl, .int .i64 0, .bool false] 89 (0, 0)) ∧ W.heap.size ≤ NB ∧ Below W.heap.size W w
theorem put4 {w : World} {B : Nat} {x0 x1 x2 x3 y0 y1 y2 y3 : Value} {ty : TypeId} (z : w.heap[B]? = some (.cells #[x0, x1, x2, x3] ty (0, 0))) :
    ((((w.setCell ⟨B, 0, none⟩ y0).setCell ⟨B, 1, none⟩ y1).setCell ⟨B, 2, none⟩ y2).setCell ⟨B, 3, none⟩ y3).heap[B]? = some (.cells #[y0, y1, y2, y3] ty (0, 0)) := by
  have h1 := set_block (i := 0) (u := y0) z
  have h2 := set_block (i := 1) (u := y1) h1
  have h3 := set_block (i := 2) (u := y2) h2
  have h4 := set_block (i := 3) (u := y3) h3
  simpa using h4
theorem fin_p {W w : World} {NB : Nat} {yi yl : Int} (z : ZP W w NB) (k : Below W.heap.size W w) : Hid (FilP W ((((w.setCell ⟨NB, 0, none⟩ (.int .i64 yi)).setCell ⟨NB, 1, none⟩ (.int .i64 yl)).setCell ⟨NB, 2, none⟩ (.int .i64 0)).setCell ⟨NB, 3, none⟩ (.bool false)) NB yi yl) :=
  ⟨put4 z.z, z.s, below_put (below_put (below_put (below_put k z.s _) z.s _) z.s _) z.s _⟩
theorem fin_pa {W w : World} {yi yl : Int} (k : Below W.heap.size W w) : Hid (FilP W (w.alloc (.cells #[.int .i64 yi, .int .i64 yl, .int .i64 0, .bool false] 89)) w.heap.size yi yl) :=
  ⟨heap_alloc_new _ _, k.size, k.alloc k.size _⟩

set_option maxHeartbeats 16000000 in
theorem look_any {v fv : Value} {f : Bool} {G : List G5} {o : Int → Bool} (w : World) (h : Sh w v f G) (ho : Opens w fv o) (hg : ∀ g ∈ G, G5.vok g) (hn : G.length ≤ 10000) : Calls Tryd.prog 51 #[v, fv] w (GiveLk (Lk o G) w) := by
  obtain ⟨sa, sc, rfl, hs⟩ := h.open_
  obtain ⟨n, hnG⟩ : ∃ n, n = G.length := ⟨_, rfl⟩
  have HN := Lib.hid hnG
  have HV := Lib.hid hg
  have HO : Hid (∀ w', Below w.heap.size w w' → Opens w' fv o) := fun w' hb => ho.below hb
  have HFG : Hid (∀ y ∈ Lk o G, y.good) := fun y hy => by
    unfold Lk at hy
    obtain ⟨x, hx, rfl⟩ := List.mem_map.1 hy
    obtain ⟨g, hgm, rfl⟩ := List.mem_map.1 hx
    exact (vw_good o (hg g hgm)).1
  obtain ⟨B0, R0, L0⟩ := box1 w #[.bool f, .slice sa G.length sc] 50
  obtain ⟨d0, d1, _, _⟩ := two_cells R0
  have CX := segs_any _ (h.below B0) (by omega)
  rw [← hnG] at CX B0 R0 L0 d0 d1 hn ⊢
  obtain ⟨W0, hW0⟩ : ∃ W0, W0 = w.alloc (.cells #[.bool f, .slice sa n sc] 50) := ⟨_, rfl⟩
  rw [← hW0] at CX B0 d0 d1
  have HB0 := Lib.hid B0
  have HW0 := Lib.hid hW0
  have HCX := Lib.hid CX
  have HFV : Hid (∃ ff cap, fv = .func (.func ff) #[] cap) := by obtain ⟨ff, cap, e, _⟩ := ho; exact ⟨ff, cap, e⟩
  clear hs h R0 B0 hW0 CX hg ho L0 hnG
  obtain ⟨ff, fcap, rfl⟩ := HFV.out
  go_enter Tryd.func51, Tryd.ntmps51
  go_upto_region 1 with fail
  rw [← HW0.out]
  go_wp2_with fail
  refine (HCX.out).mono ?_
  rintro e w1 ⟨s, rfl, hs, b1⟩
  have K1 := Lib.hid (below_more HB0.out b1)
  obtain ⟨a10, c10, rfl⟩ := Rk.Rows.is_slice hs
  obtain ⟨_, hcap, hmax⟩ := Rk.Rows.len hs
  have HS : Hid (∀ w', Below w1.heap.size w1 w' → Sgs w' (.slice a10 n c10) G) := fun w' hb => by show Sgs _ _ _; rw [HN.out]; exact hs.below hb
  rw [← HN.out] at hcap ⊢
  unfold maxLen at hmax
  clear b1 HCX hs d0 d1
  go_wp2_with fail
  go_loopg [5, 12] n (fun g t i wr => ∃ k : Nat, k ≤ n ∧ n - k ≤ g ∧ i = .int .i64 k ∧ Hid (OPc w1.heap.size wr t (Lk o (G.take k))) ∧ Below w1.heap.size w1 wr)
  case atStart => exact ⟨0, Nat.zero_le _, by omega, rfl, OPc.nil_ _ _, Below.refl _ _⟩
  case round =>
    obtain ⟨k, hk, hg, rfl, HP, hbel⟩ := hrel
    have HB := Lib.hid hbel
    have HBw := Lib.hid (below_more K1.out hbel)
    have RL : Hid ((Lk o (G.take k)).length = k) := by show _ = _; unfold Lk; rw [List.length_map, List.length_map, List.length_take, ← HN.out]; omega
    by_cases hlt : k < n
    · have hkl : k < G.length := by rw [← HN.out]; exact hlt
      obtain ⟨b, off, q, a1, e1, a2, e2, rfl, hb, hv, c0, c1, c2, c3, c4⟩ := (HS.out _ hbel).get hkl
      have EQ : Hid (Lk o (G.take (k + 1)) = Lk o (G.take k) ++ [(vw o G[k]).pc]) := lk_take o G hkl
      have HGD := Lib.hid (vw_good o (HV.out _ (List.getElem_mem hkl)))
      obtain ⟨v1, v2, v3⟩ := HV.out _ (List.getElem_mem hkl)
      generalize G[k] = y at *
      obtain ⟨yi, yl, yL, yS, yT⟩ := y
      simp only at c0 c1 c2 c3 c4 hv EQ v1 v2 v3 HGD
      have CI : Hid (∀ w', Below wr.heap.size wr w' → Calls Tryd.prog 45 #[.agg #[.int .i64 yi, .int .i64 yl, .pointer q, .slice a1 yS.length e1, .slice a2 yT.length e2]] w' fun e w'' => e = .returned (.int .i64 yi) ∧ Below w'.heap.size w' w'') := fun w' hb => Seg.id_any w' (hv.below hb (Nat.le_refl _))
      have CLb : Hid (∀ w', Below wr.heap.size wr w' → Calls Tryd.prog 91 #[.agg #[.int .i64 yi, .int .i64 yl, .pointer q, .slice a1 yS.length e1, .slice a2 yT.length e2]] w' fun e w'' => e = .returned (.int .i64 yl) ∧ Below w'.heap.size w' w'') := fun w' hb => Seg.label_any w' (hv.below hb (Nat.le_refl _))
      have CRp : Hid (∀ w', Below wr.heap.size wr w' → Calls Tryd.prog 15 #[.agg #[.int .i64 yi, .int .i64 yl, .pointer q, .slice a1 yS.length e1, .slice a2 yT.length e2]] w' fun e w'' => ∃ p, e = .returned (.pointer p) ∧ IsRope w'' yL (.pointer p) ∧ Below w'.heap.size w' w'') := fun w' hb => Seg.rope_any w' (hv.below hb (Nat.le_refl _))
      have HSy : Hid (∀ w', Below w1.heap.size w1 w' → Calls Tryd.prog 92 #[.func (.func ff) #[] fcap, .int .i64 yl] w' fun e w'' => e = .returned (.bool (o yl)) ∧ w'' = w') := fun w' hb => says_any yl w' (HO.out _ (below_more K1.out hb))
      obtain ⟨B1, R1, L1⟩ := box1 wr #[.int .i64 yi, .int .i64 yl, .pointer q, .slice a1 yS.length e1, .slice a2 yT.length e2] 33
      generalize yS.length = n1 at *
      generalize yT.length = n2 at *
      obtain ⟨W1, hW1⟩ : ∃ W1, W1 = wr.alloc (.cells #[.int .i64 yi, .int .i64 yl, .pointer q, .slice a1 n1 e1, .slice a2 n2 e2] 33) := ⟨_, rfl⟩
      rw [← hW1] at B1 R1 L1
      have HW1 := Lib.hid hW1
      have HB1 := Lib.hid B1
      have HC1 := Lib.hid (below_more HB.out B1)
      have HP1 := Lib.hid (HP.out.below B1)
      obtain ⟨b7, hb7⟩ : ∃ b7, b7 = wr.heap.size := ⟨_, rfl⟩
      rw [← hb7] at R1 L1
      have HL7 : Hid (b7 < W1.heap.size) := by show _ < _; omega
      have BX : Hid (∀ w', Below W1.heap.size W1 w' → Below W1.heap.size W1 w' ∧ w'.cell? ⟨b7, 0, none⟩ = some (.int .i64 yi) ∧ w'.cell? ⟨b7, 1, none⟩ = some (.int .i64 yl) ∧ w'.cell? ⟨b7, 2, none⟩ = some (.pointer q) ∧ w'.cell? ⟨b7, 3, none⟩ = some (.slice a1 n1 e1) ∧ w'.cell? ⟨b7, 4, none⟩ = some (.slice a2 n2 e2)) := fun w' hb =>
        ⟨hb, five_cells ((hb.block _ HL7.out).trans R1)⟩
      have KZ : Hid (Below W1.heap.size W1 W1) := Below.refl _ _
      have CI1 : Hid (∀ w', Below W1.heap.size W1 w' → Calls Tryd.prog 45 #[.agg #[.int .i64 yi, .int .i64 yl, .pointer q, .slice a1 n1 e1, .slice a2 n2 e2]] w' fun e w'' => e = .returned (.int .i64 yi) ∧ Below w'.heap.size w' w'') := fun w' hb => CI.out w' (below_more HB1.out hb)
      have CL1 : Hid (∀ w', Below W1.heap.size W1 w' → Calls Tryd.prog 91 #[.agg #[.int .i64 yi, .int .i64 yl, .pointer q, .slice a1 n1 e1, .slice a2 n2 e2]] w' fun e w'' => e = .returned (.int .i64 yl) ∧ Below w'.heap.size w' w'') := fun w' hb => CLb.out w' (below_more HB1.out hb)
      have i1 : (k : Int) < (n : Int) := by omega
      obtain ⟨ao, co, rfl⟩ := HP.out.is_slice
      rw [RL.out] at HP1 ⊢
      clear hbel hv hW1 B1 R1 L1 HP CI CLb
      go_upto_region 5 with fail
      rw [← hb7, ← HW1.out]
      clear c0 c1 c2 c3 c4 hb7
      go_cut [8] from 16 to 21 (fun x wx => ∃ NB : Nat, x = .pointer (some ⟨NB, 0, none⟩) ∧ Hid (FilP W1 wx NB yi yl))
      case first =>
        go_region_held3 (fun w' => Below W1.heap.size W1 w' ∧ w'.cell? ⟨b7, 0, none⟩ = some (.int .i64 yi) ∧ w'.cell? ⟨b7, 1, none⟩ = some (.int .i64 yl) ∧ w'.cell? ⟨b7, 2, none⟩ = some (.pointer q) ∧ w'.cell? ⟨b7, 3, none⟩ = some (.slice a1 n1 e1) ∧ w'.cell? ⟨b7, 4, none⟩ = some (.slice a2 n2 e2))
          ((refine BX.out _ ?_; focus ((repeat first | with_reducible assumption | with_reducible exact KZ.out | with_reducible apply Below.drew | with_reducible apply below_drews | with_reducible apply below_al | (with_reducible refine below_put ?_ (by first | assumption | omega) _)); done)))
          (first
            | (go_at_call 45; (with_reducible refine (CI1.out _ ?_).mono ?_); (focus ((repeat first | with_reducible assumption | with_reducible exact KZ.out | with_reducible apply Below.drew | with_reducible apply below_drews | with_reducible apply below_al); done)); rintro e wi ⟨rfl, bi⟩; have ki := fun h => below_more (w := W1) h bi; replace ki := ki (by (repeat first | with_reducible assumption | with_reducible exact KZ.out | with_reducible apply Below.drew | with_reducible apply below_drews | with_reducible apply below_al)); (first | (refine cutP (fun h => ZP.below (W := W1) (NB := W1.heap.size) h bi) ?_ ?_; (focus ((repeat first | with_reducible exact zN | with_reducible apply ZP.drew | with_reducible apply ZP.drews | (with_reducible refine zp_at ?_ ?_; (focus ((repeat first | with_reducible assumption | with_reducible exact KZ.out | with_reducible apply Below.drew | with_reducible apply below_drews | with_reducible apply below_al); done)); (focus (simp [drew_sz]; done))) | with_reducible apply ZP.alloc); done)); intro zN) | skip); clear bi)
            | (go_at_call 91; (with_reducible refine (CL1.out _ ?_).mono ?_); (focus ((repeat first | with_reducible assumption | with_reducible exact KZ.out | with_reducible apply Below.drew | with_reducible apply below_drews | with_reducible apply below_al); done)); rintro e wl ⟨rfl, bl⟩; have kl := fun h => below_more (w := W1) h bl; replace kl := kl (by (repeat first | with_reducible assumption | with_reducible exact KZ.out | with_reducible apply Below.drew | with_reducible apply below_drews | with_reducible apply below_al)); (first | (refine cutP (fun h => ZP.below (W := W1) (NB := W1.heap.size) h bl) ?_ ?_; (focus ((repeat first | with_reducible exact zN | with_reducible apply ZP.drew | with_reducible apply ZP.drews | (with_reducible refine zp_at ?_ ?_; (focus ((repeat first | with_reducible assumption | with_reducible exact KZ.out | with_reducible apply Below.drew | with_reducible apply below_drews | with_reducible apply below_al); done)); (focus (simp [drew_sz]; done))) | with_reducible apply ZP.alloc); done)); intro zN2; have FN := fin_p (yi := yi) (yl := yl) zN2 kl; obtain ⟨z0, z1, z2, z3, f0, f1, f2, f3⟩ := four_cells zN2.z; have s6 := zN2.s) | (refine cutP (fun h => ZP.below (W := W1) (NB := wi.heap.size) h bl) ?_ ?_; (focus ((repeat first | with_reducible exact zN | with_reducible apply ZP.drew | with_reducible apply ZP.drews | (with_reducible refine zp_at ?_ ?_; (focus ((repeat first | with_reducible assumption | with_reducible exact KZ.out | with_reducible apply Below.drew | with_reducible apply below_drews | with_reducible apply below_al); done)); (focus (simp [drew_sz]; done))) | with_reducible apply ZP.alloc); done)); intro zN2; have FN := fin_p (yi := yi) (yl := yl) zN2 kl; obtain ⟨z0, z1, z2, z3, f0, f1, f2, f3⟩ := four_cells zN2.z; have s6 := zN2.s) | (have FN := fin_pa (yi := yi) (yl := yl) kl)); clear bl))
        all_goals go_wp2_with fail
        all_goals go_meet
        all_goals exact ⟨_, rfl, FN⟩
      case rest =>
        obtain ⟨NB, rfl, HF⟩ := hcut
        obtain ⟨R9, hs9, hK9⟩ := HF.out
        have K9 := Lib.hid hK9
        have HS9 := Lib.hid hs9
        have HR9 := Lib.hid R9
        have HLT9 : Hid (NB < wc.heap.size) := (Array.getElem?_eq_some_iff.1 R9).1
        obtain ⟨z0, z1, z2, z3, f0, f1, f2, f3⟩ := four_cells R9
        have CS := Lib.hid (HSy.out wc (below_more HC1.out hK9))
        obtain ⟨xs, hxs⟩ : ∃ xs, xs = (Lk o (G.take k)).map Pc.cells := ⟨_, rfl⟩
        have HXL : Hid (xs.length = k) := by show _ = _; rw [hxs, List.length_map]; exact RL.out
        have HXS := Lib.hid hxs
        have HPX : Hid (∀ w', Below W1.heap.size W1 w' → Rk.OwnK 89 4 w1.heap.size w' (.slice ao k co) xs) := fun w' hb => by rw [hxs]; exact HP1.out.below hb
        have RL6 : Hid ((Lk o (G.take (k + 1))).length = k + 1) := by show _ = _; unfold Lk; rw [List.length_map, List.length_map, List.length_take, ← HN.out]; omega
        clear R9 hs9 hK9 HF hxs HP1 RL HSy
        cases hob : o yl with
        | false =>
          have EQ2 : Hid (Lk o (G.take (k + 1)) = Lk o (G.take k) ++ [⟨yi, yl, 0, false⟩]) := by show _ = _; rw [EQ.out]; simp [vw, Vw.pc, hob]
          rw [hob] at CS
          clear hob EQ HGD
          obtain ⟨d0, d1, d2, d3, d4⟩ := (BX.out wc K9.out).2
          go_wp2_with fail
          refine (CS.out).mono ?_
          rintro e w5 ⟨rfl, hw5⟩
          rw [hw5]
          clear hw5 CS
          have A1 : Hid (Rk.OwnK 89 4 w1.heap.size (wc.alloc (.cells #[Value.int .i64 yi, .int .i64 yl, .int .i64 0, .bool false] 89)) (.slice ao k co) xs) := HPX.out _ (below_al K9.out _)
          have A2 : Hid (Rk.RowK 4 (wc.alloc (.cells #[Value.int .i64 yi, .int .i64 yl, .int .i64 0, .bool false] 89)) (.slice (some ⟨wc.heap.size, 0, none⟩) 1 1) [[Value.int .i64 yi, .int .i64 yl, .int .i64 0, .bool false]]) := Rk.row_one (e := 89) (heap_alloc_new _ _) rfl
          have HBY : Hid (Below w1.heap.size w1 (wc.alloc (.cells #[Value.int .i64 yi, .int .i64 yl, .int .i64 0, .bool false] 89))) := below_more HC1.out (below_al K9.out _)
          have A4 : Hid (w1.heap.size ≤ (wc.alloc (.cells #[Value.int .i64 yi, .int .i64 yl, .int .i64 0, .bool false] 89)).heap.size) := HBY.out.size
          have A3 : Hid (xs.length + 1 ≤ 100000) := by show _ ≤ _; rw [HXL.out]; omega
          have HYO : Hid (∀ y ∈ [[Value.int .i64 yi, .int .i64 yl, .int .i64 0, .bool false]], ∀ u ∈ y, u.oneCell' = true) := fun y hy u hu => by
            simp only [List.mem_singleton] at hy
            subst hy
            simp at hu
            rcases hu with rfl | rfl | rfl | rfl <;> rfl
          go_wp2_with (at_builtin; refine Rk.wpList_append_rowk rfl _ _ 85 89 4 32 _ Tryd.underlying85 infoPc rfl (by decide) (by decide) rfl w1.heap.size _ _ xs _ rfl rfl A1.out A2.out HYO.out A3.out A4.out ?_)
          intro v6 w6 h6 g6 _
          have HB6 := Lib.hid (A1.out.belowOf HBY.out (Nat.le_refl _) A4.out g6)
          have K6 : Hid (OPc w1.heap.size w6 v6 (Lk o (G.take (k + 1)))) := by
            show Rk.OwnK _ _ _ _ _ _
            rw [EQ2.out, List.map_append, ← HXS.out]
            exact h6
          obtain ⟨a6, c6, rfl⟩ := K6.out.is_slice
          clear h6 g6 A1 A2 A3 A4 HBY HYO EQ2
          rw [RL6.out] at K6 ⊢
          go_wp2_with fail
          go_roundg (n - (k + 1))
          case measure => omega
          case rel => exact ⟨k + 1, by omega, Nat.le_refl _, by go_num, K6.out, HB6.out⟩
        | true =>
          have EQ2 : Hid (Lk o (G.take (k + 1)) = Lk o (G.take k) ++ [⟨yi, yl, (Let.cnt yL : Int), true⟩]) := by show _ = _; rw [EQ.out]; simp [vw, Vw.pc, hob]
          rw [hob] at CS
          clear hob EQ HGD
          obtain ⟨d0, d1, d2, d3, d4⟩ := (BX.out wc K9.out).2
          have CR9 := Lib.hid (CRp.out wc (below_more HB1.out K9.out))
          go_wp2_with fail
          refine (CS.out).mono ?_
          rintro e w5 ⟨rfl, hw5⟩
          rw [hw5]
          clear hw5 CS
          go_wp2_with fail
          refine (CR9.out).mono ?_
          rintro e wq ⟨p, rfl, hr, bq⟩
          have KQ := Lib.hid (below_more K9.out bq)
          have RQ := (bq.block NB HLT9.out).trans HR9.out
          have CL9 := Lib.hid (rlen_is wq hr)
          obtain ⟨y0, y1, y2, y3, g0, g1, g2, g3⟩ := four_cells RQ
          obtain ⟨cl, hcl⟩ : ∃ cl : Int, cl = (Let.cnt yL : Int) := ⟨_, rfl⟩
          rw [← hcl] at CL9 EQ2
          have R10 : ((wq.setCell ⟨NB, 3, none⟩ (.bool true)).setCell ⟨NB, 2, none⟩ (.int .i64 cl)).heap[NB]? = some (.cells #[.int .i64 yi, .int .i64 yl, .int .i64 cl, .bool true] 89 (0, 0)) := by
            have h1 := set_block (i := 3) (u := .bool true) RQ
            have h2 := set_block (i := 2) (u := .int .i64 cl) h1
            simpa using h2
          have K10 := Lib.hid (below_put (below_put KQ.out HS9.out (.bool true) (j := 3)) HS9.out (.int .i64 cl) (j := 2))
          obtain ⟨W10, hW10⟩ : ∃ W10, W10 = (wq.setCell ⟨NB, 3, none⟩ (.bool true)).setCell ⟨NB, 2, none⟩ (.int .i64 cl) := ⟨_, rfl⟩
          rw [← hW10] at R10 K10
          have HW10 := Lib.hid hW10
          have HR10 := Lib.hid R10
          clear hr bq RQ z0 z1 z2 z3 f0 f1 f2 f3 CR9 hcl hW10 R10
          go_wp2_with fail
          refine (CL9.out).mono ?_
          rintro e w5 ⟨rfl, hw5⟩
          rw [← hw5]
          clear hw5 CL9
          go_upto_region 8 with fail
          rw [← HW10.out]
          clear y0 y1 y2 y3 g0 g1 g2 g3 d0 d1 d2 d3 d4
          obtain ⟨z0, z1, z2, z3, f0, f1, f2, f3⟩ := four_cells HR10.out
          have A1 : Hid (Rk.OwnK 89 4 w1.heap.size (W10.alloc (.cells #[Value.int .i64 yi, .int .i64 yl, .int .i64 cl, .bool true] 89)) (.slice ao k co) xs) := HPX.out _ (below_al K10.out _)
          have A2 : Hid (Rk.RowK 4 (W10.alloc (.cells #[Value.int .i64 yi, .int .i64 yl, .int .i64 cl, .bool true] 89)) (.slice (some ⟨W10.heap.size, 0, none⟩) 1 1) [[Value.int .i64 yi, .int .i64 yl, .int .i64 cl, .bool true]]) := Rk.row_one (e := 89) (heap_alloc_new _ _) rfl
          have HBY : Hid (Below w1.heap.size w1 (W10.alloc (.cells #[Value.int .i64 yi, .int .i64 yl, .int .i64 cl, .bool true] 89))) := below_more HC1.out (below_al K10.out _)
          have A4 : Hid (w1.heap.size ≤ (W10.alloc (.cells #[Value.int .i64 yi, .int .i64 yl, .int .i64 cl, .bool true] 89)).heap.size) := HBY.out.size
          have A3 : Hid (xs.length + 1 ≤ 100000) := by show _ ≤ _; rw [HXL.out]; omega
          have HYO : Hid (∀ y ∈ [[Value.int .i64 yi, .int .i64 yl, .int .i64 cl, .bool true]], ∀ u ∈ y, u.oneCell' = true) := fun y hy u hu => by
            simp only [List.mem_singleton] at hy
            subst hy
            simp at hu
            rcases hu with rfl | rfl | rfl | rfl <;> rfl
          go_wp2_with (at_builtin; refine Rk.wpList_append_rowk rfl _ _ 85 89 4 32 _ Tryd.underlying85 infoPc rfl (by decide) (by decide) rfl w1.heap.size _ _ xs _ rfl rfl A1.out A2.out HYO.out A3.out A4.out ?_)
          intro v6 w6 h6 g6 _
          have HB6 := Lib.hid (A1.out.belowOf HBY.out (Nat.le_refl _) A4.out g6)
          have K6 : Hid (OPc w1.heap.size w6 v6 (Lk o (G.take (k + 1)))) := by
            show Rk.OwnK _ _ _ _ _ _
            rw [EQ2.out, List.map_append, ← HXS.out]
            exact h6
          obtain ⟨a6, c6, rfl⟩ := K6.out.is_slice
          clear h6 g6 A1 A2 A3 A4 HBY HYO EQ2
          rw [RL6.out] at K6 ⊢
          go_wp2_with fail
          go_roundg (n - (k + 1))
          case measure => omega
          case rel => exact ⟨k + 1, by omega, Nat.le_refl _, by go_num, K6.out, HB6.out⟩
    · obtain rfl : k = n := by omega
      have i1 : ¬ ((k : Int) < (k : Int)) := by omega
      have et : G.take k = G := by rw [HN.out, List.take_length]
      rw [et] at HP RL
      have FIN : Hid (Pcs wr _ (Lk o G)) := ⟨Rk.OwnK.row HP.out, HFG.out⟩
      obtain ⟨ao, co, rfl⟩ := HP.out.is_slice
      rw [RL.out] at FIN ⊢
      clear hbel HP HS et
      go_wp2_with fail
      go_ret
      exact ⟨_, rfl, FIN.out, HBw.out⟩
end Go.Proofs.YtcpdoicbekcpeaaDoor.Vi
