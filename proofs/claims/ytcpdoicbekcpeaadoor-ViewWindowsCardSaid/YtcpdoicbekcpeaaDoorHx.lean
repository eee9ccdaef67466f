/- Sheets: the plain text's Fork; With of the program and of the plain text. -/
import Derived.Test.YtcpdoicbekcpeaaDoorHw
import Derived.Deep.RegionHeld3
set_option linter.unusedVariables false
set_option linter.unusedSimpArgs false
set_option maxRecDepth 100000
namespace Go.Proofs.YtcpdoicbekcpeaaDoor.She
open Go.RowKit Go.Lib Go.Shelf Go.Proofs.YtcpdoicbekcpeaaDoor.Rk Go.Proofs.YtcpdoicbekcpeaaDoor.Rt Go.Proofs.YtcpdoicbekcpeaaDoor.Rig Go.Proofs.YtcpdoicbekcpeaaDoor.Seg

theorem step_append_k {P : Program} {w : World} {ops : Array Oper} {o : Oper} {a : Act} {K : Act → World → Prop} {Q : Exit → Act → World → Prop} {E : Prop} (hgd : o.guard = none) (s x : Operand) (tS e : TypeId) (k bytes : Nat) (z : Value)
    (ht : P.underlying tS = some (.slice e)) (hinfo : (P.info? e).map (fun i => (i.zero, i.size, i.bytes)) = some (some z, k, bytes)) (hzs : z.cells.size = k) (hk : 0 < k) (hby : bytes ≤ 1000)
    (ho : o.op = .call { callee := .builtin .append, args := #[s, x], argTypes := #[tS, tS] }) (base : Nat) (v u : Value) (xs ys : List (List Value)) (hs : a.eval s = v) (hx : a.eval x = u) (hown : OwnK e k base w v xs) (hy : Rk.RowK k w u ys) (hyo : ∀ y ∈ ys, ∀ q ∈ y, q.oneCell' = true) (hn : xs.length + ys.length ≤ 100000) (hbase : base ≤ w.heap.size)
    (h : ∀ v' w', OwnK e k base w' v' (xs ++ ys) → w.grownBy w' v.ownBlock → (v'.ownBlock = v.ownBlock ∨ v'.ownBlock = some w.heap.size) → K (a.put o.dst v') w') : if Region.wanted o (yielded ops a.tmps) = true then Oper.wp P o a w K Q else E := by
  have hw : Region.wanted o (yielded ops a.tmps) = true := by simp [Region.wanted, hgd]
  rw [if_pos hw]
  obtain ⟨v', w', hr, h2, h3, h5⟩ := run_append_rowk (P := P) w base tS o.type e k bytes z ht hinfo hzs hk hby v u xs ys hown hy hyo hn hbase
  unfold Oper.wp execOp
  simp only [ho, resolve, invoke, builtin, Sem.run_bind, Sem.run_pure, Result.andThen_ok, List.map_toArray, List.map_cons, List.map_nil, hs, hx, hr]
  exact h v' w' h2 h3 h5
theorem below_alc {w w' : World} {B : Nat} (h : Below B w w') (hB : B ≤ w.heap.size) (o : Obj) : Below B w (w'.alloc o) := h.alloc (Nat.le_trans hB h.size) o
theorem below_al {w w' : World} (h : Below w.heap.size w w') (o : Obj) : Below w.heap.size w (w'.alloc o) := h.alloc h.size o
theorem al_newx {w : World} {g : Nat} (o : Obj) (hg : g = w.heap.size) : (w.alloc o).heap[g]? = some o := hg ▸ heap_alloc_new w o
theorem drew_sz (w : World) : w.drew.heap.size = w.heap.size := rfl
/-- A plain segment without marks: its cells. -/
def PC (g : G5) : List Value := [.int .i64 g.i, .int .i64 g.l, .string (Let.mk g.L), .slice none 0 0, .slice none 0 0]
theorem pc_rows {w : World} {s : Value} {F : List G5} (h : Rk.RowK 5 w s (F.map PC)) (hF : ∀ g ∈ F, g.S = [] ∧ g.T = []) : Pls w s F := by
  refine ⟨F.map fun g => (PC g, g), by rw [List.map_map]; exact List.map_id _, by rw [List.map_map]; exact h, fun x hx => ?_⟩
  obtain ⟨g, hg, rfl⟩ := List.mem_map.1 hx
  obtain ⟨h1, h2⟩ := hF g hg
  exact ⟨_, _, rfl, _, _, rfl, by rw [h1]; exact Spans.nil_ _, by rw [h2]; exact Sites.nil_ _⟩
theorem fork_nil (G : List G5) (a : Int) : ∀ g ∈ forkG G a, g.S = [] ∧ g.T = [] := fun g hg => by
  obtain ⟨k, hk, rfl⟩ := List.getElem_of_mem hg
  rw [fork_len] at hk
  rw [fork_get G a hk]
  exact ⟨rfl, rfl⟩
set_option maxHeartbeats 16000000 in
theorem rfork_any {v : Value} {G : List G5} (a : Int) (w : World) (h : Pls w v G) (a0 : -1099511627776 ≤ a) (a1 : a ≤ 1099511627776) (hn : G.length ≤ 10000) : Calls Tryd.prog 46 #[v, .int .i64 a] w (GivePls (forkG G a) w) := by
  obtain ⟨la, lc, rfl⟩ := Rk.Rows.is_slice h
  obtain ⟨_, hcap, hmax⟩ := Rk.Rows.len h
  obtain ⟨n, hnG⟩ : ∃ n, n = G.length := ⟨_, rfl⟩
  have HR : Hid (∀ w', Below w.heap.size w w' → Pls w' (.slice la n lc) G) := fun w' hb => by rw [hnG]; exact h.below hb
  rw [← hnG] at hcap hn ⊢
  unfold maxLen at hmax
  have HN := Lib.hid hnG
  clear h hnG
  go_enter Tryd.func46, Tryd.ntmps46
  go_wp2_with fail
  go_loopg [5, 6] n (fun g t i wr => ∃ k : Nat, k ≤ n ∧ n - k ≤ g ∧ i = .int .i64 k ∧ Hid (OwnK 25 5 w.heap.size wr t (((forkG G a).take k).map PC)) ∧ Below w.heap.size w wr)
  case atStart => exact ⟨0, Nat.zero_le _, by omega, rfl, OwnK.nil_ _ _ _ _, Below.refl _ _⟩
  case round =>
    obtain ⟨k, hk, hg, rfl, HO, hbel⟩ := hrel
    have HB := Lib.hid hbel
    by_cases hlt : k < n
    · have hkl : k < G.length := by rw [← HN.out]; exact hlt
      obtain ⟨b, off, q1, e1, q2, e2, rfl, hb, _, c0, c1, c2, c3, c4⟩ := (HR.out _ (Below.refl _ _)).get hkl
      have EQ : Hid (((forkG G a).take (k + 1)).map PC = ((forkG G a).take k).map PC ++ [[.int .i64 (a + k), .int .i64 G[k].l, .string (Let.mk G[k].L), .slice none 0 0, .slice none 0 0]]) := by
        show _ = _
        rw [fork_take G a hkl, List.map_append]; rfl
      have RL : Hid ((((forkG G a).take k).map PC).length = k) := by show _ = _; rw [List.length_map, List.length_take, fork_len]; omega
      generalize G[k] = y at *
      obtain ⟨yi, yl, yL, yS, yT⟩ := y
      simp only at c0 c1 c2 c3 c4 EQ
      obtain ⟨ao, co, rfl⟩ := HO.out.is_slice
      generalize ((forkG G a).take k).map PC = R at *
      have BX : Hid (∀ w', Below w.heap.size w w' → Below w.heap.size w w' ∧ w'.cell? ⟨b, off + k * 5 + 1, none⟩ = some (.int .i64 yl) ∧ w'.cell? ⟨b, off + k * 5 + 2, none⟩ = some (.string (Let.mk yL))) := fun w' hb' => ⟨hb', by rw [hb'.cell (p := ⟨b, off + k * 5 + 1, none⟩) hb]; exact c1, by rw [hb'.cell (p := ⟨b, off + k * 5 + 2, none⟩) hb]; exact c2⟩
      have i0 : (0 : Int) ≤ (k : Int) := by omega
      have i1 : (k : Int) < (n : Int) := by omega
      have z1 : IntKind.i64.wrap (a + (k : Int)) = a + (k : Int) := IntWalk.i64_in _ (by omega)
      have KS : Hid (Below wr.heap.size wr wr) := Below.refl _ _
      have HOA : Hid (∀ w', Below wr.heap.size wr w' → OwnK 25 5 w.heap.size w' (.slice ao R.length co) R) := fun w' hb => HO.out.below hb
      have HBS : Hid (∀ w', Below wr.heap.size wr w' → w.heap.size ≤ w'.heap.size) := fun w' hb => Nat.le_trans HB.out.size hb.size
      have HYO : Hid (∀ y ∈ [[Value.int .i64 (a + k), .int .i64 yl, .string (Let.mk yL), .slice none 0 0, .slice none 0 0]], ∀ u ∈ y, u.oneCell' = true) := fun y hy u hu => by
        simp only [List.mem_singleton] at hy
        subst hy
        simp at hu
        rcases hu with rfl | rfl | rfl | rfl | rfl <;> rfl
      have A3 : Hid (R.length + [[Value.int .i64 (a + k), .int .i64 yl, .string (Let.mk yL), .slice none 0 0, .slice none 0 0]].length ≤ 100000) := by show _ ≤ _; rw [RL.out]; simp; omega
      rw [RL.out] at HOA ⊢
      clear hbel hb c0 c1 c2 c3 c4 HO
      go_upto_region 5 with fail
      go_region_held3 (fun w' => Below w.heap.size w w' ∧ w'.cell? ⟨b, off + k * 5 + 1, none⟩ = some (.int .i64 yl) ∧ w'.cell? ⟨b, off + k * 5 + 2, none⟩ = some (.string (Let.mk yL)))
        ((refine BX.out _ ?_; focus ((repeat first | with_reducible assumption | with_reducible exact HB.out | with_reducible apply Below.drew | with_reducible apply below_drews | with_reducible apply below_al); done)))
        ((refine step_append_k rfl _ _ 47 25 5 80 _ Tryd.underlying47 infoPl rfl (by decide) (by decide) rfl w.heap.size _ _ R [[.int .i64 (a + k), .int .i64 yl, .string (Let.mk yL), .slice none 0 0, .slice none 0 0]] rfl rfl (HOA.out _ ?_) (Rk.row_one (e := 25) ?_ rfl) HYO.out A3.out (HBS.out _ ?_) ?_; (focus ((repeat first | with_reducible assumption | with_reducible exact KS.out | with_reducible apply Below.drew | with_reducible apply below_drews | with_reducible apply below_al); done)); (focus (refine al_newx _ ?_; simp [drew_sz]; done)); (focus ((repeat first | with_reducible assumption | with_reducible exact KS.out | with_reducible apply Below.drew | with_reducible apply below_drews | with_reducible apply below_al); done)); intro v6 w6 h6 g6 _; have b6 : Below w.heap.size w w6 := (by refine Below.grown ?_ g6 ?_ ?_; (focus ((repeat first | with_reducible assumption | with_reducible exact HB.out | with_reducible apply Below.drew | with_reducible apply below_drews | with_reducible apply below_al); done)); (focus (refine HBS.out _ ?_; (repeat first | with_reducible assumption | with_reducible exact KS.out | with_reducible apply Below.drew | with_reducible apply below_drews | with_reducible apply below_al); done)); (intro q e; exact ((HOA.out wr KS.out).block q e).1))))
      have K6 : Hid (OwnK 25 5 w.heap.size w6 v6 (((forkG G a).take (k + 1)).map PC)) := by show OwnK _ _ _ _ _ _; rw [EQ.out]; exact h6
      have HB6 := Lib.hid b6
      obtain ⟨a6, c6, rfl⟩ := K6.out.is_slice
      obtain ⟨m6, hm6⟩ : ∃ m6, m6 = (((forkG G a).take (k + 1)).map PC).length := ⟨_, rfl⟩
      rw [← hm6] at K6 ⊢
      clear h6 g6 b6 EQ hm6
      go_wp2_with fail
      go_roundg (n - (k + 1))
      case measure => omega
      case rel => exact ⟨k + 1, by omega, Nat.le_refl _, by go_num, K6.out, HB6.out⟩
    · obtain rfl : k = n := by omega
      have i1 : ¬ ((k : Int) < (k : Int)) := by omega
      have et : (forkG G a).take k = forkG G a := by rw [HN.out, ← fork_len G a, List.take_length]
      rw [et] at HO
      obtain ⟨ao, co, rfl⟩ := HO.out.is_slice
      have HU := Lib.hid (pc_rows HO.out.row (fork_nil G a))
      generalize ((forkG G a).map PC).length = m at *
      clear hbel HO HR et
      go_wp2_with fail
      go_ret
      exact ⟨_, rfl, HU.out, HB.out⟩
/-- Those that have a mark. -/
def hasG (mk : Int) (g : G5) : Bool := hasB g.S g.T mk
theorem filt_take {α : Type} (f : α → Bool) (p : List α) {k : Nat} (hk : k < p.length) : (p.take (k + 1)).filter f = (p.take k).filter f ++ (if f p[k] = true then [p[k]] else []) := by
  rw [List.take_succ_eq_append_getElem hk, List.filter_append]
  congr 1
  by_cases h : f p[k] = true
  · simp [h]
  · simp [h]
theorem filt_len {α : Type} (f : α → Bool) (p : List α) (k : Nat) : ((p.take k).filter f).length ≤ k := Nat.le_trans (List.length_filter_le _ _) (by rw [List.length_take]; omega)
set_option maxHeartbeats 16000000 in
theorem swith_any {v : Value} {f : Bool} {G : List G5} (mk : Int) (w : World) (h : Sh w v f G) (hmk : i64 mk) (hsz : ∀ g ∈ G, g.sz) (hn : G.length ≤ 10000) : Calls Tryd.prog 44 #[v, .int .i64 mk] w (GiveSgs (G.filter (hasG mk)) w) := by
  obtain ⟨sa, sc, rfl, hs⟩ := h.open_
  obtain ⟨_, hcap, hmax⟩ := Rk.Rows.len hs
  obtain ⟨p, hp, hrow, hp2⟩ := hs
  have hpl : p.length = G.length := by rw [← hp, List.length_map]
  obtain ⟨n, hnG⟩ : ∃ n, n = G.length := ⟨_, rfl⟩
  have HROW : Hid (∀ w', Below w.heap.size w w' → Rk.RowK 5 w' (.slice sa n sc) (p.map Prod.fst)) := fun w' hb => by rw [hnG]; exact hrow.below hb (Nat.le_refl _)
  have HP2 : Hid (∀ x ∈ p, ∀ w', Below w.heap.size w w' → SgC w' x.1 x.2) := fun x hx w' hb => (hp2 x hx).below hb
  have HPS : Hid (∀ x ∈ p, x.2.sz) := fun x hx => hsz _ (by rw [← hp]; exact List.mem_map_of_mem hx)
  have HFIN : Hid (∀ w' s, Below w.heap.size w w' → Rk.RowK 5 w' s ((p.filter fun x => hasG mk x.2).map Prod.fst) → Sgs w' s (G.filter (hasG mk))) := fun w' s hb hr => ⟨p.filter fun x => hasG mk x.2, by rw [← hp, List.filter_map]; rfl, hr, fun x hx => (hp2 x (List.mem_filter.1 hx).1).below hb⟩
  rw [← hnG] at hcap hn hpl ⊢
  unfold maxLen at hmax
  have HPL := Lib.hid hpl
  obtain ⟨B0, R0, L0⟩ := box1 w #[.bool f, .slice sa n sc] 50
  obtain ⟨W0, hW0⟩ : ∃ W0, W0 = w.alloc (.cells #[.bool f, .slice sa n sc] 50) := ⟨_, rfl⟩
  rw [← hW0] at B0 R0 L0
  obtain ⟨d0, d1, _, _⟩ := two_cells R0
  have HB0 := Lib.hid B0
  have HW0 := Lib.hid hW0
  clear h hrow hp hp2 hsz hnG hW0 B0 R0 L0 hpl
  go_enter Tryd.func44, Tryd.ntmps44
  go_upto_region 1 with fail
  rw [← HW0.out]
  go_wp2_with fail
  go_loopg [5, 11] n (fun g t i wr => ∃ k : Nat, k ≤ n ∧ n - k ≤ g ∧ i = .int .i64 k ∧ Hid (OwnK 33 5 W0.heap.size wr t (((p.take k).filter fun x => hasG mk x.2).map Prod.fst)) ∧ Below W0.heap.size W0 wr)
  case atStart => exact ⟨0, Nat.zero_le _, by omega, rfl, OwnK.nil_ _ _ _ _, Below.refl _ _⟩
  case round =>
    obtain ⟨k, hk, hg, rfl, HO, hbel⟩ := hrel
    have HB := Lib.hid hbel
    have HBw := Lib.hid (below_more HB0.out hbel)
    by_cases hlt : k < n
    · have hkl : k < p.length := by rw [HPL.out]; exact hlt
      obtain ⟨hx, hsgl⟩ : SgC wr p[k].1 p[k].2 ∧ p[k].2.sz := ⟨HP2.out _ (List.getElem_mem hkl) _ HBw.out, HPS.out _ (List.getElem_mem hkl)⟩
      have EQ : Hid ((((p.take (k + 1)).filter fun x => hasG mk x.2).map Prod.fst) = (((p.take k).filter fun x => hasG mk x.2).map Prod.fst) ++ (if hasG mk p[k].2 = true then [p[k].1] else [])) := by
        show _ = _
        rw [filt_take _ p hkl, List.map_append]
        congr 1
        by_cases e : hasG mk p[k].2 = true
        · simp [e]
        · simp [e]
      have RL : Hid ((((p.take k).filter fun x => hasG mk x.2).map Prod.fst).length ≤ k) := by show _ ≤ _; rw [List.length_map]; exact filt_len _ _ _
      obtain ⟨_, a', cap', e', _, _, hcell⟩ := HROW.out _ HBw.out
      have hcells : ∃ b off, a' = some ⟨b, off, none⟩ ∧ ∀ i u, p[k].1[i]? = some u → wr.cell? ⟨b, off + k * 5 + i, none⟩ = some u := by
        rcases hcell with h0 | ⟨b, off, e1, hb, hc⟩
        · have : p.length = 0 := by rw [← List.length_map (f := Prod.fst), h0]; rfl
          omega
        · exact ⟨b, off, e1, fun i u hu => hc k (by rw [List.length_map]; exact hkl) i u (by rw [List.getElem_map]; exact hu)⟩
      obtain ⟨b, off, rfl, hcc⟩ := hcells
      injection e' with e1 e2 e3
      subst e1
      clear e2 e3
      generalize p[k] = pk at *
      obtain ⟨x, y⟩ := pk
      obtain ⟨yi, yl, yL, yS, yT⟩ := y
      simp only at hx hsgl hcc EQ
      obtain ⟨tp, sv, tv, rfl, hv⟩ := hx
      obtain ⟨q, a1, e1, a2, e2, ev, _, _, _⟩ := hv.open_
      injection ev with ev
      simp only [Array.mk.injEq, List.cons.injEq, and_true, true_and] at ev
      obtain ⟨rfl, rfl, rfl⟩ := ev
      have c0 := hcc 0 _ rfl
      have c1 := hcc 1 _ rfl
      have c2 := hcc 2 _ rfl
      have c3 := hcc 3 _ rfl
      have c4 := hcc 4 _ rfl
      simp only [Nat.add_zero] at c0
      have CH : Hid (∀ w', Below wr.heap.size wr w' → Calls Tryd.prog 18 #[.agg #[.int .i64 yi, .int .i64 yl, .pointer q, .slice a1 yS.length e1, .slice a2 yT.length e2], .int .i64 mk] w' fun e w'' => e = .returned (.bool (hasG mk ⟨yi, yl, yL, yS, yT⟩)) ∧ Below w'.heap.size w' w'') := fun w' hb => shas_any mk w' (hv.below hb (Nat.le_refl _)) hmk hsgl.2.1 hsgl.2.2
      obtain ⟨B1, R1, L1⟩ := box1 wr #[.int .i64 yi, .int .i64 yl, .pointer q, .slice a1 yS.length e1, .slice a2 yT.length e2] 33
      generalize hasG mk ⟨yi, yl, yL, yS, yT⟩ = hb at *
      have HXO : Hid (∀ y ∈ [[Value.int .i64 yi, .int .i64 yl, .pointer q, .slice a1 yS.length e1, .slice a2 yT.length e2]], ∀ u ∈ y, u.oneCell' = true) := fun y hy u hu => by
        simp only [List.mem_singleton] at hy
        subst hy
        simp at hu
        rcases hu with rfl | rfl | rfl | rfl | rfl <;> rfl
      generalize yS.length = n1 at *
      generalize yT.length = n2 at *
      obtain ⟨W1, hW1⟩ : ∃ W1, W1 = wr.alloc (.cells #[.int .i64 yi, .int .i64 yl, .pointer q, .slice a1 n1 e1, .slice a2 n2 e2] 33) := ⟨_, rfl⟩
      rw [← hW1] at B1 R1 L1
      have HW1 := Lib.hid hW1
      have HB1 := Lib.hid B1
      have HC1 := Lib.hid (below_more HB.out B1)
      have HO1 := Lib.hid (HO.out.below B1)
      have HF1 : Hid (∀ w', Below W1.heap.size W1 w' → w'.cell? ⟨wr.heap.size, 0, none⟩ = some (.int .i64 yi) ∧ w'.cell? ⟨wr.heap.size, 1, none⟩ = some (.int .i64 yl) ∧ w'.cell? ⟨wr.heap.size, 2, none⟩ = some (.pointer q) ∧ w'.cell? ⟨wr.heap.size, 3, none⟩ = some (.slice a1 n1 e1) ∧ w'.cell? ⟨wr.heap.size, 4, none⟩ = some (.slice a2 n2 e2)) := fun w' hb => five_cells ((hb.block _ (by omega)).trans R1)
      obtain ⟨d0, d1', d2', d3', d4'⟩ := HF1.out _ (Below.refl _ _)
      have i1 : (k : Int) < (n : Int) := by omega
      obtain ⟨ao, co, rfl⟩ := HO.out.is_slice
      generalize (((p.take k).filter fun x => hasG mk x.2).map Prod.fst) = R at *
      clear hbel hv hW1 B1 R1 L1 HO hcc hsgl
      cases hb with
      | false =>
        rw [if_neg (by simp), List.append_nil] at EQ
        go_upto_region 5 with fail
        rw [← HW1.out]
        clear c0 c1 c2 c3 c4
        go_wp2_with fail
        refine (CH.out _ HB1.out).mono ?_
        rintro e w1 ⟨rfl, b1⟩
        have HO2 := Lib.hid (HO1.out.below b1)
        have HBE := Lib.hid (below_more HC1.out b1)
        clear b1 d0 d1' d2' d3' d4'
        go_wp2_with fail
        go_roundg (n - (k + 1))
        case measure => omega
        case rel => exact ⟨k + 1, by omega, Nat.le_refl _, by go_num, by rw [EQ.out]; exact HO2, HBE.out⟩
      | true =>
        rw [if_pos rfl] at EQ
        go_upto_region 5 with fail
        rw [← HW1.out]
        clear c0 c1 c2 c3 c4
        go_wp2_with fail
        refine (CH.out _ HB1.out).mono ?_
        rintro e w1 ⟨rfl, b1⟩
        have A1 : Hid (OwnK 33 5 W0.heap.size (w1.alloc (.cells #[.int .i64 yi, .int .i64 yl, .pointer q, .slice a1 n1 e1, .slice a2 n2 e2] 33)) (.slice ao R.length co) R) := (HO1.out.below b1).below ((Below.refl _ _).alloc (Nat.le_refl _) _)
        have A2 : Hid (Rk.RowK 5 (w1.alloc (.cells #[.int .i64 yi, .int .i64 yl, .pointer q, .slice a1 n1 e1, .slice a2 n2 e2] 33)) (.slice (some ⟨w1.heap.size, 0, none⟩) 1 1) [[.int .i64 yi, .int .i64 yl, .pointer q, .slice a1 n1 e1, .slice a2 n2 e2]]) := Rk.row_one (e := 33) (heap_alloc_new _ _) rfl
        have HBY : Hid (Below W0.heap.size W0 (w1.alloc (.cells #[.int .i64 yi, .int .i64 yl, .pointer q, .slice a1 n1 e1, .slice a2 n2 e2] 33))) := (below_more HC1.out b1).alloc (Nat.le_trans HC1.out.size b1.size) _
        have A4 : Hid (W0.heap.size ≤ (w1.alloc (.cells #[.int .i64 yi, .int .i64 yl, .pointer q, .slice a1 n1 e1, .slice a2 n2 e2] 33)).heap.size) := HBY.out.size
        have A3 : Hid (R.length + 1 ≤ 100000) := by show _ ≤ _; have := RL.out; omega
        obtain ⟨y0, y1, y2, y3, y4⟩ := HF1.out _ b1
        clear b1 d0 d1' d2' d3' d4'
        go_wp2_with (at_builtin; refine wpList_append_rowk rfl _ _ 48 33 5 72 _ Tryd.underlying48 infoSeg rfl (by decide) (by decide) rfl W0.heap.size _ _ R _ rfl rfl A1.out A2.out HXO.out A3.out A4.out ?_)
        intro v6 w6 h5 g5 _
        have K6 : Hid (OwnK 33 5 W0.heap.size w6 v6 (((p.take (k + 1)).filter fun x => hasG mk x.2).map Prod.fst)) := by show OwnK _ _ _ _ _ _; rw [EQ.out]; exact h5
        obtain ⟨a6, c6, rfl⟩ := K6.out.is_slice
        have HB6 := Lib.hid (A1.out.belowOf HBY.out (Nat.le_refl _) A4.out g5)
        clear h5 g5 A1 A2 A3 A4 HBY EQ y0 y1 y2 y3 y4
        go_wp2_with fail
        go_roundg (n - (k + 1))
        case measure => omega
        case rel => exact ⟨k + 1, by omega, Nat.le_refl _, by go_num, K6.out, HB6.out⟩
    · obtain rfl : k = n := by omega
      have i1 : ¬ ((k : Int) < (k : Int)) := by omega
      have et : p.take k = p := by rw [← HPL.out, List.take_length]
      rw [et] at HO
      obtain ⟨ao, co, rfl⟩ := HO.out.is_slice
      have HU := Lib.hid (HFIN.out _ _ HBw.out HO.out.row)
      generalize ((p.filter fun x => hasG mk x.2).map Prod.fst).length = m at *
      clear hbel HO HROW et
      go_wp2_with fail
      go_ret
      exact ⟨_, rfl, HU.out, HBw.out⟩
theorem with_ids (G : List G5) (mk : Int) {k : Nat} (hk : k < G.length) : (((G.take (k + 1)).filter (hasG mk)).map fun g => [Value.int .i64 g.i]) = (((G.take k).filter (hasG mk)).map fun g => [Value.int .i64 g.i]) ++ (if hasG mk G[k] = true then [[Value.int .i64 G[k].i]] else []) := by
  rw [filt_take _ G hk, List.map_append]
  congr 1
  by_cases e : hasG mk G[k] = true
  · simp [e]
  · simp [e]
set_option maxHeartbeats 16000000 in
theorem rwith_any {v : Value} {G : List G5} (mk : Int) (w : World) (h : Pls w v G) (hmk : i64 mk) (hsz : ∀ g ∈ G, g.sz) (hn : G.length ≤ 10000) : Calls Tryd.prog 47 #[v, .int .i64 mk] w (GiveI ((G.filter (hasG mk)).map G5.i) w) := by
  obtain ⟨la, lc, rfl⟩ := Rk.Rows.is_slice h
  obtain ⟨_, hcap, hmax⟩ := Rk.Rows.len h
  obtain ⟨n, hnG⟩ : ∃ n, n = G.length := ⟨_, rfl⟩
  have HR : Hid (∀ w', Below w.heap.size w w' → Pls w' (.slice la n lc) G) := fun w' hb => by rw [hnG]; exact h.below hb
  rw [← hnG] at hcap hn ⊢
  unfold maxLen at hmax
  have HN := Lib.hid hnG
  have HSZ := Lib.hid hsz
  clear h hnG hsz
  go_enter Tryd.func47, Tryd.ntmps47
  go_wp2_with fail
  go_loopg [5, 6] n (fun g t i wr => ∃ k : Nat, k ≤ n ∧ n - k ≤ g ∧ i = .int .i64 k ∧ Hid (OwnK 3 1 w.heap.size wr t (((G.take k).filter (hasG mk)).map fun g => [Value.int .i64 g.i])) ∧ Below w.heap.size w wr)
  case atStart => exact ⟨0, Nat.zero_le _, by omega, rfl, OwnK.nil_ _ _ _ _, Below.refl _ _⟩
  case round =>
    obtain ⟨k, hk, hg, rfl, HO, hbel⟩ := hrel
    have HB := Lib.hid hbel
    by_cases hlt : k < n
    · have hkl : k < G.length := by rw [← HN.out]; exact hlt
      obtain ⟨b, off, q1, e1, q2, e2, rfl, hb, hv, c0, c1, c2, c3, c4⟩ := (HR.out _ hbel).get hkl
      have EQ := Lib.hid (with_ids G mk hkl)
      have RL : Hid ((((G.take k).filter (hasG mk)).map fun g => [Value.int .i64 g.i]).length ≤ k) := by show _ ≤ _; rw [List.length_map]; exact filt_len _ _ _
      have hz := HSZ.out _ (List.getElem_mem hkl)
      have CH : Hid (∀ w', Below wr.heap.size wr w' → Calls Tryd.prog 87 #[.agg #[.int .i64 G[k].i, .int .i64 G[k].l, .string (Let.mk G[k].L), .slice q1 G[k].S.length e1, .slice q2 G[k].T.length e2], .int .i64 mk] w' fun e w'' => e = .returned (.bool (hasG mk G[k])) ∧ Below w'.heap.size w' w'') := fun w' hb => has5_any mk w' (hv.below hb (Nat.le_refl _)) hmk hz.2.1 hz.2.2
      obtain ⟨ao, co, rfl⟩ := HO.out.is_slice
      generalize hasG mk G[k] = hb9 at *
      generalize G[k] = y at *
      obtain ⟨yi, yl, yL, yS, yT⟩ := y
      simp only at c0 c1 c2 c3 c4 EQ CH
      generalize (((G.take k).filter (hasG mk)).map fun g => [Value.int .i64 g.i]) = R at *
      have HC0 : Hid (∀ w', Below wr.heap.size wr w' → w'.cell? ⟨b, off + k * 5, none⟩ = some (.int .i64 yi)) := fun w' hb' => by rw [hb'.cell (p := ⟨b, off + k * 5, none⟩) hb]; exact c0
      generalize yS.length = n1 at *
      generalize yT.length = n2 at *
      have i0 : (0 : Int) ≤ (k : Int) := by omega
      have i1 : (k : Int) < (n : Int) := by omega
      clear hbel hv hz
      cases hb9 with
      | false =>
        rw [if_neg (by simp), List.append_nil] at EQ
        go_wp2_with fail
        refine (CH.out _ (Below.refl _ _)).mono ?_
        rintro e w1 ⟨rfl, b1⟩
        have HO2 := Lib.hid (HO.out.below b1)
        have HBE := Lib.hid (below_more HB.out b1)
        clear b1 c0 c1 c2 c3 c4
        go_wp2_with fail
        go_roundg (n - (k + 1))
        case measure => omega
        case rel => exact ⟨k + 1, by omega, Nat.le_refl _, by go_num, by rw [EQ.out]; exact HO2, HBE.out⟩
      | true =>
        rw [if_pos rfl] at EQ
        go_wp2_with fail
        refine (CH.out _ (Below.refl _ _)).mono ?_
        rintro e w1 ⟨rfl, b1⟩
        have x0 := HC0.out _ b1
        have A1 : Hid (OwnK 3 1 w.heap.size (w1.alloc (.cells #[.int .i64 yi] 3)) (.slice ao R.length co) R) := (HO.out.below b1).below ((Below.refl _ _).alloc (Nat.le_refl _) _)
        have A2 : Hid (Rk.RowK 1 (w1.alloc (.cells #[.int .i64 yi] 3)) (.slice (some ⟨w1.heap.size, 0, none⟩) 1 1) [[.int .i64 yi]]) := Rk.row_one (e := 3) (heap_alloc_new _ _) rfl
        have HBY : Hid (Below w.heap.size w (w1.alloc (.cells #[.int .i64 yi] 3))) := (below_more HB.out b1).alloc (Nat.le_trans HB.out.size b1.size) _
        have A4 : Hid (w.heap.size ≤ (w1.alloc (.cells #[.int .i64 yi] 3)).heap.size) := HBY.out.size
        have A3 : Hid (R.length + 1 ≤ 100000) := by show _ ≤ _; have := RL.out; omega
        have HYO : Hid (∀ y ∈ [[Value.int .i64 yi]], ∀ q ∈ y, q.oneCell' = true) := fun y hy q hq => by simp at hy; subst hy; simp at hq; subst hq; rfl
        clear b1 c0 c1 c2 c3 c4
        go_wp2_with (at_builtin; refine wpList_append_rowk rfl _ _ 56 3 1 8 _ Tryd.underlying56 infoInt1 rfl (by decide) (by decide) rfl w.heap.size _ _ R [[.int .i64 yi]] rfl rfl A1.out A2.out HYO.out A3.out A4.out ?_)
        intro v6 w6 h5 g5 _
        have K6 : Hid (OwnK 3 1 w.heap.size w6 v6 (((G.take (k + 1)).filter (hasG mk)).map fun g => [Value.int .i64 g.i])) := by show OwnK _ _ _ _ _ _; rw [EQ.out]; exact h5
        obtain ⟨a6, c6, rfl⟩ := K6.out.is_slice
        have HB6 := Lib.hid (A1.out.belowOf HBY.out (Nat.le_refl _) A4.out g5)
        clear h5 g5 A1 A2 A3 A4 HBY EQ x0
        go_wp2_with fail
        go_roundg (n - (k + 1))
        case measure => omega
        case rel => exact ⟨k + 1, by omega, Nat.le_refl _, by go_num, K6.out, HB6.out⟩
    · obtain rfl : k = n := by omega
      have i1 : ¬ ((k : Int) < (k : Int)) := by omega
      have et : G.take k = G := by rw [HN.out, List.take_length]
      rw [et] at HO
      obtain ⟨ao, co, rfl⟩ := HO.out.is_slice
      have HU : Hid (iRow wr (.slice ao ((G.filter (hasG mk)).map fun g => [Value.int .i64 g.i]).length co) ((G.filter (hasG mk)).map G5.i)) := by
        have := HO.out.row
        show Rk.RowK 1 _ _ _
        rw [List.map_map]
        exact this
      generalize ((G.filter (hasG mk)).map fun g => [Value.int .i64 g.i]).length = m at *
      clear hbel HO HR et
      go_wp2_with fail
      go_ret
      exact ⟨_, rfl, HU.out, HB.out⟩
end Go.Proofs.YtcpdoicbekcpeaaDoor.She
