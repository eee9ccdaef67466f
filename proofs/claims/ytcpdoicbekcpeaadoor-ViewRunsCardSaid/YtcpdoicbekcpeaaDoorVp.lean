/- View: Runs, of the program. -/
import Derived.Test.YtcpdoicbekcpeaaDoorVo
set_option linter.unusedVariables false
set_option linter.unusedSimpArgs false
set_option maxRecDepth 100000
namespace Go.Proofs.YtcpdoicbekcpeaaDoor.Vi
open Go.RowKit Go.Lib Go.Shelf Go.Proofs.YtcpdoicbekcpeaaDoor.Rk Go.Proofs.YtcpdoicbekcpeaaDoor.Rt Go.Proofs.YtcpdoicbekcpeaaDoor.Rig Go.Proofs.YtcpdoicbekcpeaaDoor.Seg Go.Proofs.YtcpdoicbekcpeaaDoor.She

/-- A run. -/
structure Rn where
  i : Int
  l : Int
  o : Bool
  t : List UInt8
def Rn.cells (y : Rn) : List Value := [.int .i64 y.i, .int .i64 y.l, .bool y.o, .string (Let.mk y.t)]
def Rns (w : World) (v : Value) (R : List Rn) : Prop := Rk.RowK 4 w v (R.map Rn.cells)
theorem Rns.below {w w' : World} {v : Value} {R : List Rn} (h : Rns w v R) (hb : Below w.heap.size w w') : Rns w' v R := Rk.RowK.below h hb (Nat.le_refl _)
theorem Rns.is_slice {w : World} {v : Value} {R : List Rn} (h : Rns w v R) : ∃ a cap, v = .slice a R.length cap ∧ R.length ≤ cap ∧ cap ≤ maxLen := by
  obtain ⟨_, a, cap, e, h1, h2, _⟩ := h
  exact ⟨a, cap, by rw [e, List.length_map], by rw [List.length_map] at h1; exact h1, h2⟩
/-- What is seen of a piece. -/
def runOf (x : Vw) (s f t : Int) : List Rn := if clampI (f - s) x.pc.wide = clampI (t - s) x.pc.wide then [] else [⟨x.i, x.l, x.o, if x.o = true then Let.cut x.L (clampI (f - s) x.pc.wide) (clampI (t - s) x.pc.wide) else []⟩]
def runL : List Vw → Int → Int → Int → List Rn
  | [], _, _, _ => []
  | x :: r, s, f, t => runOf x s f t ++ runL r (s + x.pc.wide) f t
def runs (V : List Vw) (a n : Int) : List Rn := runL V 0 (clampI a (wid (V.map Vw.pc))) (clampI a (wid (V.map Vw.pc)) + clampI n 200)
theorem widc (y : Pc) (r : List Pc) : wid (y :: r) = y.wide + wid r := by simp [wid]
theorem run_app : ∀ (A B : List Vw) (s f t : Int), runL (A ++ B) s f t = runL A s f t ++ runL B (s + wid (A.map Vw.pc)) f t
  | [], B, s, f, t => by simp [runL, wid]
  | x :: A, B, s, f, t => by
    rw [List.cons_append, runL, runL, run_app A B, List.append_assoc, List.map_cons, widc, Int.add_assoc]
theorem run_take (V : List Vw) (f t : Int) {k : Nat} (hk : k < V.length) : runL (V.take (k + 1)) 0 f t = runL (V.take k) 0 f t ++ runOf V[k] (wid ((V.map Vw.pc).take k)) f t := by
  rw [List.take_succ_eq_append_getElem hk, run_app, Int.zero_add, List.map_take]
  simp [runL]
theorem runOf_len (x : Vw) (s f t : Int) : (runOf x s f t).length ≤ 1 := by
  unfold runOf
  split <;> simp
theorem run_len : ∀ (V : List Vw) (s f t : Int), (runL V s f t).length ≤ V.length
  | [], _, _, _ => by simp [runL]
  | x :: r, s, f, t => by
    rw [runL, List.length_append, List.length_cons]
    have := run_len r (s + x.pc.wide) f t
    have := runOf_len x s f t
    omega
theorem lk_right (o : Int → Bool) {G : List G5} (hg : ∀ g ∈ G, G5.vok g) (hn : G.length ≤ 1000) : rightPc (Lk o G) := by
  refine ⟨fun y hy => ?_, by unfold Lk; rw [List.length_map, List.length_map]; exact hn⟩
  unfold Lk at hy
  obtain ⟨x, hx, rfl⟩ := List.mem_map.1 hy
  obtain ⟨g, hgm, rfl⟩ := List.mem_map.1 hx
  exact (vw_good o (hg g hgm)).2
theorem clampI_in (n : Int) {m : Int} (h : 0 ≤ m) : 0 ≤ clampI n m ∧ clampI n m ≤ m := by unfold clampI; omega
theorem infoRn : (Tryd.prog.info? 97).map (fun i => (i.zero, i.size, i.bytes)) = some (some (.agg #[.int .i64 0, .int .i64 0, .bool false, .string (ByteArray.mk #[])]), 4, 40) := by kernel_rfl
theorem wid_part {A : List Pc} (h : rightPc A) (k : Nat) : wid (A.take k) ≤ wid A := by
  have e : wid A = wid (A.take k) + wid (A.drop k) := by
    unfold wid
    rw [← List.sum_append, ← List.map_append, List.take_append_drop]
  have := wid_all (A := A.drop k) ⟨fun y hy => h.1 y (List.mem_of_mem_drop hy), by rw [List.length_drop]; have := h.2; omega⟩
  omega
def GiveRs (R : List Rn) (w : World) (e : Ending) (w' : World) : Prop := ∃ s, e = .returned s ∧ Rns w' s R ∧ Below w.heap.size w w'
def Two (W w : World) (sa : Option Addr) (n sc : Nat) (pa : Option Addr) (pc : Nat) (G : List G5) (A : List Pc) : Prop := Sgs w (.slice sa n sc) G ∧ Pcs w (.slice pa n pc) A ∧ Below W.heap.size W w
theorem two_fin {W w wi : World} {sa pa : Option Addr} {n sc pc : Nat} {G : List G5} {A : List Pc} (h : ∀ w', Below wi.heap.size wi w' → Sgs w' (.slice sa n sc) G) (k : Below wi.heap.size wi w) (h2 : Pcs w (.slice pa n pc) A) (k2 : Below W.heap.size W w) : Hid (Two W w sa n sc pa pc G A) := ⟨h w k, h2, k2⟩

set_option maxHeartbeats 16000000 in
theorem runs_any {v fv : Value} {f : Bool} {G : List G5} {o : Int → Bool} (fr nn : Int) (w : World) (h : Sh w v f G) (ho : Opens w fv o) (hg : ∀ g ∈ G, G5.vok g) (hn : G.length ≤ 1000) (r1 : in64 fr) (r2 : in64 nn) :
    Calls Tryd.prog 48 #[v, fv, .int .i64 fr, .int .i64 nn] w (GiveRs (runs (G.map (vw o)) fr nn) w) := by
  obtain ⟨sa, sc, rfl, hs⟩ := h.open_
  obtain ⟨n, hnG⟩ : ∃ n, n = G.length := ⟨_, rfl⟩
  have HN := Lib.hid hnG
  have HV := Lib.hid hg
  obtain ⟨A, hA⟩ : ∃ A, A = Lk o G := ⟨_, rfl⟩
  obtain ⟨V, hV⟩ : ∃ V, V = G.map (vw o) := ⟨_, rfl⟩
  have hR : rightPc A := by rw [hA]; exact lk_right o hg hn
  have HAV : Hid (A = V.map Vw.pc) := by show _ = _; rw [hA, hV]; rfl
  have HAL : Hid (A.length = n) := by show _ = _; rw [hA, hnG]; unfold Lk; rw [List.length_map, List.length_map]
  have HVL : Hid (V.length = n) := by show _ = _; rw [hV, hnG, List.length_map]
  have HVE := Lib.hid hV
  have HRT := Lib.hid hR
  obtain ⟨wb1, wb2⟩ := wid_all hR
  obtain ⟨B0, R0, L0⟩ := box1 w #[.bool f, .slice sa G.length sc] 50
  obtain ⟨d0, d1, _, _⟩ := two_cells R0
  have SH0 := h.below B0
  rw [← hnG] at SH0 B0 R0 L0 d0 d1 hn ⊢
  rw [← hV]
  obtain ⟨W0, hW0⟩ : ∃ W0, W0 = w.alloc (.cells #[.bool f, .slice sa n sc] 50) := ⟨_, rfl⟩
  rw [← hW0] at SH0 B0 R0 L0 d0 d1
  have HB0 := Lib.hid B0
  have HW0 := Lib.hid hW0
  obtain ⟨b4, hb4⟩ : ∃ b4, b4 = w.heap.size := ⟨_, rfl⟩
  rw [← hb4] at R0 L0 d0 d1
  have HL4 : Hid (b4 < W0.heap.size) := by show _ < _; omega
  have BX : Hid (∀ w', Below W0.heap.size W0 w' → Below W0.heap.size W0 w' ∧ w'.cell? ⟨b4, 0, none⟩ = some (.bool f) ∧ w'.cell? ⟨b4, 1, none⟩ = some (.slice sa n sc)) := fun w' hb =>
    ⟨hb, (two_cells ((hb.block _ HL4.out).trans R0)).1, (two_cells ((hb.block _ HL4.out).trans R0)).2.1⟩
  have KZ : Hid (Below W0.heap.size W0 W0) := Below.refl _ _
  have CSg : Hid (∀ w', Below W0.heap.size W0 w' → Calls Tryd.prog 29 #[.agg #[.bool f, .slice sa n sc]] w' fun e w'' => ∃ a c, e = .returned (.slice a n c) ∧ Sgs w'' (.slice a n c) G ∧ Below w'.heap.size w' w'') := fun w' hb => by
    refine (segs_any w' (SH0.below hb) (by rw [← hnG]; omega)).mono ?_
    rintro e w'' ⟨s, rfl, hs', hb'⟩
    obtain ⟨a, c, rfl⟩ := Rk.Rows.is_slice hs'
    rw [← hnG] at hs' ⊢
    exact ⟨a, c, rfl, hs', hb'⟩
  have CLk : Hid (∀ w', Below W0.heap.size W0 w' → Calls Tryd.prog 51 #[.agg #[.bool f, .slice sa n sc], fv] w' fun e w'' => ∃ a c, e = .returned (.slice a n c) ∧ Pcs w'' (.slice a n c) A ∧ Below w'.heap.size w' w'') := fun w' hb => by
    refine (look_any w' (SH0.below hb) ((ho.below B0).below hb) hg (by rw [← hnG]; omega)).mono ?_
    rintro e w'' ⟨s, rfl, hs', hb'⟩
    rw [← hA] at hs'
    obtain ⟨a, c, rfl, _⟩ := hs'.open_
    have := HAL.out
    rw [this] at hs' ⊢
    exact ⟨a, c, rfl, hs', hb'⟩
  have HFV : Hid (∃ ff cap, fv = .func (.func ff) #[] cap) := by obtain ⟨ff, cap, e, _⟩ := ho; exact ⟨ff, cap, e⟩
  obtain ⟨wa, hwa⟩ : ∃ wa, wa = wid A := ⟨_, rfl⟩
  obtain ⟨fa, hfa⟩ : ∃ fa, fa = clampI fr wa := ⟨_, rfl⟩
  obtain ⟨na, hna⟩ : ∃ na, na = clampI nn 200 := ⟨_, rfl⟩
  have HRS : Hid (runs V fr nn = runL V 0 fa (fa + na)) := by show _ = _; unfold runs; rw [← HAV.out, ← hwa, ← hfa, ← hna]
  rw [← hwa] at wb1 wb2
  have ⟨fb1, fb2⟩ : 0 ≤ fa ∧ fa ≤ wa := by rw [hfa]; exact clampI_in _ wb1
  have ⟨nb1, nb2⟩ : 0 ≤ na ∧ na ≤ 200 := by rw [hna]; exact clampI_in _ (by decide)
  have z0 : IntKind.i64.wrap (fa + na) = fa + na := IntWalk.i64_in _ (by omega)
  have CW : Hid (∀ w' a c, Pcs w' (.slice a n c) A → Calls Tryd.prog 55 #[.slice a n c] w' fun e w'' => e = .returned (.int .i64 wa) ∧ Below w'.heap.size w' w'') := fun w' a c hp => by rw [hwa]; exact Width_any w' hp hR
  have CC1 : Hid (∀ w', Calls Tryd.prog 88 #[.int .i64 fr, .int .i64 wa] w' fun e w'' => e = .returned (.int .i64 fa) ∧ w'' = w') := fun w' => by rw [hfa]; exact clamp_any _ _ w'
  have CC2 : Hid (∀ w', Calls Tryd.prog 88 #[.int .i64 nn, .int .i64 200] w' fun e w'' => e = .returned (.int .i64 na) ∧ w'' = w') := fun w' => by rw [hna]; exact clamp_any _ _ w'
  have HWA := Lib.hid hwa
  clear hs h R0 B0 hW0 hg ho L0 hnG SH0 hA hV hR hwa hfa hna r1 r2
  obtain ⟨ff, fcap, rfl⟩ := HFV.out
  go_enter Tryd.func48, Tryd.ntmps48
  go_upto_region 1 with fail
  rw [← hb4, ← HW0.out]
  clear hb4
  go_cut [9, 10] from 19 to 24 (fun x y wx => ∃ (sa1 : Option Addr) (sc1 : Nat) (pa1 : Option Addr) (pc1 : Nat), x = .slice sa1 n sc1 ∧ y = .slice pa1 n pc1 ∧ Hid (Two W0 wx sa1 n sc1 pa1 pc1 G A))
  case first =>
    go_region_held3 (fun w' => Below W0.heap.size W0 w' ∧ w'.cell? ⟨b4, 0, none⟩ = some (.bool f) ∧ w'.cell? ⟨b4, 1, none⟩ = some (.slice sa n sc))
      ((refine BX.out _ ?_; focus ((repeat first | with_reducible assumption | with_reducible exact KZ.out | with_reducible apply Below.drew | with_reducible apply below_drews | with_reducible apply below_al); done)))
      (first
        | (go_at_call 29; (with_reducible refine (CSg.out _ ?_).mono ?_); (focus ((repeat first | with_reducible assumption | with_reducible exact KZ.out | with_reducible apply Below.drew | with_reducible apply below_drews | with_reducible apply below_al); done)); rintro e wi ⟨ia, ic, rfl, hi, bi⟩; have ki := fun h => below_more (w := W0) h bi; replace ki := ki (by (repeat first | with_reducible assumption | with_reducible exact KZ.out | with_reducible apply Below.drew | with_reducible apply below_drews | with_reducible apply below_al)); have HI : Hid (∀ w', Below wi.heap.size wi w' → Sgs w' (.slice ia n ic) G) := (fun w' hb => hi.below hb); have KI := Lib.hid (Below.refl wi.heap.size wi); clear bi hi)
        | (go_at_call 51; (with_reducible refine (CLk.out _ ?_).mono ?_); (focus ((repeat first | with_reducible assumption | with_reducible exact KZ.out | with_reducible apply Below.drew | with_reducible apply below_drews | with_reducible apply below_al); done)); rintro e wl ⟨la, lc, rfl, hl, bl⟩; have kl := fun h => below_more (w := W0) h bl; replace kl := kl (by (repeat first | with_reducible assumption | with_reducible exact KZ.out | with_reducible apply Below.drew | with_reducible apply below_drews | with_reducible apply below_al)); have kI := fun h => below_more (w := wi) h bl; replace kI := kI (by (repeat first | with_reducible assumption | with_reducible exact KI.out | with_reducible apply Below.drew | with_reducible apply below_drews | with_reducible apply below_al)); have FN := two_fin HI.out kI hl kl; clear bl hl))
    all_goals go_wp2_with fail
    all_goals go_meet
    all_goals exact ⟨_, _, _, _, rfl, rfl, FN⟩
  case rest =>
    obtain ⟨sa1, sc1, pa1, pc1, rfl, rfl, HF⟩ := hcut
    obtain ⟨hs1, hp1, k1⟩ := HF.out
    have K1 := Lib.hid (below_more HB0.out k1)
    have HS : Hid (∀ w', Below wc.heap.size wc w' → Sgs w' (.slice sa1 n sc1) G) := fun w' hb => hs1.below hb
    have HP : Hid (∀ w', Below wc.heap.size wc w' → Pcs w' (.slice pa1 n pc1) A) := fun w' hb => hp1.below hb (Nat.le_refl _)
    obtain ⟨hnx, hcap, hmax⟩ := Rk.Rows.len hs1
    obtain ⟨pa2, pc2, e2, hcap2, hmax2, hxx⟩ := hp1.open_
    clear hnx hxx
    have CW1 := Lib.hid (CW.out wc pa1 pc1 hp1)
    injection e2 with e21 e22 e23
    rw [HAL.out, ← e23] at hcap2
    rw [← e23] at hmax2
    rw [← HN.out] at hcap
    unfold maxLen at hmax hmax2
    clear HF hs1 hp1 k1 d0 d1 CW CSg CLk e21 e22 e23
    go_wp2_with fail
    refine (CW1.out).mono ?_
    rintro e w2 ⟨rfl, b2⟩
    have K2 := Lib.hid b2
    clear b2 CW1
    go_wp2_with fail
    refine (CC1.out _).mono ?_
    rintro e w3 ⟨rfl, hw3⟩
    rw [hw3]
    clear hw3 CC1
    go_wp2_with fail
    refine (CC2.out _).mono ?_
    rintro e w3 ⟨rfl, hw3⟩
    rw [hw3]
    clear hw3 CC2
    go_wp2_with fail
    obtain ⟨ta, hta⟩ : ∃ ta, ta = fa + na := ⟨_, rfl⟩
    rw [← hta] at HRS z0 ⊢
    have tb : fa ≤ ta ∧ ta ≤ fa + 200 := by omega
    clear z0 hta
    go_loopg [12, 13, 34] n (fun g t s i wr => ∃ k : Nat, k ≤ n ∧ n - k ≤ g ∧ i = .int .i64 k ∧ s = .int .i64 (wid (A.take k)) ∧ Hid (Rk.OwnK 97 4 w2.heap.size wr t ((runL (V.take k) 0 fa ta).map Rn.cells)) ∧ Below w2.heap.size w2 wr)
    case atStart => exact ⟨0, Nat.zero_le _, by omega, rfl, by simp [wid], Rk.OwnK.nil_ _ _ _ _, Below.refl _ _⟩
    case round =>
      obtain ⟨k, hk, hg, rfl, rfl, HO, hbel⟩ := hrel
      have HB := Lib.hid hbel
      have HBc := Lib.hid (below_more K2.out hbel)
      by_cases hlt : k < n
      · have hkl : k < A.length := by rw [HAL.out]; exact hlt
        have hkv : k < V.length := by rw [HVL.out]; exact hlt
        have hkg : k < G.length := by rw [← HN.out]; exact hlt
        obtain ⟨b, off, q, a1, e1, a2, e2, rfl, hb, hv, s0, s1, s2, s3, s4⟩ := (HS.out _ HBc.out).get hkg
        obtain ⟨pa2, pc2, e3, _, _, hel⟩ := (HP.out _ HBc.out).open_
        obtain ⟨pb, poff, e4, hpb, _, c0, c1, c2, c3⟩ := hel k hkl
        injection e3 with e31 e32 e33
        rw [e4] at e31
        subst e31
        have PE : A[k] = (vw o G[k]).pc := by
          have h1 := HAV.out
          have h2 := HVE.out
          subst h2
          subst h1
          simp
        have VE : V[k] = vw o G[k] := by
          have h2 := HVE.out
          subst h2
          simp
        have ew := wid_take A hkl
        have wz := wide_in HRT.out hkl
        have wk := wid_le HRT.out (k := k) (by omega)
        have wl : wid (A.take k) ≤ wa := by rw [HWA.out]; exact wid_part HRT.out k
        have RT := run_take V fa ta hkv
        rw [← HAV.out] at RT
        rw [PE] at c0 c1 c2 c3 ew wz
        rw [VE] at RT
        unfold runOf at RT
        obtain ⟨v1, v2, v3⟩ := HV.out _ (List.getElem_mem hkg)
        generalize G[k] = y at *
        obtain ⟨yi, yl, yL, yS, yT⟩ := y
        simp only at s0 s1 s2 s3 s4 hv v1 v2 v3
        have RT0 : clampI (fa - wid (A.take k)) (vw o ⟨yi, yl, yL, yS, yT⟩).pc.wide = clampI (ta - wid (A.take k)) (vw o ⟨yi, yl, yL, yS, yT⟩).pc.wide → runL (V.take (k + 1)) 0 fa ta = runL (V.take k) 0 fa ta := fun h => by rw [RT, if_pos h, List.append_nil]
        have RT1 : ¬ (clampI (fa - wid (A.take k)) (vw o ⟨yi, yl, yL, yS, yT⟩).pc.wide = clampI (ta - wid (A.take k)) (vw o ⟨yi, yl, yL, yS, yT⟩).pc.wide) → runL (V.take (k + 1)) 0 fa ta = runL (V.take k) 0 fa ta ++ [⟨yi, yl, o yl, if o yl = true then Let.cut yL (clampI (fa - wid (A.take k)) (vw o ⟨yi, yl, yL, yS, yT⟩).pc.wide) (clampI (ta - wid (A.take k)) (vw o ⟨yi, yl, yL, yS, yT⟩).pc.wide) else []⟩] := fun h => by
          rw [RT, if_neg h]
          have e1 : (vw o ⟨yi, yl, yL, yS, yT⟩).o = o yl := rfl
          have e2 : (vw o ⟨yi, yl, yL, yS, yT⟩).L = if o yl = true then yL else [] := rfl
          rw [e1, e2]
          cases o yl <;> rfl
        clear RT PE VE
        obtain ⟨P, hP⟩ : ∃ P : Pc, P = (vw o ⟨yi, yl, yL, yS, yT⟩).pc := ⟨_, rfl⟩
        have hPi : yi = P.i := by rw [hP]; rfl
        have hPl : yl = P.l := by rw [hP]; rfl
        have hPo : o yl = P.o := by rw [hP]; rfl
        rw [← hP] at c0 c1 c2 c3 ew wz RT0 RT1
        rw [hPo] at RT1
        clear hP hPo
        obtain ⟨pi, pl, pn, ob⟩ := P
        simp only at hPi hPl c0 c1 c2 c3 RT1
        subst hPi hPl
        have CWd := fun w' => width_any ⟨yi, yl, pn, ob⟩ w'
        unfold Pc.val at CWd
        simp only at CWd
        generalize Pc.wide ⟨yi, yl, pn, ob⟩ = z at *
        obtain ⟨sk, hsk⟩ : ∃ sk, sk = wid (A.take k) := ⟨_, rfl⟩
        rw [← hsk] at RT0 RT1 ew wk wl ⊢
        obtain ⟨a, ha⟩ : ∃ a, a = clampI (fa - sk) z := ⟨_, rfl⟩
        obtain ⟨b2, hb2⟩ : ∃ b2, b2 = clampI (ta - sk) z := ⟨_, rfl⟩
        have ia := clampI_in (fa - sk) wz.1
        have ib := clampI_in (ta - sk) wz.1
        rw [← ha, ← hb2] at RT0 RT1
        rw [← ha] at ia
        rw [← hb2] at ib
        replace CWd := Lib.hid CWd
        have CA : Hid (∀ w', Calls Tryd.prog 88 #[.int .i64 (fa - sk), .int .i64 z] w' fun e w'' => e = .returned (.int .i64 a) ∧ w'' = w') := fun w' => by rw [ha]; exact clamp_any _ _ w'
        have CB : Hid (∀ w', Calls Tryd.prog 88 #[.int .i64 (ta - sk), .int .i64 z] w' fun e w'' => e = .returned (.int .i64 b2) ∧ w'' = w') := fun w' => by rw [hb2]; exact clamp_any _ _ w'
        have ET := Lib.hid ew
        replace RT0 := Lib.hid RT0
        replace RT1 := Lib.hid RT1
        have z1 : IntKind.i64.wrap (fa - sk) = fa - sk := IntWalk.i64_in _ (by omega)
        have z2 : IntKind.i64.wrap (ta - sk) = ta - sk := IntWalk.i64_in _ (by omega)
        have z3 : IntKind.i64.wrap (sk + z) = sk + z := IntWalk.i64_in _ (by omega)
        have CRp : Hid (∀ w', Below wr.heap.size wr w' → Calls Tryd.prog 15 #[.agg #[.int .i64 yi, .int .i64 yl, .pointer q, .slice a1 yS.length e1, .slice a2 yT.length e2]] w' fun e w'' => ∃ p, e = .returned (.pointer p) ∧ IsRope w'' yL (.pointer p) ∧ Below w'.heap.size w' w'') := fun w' hb => Seg.rope_any w' (hv.below hb (Nat.le_refl _))
        have CCt : Hid (∀ w' p, IsRope w' yL (.pointer p) → Calls Tryd.prog 90 #[.pointer p, .int .i64 a, .int .i64 b2] w' fun e w'' => ∃ p, e = .returned (.pointer p) ∧ IsRope w'' (Let.cut yL a b2) (.pointer p) ∧ Below w'.heap.size w' w'') := fun w' p hp => by
          refine (Con.cut_is w' a b2 hp (by omega) (by omega) (by omega) (by omega) (by omega)).mono ?_
          rintro e w'' ⟨v, rfl, h2, hb2⟩
          obtain ⟨p2, rfl⟩ := rope_ptr h2
          exact ⟨p2, rfl, h2, hb2⟩
        have HTL : Hid ((Let.cut yL a b2).length ≤ 1073741824) := by show _ ≤ _; have := Con.cut_len yL a b2; omega
        obtain ⟨tx, htx⟩ : ∃ tx, tx = Let.cut yL a b2 := ⟨_, rfl⟩
        rw [← htx] at RT1 CCt HTL
        have HSE : Hid (∀ w', Below wr.heap.size wr w' → w'.cell? ⟨b, off + k * 5, none⟩ = some (.int .i64 yi) ∧ w'.cell? ⟨b, off + k * 5 + 1, none⟩ = some (.int .i64 yl) ∧ w'.cell? ⟨b, off + k * 5 + 2, none⟩ = some (.pointer q) ∧ w'.cell? ⟨b, off + k * 5 + 3, none⟩ = some (.slice a1 yS.length e1) ∧ w'.cell? ⟨b, off + k * 5 + 4, none⟩ = some (.slice a2 yT.length e2)) := fun w' hw => ⟨vcell hw hb s0, vcell hw hb s1, vcell hw hb s2, vcell hw hb s3, vcell hw hb s4⟩
        generalize yS.length = n1 at *
        generalize yT.length = n2 at *
        obtain ⟨xs, hxs⟩ : ∃ xs, xs = (runL (V.take k) 0 fa ta).map Rn.cells := ⟨_, rfl⟩
        have HXL : Hid (xs.length ≤ k) := by
          show _ ≤ _
          rw [hxs, List.length_map]
          have := run_len (V.take k) 0 fa ta
          rw [List.length_take] at this
          omega
        have HXS := Lib.hid hxs
        rw [← hxs] at HO
        obtain ⟨ao, co, rfl⟩ := HO.out.is_slice
        obtain ⟨m, hm⟩ : ∃ m, m = xs.length := ⟨_, rfl⟩
        rw [← hm] at HO ⊢
        obtain ⟨B1, R1, L1⟩ := box1 wr #[.int .i64 yi, .int .i64 yl, .int .i64 pn, .bool ob] 89
        obtain ⟨W1, hW1⟩ : ∃ W1, W1 = wr.alloc (.cells #[.int .i64 yi, .int .i64 yl, .int .i64 pn, .bool ob] 89) := ⟨_, rfl⟩
        rw [← hW1] at B1 R1 L1
        have HW1 := Lib.hid hW1
        have HB1 := Lib.hid B1
        have HC1 := Lib.hid (below_more HB.out B1)
        obtain ⟨b15, hb15⟩ : ∃ b15, b15 = wr.heap.size := ⟨_, rfl⟩
        rw [← hb15] at R1 L1
        have HL15 : Hid (b15 < W1.heap.size) := by show _ < _; omega
        have BY : Hid (∀ w', Below W1.heap.size W1 w' → Below W1.heap.size W1 w' ∧ w'.cell? ⟨b15, 0, none⟩ = some (.int .i64 yi) ∧ w'.cell? ⟨b15, 1, none⟩ = some (.int .i64 yl) ∧ w'.cell? ⟨b15, 2, none⟩ = some (.int .i64 pn) ∧ w'.cell? ⟨b15, 3, none⟩ = some (.bool ob)) := fun w' hb => by
          obtain ⟨h1, h2, h3, h4, _⟩ := four_cells ((hb.block _ HL15.out).trans R1)
          exact ⟨hb, h1, h2, h3, h4⟩
        have KY : Hid (Below W1.heap.size W1 W1) := Below.refl _ _
        have HPX : Hid (∀ w', Below W1.heap.size W1 w' → Rk.OwnK 97 4 w2.heap.size w' (.slice ao m co) xs) := fun w' hb => (HO.out.below HB1.out).below hb
        have i1 : (k : Int) < (n : Int) := by omega
        clear hbel hv s0 s1 s2 s3 s4 hsk ha hb2 htx hxs hm hW1 R1 L1 B1 e4 HO hel e32 e33 ew
        go_upto_region 9 with fail
        rw [← hb15, ← HW1.out]
        clear c0 c1 c2 c3 hb15
        go_cut [16, 17] from 39 to 51 (fun x y wx => x = .int .i64 a ∧ y = .int .i64 b2 ∧ Hid (Below W1.heap.size W1 wx))
        case first =>
          go_region_held3 (fun w' => Below W1.heap.size W1 w' ∧ w'.cell? ⟨b15, 0, none⟩ = some (.int .i64 yi) ∧ w'.cell? ⟨b15, 1, none⟩ = some (.int .i64 yl) ∧ w'.cell? ⟨b15, 2, none⟩ = some (.int .i64 pn) ∧ w'.cell? ⟨b15, 3, none⟩ = some (.bool ob))
            ((refine BY.out _ ?_; focus ((repeat first | with_reducible assumption | with_reducible exact KY.out | with_reducible apply Below.drew | with_reducible apply below_drews | with_reducible apply below_al); done)))
            (first
              | (go_at_call 89; (with_reducible refine (CWd.out _).mono ?_); rintro e wi ⟨rfl, bi⟩; have ki := fun h => below_more (w := W1) h bi; replace ki := ki (by (repeat first | with_reducible assumption | with_reducible exact KY.out | with_reducible apply Below.drew | with_reducible apply below_drews | with_reducible apply below_al)); clear bi)
              | (go_at_call 88; (first | (with_reducible refine (CA.out _).mono ?_) | (with_reducible refine (CB.out _).mono ?_)); rintro e wi ⟨rfl, rfl⟩))
          all_goals go_wp2_with fail
          all_goals go_meet
          all_goals (refine ⟨rfl, rfl, Lib.hid ?_⟩; (repeat first | with_reducible assumption | with_reducible exact KY.out | with_reducible apply Below.drew | with_reducible apply below_drews | with_reducible apply below_al))
        case rest =>
          obtain ⟨rfl, rfl, K9⟩ := hcut
          obtain ⟨_, d0, d1, d2, d3⟩ := BY.out _ K9.out
          clear CA CB z1 z2
          go_wp2_with fail
          refine (CWd.out _).mono ?_
          rintro e w5 ⟨rfl, b5⟩
          have K5 := Lib.hid (below_more K9.out b5)
          clear b5 d0 d1 d2 d3 CWd
          obtain ⟨_, d0, d1, d2, d3⟩ := BY.out _ K5.out
          by_cases hab : a = b2
          · have j1 : (a == b2) = true := by simp [hab]
            have ER := Lib.hid (RT0.out hab)
            clear hab RT0 RT1
            go_wp2_with fail
            go_roundg (n - (k + 1))
            case measure => omega
            case rel => exact ⟨k + 1, by omega, Nat.le_refl _, by go_num, by rw [ET.out], by rw [ER.out, ← HXS.out]; exact HPX.out _ K5.out, below_more HC1.out K5.out⟩
          · have j1 : (a == b2) = false := by simp [hab]
            have ER := Lib.hid (RT1.out hab)
            clear hab RT0 RT1
            obtain ⟨B12, R12, L12⟩ := box1 w5 #[.int .i64 yi, .int .i64 yl, .bool ob, .string (ByteArray.mk #[])] 97
            obtain ⟨W12, hW12⟩ : ∃ W12, W12 = w5.alloc (.cells #[.int .i64 yi, .int .i64 yl, .bool ob, .string (ByteArray.mk #[])] 97) := ⟨_, rfl⟩
            rw [← hW12] at B12 R12 L12
            have HW12 := Lib.hid hW12
            have K12 := Lib.hid (below_more K5.out B12)
            obtain ⟨b18, hb18⟩ : ∃ b18, b18 = w5.heap.size := ⟨_, rfl⟩
            rw [← hb18] at R12 L12
            have HL18 : Hid (b18 < W12.heap.size) := by show _ < _; omega
            have HG18 : Hid (W1.heap.size ≤ b18) := by show _ ≤ _; rw [hb18]; exact K5.out.size
            have HR12 := Lib.hid R12
            clear B12 hW12 R12 L12
            cases ob with
            | false =>
              have ER2 : Hid (runL (V.take (k + 1)) 0 fa ta = runL (V.take k) 0 fa ta ++ [⟨yi, yl, false, []⟩]) := by show _ = _; rw [ER.out, if_neg (by simp)]
              clear ER
              obtain ⟨_, d0', d1', d2', d3'⟩ := BY.out _ K12.out
              obtain ⟨y0, y1, y2, y3, g0, g1, g2, g3⟩ := four_cells HR12.out
              go_upto_region 13 with fail
              rw [← hb18, ← HW12.out]
              clear d0 d1 d2 d3 hb18
              have A1 : Hid (Rk.OwnK 97 4 w2.heap.size (W12.alloc (.cells #[Value.int .i64 yi, .int .i64 yl, .bool false, .string (ByteArray.mk #[])] 97)) (.slice ao m co) xs) := HPX.out _ (below_al K12.out _)
              have A2 : Hid (Rk.RowK 4 (W12.alloc (.cells #[Value.int .i64 yi, .int .i64 yl, .bool false, .string (ByteArray.mk #[])] 97)) (.slice (some ⟨W12.heap.size, 0, none⟩) 1 1) [[Value.int .i64 yi, .int .i64 yl, .bool false, .string (ByteArray.mk #[])]]) := Rk.row_one (e := 97) (heap_alloc_new _ _) rfl
              have HBY : Hid (Below w2.heap.size w2 (W12.alloc (.cells #[Value.int .i64 yi, .int .i64 yl, .bool false, .string (ByteArray.mk #[])] 97))) := below_more HC1.out (below_al K12.out _)
              have A4 : Hid (w2.heap.size ≤ (W12.alloc (.cells #[Value.int .i64 yi, .int .i64 yl, .bool false, .string (ByteArray.mk #[])] 97)).heap.size) := HBY.out.size
              have A3 : Hid (xs.length + 1 ≤ 100000) := by show _ ≤ _; have := HXL.out; omega
              have HYO : Hid (∀ y ∈ [[Value.int .i64 yi, .int .i64 yl, .bool false, .string (ByteArray.mk #[])]], ∀ u ∈ y, u.oneCell' = true) := fun y hy u hu => by
                simp only [List.mem_singleton] at hy
                subst hy
                simp at hu
                rcases hu with rfl | rfl | rfl | rfl <;> rfl
              go_wp2_with (at_builtin; refine Rk.wpList_append_rowk rfl _ _ 83 97 4 40 _ Tryd.underlying83 infoRn rfl (by decide) (by decide) rfl w2.heap.size _ _ xs _ rfl rfl A1.out A2.out HYO.out A3.out A4.out ?_)
              intro v6 w6 h6 g6 _
              have HB6 := Lib.hid (A1.out.belowOf HBY.out (Nat.le_refl _) A4.out g6)
              have K6 : Hid (Rk.OwnK 97 4 w2.heap.size w6 v6 ((runL (V.take (k + 1)) 0 fa ta).map Rn.cells)) := by
                show Rk.OwnK _ _ _ _ _ _
                rw [ER2.out, List.map_append, ← HXS.out]
                exact h6
              obtain ⟨a6, c6, rfl⟩ := K6.out.is_slice
              clear h6 g6 A1 A2 A3 A4 HBY HYO ER2
              generalize ((runL (V.take (k + 1)) 0 fa ta).map Rn.cells).length = m6 at *
              go_wp2_with fail
              go_roundg (n - (k + 1))
              case measure => omega
              case rel => exact ⟨k + 1, by omega, Nat.le_refl _, by go_num, by rw [ET.out], K6.out, HB6.out⟩
            | true =>
              have ER2 : Hid (runL (V.take (k + 1)) 0 fa ta = runL (V.take k) 0 fa ta ++ [⟨yi, yl, true, tx⟩]) := by show _ = _; rw [ER.out, if_pos rfl]
              clear ER
              obtain ⟨_, d0', d1', d2', d3'⟩ := BY.out _ K12.out
              obtain ⟨s0, s1, s2, s3, s4⟩ := HSE.out _ (below_more HB1.out K12.out)
              have CR12 := Lib.hid (CRp.out _ (below_more HB1.out K12.out))
              go_upto_region 13 with fail
              rw [← hb18, ← HW12.out]
              clear d0 d1 d2 d3 hb18
              go_wp2_with fail
              refine (CR12.out).mono ?_
              rintro e w13 ⟨p13, rfl, h13, b13⟩
              have K13 := Lib.hid b13
              have CC13 := Lib.hid (CCt.out w13 p13 h13)
              clear b13 h13 CR12 CRp CCt s0 s1 s2 s3 s4 d0' d1' d2' d3'
              go_wp2_with fail
              refine (CC13.out).mono ?_
              rintro e w14 ⟨p14, rfl, h14, b14⟩
              have K14 := Lib.hid (below_more K13.out b14)
              have CT14 := Lib.hid (Con.text_is w14 h14 HTL.out)
              clear b14 h14 CC13
              go_wp2_with fail
              refine (CT14.out).mono ?_
              rintro e w15 ⟨rfl, b15'⟩
              have K15 := Lib.hid (below_more K14.out b15')
              have R15 := (K15.out.block _ HL18.out).trans HR12.out
              obtain ⟨y0, y1, y2, y3, g0, g1, g2, g3⟩ := four_cells R15
              have R16 : (w15.setCell ⟨b18, 3, none⟩ (.string (Let.mk tx))).heap[b18]? = some (.cells #[.int .i64 yi, .int .i64 yl, .bool true, .string (Let.mk tx)] 97 (0, 0)) := by simpa using set_block (i := 3) (u := .string (Let.mk tx)) R15
              have K16 := Lib.hid (below_put (below_more K12.out K15.out) HG18.out (.string (Let.mk tx)) (j := 3))
              obtain ⟨W16, hW16⟩ : ∃ W16, W16 = w15.setCell ⟨b18, 3, none⟩ (.string (Let.mk tx)) := ⟨_, rfl⟩
              rw [← hW16] at R16 K16
              have HW16 := Lib.hid hW16
              have HR16 := Lib.hid R16
              clear b15' CT14 R15 R16 hW16
              go_upto_region 15 with fail
              rw [← HW16.out]
              clear y0 y1 y2 y3 g0 g1 g2 g3
              obtain ⟨y0, y1, y2, y3, g0, g1, g2, g3⟩ := four_cells HR16.out
              have A1 : Hid (Rk.OwnK 97 4 w2.heap.size (W16.alloc (.cells #[Value.int .i64 yi, .int .i64 yl, .bool true, .string (Let.mk tx)] 97)) (.slice ao m co) xs) := HPX.out _ (below_al K16.out _)
              have A2 : Hid (Rk.RowK 4 (W16.alloc (.cells #[Value.int .i64 yi, .int .i64 yl, .bool true, .string (Let.mk tx)] 97)) (.slice (some ⟨W16.heap.size, 0, none⟩) 1 1) [[Value.int .i64 yi, .int .i64 yl, .bool true, .string (Let.mk tx)]]) := Rk.row_one (e := 97) (heap_alloc_new _ _) rfl
              have HBY : Hid (Below w2.heap.size w2 (W16.alloc (.cells #[Value.int .i64 yi, .int .i64 yl, .bool true, .string (Let.mk tx)] 97))) := below_more HC1.out (below_al K16.out _)
              have A4 : Hid (w2.heap.size ≤ (W16.alloc (.cells #[Value.int .i64 yi, .int .i64 yl, .bool true, .string (Let.mk tx)] 97)).heap.size) := HBY.out.size
              have A3 : Hid (xs.length + 1 ≤ 100000) := by show _ ≤ _; have := HXL.out; omega
              have HYO : Hid (∀ y ∈ [[Value.int .i64 yi, .int .i64 yl, .bool true, .string (Let.mk tx)]], ∀ u ∈ y, u.oneCell' = true) := fun y hy u hu => by
                simp only [List.mem_singleton] at hy
                subst hy
                simp at hu
                rcases hu with rfl | rfl | rfl | rfl <;> rfl
              go_wp2_with (at_builtin; refine Rk.wpList_append_rowk rfl _ _ 83 97 4 40 _ Tryd.underlying83 infoRn rfl (by decide) (by decide) rfl w2.heap.size _ _ xs _ rfl rfl A1.out A2.out HYO.out A3.out A4.out ?_)
              intro v6 w6 h6 g6 _
              have HB6 := Lib.hid (A1.out.belowOf HBY.out (Nat.le_refl _) A4.out g6)
              have K6 : Hid (Rk.OwnK 97 4 w2.heap.size w6 v6 ((runL (V.take (k + 1)) 0 fa ta).map Rn.cells)) := by
                show Rk.OwnK _ _ _ _ _ _
                rw [ER2.out, List.map_append, ← HXS.out]
                exact h6
              obtain ⟨a6, c6, rfl⟩ := K6.out.is_slice
              clear h6 g6 A1 A2 A3 A4 HBY HYO ER2
              generalize ((runL (V.take (k + 1)) 0 fa ta).map Rn.cells).length = m6 at *
              go_wp2_with fail
              go_roundg (n - (k + 1))
              case measure => omega
              case rel => exact ⟨k + 1, by omega, Nat.le_refl _, by go_num, by rw [ET.out], K6.out, HB6.out⟩
      · obtain rfl : k = n := by omega
        have i1 : ¬ ((k : Int) < (k : Int)) := by omega
        have et : V.take k = V := by rw [← HVL.out, List.take_length]
        rw [et] at HO
        have HBw := Lib.hid (below_more K1.out HBc.out)
        have F0 := Rk.OwnK.row HO.out
        rw [← HRS.out] at F0
        have FIN : Hid (Rns wr _ (runs V fr nn)) := F0
        obtain ⟨ao, co, rfl, _⟩ := Rns.is_slice FIN.out
        generalize (runs V fr nn).length = m at *
        clear hbel HO HS HP et
        go_wp2_with fail
        go_ret
        exact ⟨_, rfl, FIN.out, HBw.out⟩
end Go.Proofs.YtcpdoicbekcpeaaDoor.Vi
