/- View: Runs, of the plain text: letter by letter. -/
import Derived.Test.YtcpdoicbekcpeaaDoorVs
import Derived.Test.YtcpdoicbekcpeaaDoorVu
import Derived.Deep.RegionLaw
set_option linter.unusedVariables false
set_option linter.unusedSimpArgs false
set_option maxRecDepth 100000
namespace Go.Proofs.YtcpdoicbekcpeaaDoor.Vi
open Go.RowKit Go.Lib Go.Shelf Go.Proofs.YtcpdoicbekcpeaaDoor.Rk Go.Proofs.YtcpdoicbekcpeaaDoor.Rt Go.Proofs.YtcpdoicbekcpeaaDoor.Rig Go.Proofs.YtcpdoicbekcpeaaDoor.Seg Go.Proofs.YtcpdoicbekcpeaaDoor.She

set_option maxHeartbeats 32000000 in
theorem rruns_any {u b : Value} {G : List G5} {B : List Bool} (fr nn : Int) (w : World) (h : Pls w u G) (hb : Bls w b B) (hg : ∀ g ∈ G, G5.vok g) (hr : ∀ g ∈ G, Let.right g.L = true) (hn : G.length ≤ 1000) (r1 : in64 fr) (r2 : in64 nn) :
    Calls Tryd.prog 54 #[u, b, .int .i64 fr, .int .i64 nn] w (GiveRs (runs (G.map (vw (told B))) fr nn) w) := by
  obtain ⟨la, lc, rfl⟩ := Rk.Rows.is_slice h
  obtain ⟨hx1, hlc, hlm⟩ := Rk.Rows.len h
  obtain ⟨n, hnG⟩ : ∃ n, n = G.length := ⟨_, rfl⟩
  have HN := Lib.hid hnG
  have HV := Lib.hid hg
  have HRr := Lib.hid hr
  obtain ⟨o, ho⟩ : ∃ o, o = told B := ⟨_, rfl⟩
  have CL0 := rlook_any w h hb hg (by omega)
  rw [← ho] at CL0 ⊢
  obtain ⟨A, hA⟩ : ∃ A, A = Lk o G := ⟨_, rfl⟩
  obtain ⟨V, hV⟩ : ∃ V, V = G.map (vw o) := ⟨_, rfl⟩
  have hR : rightPc A := by rw [hA]; exact lk_right o hg hn
  have HAV : Hid (A = V.map Vw.pc) := by show _ = _; rw [hA, hV]; rfl
  have HAL : Hid (A.length = n) := by show _ = _; rw [hA, hnG]; unfold Lk; rw [List.length_map, List.length_map]
  have HVL : Hid (V.length = n) := by show _ = _; rw [hV, hnG, List.length_map]
  have HVE := Lib.hid hV
  have HRT := Lib.hid hR
  have CL : Hid (Calls Tryd.prog 52 #[.slice la n lc, b] w fun e w'' => ∃ a c, e = .returned (.slice a n c) ∧ Pcs w'' (.slice a n c) A ∧ Below w.heap.size w w'') := by
    rw [← hnG] at CL0
    refine CL0.mono ?_
    rintro e w'' ⟨s, rfl, hs', hb'⟩
    rw [← hA] at hs'
    obtain ⟨a, c, rfl, _⟩ := hs'.open_
    have := HAL.out
    rw [this] at hs' ⊢
    exact ⟨a, c, rfl, hs', hb'⟩
  obtain ⟨wb1, wb2⟩ := wid_all hR
  obtain ⟨wa, hwa⟩ : ∃ wa, wa = wid A := ⟨_, rfl⟩
  obtain ⟨fa, hfa⟩ : ∃ fa, fa = clampI fr wa := ⟨_, rfl⟩
  obtain ⟨ta, hta⟩ : ∃ ta, ta = fa + clampI nn 200 := ⟨_, rfl⟩
  have HRS : Hid (runs V fr nn = runL V 0 fa ta) := by show _ = _; unfold runs; rw [← HAV.out, ← hwa, ← hfa, ← hta]
  have HSE : Hid (∀ j : Int, 0 ≤ j → j < wa → ((max fr 0 ≤ j ∧ j - max fr 0 < min nn 200) ↔ (fa ≤ j ∧ j < ta))) := fun j h0 h1 => by rw [hta, hfa]; exact seen_iff h0 h1
  rw [← hwa] at wb1 wb2
  have ft : fa ≤ ta := by rw [hta]; have := clampI_in nn (m := 200) (by decide); omega
  obtain ⟨f0, hf0⟩ : ∃ f0, f0 = max fr 0 := ⟨_, rfl⟩
  obtain ⟨n0, hn0⟩ : ∃ n0, n0 = min nn 200 := ⟨_, rfl⟩
  rw [← hf0, ← hn0] at HSE
  unfold in64 at r1 r2
  have f0b : 0 ≤ f0 ∧ f0 ≤ 9223372036854775807 := by omega
  have n0b : -9223372036854775808 ≤ n0 ∧ n0 ≤ 200 := by omega
  have HF0 := Lib.hid hf0
  have HN0 := Lib.hid hn0
  have HPl : Hid (∀ w', Below w.heap.size w w' → Pls w' (.slice la n lc) G) := fun w' k => by rw [hnG]; exact h.below k
  have HWA := Lib.hid hwa
  rw [← hnG] at hlc hn ⊢
  rw [← hV]
  unfold maxLen at hlm
  clear h hb hg hr hnG hx1 ho hA hV hR CL0 hwa hfa hta hf0 hn0
  go_enter Tryd.func54, Tryd.ntmps54
  go_wp2_with fail
  refine (CL.out).mono ?_
  rintro e w2 ⟨pa, pc, rfl, hp, b2⟩
  have K2 := Lib.hid b2
  have HP : Hid (∀ w', Below w2.heap.size w2 w' → Pcs w' (.slice pa n pc) A) := fun w' hb => hp.below hb (Nat.le_refl _)
  obtain ⟨_, _, e3, hcap2, hmax2, _⟩ := hp.open_
  injection e3 with e31 e32 e33
  rw [HAL.out, ← e33] at hcap2
  rw [← e33] at hmax2
  unfold maxLen at hmax2
  clear b2 hp CL e31 e32 e33
  go_upto_region 4 with fail
  rw [← HF0.out, ← HN0.out]
  clear HF0 HN0
  go_wp2_with fail
  go_loopg [10, 11, 12] n (fun g t s i wr => ∃ k : Nat, k ≤ n ∧ n - k ≤ g ∧ i = .int .i64 k ∧ s = .int .i64 (wid (A.take k)) ∧ Hid (Rk.OwnK 97 4 w2.heap.size wr t ((runL (V.take k) 0 fa ta).map Rn.cells)) ∧ Below w2.heap.size w2 wr)
  case atStart => exact ⟨0, Nat.zero_le _, by omega, rfl, by simp [wid], Rk.OwnK.nil_ _ _ _ _, Below.refl _ _⟩
  case round =>
    obtain ⟨k, hk, hg, rfl, rfl, HO, hbel⟩ := hrel
    have HB := Lib.hid hbel
    have HBw := Lib.hid (below_more K2.out hbel)
    by_cases hlt : k < n
    · have hkl : k < A.length := by rw [HAL.out]; exact hlt
      have hkv : k < V.length := by rw [HVL.out]; exact hlt
      have hkg : k < G.length := by rw [← HN.out]; exact hlt
      obtain ⟨b, off, a1, e1, a2, e2, rfl, hb, hv, s0, s1, s2, s3, s4⟩ := (HPl.out _ HBw.out).get hkg
      obtain ⟨_, _, e3, _, _, hel⟩ := (HP.out _ hbel).open_
      obtain ⟨pb, poff, e4, hpb, _, c0, c1, c2, c3⟩ := hel k hkl
      injection e3 with e31 e32 e33
      rw [e4] at e31
      subst e31
      have PE : A[k] = (vw o G[k]).pc := by
        have h1 := HAV.out
        have h2 := HVE.out
        subst h2
        subst h1
        simp
      have VE : V[k] = vw o G[k] := by
        have h2 := HVE.out
        subst h2
        simp
      have ew := wid_take A hkl
      have wz := wide_in HRT.out hkl
      have wk := wid_le HRT.out (k := k) (by omega)
      have wl : wid (A.take (k + 1)) ≤ wa := by rw [HWA.out]; exact wid_part HRT.out (k + 1)
      have RT := run_take V fa ta hkv
      rw [← HAV.out] at RT
      rw [PE] at c0 c1 c2 c3 ew wz
      rw [VE] at RT
      have hrt := HRr.out _ (List.getElem_mem hkg)
      obtain ⟨v1, v2, v3⟩ := HV.out _ (List.getElem_mem hkg)
      have PEND := fun (s : Int) {z : Nat} (hz : (vw o G[k]).pc.wide = z) => part_end (vw o G[k]) s fa ta ft hz
      have LEQ : (vw o G[k]).o = true → (vw o G[k]).L = G[k].L ∧ (vw o G[k]).pc.wide = (Let.cnt G[k].L : Int) := fun h => by
        have e1 : (vw o G[k]).o = o G[k].l := rfl
        rw [e1] at h
        refine ⟨by simp [vw, h], ?_⟩
        rw [wide_open (by rw [e1]; exact h)]
        simp [vw, h]
      generalize hX : vw o G[k] = X at *
      have X1 : G[k].i = X.i := by rw [← hX]; rfl
      have X2 : G[k].l = X.l := by rw [← hX]; rfl
      generalize G[k] = y at *
      clear hX PE VE
      obtain ⟨yi, yl, yL, yS, yT⟩ := y
      obtain ⟨xi, xl, ob, xL⟩ := X
      simp only at s0 s1 s2 s3 s4 v1 v2 v3 hrt X1 X2 LEQ
      subst X1 X2
      obtain ⟨z, hz⟩ : ∃ z : Nat, (Vw.pc ⟨yi, yl, ob, xL⟩).wide = z := ⟨(Vw.pc ⟨yi, yl, ob, xL⟩).wide.toNat, by omega⟩
      have CWd := fun w' => rwide_any (Vw.pc ⟨yi, yl, ob, xL⟩) w'
      have PEN := PEND (wid (A.take k)) hz
      rw [PEN] at RT
      rw [hz] at CWd RT ew wz LEQ
      clear PEND PEN
      have Q0 : (Vw.pc ⟨yi, yl, ob, xL⟩).i = yi := rfl
      have Q1 : (Vw.pc ⟨yi, yl, ob, xL⟩).l = yl := rfl
      have Q3 : (Vw.pc ⟨yi, yl, ob, xL⟩).o = ob := rfl
      rw [Q0] at c0
      rw [Q1] at c1
      rw [Q3] at c3
      unfold Pc.val at CWd
      rw [Q0, Q1, Q3] at CWd
      generalize (Vw.pc ⟨yi, yl, ob, xL⟩).n = pn at *
      clear Q0 Q1 Q3 hz
      simp only at RT
      obtain ⟨sk, hsk⟩ : ∃ sk, sk = wid (A.take k) := ⟨_, rfl⟩
      rw [← hsk] at RT ew wk ⊢
      rw [ew] at wl
      obtain ⟨lo, hlo⟩ : ∃ lo, lo = clampI (fa - sk) (z : Int) := ⟨_, rfl⟩
      obtain ⟨hi, hhi⟩ : ∃ hi, hi = clampI (ta - sk) (z : Int) := ⟨_, rfl⟩
      rw [← hlo, ← hhi] at RT
      have lh : 0 ≤ lo ∧ lo ≤ hi := by rw [hlo, hhi]; unfold clampI; omega
      have SEE : Hid (∀ m : Nat, m < z → ((f0 ≤ sk + m ∧ sk + m - f0 < n0) ↔ (lo ≤ m ∧ (m : Int) < hi))) := fun m hm => by
        rw [HSE.out (sk + m) (by omega) (by omega), hlo, hhi]
        unfold clampI
        omega
      have CW : Hid (∀ w', Calls Tryd.prog 93 #[.agg #[.int .i64 yi, .int .i64 yl, .int .i64 pn, .bool ob]] w' fun e w'' => e = .returned (.int .i64 z) ∧ Below w'.heap.size w' w'') := CWd
      have ET := Lib.hid ew
      have HRT1 := Lib.hid RT
      have HLQ : Hid (ob = true → xL = yL ∧ (z : Int) = (Let.cnt yL : Int)) := LEQ
      have CLt : Hid (∀ w', Calls Tryd.prog 76 #[.string (Let.mk yL)] w' fun e w'' => ∃ v, e = .returned v ∧ w''.ownsRow w'.heap.size 21 1 v (Let.lets yL).length (Con.cells (Let.lets yL)) ∧ Below w'.heap.size w' w'') := fun w' => by
        have := Con.rletters_any (Let.mk yL) w' (by rw [Let.mk_size]; omega)
        rw [Let.mk_data] at this
        exact this
      have hrr := Lib.hid hrt
      obtain ⟨n1, hn1⟩ : ∃ n1, n1 = yS.length := ⟨_, rfl⟩
      obtain ⟨n2, hn2⟩ : ∃ n2, n2 = yT.length := ⟨_, rfl⟩
      rw [← hn1] at s3
      rw [← hn2] at s4
      have HSe : Hid (∀ w', Below wr.heap.size wr w' → w'.cell? ⟨b, off + k * 5, none⟩ = some (.int .i64 yi) ∧ w'.cell? ⟨b, off + k * 5 + 1, none⟩ = some (.int .i64 yl) ∧ w'.cell? ⟨b, off + k * 5 + 2, none⟩ = some (.string (Let.mk yL))) := fun w' hw => ⟨vcell hw hb s0, vcell hw hb s1, vcell hw hb s2⟩
      have HPe : Hid (∀ w', Below wr.heap.size wr w' → w'.cell? ⟨pb, poff + k * 4, none⟩ = some (.int .i64 yi) ∧ w'.cell? ⟨pb, poff + k * 4 + 1, none⟩ = some (.int .i64 yl) ∧ w'.cell? ⟨pb, poff + k * 4 + 2, none⟩ = some (.int .i64 pn) ∧ w'.cell? ⟨pb, poff + k * 4 + 3, none⟩ = some (.bool ob)) := fun w' hw => ⟨vcell hw hpb c0, vcell hw hpb c1, vcell hw hpb c2, vcell hw hpb c3⟩
      obtain ⟨xs, hxs⟩ : ∃ xs, xs = (runL (V.take k) 0 fa ta).map Rn.cells := ⟨_, rfl⟩
      have HXL : Hid (xs.length ≤ k) := by
        show _ ≤ _
        rw [hxs, List.length_map]
        have := run_len (V.take k) 0 fa ta
        rw [List.length_take] at this
        omega
      have HXS := Lib.hid hxs
      rw [← hxs] at HO
      obtain ⟨ao, co, rfl⟩ := HO.out.is_slice
      obtain ⟨mx, hmx⟩ : ∃ mx, mx = xs.length := ⟨_, rfl⟩
      rw [← hmx] at HO ⊢
      have HPX : Hid (∀ w', Below wr.heap.size wr w' → Rk.OwnK 97 4 w2.heap.size w' (.slice ao mx co) xs) := fun w' hb => HO.out.below hb
      have i1 : (k : Int) < (n : Int) := by omega
      have CL1 := Lib.hid (CLt.out wr)
      clear hbel hv s0 s1 s2 s3 s4 c0 c1 c2 c3 hsk hlo hhi hxs hmx e4 HO hel e32 e33 ew RT CWd LEQ hn1 hn2 hrt CLt v1 v2
      obtain ⟨s0, s1, s2⟩ := HSe.out _ (Below.refl _ _)
      go_wp2_with fail
      refine (CL1.out).mono ?_
      rintro e w5 ⟨lv, rfl, hlv, b5⟩
      have K5 := Lib.hid b5
      obtain ⟨va, vc, hve, hl1, hl2, hl3⟩ := Con.Row.of_owns hlv
      rw [Con.cells_len] at hve hl1
      subst hve
      have LTS : Hid (∀ w', Below w5.heap.size w5 w' → ∀ m (hm : m < Let.cnt yL), ∃ vb vo, va = some ⟨vb, vo, none⟩ ∧ w'.cell? ⟨vb, vo + m, none⟩ = some (.int .i32 (((Let.lets yL)[m]'hm : Nat) : Int))) := fun w' hw m hm => by
        rcases hl3 with e | ⟨vb, vo, e, hlt, hc⟩
        · have h0 : (Con.cells (Let.lets yL)).length = 0 := by rw [e]; rfl
          rw [Con.cells_len] at h0
          exact absurd hm (by show ¬ m < (Let.lets yL).length; omega)
        · have h1 := hc m (by rw [Con.cells_len]; exact hm)
          rw [Con.cells_get] at h1
          exact ⟨vb, vo, e, vcell hw hlt h1⟩
      obtain ⟨cl, hcl⟩ : ∃ cl, cl = Let.cnt yL := ⟨_, rfl⟩
      have hcl2 : (Let.lets yL).length = cl := hcl.symm
      rw [hcl2] at hl1 ⊢
      have HCL := Lib.hid hcl
      unfold maxLen at hl2
      clear hl3 hcl hcl2
      clear b5 hlv CL1 s0 s1 s2
      obtain ⟨wo, hwo⟩ : ∃ wo, wo = wr := ⟨_, rfl⟩
      rw [← hwo] at HB HBw HSe HPe HPX K5
      clear hwo
      go_wp2_with fail
      go_loopg [11, 14, 15, 16] z (fun g at_ t s j wr => ∃ m : Nat, m ≤ z ∧ z - m ≤ g ∧ at_ = .int .i64 (sk + m) ∧ t = .string (Let.mk (part ob xL lo hi m)) ∧ s = .bool (some_ lo hi m) ∧ j = .int .i64 m ∧ Below w5.heap.size w5 wr)
      case atStart => exact ⟨0, Nat.zero_le _, by omega, by simp, by rw [part_zero _ _ lh.1 lh.2]; rfl, by rw [some_zero lh.1 lh.2], rfl, Below.refl _ _⟩
      case round =>
        obtain ⟨m, hm, hg2, rfl, rfl, rfl, rfl, hbel⟩ := hrel
        have HB5 := Lib.hid (below_more K5.out hbel)
        have CW1 := Lib.hid (CW.out wr)
        obtain ⟨c0, c1, c2, c3⟩ := HPe.out _ HB5.out
        obtain ⟨am, ham⟩ : ∃ am, am = sk + m := ⟨_, rfl⟩
        obtain ⟨bs, hbs⟩ : ∃ bs, bs = some_ lo hi m := ⟨_, rfl⟩
        rw [← ham, ← hbs]
        go_wp2_with fail
        refine (CW1.out).mono ?_
        rintro e w6 ⟨rfl, b6⟩
        have K6 := Lib.hid (below_more hbel b6)
        have HB6 := Lib.hid (below_more HB5.out b6)
        clear CW1 c0 c1 c2 c3 hbel b6 HB5
        by_cases hmz : m < z
        · have i2 : (m : Int) < (z : Int) := by omega
          have zA : IntKind.i64.wrap (am + 1) = am + 1 := IntWalk.i64_in _ (by omega)
          have zM : IntKind.i64.wrap (am - f0) = am - f0 := IntWalk.i64_in _ (by omega)
          have SE := SEE.out m hmz
          rw [← ham] at SE
          have AE : am + 1 = sk + ((m + 1 : Nat) : Int) := by omega
          have HAE := Lib.hid AE
          clear AE
          by_cases q1 : f0 ≤ am
          · have p1 : decide (f0 ≤ am) = true := decide_eq_true q1
            by_cases q2 : am - f0 < n0
            · have p2 : decide (am - f0 < n0) = true := decide_eq_true q2
              obtain ⟨t1, t2⟩ := SE.1 ⟨q1, q2⟩
              have SO : Hid (some_ lo hi (m + 1) = true) := some_in t1 t2
              cases ob with
              | false =>
                have HPO : Hid (part false xL lo hi (m + 1) = part false xL lo hi m) := rfl
                obtain ⟨c0, c1, c2, c3⟩ := HPe.out _ HB6.out
                clear SE hbs ham
                go_wp2_with fail
                go_roundg (z - (m + 1))
                case measure => omega
                case rel => exact ⟨m + 1, by omega, Nat.le_refl _, by rw [HAE.out], by rw [HPO.out], by rw [SO.out], by go_num, K6.out⟩
              | true =>
                obtain ⟨e1, e2⟩ := HLQ.out rfl
                have hmc : m < Let.cnt yL := by omega
                have hmcl : m < cl := by have := HCL.out; omega
                have HPO : Hid (part true xL lo hi (m + 1) = part true xL lo hi m ++ Let.cut xL m (m + 1)) := part_in xL t1 t2
                obtain ⟨pt, hpt⟩ : ∃ pt, pt = part true xL lo hi m := ⟨_, rfl⟩
                obtain ⟨ct, hct⟩ : ∃ ct, ct = Let.cut xL m (m + 1) := ⟨_, rfl⟩
                have LP : pt.length ≤ 10000 := by
                  have h1 : pt.length ≤ xL.length := by rw [hpt]; exact cut_short _ _ _
                  rw [e1] at h1
                  omega
                have LC : ct.length ≤ 10000 := by
                  have h1 : ct.length ≤ xL.length := by rw [hct]; exact cut_short _ _ _
                  rw [e1] at h1
                  omega
                have AD := fun w => add_run (s := pt) (t := ct) (by omega) w
                obtain ⟨vb, vo, rfl, hcv⟩ := LTS.out _ K6.out m hmc
                have CV := letter_str (cap := vc - m) hrr.out hmc hcv
                rw [← e1, ← hct] at CV
                rw [← hpt, ← hct] at HPO
                rw [← hpt]
                obtain ⟨c0, c1, c2, c3⟩ := HPe.out _ HB6.out
                clear SE hbs ham hpt hct LP LC e1 e2 hcv
                go_wp2_with fail
                go_roundg (z - (m + 1))
                case measure => omega
                case rel => exact ⟨m + 1, by omega, Nat.le_refl _, by rw [HAE.out], by rw [HPO.out], by rw [SO.out], by go_num, K6.out⟩
            · have p2 : decide (am - f0 < n0) = false := decide_eq_false q2
              have NS : ¬ (lo ≤ m ∧ (m : Int) < hi) := fun h => q2 (SE.2 h).2
              obtain ⟨PO, SO⟩ := part_out ob xL lh.2 NS
              have HPO : Hid (part ob xL lo hi (m + 1) = part ob xL lo hi m) := PO
              have HSO : Hid (some_ lo hi (m + 1) = bs) := by show _ = _; rw [hbs]; exact SO
              clear SE NS hbs ham PO SO
              go_wp2_with fail
              go_roundg (z - (m + 1))
              case measure => omega
              case rel => exact ⟨m + 1, by omega, Nat.le_refl _, by rw [HAE.out], by rw [HPO.out], by rw [HSO.out], by go_num, K6.out⟩
          · have p1 : decide (f0 ≤ am) = false := decide_eq_false q1
            have NS : ¬ (lo ≤ m ∧ (m : Int) < hi) := fun h => q1 (SE.2 h).1
            obtain ⟨PO, SO⟩ := part_out ob xL lh.2 NS
            have HPO : Hid (part ob xL lo hi (m + 1) = part ob xL lo hi m) := PO
            have HSO : Hid (some_ lo hi (m + 1) = bs) := by show _ = _; rw [hbs]; exact SO
            clear SE NS hbs ham PO SO
            go_wp2_with fail
            go_roundg (z - (m + 1))
            case measure => omega
            case rel => exact ⟨m + 1, by omega, Nat.le_refl _, by rw [HAE.out], by rw [HPO.out], by rw [HSO.out], by go_num, K6.out⟩
        · obtain rfl : m = z := by omega
          have i2 : ¬ (m : Int) < (m : Int) := by omega
          have RT2 := HRT1.out
          obtain ⟨tx, htx⟩ : ∃ tx, tx = part ob xL lo hi m := ⟨_, rfl⟩
          rw [← hbs, ← htx] at RT2
          rw [← htx]
          have ET2 : Hid (am = wid (A.take (k + 1))) := by show _ = _; rw [ham]; exact ET.out.symm
          clear hbs ham htx
          cases bs with
          | false =>
            have ER : Hid (runL (V.take (k + 1)) 0 fa ta = runL (V.take k) 0 fa ta) := by show _ = _; rw [RT2]; simp
            clear RT2
            go_wp2_with fail
            go_roundg (n - (k + 1))
            case measure => omega
            case rel => exact ⟨k + 1, by omega, Nat.le_refl _, by go_num, by rw [ET2.out], by rw [ER.out, ← HXS.out]; exact HPX.out _ HB6.out, below_more HB.out HB6.out⟩
          | true =>
            have ER : Hid (runL (V.take (k + 1)) 0 fa ta = runL (V.take k) 0 fa ta ++ [⟨yi, yl, ob, tx⟩]) := by show _ = _; rw [RT2]; simp
            clear RT2
            obtain ⟨s0, s1, s2⟩ := HSe.out _ HB6.out
            obtain ⟨c0, c1, c2, c3⟩ := HPe.out _ HB6.out
            have A3 : Hid (xs.length + 1 ≤ 100000) := by show _ ≤ _; have := HXL.out; omega
            have HYO : Hid (∀ y ∈ [[Value.int .i64 yi, .int .i64 yl, .bool ob, .string (Let.mk tx)]], ∀ u ∈ y, u.oneCell' = true) := fun y hy u hu => by
              simp only [List.mem_singleton] at hy
              subst hy
              simp at hu
              rcases hu with rfl | rfl | rfl | rfl <;> rfl
            have HAP : Hid (∀ W v6 w7, Below wo.heap.size wo W → Rk.OwnK 97 4 w2.heap.size w7 v6 (xs ++ [[Value.int .i64 yi, .int .i64 yl, .bool ob, .string (Let.mk tx)]]) → W.grownBy w7 (Value.slice ao mx co).ownBlock → (∃ a6 l6 c6, v6 = .slice a6 l6 c6) ∧ Hid (Rk.OwnK 97 4 w2.heap.size w7 v6 ((runL (V.take (k + 1)) 0 fa ta).map Rn.cells)) ∧ Hid (Below w2.heap.size w2 w7)) := fun W v6 w7 hW h6 g6 => by
              have hB := below_more HB.out hW
              have K6 : Rk.OwnK 97 4 w2.heap.size w7 v6 ((runL (V.take (k + 1)) 0 fa ta).map Rn.cells) := by
                rw [ER.out, List.map_append, ← HXS.out]
                exact h6
              obtain ⟨a6, c6, e6⟩ := K6.is_slice
              exact ⟨⟨a6, _, c6, e6⟩, K6, (HPX.out _ hW).belowOf hB (Nat.le_refl _) hB.size g6⟩
            clear ER
            go_upto_region 21 with fail
            go_region_law (refine step_append_rowk rfl _ _ 83 97 4 40 _ Tryd.underlying83 infoRn rfl (by decide) (by decide) rfl w2.heap.size _ _ xs [[Value.int .i64 yi, .int .i64 yl, .bool ob, .string (Let.mk tx)]] rfl rfl ?_ ?_ HYO.out A3.out ?_ ?_; (focus (refine HPX.out _ ?_; (repeat first | with_reducible assumption | with_reducible exact HB6.out | with_reducible apply Below.drew | with_reducible apply below_drews | with_reducible apply below_al); done)); (focus (refine Rk.row_one (e := 97) ?_ rfl; (first | exact heap_alloc_new _ _ | (simp; done)); done)); (focus (refine Below.size (B := w2.heap.size) (w := w2) ?_; refine below_more HB.out ?_; (repeat first | with_reducible assumption | with_reducible exact HB6.out | with_reducible apply Below.drew | with_reducible apply below_drews | with_reducible apply below_al); done)); intro v6 w7 h6 g6; have hq := fun h => HAP.out _ v6 w7 h h6 g6; replace hq := hq (by (repeat first | with_reducible assumption | with_reducible exact HB6.out | with_reducible apply Below.drew | with_reducible apply below_drews | with_reducible apply below_al)); obtain ⟨⟨a6, l6, c6, rfl⟩, FN6, FB6⟩ := hq; clear h6 g6)
            all_goals go_wp2_with fail
            all_goals (go_roundg (n - (k + 1)) <;> first | omega | exact ⟨k + 1, by omega, Nat.le_refl _, by go_num, by rw [ET2.out], FN6.out, FB6.out⟩)
    · obtain rfl : k = n := by omega
      have i1 : ¬ ((k : Int) < (k : Int)) := by omega
      have et : V.take k = V := by rw [← HVL.out, List.take_length]
      rw [et] at HO
      have F0 := Rk.OwnK.row HO.out
      rw [← HRS.out] at F0
      have FIN : Hid (Rns wr _ (runs V fr nn)) := F0
      obtain ⟨ao, co, rfl, _⟩ := Rns.is_slice FIN.out
      generalize (runs V fr nn).length = m at *
      clear hbel HO HP et F0
      go_wp2_with fail
      go_ret
      exact ⟨_, rfl, FIN.out, HBw.out⟩
end Go.Proofs.YtcpdoicbekcpeaaDoor.Vi
