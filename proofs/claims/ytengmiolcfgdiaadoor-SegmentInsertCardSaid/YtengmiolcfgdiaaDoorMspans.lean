/- Contract: spans, of the plain text: the runs of letters' marks. -/
import Derived.Test.YtengmiolcfgdiaaDoorMeach
set_option linter.unusedVariables false
namespace Go.Proofs.YtengmiolcfgdiaaDoor.Rig
open Go.RowKit Go.Lib Go.Proofs.YtengmiolcfgdiaaDoor.Rt

theorem infoSpan : (Tryd.prog.info? 104).map (fun i => (i.zero, i.size, i.bytes)) = some (some (.agg #[.int .i64 0, .int .i64 0, .int .i64 0]), 3, 24) := by kernel_rfl
theorem infoSite : (Tryd.prog.info? 120).map (fun i => (i.zero, i.size, i.bytes)) = some (some (.agg #[.int .i64 0, .int .i64 0]), 2, 16) := by kernel_rfl

/-- An append of one record of ints that lies in a block of its own. -/
theorem wpList_append_rec {w : World} {ops : Array Oper} {rest : List Oper} {o : Oper} {a : Act} {Q : Exit → Act → World → Prop} (hgd : o.guard = none) (s x : Operand) (tS e : TypeId) (k bytes : Nat) (z : Value)
    (ht : Tryd.prog.underlying tS = some (.slice e)) (hinfo : (Tryd.prog.info? e).map (fun i => (i.zero, i.size, i.bytes)) = some (some z, k, bytes)) (hzs : z.cells.size = k) (hk : 0 < k) (hby : bytes ≤ 1000)
    (ho : o.op = .call { callee := .builtin .append, args := #[s, x], argTypes := #[tS, tS] }) (base : Nat) (v : Value) (n : Nat) (zs : List Int) (hs : a.eval s = v) (hown : OwnF e base w v n k zs)
    (b : Nat) (ys : List Int) (hx : a.eval x = .slice (some ⟨b, 0, none⟩) 1 1) (hb : w.heap[b]? = some (.cells (ints ys).toArray e (0, 0))) (hyl : ys.length = k) (hy : ∀ y ∈ ys, i64 y) (hn : n ≤ 100000) (hbase : base ≤ w.heap.size)
    (h : ∀ v' w', OwnF e base w' v' (n + 1) k (zs ++ ys) → w.grownBy w' v.ownBlock → wpList Tryd.prog ops Q rest (a.put o.dst v') w') : wpList Tryd.prog ops Q (o :: rest) a w := by
  obtain ⟨i0, hi, hz0, hz1, hz2⟩ := info_parts hinfo
  have hbig : (n + 1) * bytes ≤ 140737488355328 := Nat.le_trans (Nat.mul_le_mul (show n + 1 ≤ 100001 by omega) hby) (by decide)
  refine wpList_append_own w hgd s x tS ho base e i0 z k bytes ht hi hz0 hz1 hz2 hzs hk v n (ints zs) hs hown.1 ⟨b, 0, none⟩ 1 1 (ints ys) hx (by rw [ints_len]; omega) ?_ ints_one (by unfold maxLen; omega) hbig hbase ?_
  · intro j u hj
    have hadd : (⟨b, 0, none⟩ : Addr).add j = ⟨b, j, none⟩ := by unfold Addr.add; split <;> simp_all
    rw [hadd, cell_of_row w b j _ _ (0, 0) hb]
    simpa using hj
  · intro v' w' h1 h2 _
    refine h v' w' ⟨?_, fun q hq => ?_⟩ h2
    · rw [ints_app]
      exact h1
    · rw [List.mem_append] at hq
      rcases hq with hq | hq
      · exact hown.2 q hq
      · exact hy q hq

theorem fl3_set : ∀ (S : List Sp) (j : Nat) (t : Int), j < S.length → (fl3 S).set (j * 3 + 2) t = fl3 (S.set j ⟨(sp S j).m, (sp S j).f, t⟩)
  | [], j, t, h => by simp at h
  | s :: S, 0, t, h => rfl
  | s :: S, j + 1, t, h => by
    have ih := fl3_set S j t (by simpa using h)
    have e : fl3 (s :: S) = s.m :: s.f :: s.t :: fl3 S := rfl
    have q : sp (s :: S) (j + 1) = sp S j := rfl
    rw [e, q, show (j + 1) * 3 + 2 = j * 3 + 2 + 1 + 1 + 1 by omega, List.set_cons_succ, List.set_cons_succ, List.set_cons_succ, List.set_cons_succ, ih]
    rfl
theorem runF_zero {R : List Sp} {i x : Int} (h : x = 0) : runF R i x = R := by unfold runF; rw [if_pos h]
theorem runF_long {R : List Sp} {i x : Int} (h : x ≠ 0) (h1 : 0 < R.length) (h2 : (sp R (R.length - 1)).t = i) (h3 : (sp R (R.length - 1)).m = x) : runF R i x = R.set (R.length - 1) ⟨(sp R (R.length - 1)).m, (sp R (R.length - 1)).f, i + 1⟩ := by
  unfold runF; rw [if_neg h, if_pos ⟨h1, h2, h3⟩]
theorem runF_new {R : List Sp} {i x : Int} (h : x ≠ 0) (h1 : ¬ (0 < R.length ∧ (sp R (R.length - 1)).t = i ∧ (sp R (R.length - 1)).m = x)) : runF R i x = R ++ [⟨x, i, i + 1⟩] := by
  unfold runF; rw [if_neg h, if_neg h1]
theorem runsN_len (l : List Int) : ∀ k, (runsN l k).length ≤ k
  | 0 => Nat.le_refl _
  | k + 1 => by
    have ih := runsN_len l k
    unfold runsN runF
    split
    · omega
    · split
      · rw [List.length_set]; omega
      · rw [List.length_append]; simp; omega

/-- It hands spans back that it owns; nothing old has turned. -/
def NewSp (w : World) (S : List Sp) (e : Ending) (w' : World) : Prop := ∃ v', e = .returned v' ∧ OwnSp w.heap.size w' v' S ∧ Below w.heap.size w w'

theorem OwnSp.set_ {base : Nat} {w : World} {g cap : Nat} {S : List Sp} (h : OwnSp base w (.slice (some ⟨g, 0, none⟩) S.length cap) S) {j : Nat} (hj : j < S.length) {t : Int} (ht : i64 t) :
    OwnSp base (w.setCell ⟨g, j * 3 + 2, none⟩ (.int .i64 t)) (.slice (some ⟨g, 0, none⟩) S.length cap) (S.set j ⟨(sp S j).m, (sp S j).f, t⟩) := by
  obtain ⟨h1, h2⟩ := h
  have q := (World.ownsRow.stored h1 (j * 3 + 2) (.int .i64 t)).1
  rw [ints_set, fl3_set S j t hj] at q
  refine ⟨by rw [List.length_set]; exact q, fun x hx => ?_⟩
  rw [← fl3_set S j t hj] at hx
  rcases List.mem_or_eq_of_mem_set hx with hx | rfl
  · exact h2 x hx
  · exact ht

set_option maxRecDepth 100000 in
set_option maxHeartbeats 4000000 in
theorem spans_any {v : Value} {l : List Int} (w : World) (h : Ints w v l) (hn : l.length ≤ 10000) :
    Calls Tryd.prog 76 #[v] w (NewSp w (runs l)) := by
  obtain ⟨a, cap, rfl, hlc, hcap, hc⟩ := h.open_
  have H := Lib.hid hc
  obtain ⟨n, hnn⟩ : ∃ n, n = l.length := ⟨_, rfl⟩
  rw [← hnn] at hlc hn ⊢
  have HL := Lib.hid (runsN_len l)
  have HR : Hid (runsN l n = runs l) := by show _ = _; rw [hnn]; rfl
  replace hnn := Lib.hid hnn
  clear hc h
  go_enter Tryd.func76, Tryd.ntmps76
  go_wp2_with fail
  go_loopw [3, 4] (fun t i wr => ∃ k : Nat, k ≤ n ∧ i = .int .i64 k ∧ Hid (OwnSp w.heap.size wr t (runsN l k)) ∧ Below w.heap.size w wr) (fun _ i _ => n - (RowKit.intOf i).toNat)
  case atStart => exact ⟨0, Nat.zero_le _, rfl, OwnF.nil_ _ _ _ _, Below.refl _ _⟩
  case round =>
    obtain ⟨k, hk, rfl, HO, hbel⟩ := hrel
    obtain ⟨R, hRR⟩ : ∃ R, R = runsN l k := ⟨_, rfl⟩
    have hrl : R.length ≤ k := by rw [hRR]; exact HL.out k
    rw [← hRR] at HO
    obtain ⟨ao, co, rfl⟩ := HO.out.is_slice
    have hbs := hbel.size
    by_cases hlt : k < n
    · have hkl : k < l.length := by rw [← hnn.out]; exact hlt
      obtain ⟨b, off, rfl, hb, ⟨hx1, hx2⟩, hcell⟩ := H.out k hkl
      have EQ : Hid (runsN l (k + 1) = runF R k (at_ l k)) := by show _ = _; rw [hRR]; rfl
      generalize at_ l k = x at *
      have hcw := below_cell hbel hb hcell
      have HB := Lib.hid hbel
      have kz : (0 : Int) ≤ (k : Int) := by omega
      have kz2 : (k : Int) < (n : Int) := by omega
      clear H hbel hcell hRR
      by_cases q0 : x = 0
      · have EN : Hid (OwnSp w.heap.size wr (.slice ao R.length co) (runsN l (k + 1))) := by
          have := HO.out
          rw [EQ.out, runF_zero q0]
          exact this
        subst q0
        have d0 : ((0 : Int) == 0) = true := by rfl
        clear HO EQ
        go_wp2_with fail
        go_roundw
        case rel => exact ⟨k + 1, by omega, by go_num, EN.out, HB.out⟩
        case measure => simp [RowKit.intOf]; omega
      · have d0 : (x == 0) = false := by simpa using q0
        by_cases hr0 : R.length = 0
        · obtain rfl : R = [] := List.eq_nil_of_length_eq_zero hr0
          clear hr0
          have EN := Lib.hid (EQ.out.trans (runF_new q0 (fun hc => by simp at hc)))
          have e0 : decide ((0 : Int) < ((0 : Nat) : Int)) = false := by decide
          have e1 : decide (0 < 0) = false := by decide
          go_wp2_with fail
          go_quiet (fail)
          obtain ⟨W2, hW2⟩ : ∃ W2, W2 = wr.drewN nq := ⟨_, rfl⟩
          rw [← hW2]
          have b2 : Below wr.heap.size wr W2 := by rw [hW2]; exact below_drews (Below.refl _ _) _
          have HB2 := Lib.hid (below_more HB.out b2)
          have hs2 := HB2.out.size
          have A1 := Lib.hid ((HO.out.below b2).below ((Below.refl _ W2).alloc (Nat.le_refl _) (.cells #[.int .i64 x, .int .i64 k, .int .i64 ((k : Int) + 1)] 104)))
          have A2 := Lib.hid (heap_alloc_new W2 (.cells #[.int .i64 x, .int .i64 k, .int .i64 ((k : Int) + 1)] 104))
          have A3 : Hid (0 ≤ 100000) := Nat.zero_le _
          have A4 : Hid (w.heap.size ≤ (W2.alloc (.cells #[.int .i64 x, .int .i64 k, .int .i64 ((k : Int) + 1)] 104)).heap.size) := by show _ ≤ _; simp; omega
          have A5 : Hid (∀ q ∈ [x, (k : Int), (k : Int) + 1], i64 q) := fun q hq => by
            simp at hq
            rcases hq with rfl | rfl | rfl
            · exact ⟨hx1, hx2⟩
            · exact ⟨by omega, by omega⟩
            · exact ⟨by omega, by omega⟩
          have cw2 := below_cell b2 (World.block_lt_of_cell? _ _ hcw) hcw
          clear b2 hW2 hcw
          go_wp2_with (at_builtin; refine wpList_append_rec rfl _ _ 22 104 3 24 _ Tryd.underlying22 infoSpan rfl (by decide) (by decide) rfl w.heap.size _ 0 _ rfl A1.out W2.heap.size [x, (k : Int), (k : Int) + 1] rfl A2.out rfl A5.out A3.out A4.out ?_)
          intro v5 w5 h5 g5
          have K5 : Hid (OwnSp w.heap.size w5 v5 (runsN l (k + 1))) := by
            rw [EN.out]
            exact h5
          have B5 := Lib.hid ((HB2.out.alloc hs2 _).grown g5 A4.out (fun q e => (A1.out.block q e).1))
          obtain ⟨a5, c5, rfl⟩ := K5.out.is_slice
          clear h5 g5 A1 A2 A3 A4 A5 EN EQ HO
          go_wp2_with fail
          go_roundw
          case rel => exact ⟨k + 1, by omega, by go_num, K5.out, B5.out⟩
          case measure => simp [RowKit.intOf]; omega
        · obtain ⟨g, rfl⟩ : ∃ g, ao = some ⟨g, 0, none⟩ := by
            rcases HO.out.1.2 with ⟨_, h0⟩ | ⟨g, cap', cur, hv, _⟩
            · exact absurd h0 hr0
            · injection hv with hv
              exact ⟨g, hv⟩
          have hrp : 0 < R.length := by omega
          obtain ⟨b', off', e', hb', ⟨⟨g1, g2⟩, ⟨g3, g4⟩, ⟨g5, g6⟩⟩, p0, p1, p2⟩ : ∃ b off, some (⟨g, 0, none⟩ : Addr) = some ⟨b, off, none⟩ ∧ b < wr.heap.size ∧ Sp.good (sp R (R.length - 1)) ∧
              wr.cell? ⟨b, off + (R.length - 1) * 3, none⟩ = some (.int .i64 (sp R (R.length - 1)).m) ∧ wr.cell? ⟨b, off + (R.length - 1) * 3 + 1, none⟩ = some (.int .i64 (sp R (R.length - 1)).f) ∧ wr.cell? ⟨b, off + (R.length - 1) * 3 + 2, none⟩ = some (.int .i64 (sp R (R.length - 1)).t) := by
            obtain ⟨a, cap, hv, _, _, hq⟩ := HO.out.spans.open_
            injection hv with hv
            obtain ⟨b, off, e, r⟩ := hq (R.length - 1) (by omega)
            exact ⟨b, off, hv.trans e, r⟩
          injection e' with e'
          injection e' with e1 e2
          subst e1 e2
          rw [Nat.zero_add] at p0 p1 p2
          have RL := Lib.hid (runF_long (R := R) (i := (k : Int)) (x := x) q0 hrp)
          have RN := Lib.hid (runF_new (R := R) (i := (k : Int)) (x := x) q0)
          have OS := Lib.hid (fun (W : World) (hO : OwnSp w.heap.size W (.slice (some ⟨g, 0, none⟩) R.length co) R) => hO.set_ (j := R.length - 1) (by omega) (t := (k : Int) + 1) ⟨by omega, by omega⟩)
          generalize hlast : sp R (R.length - 1) = s at *
          obtain ⟨pm, pf, pt⟩ := s
          simp only at g1 g2 g3 g4 g5 g6 p0 p1 p2 RL RN OS
          have ed : decide ((0 : Int) < (R.length : Int)) = true := by simp; omega
          have en : decide (0 < R.length) = true := by simp; omega
          have z1 : IntKind.i64.wrap ((R.length : Int) - 1) = (R.length : Int) - 1 := IntWalk.i64_in _ (by omega)
          have z6 : (1 : Int) ≤ (R.length : Int) := by omega
          have z3 : (0 : Int) ≤ (R.length : Int) - 1 := by omega
          have z5 : (R.length : Int) - 1 < (R.length : Int) := by omega
          have z4 : ((R.length : Int) - 1).toNat = R.length - 1 := by omega
          have lg : w.heap.size ≤ g := (HO.out.block g rfl).1
          by_cases c1 : pt = (k : Int)
          · have d1 : (pt == (k : Int)) = true := by simpa using c1
            by_cases c2 : pm = x
            · have d2 : (pm == x) = true := by simpa using c2
              have EN := Lib.hid (EQ.out.trans (RL.out c1 c2))
              clear RL RN EQ c1 c2 hr0
              go_wp2_with fail
              go_quiet (fail)
              obtain ⟨W2, hW2⟩ : ∃ W2, W2 = wr.drewN nq := ⟨_, rfl⟩
              rw [← hW2]
              have b2 : Below wr.heap.size wr W2 := by rw [hW2]; exact below_drews (Below.refl _ _) _
              have HB2 := Lib.hid ((below_more HB.out b2).setCell (p := ⟨g, (R.length - 1) * 3 + 2, none⟩) lg (.int .i64 ((k : Int) + 1)))
              have y2 := below_cell b2 hb' p2
              have fz : W2.frozen? ⟨g, (R.length - 1) * 3 + 2, none⟩ = false := World.ownsRow.frozenAt (HO.out.below b2).1 _
              have K5 : Hid (OwnSp w.heap.size (W2.setCell ⟨g, (R.length - 1) * 3 + 2, none⟩ (.int .i64 ((k : Int) + 1))) (.slice (some ⟨g, 0, none⟩) R.length co) (runsN l (k + 1))) := by
                rw [EN.out]
                exact OS.out W2 (HO.out.below b2)
              clear b2 hW2 hcw p0 p1 p2 EN HO OS
              go_wp2_with fail
              go_roundw
              case rel => exact ⟨k + 1, by omega, by go_num, K5.out, HB2.out⟩
              case measure => simp [RowKit.intOf]; omega
            · have d2 : (pm == x) = false := by simpa using c2
              have EN := Lib.hid (EQ.out.trans (RN.out (fun hc => c2 hc.2.2)))
              clear RL RN c1 c2 hr0 OS
              go_wp2_with fail
              go_quiet (fail)
              obtain ⟨W2, hW2⟩ : ∃ W2, W2 = wr.drewN nq := ⟨_, rfl⟩
              rw [← hW2]
              have b2 : Below wr.heap.size wr W2 := by rw [hW2]; exact below_drews (Below.refl _ _) _
              have HB2 := Lib.hid (below_more HB.out b2)
              have hs2 := HB2.out.size
              have A1 := Lib.hid ((HO.out.below b2).below ((Below.refl _ W2).alloc (Nat.le_refl _) (.cells #[.int .i64 x, .int .i64 k, .int .i64 ((k : Int) + 1)] 104)))
              have A2 := Lib.hid (heap_alloc_new W2 (.cells #[.int .i64 x, .int .i64 k, .int .i64 ((k : Int) + 1)] 104))
              have A3 : Hid (R.length ≤ 100000) := by show _ ≤ _; omega
              have A4 : Hid (w.heap.size ≤ (W2.alloc (.cells #[.int .i64 x, .int .i64 k, .int .i64 ((k : Int) + 1)] 104)).heap.size) := by show _ ≤ _; simp; omega
              have A5 : Hid (∀ q ∈ [x, (k : Int), (k : Int) + 1], i64 q) := fun q hq => by
                simp at hq
                rcases hq with rfl | rfl | rfl
                · exact ⟨hx1, hx2⟩
                · exact ⟨by omega, by omega⟩
                · exact ⟨by omega, by omega⟩
              have cw2 := below_cell b2 (World.block_lt_of_cell? _ _ hcw) hcw
              clear b2 hW2 hcw z1 z3 z4 z5
              go_wp2_with (at_builtin; refine wpList_append_rec rfl _ _ 22 104 3 24 _ Tryd.underlying22 infoSpan rfl (by decide) (by decide) rfl w.heap.size _ R.length _ rfl A1.out W2.heap.size [x, (k : Int), (k : Int) + 1] rfl A2.out rfl A5.out A3.out A4.out ?_)
              intro v5 w5 h5 g5
              have K5 : Hid (OwnSp w.heap.size w5 v5 (runsN l (k + 1))) := by
                rw [EN.out]
                unfold OwnSp
                rw [fl3_app, List.length_append]
                exact h5
              have B5 := Lib.hid ((HB2.out.alloc hs2 _).grown g5 A4.out (fun q e => (A1.out.block q e).1))
              obtain ⟨a5, c5, rfl⟩ := K5.out.is_slice
              clear h5 g5 A1 A2 A3 A4 A5 EN EQ HO
              go_wp2_with fail
              go_roundw
              case rel => exact ⟨k + 1, by omega, by go_num, K5.out, B5.out⟩
              case measure => simp [RowKit.intOf]; omega
          · have d1 : (pt == (k : Int)) = false := by simpa using c1
            have EN := Lib.hid (EQ.out.trans (RN.out (fun hc => c1 hc.2.1)))
            clear RL RN c1 hr0 OS
            go_wp2_with fail
            go_quiet (fail)
            obtain ⟨W2, hW2⟩ : ∃ W2, W2 = wr.drewN nq := ⟨_, rfl⟩
            rw [← hW2]
            have b2 : Below wr.heap.size wr W2 := by rw [hW2]; exact below_drews (Below.refl _ _) _
            have HB2 := Lib.hid (below_more HB.out b2)
            have hs2 := HB2.out.size
            have A1 := Lib.hid ((HO.out.below b2).below ((Below.refl _ W2).alloc (Nat.le_refl _) (.cells #[.int .i64 x, .int .i64 k, .int .i64 ((k : Int) + 1)] 104)))
            have A2 := Lib.hid (heap_alloc_new W2 (.cells #[.int .i64 x, .int .i64 k, .int .i64 ((k : Int) + 1)] 104))
            have A3 : Hid (R.length ≤ 100000) := by show _ ≤ _; omega
            have A4 : Hid (w.heap.size ≤ (W2.alloc (.cells #[.int .i64 x, .int .i64 k, .int .i64 ((k : Int) + 1)] 104)).heap.size) := by show _ ≤ _; simp; omega
            have A5 : Hid (∀ q ∈ [x, (k : Int), (k : Int) + 1], i64 q) := fun q hq => by
              simp at hq
              rcases hq with rfl | rfl | rfl
              · exact ⟨hx1, hx2⟩
              · exact ⟨by omega, by omega⟩
              · exact ⟨by omega, by omega⟩
            have cw2 := below_cell b2 (World.block_lt_of_cell? _ _ hcw) hcw
            clear b2 hW2 hcw z1 z3 z4 z5
            go_wp2_with (at_builtin; refine wpList_append_rec rfl _ _ 22 104 3 24 _ Tryd.underlying22 infoSpan rfl (by decide) (by decide) rfl w.heap.size _ R.length _ rfl A1.out W2.heap.size [x, (k : Int), (k : Int) + 1] rfl A2.out rfl A5.out A3.out A4.out ?_)
            intro v5 w5 h5 g5
            have K5 : Hid (OwnSp w.heap.size w5 v5 (runsN l (k + 1))) := by
              rw [EN.out]
              unfold OwnSp
              rw [fl3_app, List.length_append]
              exact h5
            have B5 := Lib.hid ((HB2.out.alloc hs2 _).grown g5 A4.out (fun q e => (A1.out.block q e).1))
            obtain ⟨a5, c5, rfl⟩ := K5.out.is_slice
            clear h5 g5 A1 A2 A3 A4 A5 EN EQ HO
            go_wp2_with fail
            go_roundw
            case rel => exact ⟨k + 1, by omega, by go_num, K5.out, B5.out⟩
            case measure => simp [RowKit.intOf]; omega
    · obtain rfl : k = n := by omega
      have HB := Lib.hid hbel
      have HE : Hid (OwnSp w.heap.size wr (.slice ao R.length co) (runs l)) := by
        have := HO.out
        rw [← HR.out, ← hRR]
        exact this
      clear H hbel HO hRR
      go_wp2_with fail
      go_ret
      exact ⟨_, rfl, HE.out, HB.out⟩
end Go.Proofs.YtengmiolcfgdiaaDoor.Rig
