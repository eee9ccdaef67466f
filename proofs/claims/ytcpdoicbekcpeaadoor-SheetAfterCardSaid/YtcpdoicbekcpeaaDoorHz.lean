/- Sheets: After of the program. -/
import Derived.Test.YtcpdoicbekcpeaaDoorHy
import Derived.Test.YtcpdoicbekcpeaaDoorHo
import Derived.Test.YtcpdoicbekcpeaaDoorCg
import Derived.Test.YtcpdoicbekcpeaaDoorHx
import Derived.Deep.RegionHeld3
import Derived.Deep.DeepCutAuto
import Derived.Deep.CutBlock
set_option linter.unusedVariables false
set_option linter.unusedSimpArgs false
set_option maxRecDepth 100000
namespace Go.Proofs.YtcpdoicbekcpeaaDoor.She
open Go.RowKit Go.Lib Go.Shelf Go.Proofs.YtcpdoicbekcpeaaDoor.Rk Go.Proofs.YtcpdoicbekcpeaaDoor.Rt Go.Proofs.YtcpdoicbekcpeaaDoor.Rig Go.Proofs.YtcpdoicbekcpeaaDoor.Seg

theorem sgs_two {w : World} {s u1 u2 x y : Value} {G : List G5} {B : Nat} {ty : TypeId} (h : Sgs w s G) (r : w.heap[B]? = some (.cells #[x, y] ty (0, 0))) (hty : ty ≠ 126) (n1 : ∀ z, x ≠ .int .i64 z) (n2 : ∀ z, y ≠ .int .i64 z) :
    Sgs ((w.setCell ⟨B, 0, none⟩ u1).setCell ⟨B, 1, none⟩ u2) s G := by
  obtain ⟨p, h1, ⟨m1, a, cap, e, m2, m3, m4⟩, h3⟩ := h
  refine ⟨p, h1, ⟨m1, a, cap, e, m2, m3, ?_⟩, fun z hz => ?_⟩
  · rcases m4 with m4 | ⟨b, off, e2, mb, mc⟩
    · exact .inl m4
    · by_cases hx : (p.map Prod.fst) = []
      · exact .inl hx
      · refine .inr ⟨b, off, e2, by simpa using mb, fun j hj i u hu => ?_⟩
        have hne : b ≠ B := by
          intro q
          subst q
          have hz : 0 < (p.map Prod.fst).length := List.length_pos_iff.2 hx
          have hmem := List.getElem_mem hz
          obtain ⟨t, ht, et⟩ := List.mem_map.1 hmem
          obtain ⟨tp, sv, tv, ex, _⟩ := h3 t ht
          have := mc 0 hz 0 (.int .i64 t.2.i) (by rw [← et, ex]; rfl)
          rw [cell_of_row _ _ _ _ _ _ r] at this
          generalize off + 0 * 5 + 0 = o at this
          rcases o with _ | _ | o
          · exact n1 _ (Option.some.inj this)
          · exact n2 _ (Option.some.inj this)
          · simp at this
        rw [← mc j hj i u hu]
        unfold World.cell?
        rw [Below.heap_setCell _ _ _ _ hne, Below.heap_setCell _ _ _ _ hne]
  · obtain ⟨tp, sv, tv, e3, t2, s2, v2, e4, g1, g2, g3⟩ := h3 z hz
    injection e4 with e4
    simp only [Array.mk.injEq, List.cons.injEq, and_true, true_and] at e4
    obtain ⟨rfl, rfl, rfl⟩ := e4
    exact ⟨tp, sv, tv, e3, tp, sv, tv, rfl, rope_put (rope_put g1 r hty) (set_block (i := 0) (u := u1) r) hty, Fl.two g2 r n1 n2, Fl.two g3 r n1 n2⟩
theorem sgs_put {w : World} {v u : Value} {G M : List G5} (h : Sgs w v G) (h' : Sgs w u M) : ∃ xs ys : List (List Value), xs.length = G.length ∧ ys.length = M.length ∧ Rk.RowK 5 w v xs ∧ Rk.RowK 5 w u ys ∧ (∀ x ∈ xs, Five x) ∧ (∀ x ∈ ys, Five x) ∧
    ∀ (s : Value) (w2 : World) (k : Nat), Below w.heap.size w w2 → Rk.RowK 5 w2 s (xs.take (k + 1) ++ ys ++ xs.drop (k + 1)) → Sgs w2 s (putAt G M k) := by
  obtain ⟨p, hp, h1, h2⟩ := h
  obtain ⟨q, hq, h3, h4⟩ := h'
  refine ⟨p.map Prod.fst, q.map Prod.fst, by rw [← hp, List.length_map, List.length_map], by rw [← hq, List.length_map, List.length_map], h1, h3, fun x hx => by obtain ⟨t, ht, rfl⟩ := List.mem_map.1 hx; exact SgC.five (h2 t ht), fun x hx => by obtain ⟨t, ht, rfl⟩ := List.mem_map.1 hx; exact SgC.five (h4 t ht), fun s w2 k hb hr => ?_⟩
  refine ⟨p.take (k + 1) ++ q ++ p.drop (k + 1), by rw [List.map_append, List.map_append, List.map_take, List.map_drop, hp, hq]; rfl, by rw [List.map_append, List.map_append, List.map_take, List.map_drop]; exact hr, fun t ht => ?_⟩
  rcases List.mem_append.1 ht with ht | ht
  · rcases List.mem_append.1 ht with ht | ht
    · exact (h2 t (List.mem_of_mem_take ht)).below hb
    · exact (h4 t ht).below hb
  · exact (h2 t (List.mem_of_mem_drop ht)).below hb
theorem row_three {e : TypeId} {b : Nat} {w : World} {x y z : Value} (hb : w.heap[b]? = some (.cells #[x, y, z] e (0, 0))) : Rk.RowK 1 w (.slice (some ⟨b, 0, none⟩) 3 3) [[x], [y], [z]] := by
  refine ⟨fun v hv => ?_, some ⟨b, 0, none⟩, 3, rfl, Nat.le_refl _, by unfold maxLen; omega, .inr ⟨b, 0, rfl, (Array.getElem?_eq_some_iff.1 hb).1, fun j hj i u hu => ?_⟩⟩
  · simp at hv
    rcases hv with rfl | rfl | rfl <;> rfl
  · rw [cell_of_row w b _ _ _ (0, 0) hb, Nat.zero_add, Nat.mul_one]
    rcases j with _ | _ | _ | j
    · rcases i with _ | i
      · exact hu
      · simp at hu
    · rcases i with _ | i
      · exact hu
      · simp at hu
    · rcases i with _ | i
      · exact hu
      · simp at hu
    · simp at hj; omega
def GiveAS (f : Bool) (G M : List G5) (id : Int) (w : World) (e : Ending) (w' : World) : Prop := ∃ s, e = .returned (.tuple #[.agg #[.bool f, s], .bool (aftB G M id)]) ∧ Sgs w' s (aftG G M id) ∧ Below w.heap.size w w'
theorem give_as_no {f : Bool} {G M : List G5} {id : Int} {w w' : World} {s : Value} (h : placeN G id = none ∨ ¬ newM G M) (hs : Sgs w' s G) (hb : Below w.heap.size w w') : GiveAS f G M id w (.returned (.tuple #[.agg #[.bool f, s], .bool false])) w' := by
  obtain ⟨h1, h2⟩ := aft_no h
  exact ⟨s, by rw [h1], by rw [h2]; exact hs, hb⟩
theorem give_as_yes {f : Bool} {G M : List G5} {id : Int} {w w' : World} {s : Value} {k : Nat} (h : placeN G id = some k) (hn : newM G M) (hs : Sgs w' s (putAt G M k)) (hb : Below w.heap.size w w') : GiveAS f G M id w (.returned (.tuple #[.agg #[.bool f, s], .bool true])) w' := by
  obtain ⟨h1, h2⟩ := aft_yes h hn
  exact ⟨s, by rw [h1], by rw [h2]; exact hs, hb⟩
set_option maxHeartbeats 32000000 in
theorem safter_any {v u : Value} {f : Bool} {G M : List G5} (id : Int) (w : World) (h : Sh w v f G) (h' : Sgs w u M) (hnd : (G.map G5.i).Nodup) (hn : G.length ≤ 4000) (hm : M.length ≤ 4000) : Calls Tryd.prog 40 #[v, .int .i64 id, u] w (GiveAS f G M id w) := by
  obtain ⟨a, c, rfl, hs⟩ := h.open_
  obtain ⟨ma, mc, rfl⟩ := Rk.Rows.is_slice h'
  obtain ⟨_, hcap, hmax⟩ := Rk.Rows.len hs
  obtain ⟨_, hcap', hmax'⟩ := Rk.Rows.len h'
  obtain ⟨xs, ys, hxl, hyl, hx1, hy1, hx5, hy5, hput⟩ := sgs_put hs h'
  have HLa : Hid (G ≠ [] → ∃ b off, a = some ⟨b, off, none⟩) := fun hne => by
    obtain ⟨b, off, _, _, _, _, _, e, _⟩ := hs.get (List.length_pos_iff.2 hne)
    exact ⟨b, off, e⟩
  obtain ⟨B0, R0, R1, L0⟩ := box2 w #[.bool f, .slice a G.length c] #[.bool false, .slice none 0 0] 50 50
  obtain ⟨W0, hW0⟩ : ∃ W0, W0 = (w.alloc (.cells #[.bool f, .slice a G.length c] 50)).alloc (.cells #[.bool false, .slice none 0 0] 50) := ⟨_, rfl⟩
  rw [← hW0] at B0 R0 R1 L0
  have HB0 := Lib.hid B0
  have HW0 := Lib.hid hW0
  have BX : Hid (∀ w', Below W0.heap.size W0 w' → Below W0.heap.size W0 w' ∧ w'.cell? ⟨w.heap.size, 0, none⟩ = some (.bool f) ∧ w'.cell? ⟨w.heap.size, 1, none⟩ = some (.slice a G.length c)) := fun w' hb => by
    have r0 := (hb.block w.heap.size (by omega)).trans R0
    exact ⟨hb, (two_cells r0).1, (two_cells r0).2.1⟩
  have RX : Hid (∀ w', Below W0.heap.size W0 w' → w'.heap[w.heap.size + 1]? = some (.cells #[.bool false, .slice none 0 0] 50 (0, 0))) := fun w' hb => (hb.block (w.heap.size + 1) (by omega)).trans R1
  have KR : Hid (Below W0.heap.size W0 W0) := Below.refl _ _
  have KF : Hid (∀ w', Below W0.heap.size W0 w' → Below w.heap.size w w') := fun w' hb => below_more HB0.out hb
  have HS : Hid (∀ w', Below w.heap.size w w' → Sgs w' (.slice a G.length c) G) := fun w' hb => hs.below hb
  have CX := Lib.hid (index_any id W0 (h.below B0))
  have HX1 := Lib.hid hx1
  have HY1 := Lib.hid hy1
  have HXO : Hid (∀ x ∈ xs, ∀ u ∈ x, u.oneCell' = true) := fun x hx => (hx5 x hx).2.2
  have HYO : Hid (∀ x ∈ ys, ∀ u ∈ x, u.oneCell' = true) := fun x hx => (hy5 x hx).2.2
  have HPUT := Lib.hid hput
  have HND := Lib.hid hnd
  obtain ⟨n, hnG⟩ : ∃ n, n = G.length := ⟨_, rfl⟩
  obtain ⟨m, hmM⟩ : ∃ m, m = M.length := ⟨_, rfl⟩
  rw [← hnG] at hcap hn hxl HX1 BX HS CX HW0 ⊢
  rw [← hmM] at hcap' hm hyl HY1 ⊢
  unfold maxLen at hmax hmax'
  have HN := Lib.hid hnG
  have HM := Lib.hid hmM
  obtain ⟨x0, x1⟩ := (BX.out _ KR.out).2
  clear h hs h' hnG hmM hx1 hy1 hx5 hy5 hput hnd R0 R1 B0 hW0 L0
  go_enter Tryd.func40, Tryd.ntmps40
  go_upto_region 1 with fail
  rw [← HW0.out]
  go_wp2_with fail
  refine (CX.out).mono ?_
  rintro e w1 ⟨rfl, b1⟩
  have K1 := Lib.hid b1
  clear b1 x0 x1
  obtain ⟨_, x0, x1⟩ := BX.out _ K1.out
  have Z1 := RX.out _ K1.out
  cases hp : placeN G id with
  | none =>
    have hpI := placeI_no hp
    obtain ⟨s0, s1, f0, f1⟩ := two_cells Z1
    have y := two_cells (two_put (u := .bool f) (v := .slice a n c) Z1)
    obtain ⟨y0, y1, _, _⟩ := y
    have HBF : Below w.heap.size w ((w1.setCell ⟨w.heap.size + 1, 0, none⟩ (.bool f)).setCell ⟨w.heap.size + 1, 1, none⟩ (.slice a n c)) := below_put (below_put (KF.out _ K1.out) (by omega) _) (by omega) _
    have FIN := Lib.hid (give_as_no (f := f) (M := M) (.inl hp) (HS.out _ HBF) HBF)
    rw [hpI]
    clear hp hpI Z1 HBF CX
    go_wp2_with fail
    exact bodyPost_ret (v := .tuple #[.agg #[.bool f, .slice a n c], .bool false]) (by simp [results, Tryd.results40, go_sem, y0, y1]) rfl FIN.out
  | some t =>
    have hpI := placeI_yes hp
    obtain ⟨ht, _, _⟩ := place_lt hp
    obtain ⟨b, off, rfl⟩ := HLa.out (fun q => by rw [q] at ht; simp at ht)
    rw [← HN.out] at ht
    have HPL := Lib.hid hp
    rw [hpI]
    have z1 : IntKind.i64.wrap ((t : Int) + 1) = (t : Int) + 1 := IntWalk.i64_in _ (by omega)
    have j0 : ¬ ((t : Int) < 0) := by omega
    have i2 : (0 : Int) ≤ (t : Int) + 1 := by omega
    have i3 : (t : Int) + 1 ≤ (c : Int) := by omega
    have i4 : (t : Int) + 1 ≤ (n : Int) := by omega
    have j5 : ¬ (c = 0) := by omega
    have j6 : ¬ (0 = c) := by omega
    have A1 : Hid (∀ w', Below w.heap.size w w' → Rk.RowK 5 w' (.slice (some ⟨b, off, none⟩) (t + 1) c) (xs.take (t + 1))) := fun w' hb => rowk_first (t + 1) (HX1.out.below hb (Nat.le_refl _)) (by omega)
    clear hp hpI Z1 CX HLa
    by_cases hlc : t + 1 = c
    · have hdr : Hid (xs.drop (t + 1) = []) := List.eq_nil_of_length_eq_zero (by rw [List.length_drop]; omega)
      have hn1 : n = t + 1 := by omega
      subst hlc
      subst hn1
      have HRs : Hid (∀ w', Below w.heap.size w w' → ∀ r ∈ [((Value.slice (some ⟨b, off, none⟩) (t + 1) (t + 1)), xs.take (t + 1)), ((Value.slice ma m mc), ys), ((Value.slice (some ⟨b, off, none⟩) 0 0), xs.drop (t + 1))], Rk.RowK 5 w' r.1 r.2) := fun w' hb r hr => by
        simp at hr
        rcases hr with rfl | rfl | rfl
        · exact A1.out w' hb
        · exact HY1.out.below hb (Nat.le_refl _)
        · show Rk.RowK 5 w' (.slice (some ⟨b, off, none⟩) 0 0) (xs.drop (t + 1))
          rw [hdr.out]
          exact ⟨fun _ h => by simp at h, _, _, rfl, Nat.zero_le _, by omega, .inl rfl⟩
      have HRo : Hid (∀ r ∈ [((Value.slice (some ⟨b, off, none⟩) (t + 1) (t + 1)), xs.take (t + 1)), ((Value.slice ma m mc), ys), ((Value.slice (some ⟨b, off, none⟩) 0 0), xs.drop (t + 1))], ∀ x ∈ r.2, ∀ q ∈ x, q.oneCell' = true) := fun r hr => by
        simp at hr
        rcases hr with rfl | rfl | rfl
        · exact fun x hx => HXO.out x (List.mem_of_mem_take hx)
        · exact HYO.out
        · exact fun x hx => HXO.out x (List.mem_of_mem_drop hx)
      have HRn : Hid ((([((Value.slice (some ⟨b, off, none⟩) (t + 1) (t + 1)), xs.take (t + 1)), ((Value.slice ma m mc), ys), ((Value.slice (some ⟨b, off, none⟩) 0 0), xs.drop (t + 1))]).map fun r : Value × List (List Value) => r.2.length).sum ≤ 50000) := by
        show _ ≤ _
        simp
        omega
      go_upto_region 4 with fail
      go_region_held3 (fun w' => Below W0.heap.size W0 w' ∧ w'.cell? ⟨w.heap.size, 0, none⟩ = some (.bool f) ∧ w'.cell? ⟨w.heap.size, 1, none⟩ = some (.slice (some ⟨b, off, none⟩) (t + 1) (t + 1)))
        ((refine BX.out _ ?_; focus ((repeat first | with_reducible assumption | with_reducible exact K1.out | with_reducible apply Below.drew | with_reducible apply below_drews | with_reducible apply below_al); done)))
        ((go_at_call 85; (with_reducible refine (Go.Proofs.YtcpdoicbekcpeaaDoor.Cg.concat_any [((Value.slice (some ⟨b, off, none⟩) (t + 1) (t + 1)), xs.take (t + 1)), ((Value.slice ma m mc), ys), ((Value.slice (some ⟨b, off, none⟩) 0 0), xs.drop (t + 1))] _ ?_ (HRs.out _ (KF.out _ ?_)) HRo.out HRn.out).mono ?_); (focus (refine row_three (e := 48) ?_; refine al_newx _ ?_; simp [drew_sz]; done)); (focus ((repeat first | with_reducible assumption | with_reducible exact K1.out | with_reducible apply Below.drew | with_reducible apply below_drews | with_reducible apply below_al); done)); rintro e wc ⟨vc, rfl, hc, bc⟩; have kc := fun h => below_more (w := W0) h bc; replace kc := kc (by (repeat first | with_reducible assumption | with_reducible exact K1.out | with_reducible apply Below.drew | with_reducible apply below_drews | with_reducible apply below_al))))
      have KC := Lib.hid kc
      have HCp : Hid (Sgs wc vc (putAt G M t)) := HPUT.out _ _ t (KF.out _ kc) (by have := hc.row; simp only [List.map_cons, List.map_nil, List.flatten_cons, List.flatten_nil, List.append_nil] at this; rw [List.append_assoc]; exact this)
      obtain ⟨ca, cc, rfl⟩ := Rk.Rows.is_slice HCp.out
      obtain ⟨mq, hmq⟩ : ∃ mq, mq = (putAt G M t).length := ⟨_, rfl⟩
      rw [← hmq] at HCp ⊢
      have CU := Lib.hid (unlike_any wc HCp.out (by rw [put_len, ← HN.out, ← HM.out]; omega))
      have HDEC : Hid (decide ((putAt G M t).map G5.i).Nodup = true ↔ newM G M) := by
        show _ ↔ _
        rw [decide_eq_true_iff]
        exact put_nodup t HND.out
      clear hc bc kc hmq
      go_wp2_with fail
      refine (CU.out).mono ?_
      rintro e w5 ⟨rfl, b5⟩
      have K5 := Lib.hid (below_more KC.out b5)
      have HC5 := Lib.hid (HCp.out.below b5)
      have Z5 := RX.out _ K5.out
      obtain ⟨_, x0, x1⟩ := BX.out _ K5.out
      obtain ⟨s0, s1, f0, f1⟩ := two_cells Z5
      clear b5
      cases hd : decide ((putAt G M t).map G5.i).Nodup with
      | false =>
        have hnn : ¬ newM G M := fun q => by have := HDEC.out.2 q; rw [hd] at this; cases this
        have y := two_cells (two_put (u := .bool f) (v := .slice (some ⟨b, off, none⟩) (t + 1) (t + 1)) Z5)
        obtain ⟨y0, y1, _, _⟩ := y
        have HBF : Below w.heap.size w ((w5.setCell ⟨w.heap.size + 1, 0, none⟩ (.bool f)).setCell ⟨w.heap.size + 1, 1, none⟩ (.slice (some ⟨b, off, none⟩) (t + 1) (t + 1))) := below_put (below_put (KF.out _ K5.out) (by omega) _) (by omega) _
        have FIN := Lib.hid (give_as_no (f := f) (id := id) (.inr hnn) (HS.out _ HBF) HBF)
        clear hd hnn Z5 HBF
        go_wp2_with fail
        exact bodyPost_ret (v := .tuple #[.agg #[.bool f, .slice (some ⟨b, off, none⟩) (t + 1) (t + 1)], .bool false]) (by simp [results, Tryd.results40, go_sem, y0, y1]) rfl FIN.out
      | true =>
        have hnn : newM G M := HDEC.out.1 hd
        have y := two_cells (two_put (u := .bool f) (v := .slice ca mq cc) Z5)
        obtain ⟨y0, y1, _, _⟩ := y
        have HBF : Below w.heap.size w ((w5.setCell ⟨w.heap.size + 1, 0, none⟩ (.bool f)).setCell ⟨w.heap.size + 1, 1, none⟩ (.slice ca mq cc)) := below_put (below_put (KF.out _ K5.out) (by omega) _) (by omega) _
        have FIN := Lib.hid (give_as_yes (f := f) HPL.out hnn (sgs_two (u1 := .bool f) (u2 := .slice ca mq cc) HC5.out Z5 (by decide) (fun z h => by cases h) (fun z h => by cases h)) HBF)
        clear hd hnn Z5 HBF
        go_wp2_with fail
        exact bodyPost_ret (v := .tuple #[.agg #[.bool f, .slice ca mq cc], .bool true]) (by simp [results, Tryd.results40, go_sem, y0, y1]) rfl FIN.out
    · have hlc2 : ¬ (c = t + 1) := fun e => hlc e.symm
      have HRs : Hid (∀ w', Below w.heap.size w w' → ∀ r ∈ [((Value.slice (some ⟨b, off, none⟩) (t + 1) c), xs.take (t + 1)), ((Value.slice ma m mc), ys), ((Value.slice (some ⟨b, off + (t + 1) * 5, none⟩) (n - (t + 1)) (c - (t + 1))), xs.drop (t + 1))], Rk.RowK 5 w' r.1 r.2) := fun w' hb r hr => by
        simp at hr
        rcases hr with rfl | rfl | rfl
        · exact A1.out w' hb
        · exact HY1.out.below hb (Nat.le_refl _)
        · exact rowk_drop (t + 1) (HX1.out.below hb (Nat.le_refl _)) (by omega)
      have HRo : Hid (∀ r ∈ [((Value.slice (some ⟨b, off, none⟩) (t + 1) c), xs.take (t + 1)), ((Value.slice ma m mc), ys), ((Value.slice (some ⟨b, off + (t + 1) * 5, none⟩) (n - (t + 1)) (c - (t + 1))), xs.drop (t + 1))], ∀ x ∈ r.2, ∀ q ∈ x, q.oneCell' = true) := fun r hr => by
        simp at hr
        rcases hr with rfl | rfl | rfl
        · exact fun x hx => HXO.out x (List.mem_of_mem_take hx)
        · exact HYO.out
        · exact fun x hx => HXO.out x (List.mem_of_mem_drop hx)
      have HRn : Hid ((([((Value.slice (some ⟨b, off, none⟩) (t + 1) c), xs.take (t + 1)), ((Value.slice ma m mc), ys), ((Value.slice (some ⟨b, off + (t + 1) * 5, none⟩) (n - (t + 1)) (c - (t + 1))), xs.drop (t + 1))]).map fun r : Value × List (List Value) => r.2.length).sum ≤ 50000) := by
        show _ ≤ _
        simp
        omega
      go_upto_region 4 with fail
      go_region_held3 (fun w' => Below W0.heap.size W0 w' ∧ w'.cell? ⟨w.heap.size, 0, none⟩ = some (.bool f) ∧ w'.cell? ⟨w.heap.size, 1, none⟩ = some (.slice (some ⟨b, off, none⟩) n c))
        ((refine BX.out _ ?_; focus ((repeat first | with_reducible assumption | with_reducible exact K1.out | with_reducible apply Below.drew | with_reducible apply below_drews | with_reducible apply below_al); done)))
        ((go_at_call 85; (refine (Go.Proofs.YtcpdoicbekcpeaaDoor.Cg.concat_any [((Value.slice (some ⟨b, off, none⟩) (t + 1) c), xs.take (t + 1)), ((Value.slice ma m mc), ys), ((Value.slice (some ⟨b, off + (t + 1) * 5, none⟩) (n - (t + 1)) (c - (t + 1))), xs.drop (t + 1))] _ ?_ (HRs.out _ (KF.out _ ?_)) HRo.out HRn.out).mono ?_); (focus (refine row_three (e := 48) ?_; refine al_newx _ ?_; simp [drew_sz]; done)); (focus ((repeat first | with_reducible assumption | with_reducible exact K1.out | with_reducible apply Below.drew | with_reducible apply below_drews | with_reducible apply below_al); done)); rintro e wc ⟨vc, rfl, hc, bc⟩; have kc := fun h => below_more (w := W0) h bc; replace kc := kc (by (repeat first | with_reducible assumption | with_reducible exact K1.out | with_reducible apply Below.drew | with_reducible apply below_drews | with_reducible apply below_al))))
      have KC := Lib.hid kc
      have HCp : Hid (Sgs wc vc (putAt G M t)) := HPUT.out _ _ t (KF.out _ kc) (by have := hc.row; simp only [List.map_cons, List.map_nil, List.flatten_cons, List.flatten_nil, List.append_nil] at this; rw [List.append_assoc]; exact this)
      obtain ⟨ca, cc, rfl⟩ := Rk.Rows.is_slice HCp.out
      obtain ⟨mq, hmq⟩ : ∃ mq, mq = (putAt G M t).length := ⟨_, rfl⟩
      rw [← hmq] at HCp ⊢
      have CU := Lib.hid (unlike_any wc HCp.out (by rw [put_len, ← HN.out, ← HM.out]; omega))
      have HDEC : Hid (decide ((putAt G M t).map G5.i).Nodup = true ↔ newM G M) := by
        show _ ↔ _
        rw [decide_eq_true_iff]
        exact put_nodup t HND.out
      clear hc bc kc hmq
      go_wp2_with fail
      refine (CU.out).mono ?_
      rintro e w5 ⟨rfl, b5⟩
      have K5 := Lib.hid (below_more KC.out b5)
      have HC5 := Lib.hid (HCp.out.below b5)
      have Z5 := RX.out _ K5.out
      obtain ⟨_, x0, x1⟩ := BX.out _ K5.out
      obtain ⟨s0, s1, f0, f1⟩ := two_cells Z5
      clear b5
      cases hd : decide ((putAt G M t).map G5.i).Nodup with
      | false =>
        have hnn : ¬ newM G M := fun q => by have := HDEC.out.2 q; rw [hd] at this; cases this
        have y := two_cells (two_put (u := .bool f) (v := .slice (some ⟨b, off, none⟩) n c) Z5)
        obtain ⟨y0, y1, _, _⟩ := y
        have HBF : Below w.heap.size w ((w5.setCell ⟨w.heap.size + 1, 0, none⟩ (.bool f)).setCell ⟨w.heap.size + 1, 1, none⟩ (.slice (some ⟨b, off, none⟩) n c)) := below_put (below_put (KF.out _ K5.out) (by omega) _) (by omega) _
        have FIN := Lib.hid (give_as_no (f := f) (id := id) (.inr hnn) (HS.out _ HBF) HBF)
        clear hd hnn Z5 HBF
        go_wp2_with fail
        exact bodyPost_ret (v := .tuple #[.agg #[.bool f, .slice (some ⟨b, off, none⟩) n c], .bool false]) (by simp [results, Tryd.results40, go_sem, y0, y1]) rfl FIN.out
      | true =>
        have hnn : newM G M := HDEC.out.1 hd
        have y := two_cells (two_put (u := .bool f) (v := .slice ca mq cc) Z5)
        obtain ⟨y0, y1, _, _⟩ := y
        have HBF : Below w.heap.size w ((w5.setCell ⟨w.heap.size + 1, 0, none⟩ (.bool f)).setCell ⟨w.heap.size + 1, 1, none⟩ (.slice ca mq cc)) := below_put (below_put (KF.out _ K5.out) (by omega) _) (by omega) _
        have FIN := Lib.hid (give_as_yes (f := f) HPL.out hnn (sgs_two (u1 := .bool f) (u2 := .slice ca mq cc) HC5.out Z5 (by decide) (fun z h => by cases h) (fun z h => by cases h)) HBF)
        clear hd hnn Z5 HBF
        go_wp2_with fail
        exact bodyPost_ret (v := .tuple #[.agg #[.bool f, .slice ca mq cc], .bool true]) (by simp [results, Tryd.results40, go_sem, y0, y1]) rfl FIN.out
end Go.Proofs.YtcpdoicbekcpeaaDoor.She
