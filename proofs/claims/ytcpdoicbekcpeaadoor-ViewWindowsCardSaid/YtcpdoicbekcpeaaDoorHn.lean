/- Sheets: where the segment of an Id stands; the row of segments cloned; Segs, Find. -/
import Derived.Test.YtcpdoicbekcpeaaDoorHb
import Derived.Test.YtcpdoicbekcpeaaDoorHm
import Derived.Test.YtcpdoicbekcpeaaDoorHl
import Derived.Test.YtcpdoicbekcpeaaDoorQs
import Derived.Deep.RegionHeld3
import Derived.Deep.DeepCutAuto
import Derived.Deep.CutBlock
set_option linter.unusedVariables false
set_option linter.unusedSimpArgs false
set_option maxRecDepth 100000
namespace Go.Proofs.YtcpdoicbekcpeaaDoor.She
open Go.RowKit Go.Lib Go.Shelf Go.Proofs.YtcpdoicbekcpeaaDoor.Rk Go.Proofs.YtcpdoicbekcpeaaDoor.Rt Go.Proofs.YtcpdoicbekcpeaaDoor.Rig Go.Proofs.YtcpdoicbekcpeaaDoor.Seg

/-- The cells of a segment, whatever they lead to. -/
structure C5 where
  i : Int
  l : Int
  q : Option Addr
  a1 : Option Addr
  n1 : Nat
  c1 : Nat
  a2 : Option Addr
  n2 : Nat
  c2 : Nat
deriving Inhabited
def C5.enc (x : C5) : List Value := [.int .i64 x.i, .int .i64 x.l, .pointer x.q, .slice x.a1 x.n1 x.c1, .slice x.a2 x.n2 x.c2]
set_option maxHeartbeats 2000000 in
theorem id_cells (i l : Int) (q a1 a2 : Option Addr) (n1 c1 n2 c2 : Nat) (w : World) : Calls Tryd.prog 45 #[.agg #[.int .i64 i, .int .i64 l, .pointer q, .slice a1 n1 c1, .slice a2 n2 c2]] w fun e w' => e = .returned (.int .i64 i) ∧ Below w.heap.size w w' := by
  have FIN := Lib.hid (box1 w #[.int .i64 i, .int .i64 l, .pointer q, .slice a1 n1 c1, .slice a2 n2 c2] 33).1
  go_enter Tryd.func45, Tryd.ntmps45
  go_wp2_with fail
  go_ret
  exact ⟨rfl, FIN.out⟩
set_option maxHeartbeats 4000000 in
theorem pred_any (i l : Int) (q a1 a2 : Option Addr) (n1 c1 n2 c2 : Nat) (id : Int) (B : Nat) (w : World) (hB : B < w.heap.size) (hc : w.cell? ⟨B, 0, none⟩ = some (.int .i64 id)) :
    Calls Tryd.prog 108 #[.agg #[.int .i64 i, .int .i64 l, .pointer q, .slice a1 n1 c1, .slice a2 n2 c2], .pointer (some ⟨B, 0, none⟩)] w fun e w' => e = .returned (.bool (i == id)) ∧ Below w.heap.size w w' := by
  obtain ⟨B0, R0, L0⟩ := box1 w #[.int .i64 i, .int .i64 l, .pointer q, .slice a1 n1 c1, .slice a2 n2 c2] 33
  obtain ⟨W0, hW0⟩ : ∃ W0, W0 = w.alloc (.cells #[.int .i64 i, .int .i64 l, .pointer q, .slice a1 n1 c1, .slice a2 n2 c2] 33) := ⟨_, rfl⟩
  rw [← hW0] at B0 R0 L0
  have HW0 := Lib.hid hW0
  have HB0 := Lib.hid B0
  have BX : Hid (∀ w', Below W0.heap.size W0 w' → Below W0.heap.size W0 w' ∧ (w'.cell? ⟨w.heap.size, 0, none⟩ = some (.int .i64 i) ∧ w'.cell? ⟨w.heap.size, 1, none⟩ = some (.int .i64 l) ∧ w'.cell? ⟨w.heap.size, 2, none⟩ = some (.pointer q) ∧ w'.cell? ⟨w.heap.size, 3, none⟩ = some (.slice a1 n1 c1) ∧ w'.cell? ⟨w.heap.size, 4, none⟩ = some (.slice a2 n2 c2)) ∧ w'.cell? ⟨B, 0, none⟩ = some (.int .i64 id)) := fun w' hb =>
    ⟨hb, five_cells ((hb.block _ (by omega)).trans R0), by rw [hb.cell (p := ⟨B, 0, none⟩) (by show B < _; omega), B0.cell (p := ⟨B, 0, none⟩) hB]; exact hc⟩
  have KF : Hid (∀ w', Below W0.heap.size W0 w' → Below w.heap.size w w') := fun w' hb => below_more HB0.out hb
  have KR : Hid (Below W0.heap.size W0 W0) := Below.refl _ _
  have CI : Hid (∀ w', Calls Tryd.prog 45 #[.agg #[.int .i64 i, .int .i64 l, .pointer q, .slice a1 n1 c1, .slice a2 n2 c2]] w' fun e w'' => e = .returned (.int .i64 i) ∧ Below w'.heap.size w' w'') := fun w' => id_cells i l q a1 a2 n1 c1 n2 c2 w'
  clear hW0 B0 R0 L0 hc
  go_enter Tryd.func108, Tryd.ntmps108
  go_upto_region 1 with fail
  rw [← HW0.out]
  go_region_held3 (fun w' => Below W0.heap.size W0 w' ∧ (w'.cell? ⟨w.heap.size, 0, none⟩ = some (.int .i64 i) ∧ w'.cell? ⟨w.heap.size, 1, none⟩ = some (.int .i64 l) ∧ w'.cell? ⟨w.heap.size, 2, none⟩ = some (.pointer q) ∧ w'.cell? ⟨w.heap.size, 3, none⟩ = some (.slice a1 n1 c1) ∧ w'.cell? ⟨w.heap.size, 4, none⟩ = some (.slice a2 n2 c2)) ∧ w'.cell? ⟨B, 0, none⟩ = some (.int .i64 id))
    ((refine BX.out _ ?_; focus ((repeat first | assumption | exact KR.out | apply Below.drew | apply below_drews); done)))
    (first
      | (go_at_call 45; (with_reducible refine (CI.out _).mono ?_); rintro e w2 ⟨rfl, b2⟩; have k2 := fun h => below_more (w := W0) h b2; replace k2 := k2 (by (repeat first | assumption | exact KR.out | apply Below.drew | apply below_drews))))
  go_wp2_with fail
  go_ret
  exact ⟨ret_bool rfl, KF.out _ (by (repeat first | assumption | exact KR.out | apply Below.drew | apply below_drews))⟩
theorem cells_of {w : World} : ∀ p : List (List Value × G5), (∀ x ∈ p, SgC w x.1 x.2) → ∃ zs : List C5, zs.map C5.enc = p.map Prod.fst ∧ zs.map C5.i = p.map fun x => x.2.i
  | [], _ => ⟨[], rfl, rfl⟩
  | x :: p, h => by
    obtain ⟨zs, h1, h2⟩ := cells_of p (fun y hy => h y (List.mem_cons_of_mem _ hy))
    obtain ⟨tp, sv, tv, e, hg⟩ := h x List.mem_cons_self
    obtain ⟨q, sa, sc, ta, tc, e2, _⟩ := hg.open_
    injection e2 with e2
    simp only [Array.mk.injEq, List.cons.injEq, and_true, true_and] at e2
    obtain ⟨rfl, rfl, rfl⟩ := e2
    exact ⟨⟨x.2.i, x.2.l, q, sa, _, sc, ta, _, tc⟩ :: zs, by rw [List.map_cons, List.map_cons, h1, e]; rfl, by rw [List.map_cons, List.map_cons, h2]⟩
theorem place_lt {G : List G5} {id : Int} {k : Nat} (h : placeN G id = some k) : ∃ hk : k < G.length, G[k].i = id ∧ ∀ j (hj : j < G.length), j < k → G[j].i ≠ id := by
  unfold placeN at h
  rw [List.findIdx?_eq_some_iff_getElem] at h
  obtain ⟨hk, h1, h2⟩ := h
  refine ⟨hk, by simpa using h1, fun j hj hjk => ?_⟩
  simpa using h2 j hjk
theorem place_none {G : List G5} {id : Int} (h : placeN G id = none) : ∀ j (hj : j < G.length), G[j].i ≠ id := by
  unfold placeN at h
  rw [List.findIdx?_eq_none_iff] at h
  intro j hj
  simpa using h G[j] (List.getElem_mem hj)
theorem idx_place {zs : List C5} {G : List G5} {id : Int} (h : zs.map C5.i = G.map G5.i) : Lib.idxBy (fun _ y => decide (C5.i y = id)) (zs.take G.length) default = placeI G id := by
  have hl : zs.length = G.length := by have := congrArg List.length h; simpa using this
  have hz : ∀ j (hj : j < G.length), (zs[j]!).i = G[j].i := fun j hj => by
    rw [getElem!_pos zs j (by omega)]
    have := congrArg (fun l => l[j]?) h
    simp only [List.getElem?_map, List.getElem?_eq_getElem hj, List.getElem?_eq_getElem (show j < zs.length by omega), Option.map_some, Option.some.injEq] at this
    exact this
  cases hp : placeN G id with
  | none =>
    rw [placeI_no hp]
    exact Lib.idxBy_miss _ zs _ _ fun j hj => by show decide _ = _; rw [hz j hj]; exact decide_eq_false (place_none hp j hj)
  | some k =>
    obtain ⟨hk, h1, h2⟩ := place_lt hp
    rw [placeI_yes hp]
    exact Lib.idxBy_hit _ zs _ k _ hk (by omega) (by show decide _ = _; rw [hz k hk]; exact decide_eq_true h1) fun j hj => by show decide _ = _; rw [hz j (by omega)]; exact decide_eq_false (h2 j (by omega) hj)
theorem enters108 : ∀ args w, (callFunc 108 args).run Tryd.prog w = .ok (.enter 108 args) w := enters_of Tryd.func108 (by kernel_rfl) rfl
/-- IndexFunc at segments. -/
theorem ixf_any {a : Option Addr} {cap : Nat} {G : List G5} (id : Int) (B : Nat) (w : World) (h : Sgs w (.slice a G.length cap) G) (hB : B < w.heap.size) (hc : w.cell? ⟨B, 0, none⟩ = some (.int .i64 id)) :
    Calls Tryd.prog 107 #[.slice a G.length cap, .func (.func 108) #[] #[.pointer (some ⟨B, 0, none⟩)]] w fun e w' => e = .returned (.int .i64 (placeI G id)) ∧ Below w.heap.size w w' := by
  obtain ⟨p, hp, ⟨h0, a', cap', e, h1, h2, h3⟩, h4⟩ := h
  have hl : p.length = G.length := by rw [← hp, List.length_map]
  injection e with e1 e2 e3
  subst e1 e3
  rw [List.length_map] at h1
  obtain ⟨zs, z1, z2⟩ := cells_of p h4
  have zl : zs.length = G.length := by have := congrArg List.length z1; simpa [hl] using this
  unfold maxLen at h2
  rcases h3 with h3 | ⟨b, off, rfl, hb, hcell⟩
  · -- no segments
    have h0 : G.length = 0 := by rw [← hl, ← List.length_map (f := Prod.fst), h3]; rfl
    obtain rfl := List.eq_nil_of_length_eq_zero h0
    go_enter Tryd.func107, Tryd.ntmps107
    go_wp2_with fail
    go_loopg [5, 8] 0 (fun g _ i wr => i = .int .i64 0 ∧ wr = w)
    case atStart => exact ⟨rfl, rfl⟩
    case round =>
      obtain ⟨rfl, rfl⟩ := hrel
      go_wp2_with fail
      go_ret
      exact ⟨rfl, Below.refl _ _⟩
  · rw [← idx_place (zs := zs) (by rw [z2, ← hp, List.map_map]; rfl)]
    refine AnyQ.slices_IndexFunc (ρ := Tryd.ixSeg_ren) Tryd.ixSeg 5 Tryd.isAgg33 Tryd.sizeOf33 C5.enc (fun _ => rfl) (fun y => decide (C5.i y = id)) 108 #[.pointer (some ⟨B, 0, none⟩)] enters108 b off G.length cap zs w ?_ (by omega) (by omega) hb ?_
    · intro W x hW
      refine (pred_any x.i x.l x.q x.a1 x.a2 x.n1 x.c1 x.n2 x.c2 id B W (Nat.lt_of_lt_of_le hB hW.size) (by rw [hW.cell (p := ⟨B, 0, none⟩) hB]; exact hc)).mono ?_
      rintro e w' ⟨rfl, hb'⟩
      refine ⟨?_, below_more hW hb'⟩
      by_cases q : x.i = id
      · simp [q]
      · simp [q]
    · intro j hj i v hv
      have hjp : j < (p.map Prod.fst).length := by rw [List.length_map]; omega
      refine hcell j hjp i v ?_
      rw [getElem!_pos zs j hj] at hv
      have : (p.map Prod.fst)[j] = C5.enc zs[j] := by
        have := congrArg (fun l => l[j]?) z1
        simp only [List.getElem?_map, List.getElem?_eq_getElem hj, Option.map_some] at this
        rw [← List.getElem?_map, List.getElem?_eq_getElem hjp] at this
        exact (Option.some.inj this).symm
      rw [this]
      exact hv
set_option maxHeartbeats 4000000 in
theorem index_any {v : Value} {f : Bool} {G : List G5} (id : Int) (w : World) (h : Sh w v f G) : Calls Tryd.prog 79 #[v, .int .i64 id] w fun e w' => e = .returned (.int .i64 (placeI G id)) ∧ Below w.heap.size w w' := by
  obtain ⟨a, c, rfl, hs⟩ := h.open_
  have hmf : ∀ (fn : Fn) (first cap : Array Value) (w : World), (Instr.makeFunc fn first cap).run Tryd.prog w = .ok (.func fn first cap) w := fun _ _ _ _ => rfl
  obtain ⟨B0, R0, R1, L0⟩ := box2 w #[.bool f, .slice a G.length c] #[.int .i64 id] 50 3
  have c1 : ((w.alloc (.cells #[.bool f, .slice a G.length c] 50)).alloc (.cells #[.int .i64 id] 3)).cell? ⟨w.heap.size + 1, 0, none⟩ = some (.int .i64 id) := by rw [cell_of_row _ _ _ _ _ _ R1]; rfl
  have CX := Lib.hid (ixf_any id (w.heap.size + 1) _ (hs.below B0) (by omega) c1)
  have HB0 := Lib.hid B0
  obtain ⟨d0, d1⟩ := two_cells R0
  obtain ⟨W0, hW0⟩ : ∃ W0, W0 = (w.alloc (.cells #[.bool f, .slice a G.length c] 50)).alloc (.cells #[.int .i64 id] 3) := ⟨_, rfl⟩
  rw [← hW0] at CX HB0 d0 d1
  have HW0 := Lib.hid hW0
  generalize G.length = n at *
  clear hs h R0 R1 L0 c1 B0 hW0
  go_enter Tryd.func79, Tryd.ntmps79
  go_upto_region 1 with fail
  rw [← HW0.out]
  go_wp2_with fail
  refine (CX.out).mono ?_
  rintro e w1 ⟨rfl, b1⟩
  have K := Lib.hid (below_more HB0.out b1)
  clear b1 CX
  go_wp2_with fail
  go_ret
  exact ⟨rfl, K.out⟩
end Go.Proofs.YtcpdoicbekcpeaaDoor.She
