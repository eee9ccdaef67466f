/- Sheets: Find; Set of the program. -/
import Derived.Test.YtcpdoicbekcpeaaDoorHr
import Derived.Test.YtcpdoicbekcpeaaDoorQs
import Derived.Deep.RegionHeld3
import Derived.Deep.DeepCutAuto
import Derived.Deep.CutBlock
set_option linter.unusedVariables false
set_option linter.unusedSimpArgs false
set_option maxRecDepth 100000
namespace Go.Proofs.YtcpdoicbekcpeaaDoor.She
open Go.RowKit Go.Lib Go.Shelf Go.Proofs.YtcpdoicbekcpeaaDoor.Rk Go.Proofs.YtcpdoicbekcpeaaDoor.Rt Go.Proofs.YtcpdoicbekcpeaaDoor.Rig Go.Proofs.YtcpdoicbekcpeaaDoor.Seg

theorem row_cell {w : World} {b i : Nat} {cs : Array Value} {e : TypeId} (h : w.heap[b]? = some (.cells cs e (0, 0))) : w.cell? ⟨b, i, none⟩ = cs[i]? := cell_of_row w b i cs e (0, 0) h
set_option maxHeartbeats 8000000 in
theorem find_yes {v : Value} {f : Bool} {G : List G5} (id : Int) (k : Nat) (w : World) (h : Sh w v f G) (hk : k < G.length) (hp : placeN G id = some k) (hpos : ∀ s ∈ G[k].T, 0 < s.m) (hn : G.length ≤ 10000) :
    Calls Tryd.prog 32 #[v, .int .i64 id] w (GiveIns w true G[k].i G[k].l G[k].L G[k].S G[k].T) := by
  obtain ⟨a, c, rfl, hs⟩ := h.open_
  obtain ⟨B0, R0, R1, L0⟩ := box2 w #[.bool f, .slice a G.length c] #[.int .i64 0, .int .i64 0, .pointer none, .slice none 0 0, .slice none 0 0] 50 33
  obtain ⟨W0, hW0⟩ : ∃ W0, W0 = (w.alloc (.cells #[.bool f, .slice a G.length c] 50)).alloc (.cells #[.int .i64 0, .int .i64 0, .pointer none, .slice none 0 0, .slice none 0 0] 33) := ⟨_, rfl⟩
  rw [← hW0] at B0 R0 R1 L0
  have CX := Lib.hid ((index_any id W0 (h.below B0)))
  rw [placeI_yes hp] at CX
  obtain ⟨x0, x1, _, _⟩ := two_cells R0
  have HBX : Hid (∀ w', Below W0.heap.size W0 w' → w'.cell? ⟨w.heap.size, 0, none⟩ = some (.bool f) ∧ w'.cell? ⟨w.heap.size, 1, none⟩ = some (.slice a G.length c) ∧ ZSeg w' (w.heap.size + 1)) := fun w' hb => by
    have r := (hb.block w.heap.size (by omega)).trans R0
    exact ⟨by rw [row_cell r]; rfl, by rw [row_cell r]; rfl, (hb.block (w.heap.size + 1) (by omega)).trans R1⟩
  have HG : Hid (∀ w', Below w.heap.size w w' → ∃ b off q sa sc ta tc, a = some ⟨b, off, none⟩ ∧ b < w'.heap.size ∧ Sg w' (.agg #[.int .i64 G[k].i, .int .i64 G[k].l, .pointer q, .slice sa G[k].S.length sc, .slice ta G[k].T.length tc]) G[k].i G[k].l G[k].L G[k].S G[k].T ∧
      w'.cell? ⟨b, off + k * 5, none⟩ = some (.int .i64 G[k].i) ∧ w'.cell? ⟨b, off + k * 5 + 1, none⟩ = some (.int .i64 G[k].l) ∧ w'.cell? ⟨b, off + k * 5 + 2, none⟩ = some (.pointer q) ∧ w'.cell? ⟨b, off + k * 5 + 3, none⟩ = some (.slice sa G[k].S.length sc) ∧ w'.cell? ⟨b, off + k * 5 + 4, none⟩ = some (.slice ta G[k].T.length tc)) := fun w' hb => (hs.below hb).get hk
  have HB0 := Lib.hid B0
  have HW0 := Lib.hid hW0
  have HPOS := Lib.hid hpos
  obtain ⟨n, hnG⟩ : ∃ n, n = G.length := ⟨_, rfl⟩
  rw [← hnG] at hk hn CX x1 HBX HW0 ⊢
  generalize G[k] = y at *
  obtain ⟨yi, yl, yL, yS, yT⟩ := y
  simp only at HG HPOS
  clear h hs R0 R1 B0 hW0 hp hpos hnG
  go_enter Tryd.func32, Tryd.ntmps32
  go_upto_region 1 with fail
  rw [← HW0.out]
  go_wp2_with fail
  refine (CX.out).mono ?_
  rintro e w1 ⟨rfl, b1⟩
  obtain ⟨z0, z1, zs⟩ := HBX.out _ b1
  have HB1 := Lib.hid (below_more HB0.out b1)
  obtain ⟨b, off, q, sa, sc, ta, tc, rfl, hb, hv, c0, c1, c2, c3, c4⟩ := HG.out _ HB1.out
  obtain ⟨g1, g2, g3⟩ := (⟨_, rfl⟩ : ∃ z : Unit, z = ()) |> fun _ => (by
    obtain ⟨q', s1, s2, t1, t2, e, h1, h2, h3⟩ := hv.open_
    injection e with e
    simp only [Array.mk.injEq, List.cons.injEq, and_true, true_and, Value.pointer.injEq, Value.slice.injEq] at e
    obtain ⟨rfl, ⟨rfl, rfl⟩, ⟨rfl, rfl⟩⟩ := e
    exact ⟨h1, h2, h3⟩ : IsRope w1 yL (.pointer q) ∧ Spans w1 (.slice sa yS.length sc) yS ∧ Sites w1 (.slice ta yT.length tc) yT)
  have FIN := Lib.hid (give_sg (w := w) (i := yi) (l := yl) (Nat.le_succ _) zs g1 g2 g3 HPOS.out HB1.out)
  obtain ⟨y0, y1, y2, y3, y4⟩ := set5_cells (a0 := .int .i64 yi) (a1 := .int .i64 yl) (a2 := .pointer q) (a3 := .slice sa yS.length sc) (a4 := .slice ta yT.length tc) zs
  obtain ⟨s0, s1, s2, s3, s4, f0, f1, f2, f3, f4⟩ := zseg_cells zs
  generalize yS.length = n1 at *
  generalize yT.length = n2 at *
  have j0 : ¬ ((k : Int) < 0) := by omega
  have i0 : (0 : Int) ≤ (k : Int) := by omega
  have i1 : (k : Int) < (n : Int) := by omega
  clear b1 hv g1 g2 g3 zs CX x0 x1 HBX HG
  go_wp2_with fail
  exact bodyPost_ret (v := .tuple #[.agg #[.int .i64 yi, .int .i64 yl, .pointer q, .slice sa n1 sc, .slice ta n2 tc], .bool true]) (by simp only [set5] at y0 y1 y2 y3 y4; simp [results, Tryd.results32, go_sem, y0, y1, y2, y3, y4]) rfl ⟨_, rfl, FIN.out.1, FIN.out.2⟩
set_option maxHeartbeats 8000000 in
theorem find_no {v : Value} {f : Bool} {G : List G5} (id : Int) (w : World) (h : Sh w v f G) (hp : placeN G id = none) :
    Calls Tryd.prog 32 #[v, .int .i64 id] w (GiveIns w false 0 0 [] [] []) := by
  obtain ⟨a, c, rfl, hs⟩ := h.open_
  obtain ⟨B0, R0, R1, L0⟩ := box2 w #[.bool f, .slice a G.length c] #[.int .i64 0, .int .i64 0, .pointer none, .slice none 0 0, .slice none 0 0] 50 33
  obtain ⟨W0, hW0⟩ : ∃ W0, W0 = (w.alloc (.cells #[.bool f, .slice a G.length c] 50)).alloc (.cells #[.int .i64 0, .int .i64 0, .pointer none, .slice none 0 0, .slice none 0 0] 33) := ⟨_, rfl⟩
  rw [← hW0] at B0 R0 R1 L0
  have CX := Lib.hid ((index_any id W0 (h.below B0)))
  rw [placeI_no hp] at CX
  obtain ⟨x0, x1, _, _⟩ := two_cells R0
  have HZ : Hid (∀ w', Below W0.heap.size W0 w' → ZSeg w' (w.heap.size + 1)) := fun w' hb => (hb.block (w.heap.size + 1) (by omega)).trans R1
  have HB0 := Lib.hid B0
  have HW0 := Lib.hid hW0
  generalize G.length = n at *
  clear h hs R0 R1 B0 hW0 hp
  go_enter Tryd.func32, Tryd.ntmps32
  go_upto_region 1 with fail
  rw [← HW0.out]
  go_wp2_with fail
  refine (CX.out).mono ?_
  rintro e w1 ⟨rfl, b1⟩
  have zs := HZ.out _ b1
  have HB1 := Lib.hid (below_more HB0.out b1)
  have FIN := Lib.hid (give_sg (w := w) (i := 0) (l := 0) (Nat.le_succ _) zs (Con.nil_is w1) (Spans.nil_ w1) (Sites.nil_ w1) (by simp) HB1.out)
  obtain ⟨y0, y1, y2, y3, y4⟩ := set5_cells (a0 := .int .i64 0) (a1 := .int .i64 0) (a2 := .pointer none) (a3 := .slice none 0 0) (a4 := .slice none 0 0) zs
  obtain ⟨s0, s1, s2, s3, s4, f0, f1, f2, f3, f4⟩ := zseg_cells zs
  clear b1 zs CX x0 x1 HZ
  go_wp2_with fail
  exact bodyPost_ret (v := .tuple #[.agg #[.int .i64 0, .int .i64 0, .pointer none, .slice none 0 0, .slice none 0 0], .bool false]) (by simp only [set5] at y0 y1 y2 y3 y4; simp [results, Tryd.results32, go_sem, y0, y1, y2, y3, y4]) rfl ⟨_, rfl, FIN.out.1, FIN.out.2⟩
end Go.Proofs.YtcpdoicbekcpeaaDoor.She
