/- Sheets: the laws' arguments opened: a list of plain segments; one plain segment; with the reach's bounds. -/
import Derived.Test.YtcpdoicbekcpeaaDoorHa
import Derived.Test.YtcpdoicbekcpeaaDoorQs
import Derived.Test.YtcpdoicbekcpeaaDoorLift
import Derived.Test.YtcpdoicbekcpeaaDoorQb
import Derived.OneCell
import Derived.SizedLaws
import Derived.Deep.Slices
import Derived.Deep.Fields
set_option linter.unusedVariables false
set_option linter.unusedSimpArgs false
set_option maxRecDepth 100000
namespace Go.Proofs.YtcpdoicbekcpeaaDoor.She
open Go.RowKit Go.Lib Go.Proofs.YtcpdoicbekcpeaaDoor.Rk Go.Proofs.YtcpdoicbekcpeaaDoor.Rt Go.Proofs.YtcpdoicbekcpeaaDoor.Rig Go.Proofs.YtcpdoicbekcpeaaDoor.Seg

def G5.good (g : G5) : Prop := i64 g.i ∧ i64 g.l ∧ g.L.length ≤ 140737488355328 ∧ g.S.length ≤ 140737488355328 ∧ g.T.length ≤ 140737488355328
/-- A list of plain segments that came in. -/
def Args (w : World) (v : Value) (G : List G5) : Prop := Pls w v G ∧ ∀ g ∈ G, g.good
theorem Args.below {w w' : World} {v : Value} {G : List G5} (h : Args w v G) (hb : Below w.heap.size w w') : Args w' v G := ⟨h.1.below hb, h.2⟩
section
open Go.ChangeShapes Go.WideShapes Go.Deep
variable {H : Type} {enc : TypeId × Value → H}
theorem hweights_all {P : Program} {e : TypeId} : ∀ {l : List (DataW H)} {x : DataW H}, x ∈ l → ∀ n ∈ x.weights P e, n ∈ DataW.weightsAll P e l
  | y :: l, x, hx, n, hn => by
    simp only [DataW.weightsAll, List.mem_append]
    rcases List.mem_cons.1 hx with rfl | hx
    · exact .inl hn
    · exact .inr (hweights_all hx n hn)
theorem bytesSpan : Tryd.prog.bytesOf 110 = 24 := by kernel_rfl
theorem bytesSite : Tryd.prog.bytesOf 148 = 16 := by kernel_rfl
theorem spans_weight {W : World} {n : Nat} {x : DataW H × List MemPlace} {c : Value} {S : List Sp} (h : DataW.trod enc Tryd.prog W 0 (fun _ => true) true n 22 [c] = some x) (hS : Spans W c S) :
    S.length = 0 ∨ ∃ q ∈ x.1.weights Tryd.prog 22, S.length ≤ q := by
  obtain ⟨a', cap', e'⟩ := hS.is_slice
  rcases open_slice Tryd.underlying22 h with ⟨hcs, _⟩ | ⟨a, len, cap, m, n', D, Pl, hcs, _, hl, hm, hmm, hd, hel⟩
  · simp at hcs
    rw [hcs] at e'
    injection e' with _ e' _
    exact .inl e'.symm
  · simp at hcs
    rw [hcs] at e'
    injection e' with _ e' _
    right
    have hd1 : x.1 = .slice ((List.range len).map D) ((List.range (m - len)).map fun j => D (len + j)) := congrArg Prod.fst hd
    rw [hd1]
    simp only [DataW.weights, Tryd.underlying22]
    refine ⟨_, List.mem_cons_self, ?_⟩
    rw [bytesSpan, List.length_map, List.length_map, List.length_range, List.length_range]
    omega
theorem sites_weight {W : World} {n : Nat} {x : DataW H × List MemPlace} {c : Value} {S : List St} (h : DataW.trod enc Tryd.prog W 0 (fun _ => true) true n 23 [c] = some x) (hS : Sites W c S) :
    S.length = 0 ∨ ∃ q ∈ x.1.weights Tryd.prog 23, S.length ≤ q := by
  obtain ⟨a', cap', e'⟩ := hS.is_slice
  rcases open_slice Tryd.underlying23 h with ⟨hcs, _⟩ | ⟨a, len, cap, m, n', D, Pl, hcs, _, hl, hm, hmm, hd, hel⟩
  · simp at hcs
    rw [hcs] at e'
    injection e' with _ e' _
    exact .inl e'.symm
  · simp at hcs
    rw [hcs] at e'
    injection e' with _ e' _
    right
    have hd1 : x.1 = .slice ((List.range len).map D) ((List.range (m - len)).map fun j => D (len + j)) := congrArg Prod.fst hd
    rw [hd1]
    simp only [DataW.weights, Tryd.underlying23]
    refine ⟨_, List.mem_cons_self, ?_⟩
    rw [bytesSite, List.length_map, List.length_map, List.length_range, List.length_range]
    omega
theorem weights_seg {d : DataW H} {xs : List (DataW H × List MemPlace)} {fs} (hd : d = .agg (xs.map Prod.fst)) (hu : Tryd.prog.underlying 25 = some (.struct fs)) {j : Nat} {t : TypeId} {x : DataW H × List MemPlace} (ht : (fs.toList.map (·.type))[j]? = some t) (hx : xs[j]? = some x) : ∀ n ∈ x.1.weights Tryd.prog t, n ∈ d.weights Tryd.prog 25 := by
  intro n hn
  rw [hd]
  simp only [DataW.weights, hu]
  exact DataW.weights_mem_each (j := j) (t := t) (d := x.1) ht (by rw [List.getElem?_map, hx]; rfl) n hn
theorem seg_of {W : World} {m : Nat} {x : DataW H × List MemPlace} {cs : List Value} (hl : cs.length = 5) (ht : DataW.trod enc Tryd.prog W 0 (fun _ => true) true m 25 cs = some x) (hw : (x.1.weights Tryd.prog 25).all (· ≤ reachBytes) = true) :
    ∃ g : G5, PlC W cs g ∧ g.good := by
  obtain ⟨xs, m, _, hx, _, hxl, hg⟩ := DataW.trod_struct Tryd.underlying25 ht
  match cs, hl with
  | [c0, c1, c2, c3, c4], _ =>
    have hxs : xs.length = 5 := hxl
    match xs, hxs with
    | [x0, x1, x2, x3, x4], _ =>
      have g0 : DataW.trod enc Tryd.prog W 0 (fun _ => true) true m 3 (([c0, c1, c2, c3, c4].drop 0).take (Tryd.prog.cellsOf 3)) = some x0 := hg 0 _ rfl
      have g1 : DataW.trod enc Tryd.prog W 0 (fun _ => true) true m 3 (([c0, c1, c2, c3, c4].drop 1).take (Tryd.prog.cellsOf 3)) = some x1 := hg 1 _ rfl
      have g2 : DataW.trod enc Tryd.prog W 0 (fun _ => true) true m 9 (([c0, c1, c2, c3, c4].drop 2).take (Tryd.prog.cellsOf 9)) = some x2 := hg 2 _ rfl
      have g3 : DataW.trod enc Tryd.prog W 0 (fun _ => true) true m 22 (([c0, c1, c2, c3, c4].drop 3).take (Tryd.prog.cellsOf 22)) = some x3 := hg 3 _ rfl
      have g4 : DataW.trod enc Tryd.prog W 0 (fun _ => true) true m 23 (([c0, c1, c2, c3, c4].drop 4).take (Tryd.prog.cellsOf 23)) = some x4 := hg 4 _ rfl
      rw [cellsOf_int] at g0 g1
      rw [cellsOf_str] at g2
      rw [cellsOf_spans] at g3
      rw [cellsOf_sites] at g4
      obtain ⟨a0, e0, -, w0⟩ := DataW.trod_int Tryd.underlying3 g0
      obtain ⟨a1, e1, -, w1⟩ := DataW.trod_int Tryd.underlying3 g1
      obtain ⟨s, e2, ex2, w2⟩ := DataW.trod_string Tryd.underlying9 g2
      simp at e0 e1 e2
      subst e0 e1 e2
      have g3' : DataW.trod enc Tryd.prog W 0 (fun _ => true) true m 22 [c3] = some x3 := by simpa using g3
      have g4' : DataW.trod enc Tryd.prog W 0 (fun _ => true) true m 23 [c4] = some x4 := by simpa using g4
      obtain ⟨S, hS⟩ := spans_of g3'
      obtain ⟨T, hT⟩ := sites_of g4'
      have h47 := reachBytes_lt
      have hd : x.1 = .agg ([x0, x1, x2, x3, x4].map Prod.fst) := by rw [hx]
      have wl : s.data.toList.length ≤ 140737488355328 := by
        have := List.all_eq_true.1 hw _ (weights_seg hd Tryd.underlying25 (j := 2) (t := 9) rfl rfl s.data.toList.length (by rw [ex2]; simp [DataW.weights]))
        simp at this
        simp
        omega
      have ws : S.length ≤ 140737488355328 := by
        rcases spans_weight g3' hS with h | ⟨q, hq, hle⟩
        · omega
        · have := List.all_eq_true.1 hw _ (weights_seg hd Tryd.underlying25 (j := 3) (t := 22) rfl rfl q hq)
          simp at this
          omega
      have wt : T.length ≤ 140737488355328 := by
        rcases sites_weight g4' hT with h | ⟨q, hq, hle⟩
        · omega
        · have := List.all_eq_true.1 hw _ (weights_seg hd Tryd.underlying25 (j := 4) (t := 23) rfl rfl q hq)
          simp at this
          omega
      refine ⟨⟨a0, a1, s.data.toList, S, T⟩, ⟨c3, c4, by simp only; rw [Let.mk_self], c3, c4, rfl, hS, hT⟩, int_bounds w0, int_bounds w1, wl, ws, wt⟩
theorem open_segs {W : World} {v : Value} {d : DataW H} {p : List MemPlace} {base : Nat} (hv : Value.okWide Tryd.prog W .any base 47 v) (h : DataW.Trod enc Tryd.prog W 0 (fun _ => true) true 47 v d p) (hw : (d.weights Tryd.prog 47).all (· ≤ reachBytes) = true) : ∃ G : List G5, Args W v G := by
  obtain ⟨a0, len, cap, rfl⟩ := okWide_slice Tryd.underlying47 hv
  obtain ⟨fuel, hf⟩ := h
  rcases open_slice Tryd.underlying47 hf with ⟨hcs, _⟩ | ⟨a, len', cap', m, n, D, Pl, hcs, _, hl, hm, hmm, hd, hel⟩
  · simp [Value.cells] at hcs
    obtain ⟨rfl, rfl, rfl⟩ := hcs
    exact ⟨[], Rk.Rows.nil_ _ _ _, fun _ h => by simp at h⟩
  · simp [Value.cells] at hcs
    obtain ⟨rfl, rfl, rfl⟩ := hcs
    simp only [if_true] at hmm
    have hd1 : d = .slice ((List.range len).map D) ((List.range (m - len)).map fun j => D (len + j)) := congrArg Prod.fst hd
    have hall : ∀ i, i < len → (a.add (i * 5)).spot = none ∧ ∃ (x : List Value) (g : G5), x.length = 5 ∧ PlC W x g ∧ g.good ∧ (∃ u, W.cell? ⟨(a.add (i * 5)).block, (a.add (i * 5)).off, none⟩ = some u) ∧ ∀ q u, x[q]? = some u → W.cell? ⟨(a.add (i * 5)).block, (a.add (i * 5)).off + q, none⟩ = some u := by
      intro i hi
      obtain ⟨cs', hc, ht⟩ := hel i (by omega)
      rw [cellsOf_seg] at hc
      obtain ⟨_, hl5, hat⟩ := World.cells?_some hc
      have hwi : ((D i).weights Tryd.prog 25).all (· ≤ reachBytes) = true := List.all_eq_true.2 fun q hq => List.all_eq_true.1 hw q (by
        rw [hd1]
        simp only [DataW.weights, Tryd.underlying47]
        exact List.mem_cons_of_mem _ (List.mem_append_left _ (hweights_all (x := D i) (List.mem_map_of_mem (List.mem_range.2 hi)) _ hq)))
      obtain ⟨g, hg, hgd⟩ := seg_of hl5 ht hwi
      clear hc ht
      generalize a.add (i * 5) = ad at *
      obtain ⟨b, o, sp⟩ := ad
      have h0 := hat 0 (by omega)
      rw [List.getElem?_eq_getElem (show 0 < cs'.length by omega)] at h0
      have hsp : sp = none := by simpa [Addr.add] using World.cell?_spot h0
      subst hsp
      refine ⟨rfl, cs', g, hl5, hg, hgd, ⟨_, by simpa [Addr.add] using h0⟩, fun q u hq => ?_⟩
      have hq5 : q < 5 := by
        rcases Nat.lt_or_ge q 5 with z | z
        · exact z
        · rw [List.getElem?_eq_none (by omega)] at hq; cases hq
      have h1 := hat q hq5
      rw [kadd] at h1
      rw [h1, hq]
    by_cases h0 : len = 0
    · subst h0
      exact ⟨[], ⟨[], rfl, ⟨fun _ h => by simp at h, some a, cap, rfl, Nat.zero_le _, hm, .inl rfl⟩, fun _ h => by simp at h⟩, fun _ h => by simp at h⟩
    · obtain ⟨b, o, sp⟩ := a
      have hsp : sp = none := by
        have h1 := (hall 0 (by omega)).1
        simpa [Addr.add] using h1
      subst hsp
      have hall' : ∀ i, i < len → ∃ z : List Value × G5, z.1.length = 5 ∧ PlC W z.1 z.2 ∧ z.2.good ∧ (∃ u, W.cell? ⟨b, o + i * 5, none⟩ = some u) ∧ ∀ q u, z.1[q]? = some u → W.cell? ⟨b, o + i * 5 + q, none⟩ = some u := by
        intro i hi
        obtain ⟨_, x, g, hx, hg, hgd, c0, cq⟩ := hall i hi
        rw [kadd] at c0 cq
        exact ⟨(x, g), hx, hg, hgd, c0, cq⟩
      have hch := fun i : Fin len => hall' i.1 i.2
      let A : List (List Value × G5) := List.ofFn fun i : Fin len => (hch i).choose
      have hA : A.length = len := List.length_ofFn
      have hAi : ∀ i (hi : i < A.length), A[i] = (hch ⟨i, by omega⟩).choose := fun i hi => by simp [A]
      obtain ⟨y0, _, _, _, ⟨u0, hc0⟩, _⟩ := hall' 0 (by omega)
      rw [Nat.zero_mul, Nat.add_zero] at hc0
      refine ⟨A.map Prod.snd, ⟨A, rfl, ⟨fun x hx => ?_, some ⟨b, o, none⟩, cap, by rw [List.length_map, hA], by rw [List.length_map]; omega, hm, .inr ⟨b, o, rfl, World.block_lt_of_cell? _ _ hc0, fun j hj q u hu => ?_⟩⟩, fun x hx => ?_⟩, fun g hg => ?_⟩
      · obtain ⟨y, hy, rfl⟩ := List.mem_map.1 hx
        obtain ⟨j, hj, rfl⟩ := List.getElem_of_mem hy
        rw [hAi j hj]
        exact (hch ⟨j, by omega⟩).choose_spec.1
      · rw [List.length_map] at hj
        rw [List.getElem_map, hAi j hj] at hu
        exact (hch ⟨j, by omega⟩).choose_spec.2.2.2.2 q u hu
      · obtain ⟨j, hj, rfl⟩ := List.getElem_of_mem hx
        rw [hAi j hj]
        exact (hch ⟨j, by omega⟩).choose_spec.2.1
      · obtain ⟨y, hy, rfl⟩ := List.mem_map.1 hg
        obtain ⟨j, hj, rfl⟩ := List.getElem_of_mem hy
        rw [hAi j hj]
        exact (hch ⟨j, by omega⟩).choose_spec.2.2.1
/-- One plain segment. -/
theorem open_seg1 {W : World} {v : Value} {d : DataW H} {p : List MemPlace} {base : Nat} (hv : Value.okWide Tryd.prog W .any base 25 v) (h : DataW.Trod enc Tryd.prog W 0 (fun _ => true) true 25 v d p) (hw : (d.weights Tryd.prog 25).all (· ≤ reachBytes) = true) :
    ∃ g : G5, Pl W v g.i g.l g.L g.S g.T ∧ g.good := by
  obtain ⟨cs, rfl, hsz⟩ := okWide_struct Tryd.underlying25 hv
  obtain ⟨fuel, hf⟩ := h
  obtain ⟨l⟩ := cs
  have hl5 : l.length = 5 := hsz.trans cellsOf_seg
  obtain ⟨g, ⟨sv, tv, rfl, hg⟩, hgd⟩ := seg_of (cs := l) hl5 hf hw
  exact ⟨g, hg, hgd⟩
end
end Go.Proofs.YtcpdoicbekcpeaaDoor.She
