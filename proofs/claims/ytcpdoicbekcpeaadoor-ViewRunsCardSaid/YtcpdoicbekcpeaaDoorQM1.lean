/- Slices of structs of ints in memory: read, owned; spans, sites, marks. Contract: Right of marks, of the plain text. Contract: each, of the plain text: the mark of each letter. Contract: spans, of the plain text: the runs of letters' marks. Contract: Same, of the same spans and sites. Contract: site, of the plain text: a site in its place. Contract: Of, of the plain text: a mark's spans, and the places of its sites. -/
import Derived.Test.YtcpdoicbekcpeaaDoorQA2
import Derived.Test.YtcpdoicbekcpeaaDoorQA1
import Derived.Deep.LoopGhost
import Derived.Deep.QuietTactic
import Derived.BigQuiet
import Derived.WalkSmall
import Derived.IntWalk
import Derived.OwnWalk
import Derived.Laws.MakeOwn
import Derived.Laws.StructEq
set_option linter.unusedVariables false
set_option maxRecDepth 100000
namespace Go.Proofs.YtcpdoicbekcpeaaDoor.Rig
open Go.RowKit Go.Lib Go.Proofs.YtcpdoicbekcpeaaDoor.Rt

/-- The slice v has n elements of k ints each: zs, one behind the other. -/
def Fl (w : World) (v : Value) (n k : Nat) (zs : List Int) : Prop :=
  zs.length = n * k ∧ (∀ x ∈ zs, i64 x) ∧ ∃ a cap, v = .slice a n cap ∧ n ≤ cap ∧ cap ≤ maxLen ∧ (n = 0 ∨ ∃ b off, a = some ⟨b, off, none⟩ ∧ b < w.heap.size ∧ ∀ j, j < n * k → w.cell? ⟨b, off + j, none⟩ = some (.int .i64 (at_ zs j)))
theorem Fl.below {w w' : World} {v : Value} {n k : Nat} {zs : List Int} (h : Fl w v n k zs) {B : Nat} (hb : Below B w w') (hB : w.heap.size ≤ B) : Fl w' v n k zs := by
  obtain ⟨h0, h0', a, cap, rfl, h1, h2, h3⟩ := h
  refine ⟨h0, h0', a, cap, rfl, h1, h2, ?_⟩
  rcases h3 with h3 | ⟨b, off, rfl, hlt, hc⟩
  · exact .inl h3
  · refine .inr ⟨b, off, rfl, Nat.lt_of_lt_of_le hlt hb.size, fun j hj => ?_⟩
    rw [hb.cell (p := ⟨b, off + j, none⟩) (Nat.lt_of_lt_of_le hlt hB)]
    exact hc j hj
theorem Fl.is_slice {w : World} {v : Value} {n k : Nat} {zs : List Int} (h : Fl w v n k zs) : ∃ a cap, v = .slice a n cap := by
  obtain ⟨_, _, a, cap, rfl, _⟩ := h
  exact ⟨a, cap, rfl⟩
/-- The call's own. -/
def OwnF (T : TypeId) (base : Nat) (w : World) (v : Value) (n k : Nat) (zs : List Int) : Prop := w.ownsRow base T k v n (ints zs) ∧ ∀ x ∈ zs, i64 x
theorem OwnF.fl {T : TypeId} {base : Nat} {w : World} {v : Value} {n k : Nat} {zs : List Int} (h : OwnF T base w v n k zs) : Fl w v n k zs := by
  obtain ⟨h1, h2⟩ := h
  have hl : zs.length = n * k := by have := h1.1; rwa [ints_len] at this
  refine ⟨hl, h2, ?_⟩
  rcases h1.2 with ⟨rfl, h0⟩ | ⟨g, cap, cur, rfl, hb, hg, hle, hm, hsz, htake⟩
  · subst h0
    exact ⟨none, 0, rfl, Nat.le_refl _, Nat.zero_le _, .inl rfl⟩
  · refine ⟨some ⟨g, 0, none⟩, cap, rfl, hle, hm, .inr ⟨g, 0, rfl, (Array.getElem?_eq_some_iff.1 hg).1, fun j hj => ?_⟩⟩
    have hc := World.ownsRow.cells h1 (g := g) rfl j (.int .i64 (at_ zs j)) (ints_get (by omega))
    have hadd : (⟨g, 0, none⟩ : Addr).add j = ⟨g, j, none⟩ := by unfold Addr.add; split <;> simp_all
    rw [hadd] at hc
    rw [Nat.zero_add]
    exact hc
theorem OwnF.kept {T : TypeId} {base : Nat} {w w' : World} {v : Value} {n k : Nat} {zs : List Int} {row : Option Nat} (h : OwnF T base w v n k zs) (hg : w.grownBy w' row) (hne : v.ownBlock = none ∨ v.ownBlock ≠ row) : OwnF T base w' v n k zs :=
  ⟨h.1.kept hg hne, h.2⟩
theorem OwnF.below {T : TypeId} {base : Nat} {w w' : World} {v : Value} {n k : Nat} {zs : List Int} (h : OwnF T base w v n k zs) (hb : Below w.heap.size w w') : OwnF T base w' v n k zs :=
  h.kept (grown_below hb none) (by cases hv : v.ownBlock <;> simp)
theorem OwnF.nil_ (T : TypeId) (base : Nat) (w : World) (k : Nat) : OwnF T base w (.slice none 0 0) 0 k [] := ⟨World.ownsRow_nil _ _ _ _, fun _ h => by simp at h⟩
theorem OwnF.block {T : TypeId} {base : Nat} {w : World} {v : Value} {n k : Nat} {zs : List Int} (h : OwnF T base w v n k zs) : ∀ b, v.ownBlock = some b → base ≤ b ∧ b < w.heap.size := h.1.lt
theorem OwnF.is_slice {T : TypeId} {base : Nat} {w : World} {v : Value} {n k : Nat} {zs : List Int} (h : OwnF T base w v n k zs) : ∃ a cap, v = .slice a n cap := h.fl.is_slice

def Sp.good (s : Sp) : Prop := i64 s.m ∧ i64 s.f ∧ i64 s.t
def St.good (s : St) : Prop := i64 s.m ∧ i64 s.a
def Spans (w : World) (v : Value) (S : List Sp) : Prop := Fl w v S.length 3 (fl3 S)
def Sites (w : World) (v : Value) (T : List St) : Prop := Fl w v T.length 2 (fl2 T)
theorem Spans.below {w w' : World} {v : Value} {S : List Sp} (h : Spans w v S) {B : Nat} (hb : Below B w w') (hB : w.heap.size ≤ B) : Spans w' v S := Fl.below h hb hB
theorem Sites.below {w w' : World} {v : Value} {S : List St} (h : Sites w v S) {B : Nat} (hb : Below B w w') (hB : w.heap.size ≤ B) : Sites w' v S := Fl.below h hb hB
theorem Spans.is_slice {w : World} {v : Value} {S : List Sp} (h : Spans w v S) : ∃ a cap, v = .slice a S.length cap := Fl.is_slice h
theorem Sites.is_slice {w : World} {v : Value} {S : List St} (h : Sites w v S) : ∃ a cap, v = .slice a S.length cap := Fl.is_slice h
theorem at_i64 {zs : List Int} (h : ∀ x ∈ zs, i64 x) {j : Nat} (hj : j < zs.length) : i64 (at_ zs j) := h _ (at_mem hj)
theorem Spans.open_ {w : World} {v : Value} {S : List Sp} (h : Spans w v S) :
    ∃ a cap, v = .slice a S.length cap ∧ S.length ≤ cap ∧ cap ≤ 9223372036854775807 ∧ ∀ j, j < S.length → ∃ b off, a = some ⟨b, off, none⟩ ∧ b < w.heap.size ∧ Sp.good (sp S j) ∧
      w.cell? ⟨b, off + j * 3, none⟩ = some (.int .i64 (sp S j).m) ∧ w.cell? ⟨b, off + j * 3 + 1, none⟩ = some (.int .i64 (sp S j).f) ∧ w.cell? ⟨b, off + j * 3 + 2, none⟩ = some (.int .i64 (sp S j).t) := by
  obtain ⟨h0, hg, a, cap, rfl, h1, h2, h3⟩ := h
  unfold maxLen at h2
  refine ⟨a, cap, rfl, h1, h2, fun j hj => ?_⟩
  rcases h3 with h3 | ⟨b, off, rfl, hlt, hc⟩
  · omega
  · obtain ⟨e0, e1, e2⟩ := fl3_at S j hj
    refine ⟨b, off, rfl, hlt, ⟨?_, ?_, ?_⟩, ?_, ?_, ?_⟩
    · rw [← e0]; exact at_i64 hg (by omega)
    · rw [← e1]; exact at_i64 hg (by omega)
    · rw [← e2]; exact at_i64 hg (by omega)
    · rw [← e0]; exact hc _ (by omega)
    · rw [← e1, Nat.add_assoc]; exact hc _ (by omega)
    · rw [← e2, Nat.add_assoc]; exact hc _ (by omega)
theorem Sites.open_ {w : World} {v : Value} {S : List St} (h : Sites w v S) :
    ∃ a cap, v = .slice a S.length cap ∧ S.length ≤ cap ∧ cap ≤ 9223372036854775807 ∧ ∀ j, j < S.length → ∃ b off, a = some ⟨b, off, none⟩ ∧ b < w.heap.size ∧ St.good (st S j) ∧
      w.cell? ⟨b, off + j * 2, none⟩ = some (.int .i64 (st S j).m) ∧ w.cell? ⟨b, off + j * 2 + 1, none⟩ = some (.int .i64 (st S j).a) := by
  obtain ⟨h0, hg, a, cap, rfl, h1, h2, h3⟩ := h
  unfold maxLen at h2
  refine ⟨a, cap, rfl, h1, h2, fun j hj => ?_⟩
  rcases h3 with h3 | ⟨b, off, rfl, hlt, hc⟩
  · omega
  · obtain ⟨e0, e1⟩ := fl2_at S j hj
    refine ⟨b, off, rfl, hlt, ⟨?_, ?_⟩, ?_, ?_⟩
    · rw [← e0]; exact at_i64 hg (by omega)
    · rw [← e1]; exact at_i64 hg (by omega)
    · rw [← e0]; exact hc _ (by omega)
    · rw [← e1, Nat.add_assoc]; exact hc _ (by omega)
theorem Spans.nil_ (w : World) : Spans w (.slice none 0 0) [] := (OwnF.nil_ 0 0 w 3).fl
theorem Sites.nil_ (w : World) : Sites w (.slice none 0 0) [] := (OwnF.nil_ 0 0 w 2).fl
def OwnSp (base : Nat) (w : World) (v : Value) (S : List Sp) : Prop := OwnF 110 base w v S.length 3 (fl3 S)
def OwnSt (base : Nat) (w : World) (v : Value) (T : List St) : Prop := OwnF 148 base w v T.length 2 (fl2 T)
theorem OwnSp.spans {base : Nat} {w : World} {v : Value} {S : List Sp} (h : OwnSp base w v S) : Spans w v S := OwnF.fl h
theorem OwnSt.sites {base : Nat} {w : World} {v : Value} {S : List St} (h : OwnSt base w v S) : Sites w v S := OwnF.fl h
end Go.Proofs.YtcpdoicbekcpeaaDoor.Rig

namespace Go.Proofs.YtcpdoicbekcpeaaDoor.Rig
open Go.RowKit Go.Lib Go.Proofs.YtcpdoicbekcpeaaDoor.Rt

theorem bcell {W w1 : World} (hb : Below W.heap.size W w1) : (∀ b o, b < W.heap.size → w1.cell? ⟨b, o, none⟩ = W.cell? ⟨b, o, none⟩) ∧ (∀ b o, b < W.heap.size → w1.frozen? ⟨b, o, none⟩ = W.frozen? ⟨b, o, none⟩) :=
  ⟨fun b o h => hb.cell (p := ⟨b, o, none⟩) h, fun b o h => hb.frozen (p := ⟨b, o, none⟩) h⟩

set_option maxRecDepth 100000 in
set_option maxHeartbeats 4000000 in
theorem rmright_any {sv tv : Value} {S : List Sp} {T : List St} (n : Int) (w : World) (hS : Spans w sv S) (hT : Sites w tv T) (hn : i64 n) :
    Calls Tryd.prog 80 #[.agg #[sv, tv], .int .i64 n] w fun e w' => e = .returned (.bool (mrightB S T n)) ∧ Below w.heap.size w w' := by
  obtain ⟨sa, sc, rfl, hls, hcs, hS1⟩ := hS.open_
  obtain ⟨ta, tc, rfl, hlt, hct, hT1⟩ := hT.open_
  have HS := Lib.hid hS1
  have HT := Lib.hid hT1
  obtain ⟨ns, hns⟩ : ∃ ns, ns = S.length := ⟨_, rfl⟩
  obtain ⟨nt, hnt⟩ : ∃ nt, nt = T.length := ⟨_, rfl⟩
  rw [← hns] at hls ⊢
  rw [← hnt] at hlt ⊢
  replace hns := Lib.hid hns
  replace hnt := Lib.hid hnt
  obtain ⟨n1, n2⟩ := hn
  obtain ⟨W0, hW0⟩ : ∃ W0, W0 = w.alloc (.cells #[.slice sa ns sc, .slice ta nt tc] 132) := ⟨_, rfl⟩
  have b0 : Below w.heap.size w W0 := by rw [hW0]; exact (Below.refl _ _).alloc (Nat.le_refl _) _
  have h0 : W0.heap[w.heap.size]? = some (.cells #[.slice sa ns sc, .slice ta nt tc] 132 (0, 0)) := by rw [hW0]; exact heap_alloc_new _ _
  have l0 : w.heap.size < W0.heap.size := by rw [hW0]; simp
  have BX : Hid (∀ w', Below W0.heap.size W0 w' → w'.cell? ⟨w.heap.size, 0, none⟩ = some (.slice sa ns sc) ∧ w'.cell? ⟨w.heap.size, 1, none⟩ = some (.slice ta nt tc)) := fun w' hb => by
    refine ⟨below_cell hb l0 ?_, below_cell hb l0 ?_⟩ <;> (rw [cell_of_row _ _ _ _ _ _ h0]; rfl)
  have HW0 := Lib.hid hW0
  have B0 := Lib.hid b0
  clear hS1 hT1 hS hT h0 hW0 b0
  go_enter Tryd.func80, Tryd.ntmps80
  go_wp2_with fail
  rw [← HW0.out]
  go_loopw [5] (fun i wr => ∃ k : Nat, k ≤ ns ∧ i = .int .i64 k ∧ Hid (∀ j, j < k → spOk S n j) ∧ Below W0.heap.size W0 wr) (fun i _ => ns - (RowKit.intOf i).toNat)
  case atStart => exact ⟨0, Nat.zero_le _, rfl, fun j hj => absurd hj (by omega), Below.refl _ _⟩
  case round =>
    obtain ⟨k, hk, rfl, OK, hbel⟩ := hrel
    obtain ⟨x0, x1⟩ := BX.out _ hbel
    by_cases hltk : k < ns
    · have hkl : k < S.length := by rw [← hns.out]; exact hltk
      obtain ⟨b, off, rfl, hb, ⟨⟨m1, m2⟩, ⟨f1, f2⟩, ⟨t1, t2⟩⟩, c0, c1, c2⟩ := HS.out k hkl
      have NO : ¬ spOk S n k → Hid (mrightB S T n = false) := fun hno => mright_sp hkl hno
      have YES : spOk S n k → Hid (∀ j, j < k + 1 → spOk S n j) := fun hy j hj => by
        by_cases e : j = k
        · subst e; exact hy
        · exact OK.out j (by omega)
      unfold spOk at NO YES
      have hbw : b < W0.heap.size := by omega
      have hbel2 := below_more B0.out hbel
      have PV : Hid (0 < k → ∃ y, y = sp S (k - 1) ∧ Sp.good y ∧ wr.cell? ⟨b, off + (k - 1) * 3, none⟩ = some (.int .i64 y.m) ∧ wr.cell? ⟨b, off + (k - 1) * 3 + 1, none⟩ = some (.int .i64 y.f) ∧ wr.cell? ⟨b, off + (k - 1) * 3 + 2, none⟩ = some (.int .i64 y.t)) := fun hk0 => by
        obtain ⟨b', off', e', hb', g', q0, q1, q2⟩ := HS.out (k - 1) (by omega)
        injection e' with e'
        injection e' with e1 e2
        subst e1 e2
        exact ⟨_, rfl, g', below_cell hbel2 hb' q0, below_cell hbel2 hb' q1, below_cell hbel2 hb' q2⟩
      generalize sp S k = s at *
      obtain ⟨m, f, t⟩ := s
      simp only at m1 m2 f1 f2 t1 t2 c0 c1 c2 NO YES
      replace c0 := below_cell hbel2 hb c0
      replace c1 := below_cell hbel2 hb c1
      replace c2 := below_cell hbel2 hb c2
      have N := Lib.hid NO
      have Y := Lib.hid YES
      have HB := Lib.hid hbel2
      have KA : Hid (∀ o, Below wr.heap.size wr (wr.alloc o)) := fun o => (Below.refl _ _).alloc (Nat.le_refl _) _
      have lb0 := Nat.lt_of_lt_of_le l0 hbel.size
      have lbb := Nat.lt_of_lt_of_le hb hbel2.size
      have HE := Lib.hid hbel
      clear NO YES hbel hbel2 OK HS HT
      by_cases q1 : m ≤ 0
      · have R := N.out (by omega)
        go_wp2_with fail
        go_ret
        exact ⟨ret_bool R.out.symm, below_more HB.out (KA.out _)⟩
      by_cases q2 : f < 0
      · have R := N.out (by omega)
        go_wp2_with fail
        go_ret
        exact ⟨ret_bool R.out.symm, below_more HB.out (KA.out _)⟩
      by_cases q3 : t ≤ f
      · have R := N.out (by omega)
        go_wp2_with fail
        go_ret
        exact ⟨ret_bool R.out.symm, below_more HB.out (KA.out _)⟩
      by_cases q4 : n < t
      · have R := N.out (by omega)
        go_wp2_with fail
        go_ret
        exact ⟨ret_bool R.out.symm, below_more HB.out (KA.out _)⟩
      obtain ⟨W1, hW1⟩ : ∃ W1, W1 = wr.alloc (.cells #[.int .i64 m, .int .i64 f, .int .i64 t] 110) := ⟨_, rfl⟩
      have b1 : Below wr.heap.size wr W1 := by rw [hW1]; exact KA.out _
      have h1 : W1.heap[wr.heap.size]? = some (.cells #[.int .i64 m, .int .i64 f, .int .i64 t] 110 (0, 0)) := by rw [hW1]; exact heap_alloc_new _ _
      have y0 : W1.cell? ⟨wr.heap.size, 0, none⟩ = some (.int .i64 m) := by rw [cell_of_row _ _ _ _ _ _ h1]; rfl
      have y1 : W1.cell? ⟨wr.heap.size, 1, none⟩ = some (.int .i64 f) := by rw [cell_of_row _ _ _ _ _ _ h1]; rfl
      have y2 : W1.cell? ⟨wr.heap.size, 2, none⟩ = some (.int .i64 t) := by rw [cell_of_row _ _ _ _ _ _ h1]; rfl
      have x0' := below_cell b1 lb0 x0
      have HW1 := Lib.hid hW1
      have B1 := Lib.hid (below_more HB.out b1)
      have BR := Lib.hid (below_more HE.out b1)
      have z2 : (0 : Int) ≤ (k : Int) := by omega
      by_cases hk0 : k = 0
      · have R := Y.out ⟨by omega, by omega, by omega, by omega, fun h => by omega⟩
        have d0 : decide ((0 : Int) < (k : Int)) = false := by simp; omega
        have d1 : decide (0 < k) = false := by simp; omega
        clear hk0 b1 h1 hW1 N Y PV
        go_wp2_with fail
        rw [← HW1.out]
        go_quiet (fail)
        go_wp2
        go_roundw
        case rel => exact ⟨k + 1, by omega, by go_num, R, below_drews BR.out _⟩
        case measure => simp [RowKit.intOf]; omega
      · obtain ⟨y, hy, ⟨⟨g1, g2⟩, ⟨g3, g4⟩, ⟨g5, g6⟩⟩, e0, e1, e2⟩ := PV.out (by omega)
        rw [← hy] at N Y
        obtain ⟨pm, pf, pt⟩ := y
        simp only at g1 g2 g3 g4 g5 g6 e0 e1 e2 N Y
        replace e0 := below_cell b1 lbb e0
        replace e2 := below_cell b1 lbb e2
        have d0 : decide ((0 : Int) < (k : Int)) = true := by simp; omega
        have d1 : decide (0 < k) = true := by simp; omega
        have z1 : IntKind.i64.wrap ((k : Int) - 1) = (k : Int) - 1 := IntWalk.i64_in _ (by omega)
        have z6 : (1 : Int) ≤ (k : Int) := by omega
        have z3 : (0 : Int) ≤ (k : Int) - 1 := by omega
        have z5 : (k : Int) - 1 < (ns : Int) := by omega
        have z4 : ((k : Int) - 1).toNat = k - 1 := by omega
        by_cases r1 : f < pt
        · have R := N.out (by omega)
          have d2 : decide (f < pt) = true := by simpa using r1
          clear hk0 b1 h1 hW1 N Y PV hy
          go_wp2_with fail
          rw [← HW1.out]
          go_quiet (fail)
          clear z1 z3 z4 z5
          go_wp2
          go_ret
          exact ⟨ret_bool R.out.symm, below_drews B1.out _⟩
        · have d2 : decide (f < pt) = false := by simpa using r1
          by_cases r2 : f = pt
          · have d3 : (f == pt) = true := by simpa using r2
            by_cases r3 : m = pm
            · have R := N.out (by omega)
              have d4 : (m == pm) = true := by simpa using r3
              clear hk0 b1 h1 hW1 N Y PV hy r2 r3
              go_wp2_with fail
              rw [← HW1.out]
              go_quiet (fail)
              clear z1 z3 z4 z5
              go_wp2
              go_ret
              exact ⟨ret_bool R.out.symm, below_drews B1.out _⟩
            · have R := Y.out ⟨by omega, by omega, by omega, by omega, fun _ => ⟨by omega, fun _ => r3⟩⟩
              have d4 : (m == pm) = false := by simpa using r3
              clear hk0 b1 h1 hW1 N Y PV hy r2 r3
              go_wp2_with fail
              rw [← HW1.out]
              go_quiet (fail)
              clear z1 z3 z4 z5
              go_wp2
              go_roundw
              case rel => exact ⟨k + 1, by omega, by go_num, R, below_drews BR.out _⟩
              case measure => simp [RowKit.intOf]; omega
          · have d3 : (f == pt) = false := by simpa using r2
            have R := Y.out ⟨by omega, by omega, by omega, by omega, fun _ => ⟨by omega, fun h => absurd h r2⟩⟩
            clear hk0 b1 h1 hW1 N Y PV hy r2
            go_wp2_with fail
            rw [← HW1.out]
            go_quiet (fail)
            clear z1 z3 z4 z5
            go_wp2
            go_roundw
            case rel => exact ⟨k + 1, by omega, by go_num, R, below_drews BR.out _⟩
            case measure => simp [RowKit.intOf]; omega
    · obtain rfl : k = ns := by omega
      have OKS := OK
      have HB0 := Lib.hid hbel
      clear HS OK hbel
      go_wp2_with fail
      go_loopw [7] (fun i wr => ∃ k : Nat, k ≤ nt ∧ i = .int .i64 k ∧ Hid (∀ j, j < k → stOk T n j) ∧ Below W0.heap.size W0 wr) (fun i _ => nt - (RowKit.intOf i).toNat)
      case atStart => exact ⟨0, Nat.zero_le _, rfl, fun j hj => absurd hj (by omega), HB0.out⟩
      case round =>
        obtain ⟨k, hk, rfl, OK, hbel⟩ := hrel
        clear x0 x1 hltk HB0
        obtain ⟨x0, x1⟩ := BX.out _ hbel
        by_cases hltk : k < nt
        · have hkl : k < T.length := by rw [← hnt.out]; exact hltk
          obtain ⟨b, off, rfl, hb, ⟨⟨m1, m2⟩, ⟨f1, f2⟩⟩, c0, c1⟩ := HT.out k hkl
          have NO : ¬ stOk T n k → Hid (mrightB S T n = false) := fun hno => mright_st hkl hno
          have YES : stOk T n k → Hid (∀ j, j < k + 1 → stOk T n j) := fun hy j hj => by
            by_cases e : j = k
            · subst e; exact hy
            · exact OK.out j (by omega)
          unfold stOk at NO YES
          have hbel2 := below_more B0.out hbel
          have PV : Hid (0 < k → ∃ y, y = st T (k - 1) ∧ St.good y ∧ wr.cell? ⟨b, off + (k - 1) * 2, none⟩ = some (.int .i64 y.m) ∧ wr.cell? ⟨b, off + (k - 1) * 2 + 1, none⟩ = some (.int .i64 y.a)) := fun hk0 => by
            obtain ⟨b', off', e', hb', g', q0, q1⟩ := HT.out (k - 1) (by omega)
            injection e' with e'
            injection e' with e1 e2
            subst e1 e2
            exact ⟨_, rfl, g', below_cell hbel2 hb' q0, below_cell hbel2 hb' q1⟩
          generalize st T k = s at *
          obtain ⟨m, f⟩ := s
          simp only at m1 m2 f1 f2 c0 c1 NO YES
          replace c0 := below_cell hbel2 hb c0
          replace c1 := below_cell hbel2 hb c1
          have N := Lib.hid NO
          have Y := Lib.hid YES
          have HB := Lib.hid hbel2
          have KA : Hid (∀ o, Below wr.heap.size wr (wr.alloc o)) := fun o => (Below.refl _ _).alloc (Nat.le_refl _) _
          have lb0 := Nat.lt_of_lt_of_le l0 hbel.size
          have lbb := Nat.lt_of_lt_of_le hb hbel2.size
          have HE := Lib.hid hbel
          clear NO YES hbel hbel2 OK HT
          by_cases q1 : m ≤ 0
          · have R := N.out (by omega)
            go_wp2_with fail
            go_ret
            exact ⟨ret_bool R.out.symm, below_more HB.out (KA.out _)⟩
          by_cases q2 : f < 0
          · have R := N.out (by omega)
            go_wp2_with fail
            go_ret
            exact ⟨ret_bool R.out.symm, below_more HB.out (KA.out _)⟩
          by_cases q4 : n < f
          · have R := N.out (by omega)
            go_wp2_with fail
            go_ret
            exact ⟨ret_bool R.out.symm, below_more HB.out (KA.out _)⟩
          obtain ⟨W1, hW1⟩ : ∃ W1, W1 = wr.alloc (.cells #[.int .i64 m, .int .i64 f] 148) := ⟨_, rfl⟩
          have b1 : Below wr.heap.size wr W1 := by rw [hW1]; exact KA.out _
          have h1 : W1.heap[wr.heap.size]? = some (.cells #[.int .i64 m, .int .i64 f] 148 (0, 0)) := by rw [hW1]; exact heap_alloc_new _ _
          have y0 : W1.cell? ⟨wr.heap.size, 0, none⟩ = some (.int .i64 m) := by rw [cell_of_row _ _ _ _ _ _ h1]; rfl
          have y1 : W1.cell? ⟨wr.heap.size, 1, none⟩ = some (.int .i64 f) := by rw [cell_of_row _ _ _ _ _ _ h1]; rfl
          have x1' := below_cell b1 lb0 x1
          have HW1 := Lib.hid hW1
          have B1 := Lib.hid (below_more HB.out b1)
          have BR := Lib.hid (below_more HE.out b1)
          have z2 : (0 : Int) ≤ (k : Int) := by omega
          by_cases hk0 : k = 0
          · have R := Y.out ⟨by omega, by omega, by omega, fun h => by omega⟩
            have d0 : decide ((0 : Int) < (k : Int)) = false := by simp; omega
            have d1 : decide (0 < k) = false := by simp; omega
            clear hk0 b1 h1 hW1 N Y PV
            go_wp2_with fail
            rw [← HW1.out]
            go_quiet (fail)
            go_wp2
            go_roundw
            case rel => exact ⟨k + 1, by omega, by go_num, R, below_drews BR.out _⟩
            case measure => simp [RowKit.intOf]; omega
          · obtain ⟨y, hy, ⟨⟨g1, g2⟩, ⟨g3, g4⟩⟩, e0, e1⟩ := PV.out (by omega)
            rw [← hy] at N Y
            obtain ⟨pm, pf⟩ := y
            simp only at g1 g2 g3 g4 e0 e1 N Y
            replace e0 := below_cell b1 lbb e0
            replace e1 := below_cell b1 lbb e1
            have d0 : decide ((0 : Int) < (k : Int)) = true := by simp; omega
            have d1 : decide (0 < k) = true := by simp; omega
            have z1 : IntKind.i64.wrap ((k : Int) - 1) = (k : Int) - 1 := IntWalk.i64_in _ (by omega)
            have z6 : (1 : Int) ≤ (k : Int) := by omega
            have z3 : (0 : Int) ≤ (k : Int) - 1 := by omega
            have z5 : (k : Int) - 1 < (nt : Int) := by omega
            have z4 : ((k : Int) - 1).toNat = k - 1 := by omega
            by_cases r1 : f < pf
            · have R := N.out (by omega)
              have d2 : decide (f < pf) = true := by simpa using r1
              clear hk0 b1 h1 hW1 N Y PV hy
              go_wp2_with fail
              rw [← HW1.out]
              go_quiet (fail)
              clear z1 z3 z4 z5
              go_wp2
              go_ret
              exact ⟨ret_bool R.out.symm, below_drews B1.out _⟩
            · have d2 : decide (f < pf) = false := by simpa using r1
              by_cases r2 : f = pf
              · have d3 : (f == pf) = true := by simpa using r2
                by_cases r3 : m ≤ pm
                · have R := N.out (by omega)
                  have d4 : decide (m ≤ pm) = true := by simpa using r3
                  clear hk0 b1 h1 hW1 N Y PV hy r2 r3
                  go_wp2_with fail
                  rw [← HW1.out]
                  go_quiet (fail)
                  clear z1 z3 z4 z5
                  go_wp2
                  go_ret
                  exact ⟨ret_bool R.out.symm, below_drews B1.out _⟩
                · have R := Y.out ⟨by omega, by omega, by omega, fun _ => ⟨by omega, fun _ => by omega⟩⟩
                  have d4 : decide (m ≤ pm) = false := by simpa using r3
                  clear hk0 b1 h1 hW1 N Y PV hy r2 r3
                  go_wp2_with fail
                  rw [← HW1.out]
                  go_quiet (fail)
                  clear z1 z3 z4 z5
                  go_wp2
                  go_roundw
                  case rel => exact ⟨k + 1, by omega, by go_num, R, below_drews BR.out _⟩
                  case measure => simp [RowKit.intOf]; omega
              · have d3 : (f == pf) = false := by simpa using r2
                have R := Y.out ⟨by omega, by omega, by omega, fun _ => ⟨by omega, fun h => absurd h r2⟩⟩
                clear hk0 b1 h1 hW1 N Y PV hy r2
                go_wp2_with fail
                rw [← HW1.out]
                go_quiet (fail)
                clear z1 z3 z4 z5
                go_wp2
                go_roundw
                case rel => exact ⟨k + 1, by omega, by go_num, R, below_drews BR.out _⟩
                case measure => simp [RowKit.intOf]; omega
        · have R : Hid (mrightB S T n = true) := decide_eq_true ⟨fun j hj => OKS.out j (by rw [← hns.out] at hj; exact hj), fun j hj => OK.out j (by rw [← hnt.out] at hj; omega)⟩
          have HE := Lib.hid hbel
          clear OK OKS HT hbel
          go_wp2_with fail
          go_ret
          exact ⟨ret_bool R.out.symm, below_more B0.out HE.out⟩
end Go.Proofs.YtcpdoicbekcpeaaDoor.Rig

namespace Go.Proofs.YtcpdoicbekcpeaaDoor.Rig
open Go.RowKit Go.Lib Go.Proofs.YtcpdoicbekcpeaaDoor.Rt

theorem infoInt : (Tryd.prog.info? 3).map (fun i => (i.zero, i.size, i.bytes)) = some (some (.int .i64 0), 1, 8) := by kernel_rfl

def lst (S : List Sp) (i n : Nat) : List Int := (List.range n).map fun x : Nat => lastAt (S.take i) (x : Int)
def mid (S : List Sp) (i : Nat) (k : Int) (n : Nat) : List Int := (List.range n).map fun x : Nat => if (sp S i).f ≤ (x : Int) ∧ (x : Int) < k then (sp S i).m else lastAt (S.take i) (x : Int)
theorem mid_start (S : List Sp) (i n : Nat) : mid S i (sp S i).f n = lst S i n := by
  unfold mid lst
  refine List.map_congr_left fun x _ => ?_
  rw [if_neg (by omega)]
theorem mid_end {S : List Sp} {i n : Nat} (hi : i < S.length) : mid S i (sp S i).t n = lst S (i + 1) n := by
  unfold mid lst
  refine List.map_congr_left fun x _ => ?_
  rw [List.take_succ_eq_append_getElem hi, lastAt_snoc, sp_get hi]
theorem mid_set {S : List Sp} {i n k : Nat} (hk : k < n) (hf : (sp S i).f ≤ (k : Int)) : (mid S i k n).set k (sp S i).m = mid S i ((k : Int) + 1) n := by
  apply List.ext_getElem?
  intro j
  unfold mid
  rw [List.getElem?_set, List.length_map, List.length_range]
  by_cases hj : j < n
  · rw [List.getElem?_map, List.getElem?_map, List.getElem?_range hj]
    simp only [Option.map_some]
    by_cases e : k = j
    · subst e
      rw [if_pos rfl, if_pos hj, if_pos (by omega)]
    · rw [if_neg e]
      by_cases c : (sp S i).f ≤ (j : Int) ∧ (j : Int) < (k : Int)
      · rw [if_pos c, if_pos (by omega)]
      · rw [if_neg c, if_neg (by omega)]
  · rw [if_neg (by omega), List.getElem?_eq_none (by simp; omega), List.getElem?_eq_none (by simp; omega)]
theorem mid_len (S : List Sp) (i : Nat) (k : Int) (n : Nat) : (mid S i k n).length = n := by simp [mid]
theorem lst_len (S : List Sp) (i n : Nat) : (lst S i n).length = n := by simp [lst]
theorem lst_all (S : List Sp) (n : Nat) : lst S S.length n = letters S n := by
  unfold lst letters
  rw [List.take_length]
theorem lst_zero (S : List Sp) (n : Nat) : ints (lst S 0 n) = List.replicate n (.int .i64 0) := by
  apply List.ext_getElem?
  intro j
  unfold lst ints
  by_cases hj : j < n
  · rw [List.map_map, List.getElem?_map, List.getElem?_range hj, List.getElem?_replicate, if_pos hj]
    rfl
  · rw [List.getElem?_eq_none (by simp; omega), List.getElem?_eq_none (by simp; omega)]
theorem lastAt_i64 {S : List Sp} (h : ∀ j, j < S.length → i64 (sp S j).m) (x : Int) : ∀ i, i64 (lastAt (S.take i) x)
  | 0 => by simp [lastAt, i64]
  | i + 1 => by
    by_cases hi : i < S.length
    · rw [List.take_succ_eq_append_getElem hi, lastAt_snoc]
      have := h i hi
      rw [sp_get hi] at this
      split
      · exact this
      · exact lastAt_i64 h x i
    · have := lastAt_i64 h x i
      rwa [List.take_of_length_le (by omega), ← List.take_of_length_le (show S.length ≤ i by omega)]
theorem ints_set (xs : List Int) (j : Nat) (x : Int) : (ints xs).set j (.int .i64 x) = ints (xs.set j x) := by
  unfold ints
  rw [List.map_set]

/-- It hands the letters' marks back, in a new row. -/
def NewE (w : World) (n : Nat) (ys : List Int) (e : Ending) (w' : World) : Prop := e = .returned (.slice (some ⟨w.heap.size + 1, 0, none⟩) n n) ∧ OwnI w.heap.size w' (.slice (some ⟨w.heap.size + 1, 0, none⟩) n n) ys ∧ Below w.heap.size w w'

end Go.Proofs.YtcpdoicbekcpeaaDoor.Rig

namespace Go.Proofs.YtcpdoicbekcpeaaDoor.Rig
open Go.RowKit Go.Lib Go.Proofs.YtcpdoicbekcpeaaDoor.Rt

theorem infoSpan : (Tryd.prog.info? 110).map (fun i => (i.zero, i.size, i.bytes)) = some (some (.agg #[.int .i64 0, .int .i64 0, .int .i64 0]), 3, 24) := by kernel_rfl
theorem infoSite : (Tryd.prog.info? 148).map (fun i => (i.zero, i.size, i.bytes)) = some (some (.agg #[.int .i64 0, .int .i64 0]), 2, 16) := by kernel_rfl

/-- An append of one record of ints that lies in a block of its own. -/
theorem wpList_append_rec {w : World} {ops : Array Oper} {rest : List Oper} {o : Oper} {a : Act} {Q : Exit → Act → World → Prop} (hgd : o.guard = none) (s x : Operand) (tS e : TypeId) (k bytes : Nat) (z : Value)
    (ht : Tryd.prog.underlying tS = some (.slice e)) (hinfo : (Tryd.prog.info? e).map (fun i => (i.zero, i.size, i.bytes)) = some (some z, k, bytes)) (hzs : z.cells.size = k) (hk : 0 < k) (hby : bytes ≤ 1000)
    (ho : o.op = .call { callee := .builtin .append, args := #[s, x], argTypes := #[tS, tS] }) (base : Nat) (v : Value) (n : Nat) (zs : List Int) (hs : a.eval s = v) (hown : OwnF e base w v n k zs)
    (b : Nat) (ys : List Int) (hx : a.eval x = .slice (some ⟨b, 0, none⟩) 1 1) (hb : w.heap[b]? = some (.cells (ints ys).toArray e (0, 0))) (hyl : ys.length = k) (hy : ∀ y ∈ ys, i64 y) (hn : n ≤ 100000) (hbase : base ≤ w.heap.size)
    (h : ∀ v' w', OwnF e base w' v' (n + 1) k (zs ++ ys) → w.grownBy w' v.ownBlock → wpList Tryd.prog ops Q rest (a.put o.dst v') w') : wpList Tryd.prog ops Q (o :: rest) a w := by
  obtain ⟨i0, hi, hz0, hz1, hz2⟩ := info_parts hinfo
  have hbig : (n + 1) * bytes ≤ 140737488355328 := Nat.le_trans (Nat.mul_le_mul (show n + 1 ≤ 100001 by omega) hby) (by decide)
  refine wpList_append_own w hgd s x tS ho base e i0 z k bytes ht hi hz0 hz1 hz2 hzs hk v n (ints zs) hs hown.1 ⟨b, 0, none⟩ 1 1 (ints ys) hx (by rw [ints_len]; omega) ?_ ints_one (by unfold maxLen; omega) hbig hbase ?_
  · intro j u hj
    have hadd : (⟨b, 0, none⟩ : Addr).add j = ⟨b, j, none⟩ := by unfold Addr.add; split <;> simp_all
    rw [hadd, cell_of_row w b j _ _ (0, 0) hb]
    simpa using hj
  · intro v' w' h1 h2 _
    refine h v' w' ⟨?_, fun q hq => ?_⟩ h2
    · rw [ints_app]
      exact h1
    · rw [List.mem_append] at hq
      rcases hq with hq | hq
      · exact hown.2 q hq
      · exact hy q hq

theorem fl3_set : ∀ (S : List Sp) (j : Nat) (t : Int), j < S.length → (fl3 S).set (j * 3 + 2) t = fl3 (S.set j ⟨(sp S j).m, (sp S j).f, t⟩)
  | [], j, t, h => by simp at h
  | s :: S, 0, t, h => rfl
  | s :: S, j + 1, t, h => by
    have ih := fl3_set S j t (by simpa using h)
    have e : fl3 (s :: S) = s.m :: s.f :: s.t :: fl3 S := rfl
    have q : sp (s :: S) (j + 1) = sp S j := rfl
    rw [e, q, show (j + 1) * 3 + 2 = j * 3 + 2 + 1 + 1 + 1 by omega, List.set_cons_succ, List.set_cons_succ, List.set_cons_succ, List.set_cons_succ, ih]
    rfl
theorem runF_zero {R : List Sp} {i x : Int} (h : x = 0) : runF R i x = R := by unfold runF; rw [if_pos h]
theorem runF_long {R : List Sp} {i x : Int} (h : x ≠ 0) (h1 : 0 < R.length) (h2 : (sp R (R.length - 1)).t = i) (h3 : (sp R (R.length - 1)).m = x) : runF R i x = R.set (R.length - 1) ⟨(sp R (R.length - 1)).m, (sp R (R.length - 1)).f, i + 1⟩ := by
  unfold runF; rw [if_neg h, if_pos ⟨h1, h2, h3⟩]
theorem runF_new {R : List Sp} {i x : Int} (h : x ≠ 0) (h1 : ¬ (0 < R.length ∧ (sp R (R.length - 1)).t = i ∧ (sp R (R.length - 1)).m = x)) : runF R i x = R ++ [⟨x, i, i + 1⟩] := by
  unfold runF; rw [if_neg h, if_neg h1]
theorem runsN_len (l : List Int) : ∀ k, (runsN l k).length ≤ k
  | 0 => Nat.le_refl _
  | k + 1 => by
    have ih := runsN_len l k
    unfold runsN runF
    split
    · omega
    · split
      · rw [List.length_set]; omega
      · rw [List.length_append]; simp; omega

/-- It hands spans back that it owns; nothing old has turned. -/
def NewSp (w : World) (S : List Sp) (e : Ending) (w' : World) : Prop := ∃ v', e = .returned v' ∧ OwnSp w.heap.size w' v' S ∧ Below w.heap.size w w'

theorem OwnSp.set_ {base : Nat} {w : World} {g cap : Nat} {S : List Sp} (h : OwnSp base w (.slice (some ⟨g, 0, none⟩) S.length cap) S) {j : Nat} (hj : j < S.length) {t : Int} (ht : i64 t) :
    OwnSp base (w.setCell ⟨g, j * 3 + 2, none⟩ (.int .i64 t)) (.slice (some ⟨g, 0, none⟩) S.length cap) (S.set j ⟨(sp S j).m, (sp S j).f, t⟩) := by
  obtain ⟨h1, h2⟩ := h
  have q := (World.ownsRow.stored h1 (j * 3 + 2) (.int .i64 t)).1
  rw [ints_set, fl3_set S j t hj] at q
  refine ⟨by rw [List.length_set]; exact q, fun x hx => ?_⟩
  rw [← fl3_set S j t hj] at hx
  rcases List.mem_or_eq_of_mem_set hx with hx | rfl
  · exact h2 x hx
  · exact ht

end Go.Proofs.YtcpdoicbekcpeaaDoor.Rig

namespace Go.Proofs.YtcpdoicbekcpeaaDoor.Rig
open Go.RowKit Go.Lib Go.Proofs.YtcpdoicbekcpeaaDoor.Rt

theorem hS_span : Tryd.prog.underlying 110 = some (.struct (Tryd.prog.fieldsOf 110)) := by kernel_rfl
theorem hS_site : Tryd.prog.underlying 148 = some (.struct (Tryd.prog.fieldsOf 148)) := by kernel_rfl
theorem guard_span (op : BinOp) (x y : Operand) (xs ys : Array Value) (w : World) : (eqGuard op 110 x y (.agg xs) (.agg ys)).run Tryd.prog w = .ok () w := run_eqGuard_agg w op _ x y xs ys (by kernel_rfl)
theorem guard_site (op : BinOp) (x y : Operand) (xs ys : Array Value) (w : World) : (eqGuard op 148 x y (.agg xs) (.agg ys)).run Tryd.prog w = .ok () w := run_eqGuard_agg w op _ x y xs ys (by kernel_rfl)
theorem eql_site (a b c d : Int) (w : World) : (binOp .eql 148 (.agg #[.int .i64 a, .int .i64 b]) (.agg #[.int .i64 c, .int .i64 d])).run Tryd.prog w = .ok (.bool (a == c && b == d)) w := by
  have u3 := Tryd.underlying3
  have a3 := Tryd.isAgg3
  have z3 := Tryd.sizeOf3
  have hp : Tryd.prog.stoodInHeld 148 = false := by kernel_rfl
  rw [run_eql_struct, show (10000 : Nat) = 9999 + 1 from rfl, run_equalIn_agg w 9999 148 _ _ hS_site hp]
  simp only [Program.fieldsOf, Tryd.underlying148]
  go_simp
  by_cases h1 : a = c <;> by_cases h2 : b = d <;> simp [h1, h2]
theorem neq_site (a b c d : Int) (w : World) : (binOp .neq 148 (.agg #[.int .i64 a, .int .i64 b]) (.agg #[.int .i64 c, .int .i64 d])).run Tryd.prog w = .ok (.bool (!(a == c && b == d))) w := by
  have u3 := Tryd.underlying3
  have a3 := Tryd.isAgg3
  have z3 := Tryd.sizeOf3
  have hp : Tryd.prog.stoodInHeld 148 = false := by kernel_rfl
  rw [run_neq_struct, show (10000 : Nat) = 9999 + 1 from rfl, run_equalIn_agg w 9999 148 _ _ hS_site hp]
  simp only [Program.fieldsOf, Tryd.underlying148]
  go_simp
  by_cases h1 : a = c <;> by_cases h2 : b = d <;> simp [h1, h2]
theorem neq_span (a b c a' b' c' : Int) (w : World) : (binOp .neq 110 (.agg #[.int .i64 a, .int .i64 b, .int .i64 c]) (.agg #[.int .i64 a', .int .i64 b', .int .i64 c'])).run Tryd.prog w = .ok (.bool (!(a == a' && (b == b' && c == c')))) w := by
  have u3 := Tryd.underlying3
  have a3 := Tryd.isAgg3
  have z3 := Tryd.sizeOf3
  have hp : Tryd.prog.stoodInHeld 110 = false := by kernel_rfl
  rw [run_neq_struct, show (10000 : Nat) = 9999 + 1 from rfl, run_equalIn_agg w 9999 110 _ _ hS_span hp]
  simp only [Program.fieldsOf, Tryd.underlying110]
  go_simp
  by_cases h1 : a = a' <;> by_cases h2 : b = b' <;> by_cases h3 : c = c' <;> simp [h1, h2, h3]

set_option maxRecDepth 100000 in
set_option maxHeartbeats 2000000 in
theorem msame_any {s1 s2 t1 t2 : Value} {S : List Sp} {T : List St} (w : World) (h1 : Spans w s1 S) (h2 : Spans w s2 S) (h3 : Sites w t1 T) (h4 : Sites w t2 T) :
    Calls Tryd.prog 82 #[s1, s2, t1, t2] w fun e w' => e = .returned (.bool true) ∧ Below w.heap.size w w' := by
  obtain ⟨a1, c1, rfl, hl1, hm1, q1⟩ := h1.open_
  obtain ⟨a2, c2, rfl, hl2, hm2, q2⟩ := h2.open_
  obtain ⟨a3, c3, rfl, hl3, hm3, q3⟩ := h3.open_
  obtain ⟨a4, c4, rfl, hl4, hm4, q4⟩ := h4.open_
  have H1 := Lib.hid q1
  have H2 := Lib.hid q2
  have H3 := Lib.hid q3
  have H4 := Lib.hid q4
  obtain ⟨ns, hns⟩ : ∃ n, n = S.length := ⟨_, rfl⟩
  obtain ⟨nt, hnt⟩ : ∃ n, n = T.length := ⟨_, rfl⟩
  rw [← hns] at hl1 hl2 ⊢
  rw [← hnt] at hl3 hl4 ⊢
  replace hns := Lib.hid hns
  replace hnt := Lib.hid hnt
  have GS := guard_span
  have GT := guard_site
  clear q1 q2 q3 q4 h1 h2 h3 h4
  go_enter Tryd.func82, Tryd.ntmps82
  go_wp2_with fail
  go_loopw [9] (fun i wr => ∃ k : Nat, k ≤ ns ∧ i = .int .i64 k ∧ Below w.heap.size w wr) (fun i _ => ns - (RowKit.intOf i).toNat)
  case atStart => exact ⟨0, Nat.zero_le _, rfl, Below.refl _ _⟩
  case round =>
    obtain ⟨k, hk, rfl, hbel⟩ := hrel
    by_cases hlt : k < ns
    · have hkl : k < S.length := by rw [← hns.out]; exact hlt
      obtain ⟨b1, f1, rfl, hb1, ⟨⟨m1, m2⟩, ⟨g1, g2⟩, ⟨g3, g4⟩⟩, x0, x1, x2⟩ := H1.out k hkl
      obtain ⟨b2, f2, rfl, hb2, _, y0, y1, y2⟩ := H2.out k hkl
      generalize sp S k = s at *
      obtain ⟨m, f, t⟩ := s
      simp only at m1 m2 g1 g2 g3 g4 x0 x1 x2 y0 y1 y2
      replace x0 := below_cell hbel hb1 x0
      replace x1 := below_cell hbel hb1 x1
      replace x2 := below_cell hbel hb1 x2
      replace y0 := below_cell hbel hb2 y0
      replace y1 := below_cell hbel hb2 y1
      replace y2 := below_cell hbel hb2 y2
      have NE : ∀ w, (binOp .neq 110 (.agg #[.int .i64 m, .int .i64 f, .int .i64 t]) (.agg #[.int .i64 m, .int .i64 f, .int .i64 t])).run Tryd.prog w = .ok (.bool false) w := fun w => by rw [neq_span]; simp
      have i0 : (0 : Int) ≤ (k : Int) := by omega
      have i1 : (k : Int) < (ns : Int) := by omega
      have HB := Lib.hid hbel
      clear H1 H2 H3 H4 hbel
      go_wp2_with fail
      go_quiet (fail)
      go_wp2
      go_roundw
      case rel => exact ⟨k + 1, by omega, by go_num, below_drews HB.out _⟩
      case measure => simp [RowKit.intOf]; omega
    · obtain rfl : k = ns := by omega
      have HB0 := Lib.hid hbel
      clear H1 H2 hbel
      go_wp2_with fail
      go_loopw [10] (fun i wr => ∃ k : Nat, k ≤ nt ∧ i = .int .i64 k ∧ Below w.heap.size w wr) (fun i _ => nt - (RowKit.intOf i).toNat)
      case atStart => exact ⟨0, Nat.zero_le _, rfl, HB0.out⟩
      case round =>
        obtain ⟨k, hk, rfl, hbel⟩ := hrel
        by_cases hlt : k < nt
        · have hkl : k < T.length := by rw [← hnt.out]; exact hlt
          obtain ⟨b1, f1, rfl, hb1, ⟨⟨m1, m2⟩, ⟨g1, g2⟩⟩, x0, x1⟩ := H3.out k hkl
          obtain ⟨b2, f2, rfl, hb2, _, y0, y1⟩ := H4.out k hkl
          generalize st T k = s at *
          obtain ⟨m, f⟩ := s
          simp only at m1 m2 g1 g2 x0 x1 y0 y1
          replace x0 := below_cell hbel hb1 x0
          replace x1 := below_cell hbel hb1 x1
          replace y0 := below_cell hbel hb2 y0
          replace y1 := below_cell hbel hb2 y1
          have NE : ∀ w, (binOp .neq 148 (.agg #[.int .i64 m, .int .i64 f]) (.agg #[.int .i64 m, .int .i64 f])).run Tryd.prog w = .ok (.bool false) w := fun w => by rw [neq_site]; simp
          have i0 : (0 : Int) ≤ (k : Int) := by omega
          have i1 : (k : Int) < (nt : Int) := by omega
          have HB := Lib.hid hbel
          clear H3 H4 hbel HB0
          go_wp2_with fail
          go_quiet (fail)
          go_wp2
          go_roundw
          case rel => exact ⟨k + 1, by omega, by go_num, below_drews HB.out _⟩
          case measure => simp [RowKit.intOf]; omega
        · have HB := Lib.hid hbel
          clear H3 H4 hbel HB0
          go_wp2_with fail
          go_ret
          exact ⟨rfl, HB.out⟩
end Go.Proofs.YtcpdoicbekcpeaaDoor.Rig

namespace Go.Proofs.YtcpdoicbekcpeaaDoor.Rig
open Go.RowKit Go.Lib Go.Proofs.YtcpdoicbekcpeaaDoor.Rt

/-- It hands sites back; nothing old has turned. -/
def GivesSt (w : World) (T : List St) (e : Ending) (w' : World) : Prop := ∃ v', e = .returned v' ∧ Sites w' v' T ∧ Below w.heap.size w w'

end Go.Proofs.YtcpdoicbekcpeaaDoor.Rig

namespace Go.Proofs.YtcpdoicbekcpeaaDoor.Rig
open Go.RowKit Go.Lib Go.Proofs.YtcpdoicbekcpeaaDoor.Rt

def ofS (S : List Sp) (mk : Int) : List Sp := S.filter fun s => decide (s.m = mk)
def ofT (T : List St) (mk : Int) : List Int := (T.filter fun s => decide (s.m = mk)).map (·.a)
theorem ofS_take {S : List Sp} {k : Nat} (mk : Int) (h : k < S.length) : ofS (S.take (k + 1)) mk = ofS (S.take k) mk ++ (if (sp S k).m = mk then [sp S k] else []) := by
  unfold ofS
  rw [List.take_succ_eq_append_getElem h, List.filter_append, sp_get h]
  by_cases e : S[k].m = mk
  · rw [if_pos e]; simp [e]
  · rw [if_neg e]; simp [e]
theorem ofT_take {T : List St} {k : Nat} (mk : Int) (h : k < T.length) : ofT (T.take (k + 1)) mk = ofT (T.take k) mk ++ (if (st T k).m = mk then [(st T k).a] else []) := by
  unfold ofT
  rw [List.take_succ_eq_append_getElem h, List.filter_append, List.map_append, st_get h]
  by_cases e : T[k].m = mk
  · rw [if_pos e]; simp [e]
  · rw [if_neg e]; simp [e]
theorem ofS_len (S : List Sp) (mk : Int) (k : Nat) : (ofS (S.take k) mk).length ≤ k := by
  unfold ofS
  have h1 := List.length_filter_le (fun s : Sp => decide (s.m = mk)) (S.take k)
  have h2 := List.length_take_le k S
  omega
theorem ofT_len (T : List St) (mk : Int) (k : Nat) : (ofT (T.take k) mk).length ≤ k := by
  unfold ofT
  rw [List.length_map]
  have h1 := List.length_filter_le (fun s : St => decide (s.m = mk)) (T.take k)
  have h2 := List.length_take_le k T
  omega
theorem OwnF.ints {base : Nat} {w : World} {v : Value} {zs : List Int} (h : OwnF 3 base w v zs.length 1 zs) : Ints w v zs := OwnI.ints (base := base) h

/-- It hands spans and places back. -/
def GivesOf (w : World) (S : List Sp) (T : List Int) (e : Ending) (w' : World) : Prop := ∃ v1 v2, e = .returned (.tuple #[v1, v2]) ∧ Spans w' v1 S ∧ Ints w' v2 T ∧ Below w.heap.size w w'

set_option maxRecDepth 100000 in
set_option maxHeartbeats 4000000 in
theorem rof_any {sv tv : Value} {S : List Sp} {T : List St} (mk : Int) (w : World) (hS : Spans w sv S) (hT : Sites w tv T) (hmk : i64 mk) (hn : S.length ≤ 10000) (hn2 : T.length ≤ 10000) :
    Calls Tryd.prog 114 #[.agg #[sv, tv], .int .i64 mk] w (GivesOf w (ofS S mk) (ofT T mk)) := by
  obtain ⟨sa, sc, rfl, hls, hcs, hS1⟩ := hS.open_
  obtain ⟨ta, tc, rfl, hlt, hct, hT1⟩ := hT.open_
  have HS := Lib.hid hS1
  have HT := Lib.hid hT1
  obtain ⟨ns, hns⟩ : ∃ ns, ns = S.length := ⟨_, rfl⟩
  obtain ⟨nt, hnt⟩ : ∃ nt, nt = T.length := ⟨_, rfl⟩
  have ES : Hid (ofS (S.take ns) mk = ofS S mk) := by show _ = _; rw [hns, List.take_length]
  have ET : Hid (ofT (T.take nt) mk = ofT T mk) := by show _ = _; rw [hnt, List.take_length]
  rw [← hns] at hls hn ⊢
  rw [← hnt] at hlt hn2 ⊢
  replace hns := Lib.hid hns
  replace hnt := Lib.hid hnt
  obtain ⟨n1, n2⟩ := hmk
  obtain ⟨W0, hW0⟩ : ∃ W0, W0 = w.alloc (.cells #[.slice sa ns sc, .slice ta nt tc] 132) := ⟨_, rfl⟩
  have b0 : Below w.heap.size w W0 := by rw [hW0]; exact (Below.refl _ _).alloc (Nat.le_refl _) _
  have h0 : W0.heap[w.heap.size]? = some (.cells #[.slice sa ns sc, .slice ta nt tc] 132 (0, 0)) := by rw [hW0]; exact heap_alloc_new _ _
  have l0 : w.heap.size < W0.heap.size := by rw [hW0]; simp
  have BX : Hid (∀ w', Below W0.heap.size W0 w' → w'.cell? ⟨w.heap.size, 0, none⟩ = some (.slice sa ns sc) ∧ w'.cell? ⟨w.heap.size, 1, none⟩ = some (.slice ta nt tc)) := fun w' hb => by
    refine ⟨below_cell hb l0 ?_, below_cell hb l0 ?_⟩ <;> (rw [cell_of_row _ _ _ _ _ _ h0]; rfl)
  have HW0 := Lib.hid hW0
  have B0 := Lib.hid b0
  clear hS1 hT1 hS hT h0 hW0 b0
  go_enter Tryd.func114, Tryd.ntmps114
  go_wp2_with fail
  rw [← HW0.out]
  go_loopw [6, 8] (fun t i wr => ∃ k : Nat, k ≤ ns ∧ i = .int .i64 k ∧ Hid (OwnSp W0.heap.size wr t (ofS (S.take k) mk)) ∧ Below W0.heap.size W0 wr) (fun _ i _ => ns - (RowKit.intOf i).toNat)
  case atStart => exact ⟨0, Nat.zero_le _, rfl, OwnF.nil_ _ _ _ _, Below.refl _ _⟩
  case round =>
    obtain ⟨k, hk, rfl, HO, hbel⟩ := hrel
    obtain ⟨x0, x1⟩ := BX.out _ hbel
    obtain ⟨R, hR⟩ : ∃ R, R = ofS (S.take k) mk := ⟨_, rfl⟩
    have hrl : R.length ≤ k := by rw [hR]; exact ofS_len S mk k
    rw [← hR] at HO
    obtain ⟨ao, co, rfl⟩ := HO.out.is_slice
    have HBwr := Lib.hid hbel
    by_cases hltk : k < ns
    · have hkl : k < S.length := by rw [← hns.out]; exact hltk
      obtain ⟨b, off, rfl, hb, ⟨⟨m1, m2⟩, ⟨f1, f2⟩, ⟨t1, t2⟩⟩, c0, c1, c2⟩ := HS.out k hkl
      have EQ := Lib.hid (ofS_take mk hkl)
      rw [← hR] at EQ
      have hse : ∃ e, e = sp S k := ⟨_, rfl⟩
      obtain ⟨e, he⟩ := hse
      rw [← he] at m1 m2 f1 f2 t1 t2 c0 c1 c2 EQ
      obtain ⟨m, f, t⟩ := e
      simp only at m1 m2 f1 f2 t1 t2 c0 c1 c2 EQ
      have hbel2 := below_more B0.out hbel
      replace c0 := below_cell hbel2 hb c0
      replace c1 := below_cell hbel2 hb c1
      replace c2 := below_cell hbel2 hb c2
      clear hbel hbel2 HS HT hR he
      by_cases q : m = mk
      · have d : (m == mk) = true := by simpa using q
        have EN := Lib.hid (EQ.out.trans (by rw [if_pos q]))
        clear EQ q
        have A1 := Lib.hid (OwnF.below HO.out ((Below.refl _ wr).alloc (Nat.le_refl _) (.cells #[.int .i64 m, .int .i64 f, .int .i64 t] 110)))
        have A2 := Lib.hid (heap_alloc_new wr (.cells #[.int .i64 m, .int .i64 f, .int .i64 t] 110))
        have A3 : Hid (R.length ≤ 100000) := by show _ ≤ _; omega
        have A4 : Hid (W0.heap.size ≤ (wr.alloc (.cells #[.int .i64 m, .int .i64 f, .int .i64 t] 110)).heap.size) := by show _ ≤ _; have := HBwr.out.size; simp; omega
        have A5 : Hid (∀ q ∈ [m, f, t], i64 q) := fun q hq => by
          simp at hq
          rcases hq with rfl | rfl | rfl <;> exact ⟨by omega, by omega⟩
        go_wp2_with (at_builtin; refine wpList_append_rec rfl _ _ 22 110 3 24 _ Tryd.underlying22 infoSpan rfl (by decide) (by decide) rfl W0.heap.size _ R.length _ rfl A1.out wr.heap.size [m, f, t] rfl A2.out rfl A5.out A3.out A4.out ?_)
        intro v6 w6 h5 g5
        have K6 : Hid (OwnSp W0.heap.size w6 v6 (ofS (S.take (k + 1)) mk)) := by
          show OwnF _ _ _ _ _ _ _
          rw [EN.out, fl3_app, List.length_append]
          exact h5
        obtain ⟨a6, c6, rfl⟩ := K6.out.is_slice
        have HBw6 := Lib.hid ((HBwr.out.alloc HBwr.out.size _).grown g5 A4.out (fun q e => (A1.out.block q e).1))
        clear h5 g5 A1 A2 A3 A4 A5
        clear EN HO
        go_wp2_with fail
        go_roundw
        case rel => exact ⟨k + 1, by omega, by go_num, K6.out, HBw6.out⟩
        case measure => simp [RowKit.intOf]; omega
      · have d : (m == mk) = false := by simpa using q
        have K6 : Hid (OwnSp W0.heap.size wr (.slice ao R.length co) (ofS (S.take (k + 1)) mk)) := by
          have e : R = ofS (S.take (k + 1)) mk := by rw [EQ.out, if_neg q, List.append_nil]
          rw [← e]
          exact HO.out
        clear EQ q HO
        go_wp2_with fail
        go_roundw
        case rel => exact ⟨k + 1, by omega, by go_num, K6.out, HBwr.out⟩
        case measure => simp [RowKit.intOf]; omega
    · obtain rfl : k = ns := by omega
      obtain ⟨wm, hwm⟩ : ∃ wm : World, wm = wr := ⟨_, rfl⟩
      subst hwm
      have HSP : Hid (Spans wm (.slice ao R.length co) (ofS S mk)) := by
        have := HO.out.spans
        rw [hR, ES.out] at this
        rw [hR, ES.out]
        exact this
      have lm := HBwr.out.size
      clear HS HO hbel hR x0 x1
      generalize R.length = rn at *
      have x0 := (BX.out _ HBwr.out).1
      go_wp2_with fail
      go_loopw [7, 9] (fun t i wr => ∃ k : Nat, k ≤ nt ∧ i = .int .i64 k ∧ Hid (OwnF 3 wm.heap.size wr t (ofT (T.take k) mk).length 1 (ofT (T.take k) mk)) ∧ Below wm.heap.size wm wr) (fun _ i _ => nt - (RowKit.intOf i).toNat)
      case atStart => exact ⟨0, Nat.zero_le _, rfl, OwnF.nil_ _ _ _ _, Below.refl _ _⟩
      case round =>
        obtain ⟨k, hk, rfl, HO, hbel⟩ := hrel
        have HBW := Lib.hid (below_more HBwr.out hbel)
        clear x0
        obtain ⟨x0, x1⟩ := BX.out _ HBW.out
        obtain ⟨R, hR⟩ : ∃ R, R = ofT (T.take k) mk := ⟨_, rfl⟩
        have hrl : R.length ≤ k := by rw [hR]; exact ofT_len T mk k
        rw [← hR] at HO
        obtain ⟨ao', co', rfl⟩ := HO.out.is_slice
        have HBwx := Lib.hid hbel
        obtain ⟨wx, hwx⟩ : ∃ wx : World, wx = wr := ⟨_, rfl⟩
        subst hwx
        by_cases hltk : k < nt
        · have hkl : k < T.length := by rw [← hnt.out]; exact hltk
          obtain ⟨b, off, rfl, hb, ⟨⟨m1, m2⟩, ⟨f1, f2⟩⟩, c0, c1⟩ := HT.out k hkl
          have EQ := Lib.hid (ofT_take mk hkl)
          rw [← hR] at EQ
          have hse : ∃ e, e = st T k := ⟨_, rfl⟩
          obtain ⟨e, he⟩ := hse
          rw [← he] at m1 m2 f1 f2 c0 c1 EQ
          obtain ⟨m, f⟩ := e
          simp only at m1 m2 f1 f2 c0 c1 EQ
          have hbel2 := below_more B0.out HBW.out
          replace c0 := below_cell hbel2 hb c0
          replace c1 := below_cell hbel2 hb c1
          clear hbel hbel2 HT hR he
          by_cases q : m = mk
          · have d : (m == mk) = true := by simpa using q
            have EN := Lib.hid (EQ.out.trans (by rw [if_pos q]))
            clear EQ q
            have A1 := Lib.hid (OwnF.below HO.out ((Below.refl _ wx).alloc (Nat.le_refl _) (.cells #[.int .i64 f] 3)))
            have A2 := Lib.hid (heap_alloc_new wx (.cells #[.int .i64 f] 3))
            have A3 : Hid (R.length ≤ 100000) := by show _ ≤ _; omega
            have A4 : Hid (wm.heap.size ≤ (wx.alloc (.cells #[.int .i64 f] 3)).heap.size) := by show _ ≤ _; have := HBwx.out.size; simp; omega
            have A5 : Hid (∀ q ∈ [f], i64 q) := fun q hq => by
              simp at hq
              subst hq; exact ⟨by omega, by omega⟩
            go_wp2_with (at_builtin; refine wpList_append_rec rfl _ _ 56 3 1 8 _ Tryd.underlying56 infoInt rfl (by decide) (by decide) rfl wm.heap.size _ R.length _ rfl A1.out wx.heap.size [f] rfl A2.out rfl A5.out A3.out A4.out ?_)
            intro v6 w6 h5 g5
            have K6 : Hid (OwnF 3 wm.heap.size w6 v6 (ofT (T.take (k + 1)) mk).length 1 (ofT (T.take (k + 1)) mk)) := by
              show OwnF _ _ _ _ _ _ _
              rw [EN.out, List.length_append]
              exact h5
            obtain ⟨a6, c6, rfl⟩ := K6.out.is_slice
            have HBw6 := Lib.hid ((HBwx.out.alloc HBwx.out.size _).grown g5 A4.out (fun q e => (A1.out.block q e).1))
            clear h5 g5 A1 A2 A3 A4 A5
            clear EN HO
            go_wp2_with fail
            go_roundw
            case rel => exact ⟨k + 1, by omega, by go_num, K6.out, HBw6.out⟩
            case measure => simp [RowKit.intOf]; omega
          · have d : (m == mk) = false := by simpa using q
            have K6 : Hid (OwnF 3 wm.heap.size wx (.slice ao' R.length co') (ofT (T.take (k + 1)) mk).length 1 (ofT (T.take (k + 1)) mk)) := by
              have e : R = ofT (T.take (k + 1)) mk := by rw [EQ.out, if_neg q, List.append_nil]
              rw [← e]
              exact HO.out
            clear EQ q HO
            go_wp2_with fail
            go_roundw
            case rel => exact ⟨k + 1, by omega, by go_num, K6.out, HBwx.out⟩
            case measure => simp [RowKit.intOf]; omega
        · obtain rfl : k = nt := by omega
          have HIN : Hid (Ints wx (.slice ao' R.length co') (ofT T mk)) := by
            have := OwnF.ints HO.out
            rw [hR, ET.out] at this
            rw [hR, ET.out]
            exact this
          clear HT HO hbel hR
          generalize R.length = rm at *
          go_wp2_with fail
          go_ret2
          exact ⟨_, _, rfl, HSP.out.below HBwx.out (Nat.le_refl _), HIN.out, below_more B0.out HBW.out⟩
end Go.Proofs.YtcpdoicbekcpeaaDoor.Rig
