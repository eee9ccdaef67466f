/- Slices of structs of ints in memory: read, owned; spans, sites, marks. -/
import Derived.Test.YtccaiippoephbaaGreatDoorWh
import Derived.Test.YtccaiippoephbaaGreatDoorWg
import Derived.Deep.LoopGhost
import Derived.Deep.QuietTactic
import Derived.BigQuiet
import Derived.WalkSmall
import Derived.IntWalk
import Derived.OwnWalk
import Derived.Laws.MakeOwn
set_option maxRecDepth 100000
set_option linter.unusedVariables false
namespace Go.Proofs.YtccaiippoephbaaGreatDoor.Rig
open Go.RowKit Go.Lib Go.Proofs.YtccaiippoephbaaGreatDoor.Rt

/-- The slice v has n elements of k ints each: zs, one behind the other. -/
def Fl (w : World) (v : Value) (n k : Nat) (zs : List Int) : Prop :=
  zs.length = n * k ∧ (∀ x ∈ zs, i64 x) ∧ ∃ a cap, v = .slice a n cap ∧ n ≤ cap ∧ cap ≤ maxLen ∧ (n = 0 ∨ ∃ b off, a = some ⟨b, off, none⟩ ∧ b < w.heap.size ∧ ∀ j, j < n * k → w.cell? ⟨b, off + j, none⟩ = some (.int .i64 (at_ zs j)))
theorem Fl.below {w w' : World} {v : Value} {n k : Nat} {zs : List Int} (h : Fl w v n k zs) {B : Nat} (hb : Below B w w') (hB : w.heap.size ≤ B) : Fl w' v n k zs := by
  obtain ⟨h0, h0', a, cap, rfl, h1, h2, h3⟩ := h
  refine ⟨h0, h0', a, cap, rfl, h1, h2, ?_⟩
  rcases h3 with h3 | ⟨b, off, rfl, hlt, hc⟩
  · exact .inl h3
  · refine .inr ⟨b, off, rfl, Nat.lt_of_lt_of_le hlt hb.size, fun j hj => ?_⟩
    rw [hb.cell (p := ⟨b, off + j, none⟩) (Nat.lt_of_lt_of_le hlt hB)]
    exact hc j hj
theorem Fl.is_slice {w : World} {v : Value} {n k : Nat} {zs : List Int} (h : Fl w v n k zs) : ∃ a cap, v = .slice a n cap := by
  obtain ⟨_, _, a, cap, rfl, _⟩ := h
  exact ⟨a, cap, rfl⟩
/-- The call's own. -/
def OwnF (T : TypeId) (base : Nat) (w : World) (v : Value) (n k : Nat) (zs : List Int) : Prop := w.ownsRow base T k v n (ints zs) ∧ ∀ x ∈ zs, i64 x
theorem OwnF.fl {T : TypeId} {base : Nat} {w : World} {v : Value} {n k : Nat} {zs : List Int} (h : OwnF T base w v n k zs) : Fl w v n k zs := by
  obtain ⟨h1, h2⟩ := h
  have hl : zs.length = n * k := by have := h1.1; rwa [ints_len] at this
  refine ⟨hl, h2, ?_⟩
  rcases h1.2 with ⟨rfl, h0⟩ | ⟨g, cap, cur, rfl, hb, hg, hle, hm, hsz, htake⟩
  · subst h0
    exact ⟨none, 0, rfl, Nat.le_refl _, Nat.zero_le _, .inl rfl⟩
  · refine ⟨some ⟨g, 0, none⟩, cap, rfl, hle, hm, .inr ⟨g, 0, rfl, (Array.getElem?_eq_some_iff.1 hg).1, fun j hj => ?_⟩⟩
    have hc := World.ownsRow.cells h1 (g := g) rfl j (.int .i64 (at_ zs j)) (ints_get (by omega))
    have hadd : (⟨g, 0, none⟩ : Addr).add j = ⟨g, j, none⟩ := by unfold Addr.add; split <;> simp_all
    rw [hadd] at hc
    rw [Nat.zero_add]
    exact hc
theorem OwnF.kept {T : TypeId} {base : Nat} {w w' : World} {v : Value} {n k : Nat} {zs : List Int} {row : Option Nat} (h : OwnF T base w v n k zs) (hg : w.grownBy w' row) (hne : v.ownBlock = none ∨ v.ownBlock ≠ row) : OwnF T base w' v n k zs :=
  ⟨h.1.kept hg hne, h.2⟩
theorem OwnF.below {T : TypeId} {base : Nat} {w w' : World} {v : Value} {n k : Nat} {zs : List Int} (h : OwnF T base w v n k zs) (hb : Below w.heap.size w w') : OwnF T base w' v n k zs :=
  h.kept (grown_below hb none) (by cases hv : v.ownBlock <;> simp)
theorem OwnF.nil_ (T : TypeId) (base : Nat) (w : World) (k : Nat) : OwnF T base w (.slice none 0 0) 0 k [] := ⟨World.ownsRow_nil _ _ _ _, fun _ h => by simp at h⟩
theorem OwnF.block {T : TypeId} {base : Nat} {w : World} {v : Value} {n k : Nat} {zs : List Int} (h : OwnF T base w v n k zs) : ∀ b, v.ownBlock = some b → base ≤ b ∧ b < w.heap.size := h.1.lt
theorem OwnF.is_slice {T : TypeId} {base : Nat} {w : World} {v : Value} {n k : Nat} {zs : List Int} (h : OwnF T base w v n k zs) : ∃ a cap, v = .slice a n cap := h.fl.is_slice

def Sp.good (s : Sp) : Prop := i64 s.m ∧ i64 s.f ∧ i64 s.t
def St.good (s : St) : Prop := i64 s.m ∧ i64 s.a
def Spans (w : World) (v : Value) (S : List Sp) : Prop := Fl w v S.length 3 (fl3 S)
def Sites (w : World) (v : Value) (T : List St) : Prop := Fl w v T.length 2 (fl2 T)
theorem Spans.below {w w' : World} {v : Value} {S : List Sp} (h : Spans w v S) {B : Nat} (hb : Below B w w') (hB : w.heap.size ≤ B) : Spans w' v S := Fl.below h hb hB
theorem Sites.below {w w' : World} {v : Value} {S : List St} (h : Sites w v S) {B : Nat} (hb : Below B w w') (hB : w.heap.size ≤ B) : Sites w' v S := Fl.below h hb hB
theorem Spans.is_slice {w : World} {v : Value} {S : List Sp} (h : Spans w v S) : ∃ a cap, v = .slice a S.length cap := Fl.is_slice h
theorem Sites.is_slice {w : World} {v : Value} {S : List St} (h : Sites w v S) : ∃ a cap, v = .slice a S.length cap := Fl.is_slice h
theorem at_i64 {zs : List Int} (h : ∀ x ∈ zs, i64 x) {j : Nat} (hj : j < zs.length) : i64 (at_ zs j) := h _ (at_mem hj)
theorem Spans.open_ {w : World} {v : Value} {S : List Sp} (h : Spans w v S) :
    ∃ a cap, v = .slice a S.length cap ∧ S.length ≤ cap ∧ cap ≤ 9223372036854775807 ∧ ∀ j, j < S.length → ∃ b off, a = some ⟨b, off, none⟩ ∧ b < w.heap.size ∧ Sp.good (sp S j) ∧
      w.cell? ⟨b, off + j * 3, none⟩ = some (.int .i64 (sp S j).m) ∧ w.cell? ⟨b, off + j * 3 + 1, none⟩ = some (.int .i64 (sp S j).f) ∧ w.cell? ⟨b, off + j * 3 + 2, none⟩ = some (.int .i64 (sp S j).t) := by
  obtain ⟨h0, hg, a, cap, rfl, h1, h2, h3⟩ := h
  unfold maxLen at h2
  refine ⟨a, cap, rfl, h1, h2, fun j hj => ?_⟩
  rcases h3 with h3 | ⟨b, off, rfl, hlt, hc⟩
  · omega
  · obtain ⟨e0, e1, e2⟩ := fl3_at S j hj
    refine ⟨b, off, rfl, hlt, ⟨?_, ?_, ?_⟩, ?_, ?_, ?_⟩
    · rw [← e0]; exact at_i64 hg (by omega)
    · rw [← e1]; exact at_i64 hg (by omega)
    · rw [← e2]; exact at_i64 hg (by omega)
    · rw [← e0]; exact hc _ (by omega)
    · rw [← e1, Nat.add_assoc]; exact hc _ (by omega)
    · rw [← e2, Nat.add_assoc]; exact hc _ (by omega)
theorem Sites.open_ {w : World} {v : Value} {S : List St} (h : Sites w v S) :
    ∃ a cap, v = .slice a S.length cap ∧ S.length ≤ cap ∧ cap ≤ 9223372036854775807 ∧ ∀ j, j < S.length → ∃ b off, a = some ⟨b, off, none⟩ ∧ b < w.heap.size ∧ St.good (st S j) ∧
      w.cell? ⟨b, off + j * 2, none⟩ = some (.int .i64 (st S j).m) ∧ w.cell? ⟨b, off + j * 2 + 1, none⟩ = some (.int .i64 (st S j).a) := by
  obtain ⟨h0, hg, a, cap, rfl, h1, h2, h3⟩ := h
  unfold maxLen at h2
  refine ⟨a, cap, rfl, h1, h2, fun j hj => ?_⟩
  rcases h3 with h3 | ⟨b, off, rfl, hlt, hc⟩
  · omega
  · obtain ⟨e0, e1⟩ := fl2_at S j hj
    refine ⟨b, off, rfl, hlt, ⟨?_, ?_⟩, ?_, ?_⟩
    · rw [← e0]; exact at_i64 hg (by omega)
    · rw [← e1]; exact at_i64 hg (by omega)
    · rw [← e0]; exact hc _ (by omega)
    · rw [← e1, Nat.add_assoc]; exact hc _ (by omega)
theorem Spans.nil_ (w : World) : Spans w (.slice none 0 0) [] := (OwnF.nil_ 0 0 w 3).fl
theorem Sites.nil_ (w : World) : Sites w (.slice none 0 0) [] := (OwnF.nil_ 0 0 w 2).fl
end Go.Proofs.YtccaiippoephbaaGreatDoor.Rig
/- Contract: Right of marks, of the plain text. -/
set_option maxRecDepth 100000
set_option linter.unusedVariables false
namespace Go.Proofs.YtccaiippoephbaaGreatDoor.Rig
open Go.RowKit Go.Lib Go.Proofs.YtccaiippoephbaaGreatDoor.Rt

theorem bcell {W w1 : World} (hb : Below W.heap.size W w1) : (∀ b o, b < W.heap.size → w1.cell? ⟨b, o, none⟩ = W.cell? ⟨b, o, none⟩) ∧ (∀ b o, b < W.heap.size → w1.frozen? ⟨b, o, none⟩ = W.frozen? ⟨b, o, none⟩) :=
  ⟨fun b o h => hb.cell (p := ⟨b, o, none⟩) h, fun b o h => hb.frozen (p := ⟨b, o, none⟩) h⟩

set_option maxRecDepth 100000 in
set_option maxHeartbeats 4000000 in
theorem rmright_any {sv tv : Value} {S : List Sp} {T : List St} (n : Int) (w : World) (hS : Spans w sv S) (hT : Sites w tv T) (hn : i64 n) :
    Calls Tryz.prog 93 #[.agg #[sv, tv], .int .i64 n] w fun e w' => e = .returned (.bool (mrightB S T n)) ∧ Below w.heap.size w w' := by
  obtain ⟨sa, sc, rfl, hls, hcs, hS1⟩ := hS.open_
  obtain ⟨ta, tc, rfl, hlt, hct, hT1⟩ := hT.open_
  have HS := Lib.hid hS1
  have HT := Lib.hid hT1
  obtain ⟨ns, hns⟩ : ∃ ns, ns = S.length := ⟨_, rfl⟩
  obtain ⟨nt, hnt⟩ : ∃ nt, nt = T.length := ⟨_, rfl⟩
  rw [← hns] at hls ⊢
  rw [← hnt] at hlt ⊢
  replace hns := Lib.hid hns
  replace hnt := Lib.hid hnt
  obtain ⟨n1, n2⟩ := hn
  obtain ⟨W0, hW0⟩ : ∃ W0, W0 = w.alloc (.cells #[.slice sa ns sc, .slice ta nt tc] 157) := ⟨_, rfl⟩
  have b0 : Below w.heap.size w W0 := by rw [hW0]; exact (Below.refl _ _).alloc (Nat.le_refl _) _
  have h0 : W0.heap[w.heap.size]? = some (.cells #[.slice sa ns sc, .slice ta nt tc] 157 (0, 0)) := by rw [hW0]; exact heap_alloc_new _ _
  have l0 : w.heap.size < W0.heap.size := by rw [hW0]; simp
  have BX : Hid (∀ w', Below W0.heap.size W0 w' → w'.cell? ⟨w.heap.size, 0, none⟩ = some (.slice sa ns sc) ∧ w'.cell? ⟨w.heap.size, 1, none⟩ = some (.slice ta nt tc)) := fun w' hb => by
    refine ⟨below_cell hb l0 ?_, below_cell hb l0 ?_⟩ <;> (rw [cell_of_row _ _ _ _ _ _ h0]; rfl)
  have HW0 := Lib.hid hW0
  have B0 := Lib.hid b0
  clear hS1 hT1 hS hT h0 hW0 b0
  go_enter Tryz.func93, Tryz.ntmps93
  go_wp2_with fail
  rw [← HW0.out]
  go_loopw [5] (fun i wr => ∃ k : Nat, k ≤ ns ∧ i = .int .i64 k ∧ Hid (∀ j, j < k → spOk S n j) ∧ Below W0.heap.size W0 wr) (fun i _ => ns - (RowKit.intOf i).toNat)
  case atStart => exact ⟨0, Nat.zero_le _, rfl, fun j hj => absurd hj (by omega), Below.refl _ _⟩
  case round =>
    obtain ⟨k, hk, rfl, OK, hbel⟩ := hrel
    obtain ⟨x0, x1⟩ := BX.out _ hbel
    by_cases hltk : k < ns
    · have hkl : k < S.length := by rw [← hns.out]; exact hltk
      obtain ⟨b, off, rfl, hb, ⟨⟨m1, m2⟩, ⟨f1, f2⟩, ⟨t1, t2⟩⟩, c0, c1, c2⟩ := HS.out k hkl
      have NO : ¬ spOk S n k → Hid (mrightB S T n = false) := fun hno => mright_sp hkl hno
      have YES : spOk S n k → Hid (∀ j, j < k + 1 → spOk S n j) := fun hy j hj => by
        by_cases e : j = k
        · subst e; exact hy
        · exact OK.out j (by omega)
      unfold spOk at NO YES
      have hbw : b < W0.heap.size := by omega
      have hbel2 := below_more B0.out hbel
      have PV : Hid (0 < k → ∃ y, y = sp S (k - 1) ∧ Sp.good y ∧ wr.cell? ⟨b, off + (k - 1) * 3, none⟩ = some (.int .i64 y.m) ∧ wr.cell? ⟨b, off + (k - 1) * 3 + 1, none⟩ = some (.int .i64 y.f) ∧ wr.cell? ⟨b, off + (k - 1) * 3 + 2, none⟩ = some (.int .i64 y.t)) := fun hk0 => by
        obtain ⟨b', off', e', hb', g', q0, q1, q2⟩ := HS.out (k - 1) (by omega)
        injection e' with e'
        injection e' with e1 e2
        subst e1 e2
        exact ⟨_, rfl, g', below_cell hbel2 hb' q0, below_cell hbel2 hb' q1, below_cell hbel2 hb' q2⟩
      generalize sp S k = s at *
      obtain ⟨m, f, t⟩ := s
      simp only at m1 m2 f1 f2 t1 t2 c0 c1 c2 NO YES
      replace c0 := below_cell hbel2 hb c0
      replace c1 := below_cell hbel2 hb c1
      replace c2 := below_cell hbel2 hb c2
      have N := Lib.hid NO
      have Y := Lib.hid YES
      have HB := Lib.hid hbel2
      have KA : Hid (∀ o, Below wr.heap.size wr (wr.alloc o)) := fun o => (Below.refl _ _).alloc (Nat.le_refl _) _
      have lb0 := Nat.lt_of_lt_of_le l0 hbel.size
      have lbb := Nat.lt_of_lt_of_le hb hbel2.size
      have HE := Lib.hid hbel
      clear NO YES hbel hbel2 OK HS HT
      by_cases q1 : m ≤ 0
      · have R := N.out (by omega)
        go_wp2_with fail
        go_ret
        exact ⟨ret_bool R.out.symm, below_more HB.out (KA.out _)⟩
      by_cases q2 : f < 0
      · have R := N.out (by omega)
        go_wp2_with fail
        go_ret
        exact ⟨ret_bool R.out.symm, below_more HB.out (KA.out _)⟩
      by_cases q3 : t ≤ f
      · have R := N.out (by omega)
        go_wp2_with fail
        go_ret
        exact ⟨ret_bool R.out.symm, below_more HB.out (KA.out _)⟩
      by_cases q4 : n < t
      · have R := N.out (by omega)
        go_wp2_with fail
        go_ret
        exact ⟨ret_bool R.out.symm, below_more HB.out (KA.out _)⟩
      obtain ⟨W1, hW1⟩ : ∃ W1, W1 = wr.alloc (.cells #[.int .i64 m, .int .i64 f, .int .i64 t] 108) := ⟨_, rfl⟩
      have b1 : Below wr.heap.size wr W1 := by rw [hW1]; exact KA.out _
      have h1 : W1.heap[wr.heap.size]? = some (.cells #[.int .i64 m, .int .i64 f, .int .i64 t] 108 (0, 0)) := by rw [hW1]; exact heap_alloc_new _ _
      have y0 : W1.cell? ⟨wr.heap.size, 0, none⟩ = some (.int .i64 m) := by rw [cell_of_row _ _ _ _ _ _ h1]; rfl
      have y1 : W1.cell? ⟨wr.heap.size, 1, none⟩ = some (.int .i64 f) := by rw [cell_of_row _ _ _ _ _ _ h1]; rfl
      have y2 : W1.cell? ⟨wr.heap.size, 2, none⟩ = some (.int .i64 t) := by rw [cell_of_row _ _ _ _ _ _ h1]; rfl
      have x0' := below_cell b1 lb0 x0
      have HW1 := Lib.hid hW1
      have B1 := Lib.hid (below_more HB.out b1)
      have BR := Lib.hid (below_more HE.out b1)
      have z2 : (0 : Int) ≤ (k : Int) := by omega
      by_cases hk0 : k = 0
      · have R := Y.out ⟨by omega, by omega, by omega, by omega, fun h => by omega⟩
        have d0 : decide ((0 : Int) < (k : Int)) = false := by simp; omega
        have d1 : decide (0 < k) = false := by simp; omega
        clear hk0 b1 h1 hW1 N Y PV
        go_wp2_with fail
        rw [← HW1.out]
        go_quiet (fail)
        go_wp2
        go_roundw
        case rel => exact ⟨k + 1, by omega, by go_num, R, below_drews BR.out _⟩
        case measure => simp [RowKit.intOf]; omega
      · obtain ⟨y, hy, ⟨⟨g1, g2⟩, ⟨g3, g4⟩, ⟨g5, g6⟩⟩, e0, e1, e2⟩ := PV.out (by omega)
        rw [← hy] at N Y
        obtain ⟨pm, pf, pt⟩ := y
        simp only at g1 g2 g3 g4 g5 g6 e0 e1 e2 N Y
        replace e0 := below_cell b1 lbb e0
        replace e2 := below_cell b1 lbb e2
        have d0 : decide ((0 : Int) < (k : Int)) = true := by simp; omega
        have d1 : decide (0 < k) = true := by simp; omega
        have z1 : IntKind.i64.wrap ((k : Int) - 1) = (k : Int) - 1 := IntWalk.i64_in _ (by omega)
        have z6 : (1 : Int) ≤ (k : Int) := by omega
        have z3 : (0 : Int) ≤ (k : Int) - 1 := by omega
        have z5 : (k : Int) - 1 < (ns : Int) := by omega
        have z4 : ((k : Int) - 1).toNat = k - 1 := by omega
        by_cases r1 : f < pt
        · have R := N.out (by omega)
          have d2 : decide (f < pt) = true := by simpa using r1
          clear hk0 b1 h1 hW1 N Y PV hy
          go_wp2_with fail
          rw [← HW1.out]
          go_quiet (fail)
          clear z1 z3 z4 z5
          go_wp2
          go_ret
          exact ⟨ret_bool R.out.symm, below_drews B1.out _⟩
        · have d2 : decide (f < pt) = false := by simpa using r1
          by_cases r2 : f = pt
          · have d3 : (f == pt) = true := by simpa using r2
            by_cases r3 : m = pm
            · have R := N.out (by omega)
              have d4 : (m == pm) = true := by simpa using r3
              clear hk0 b1 h1 hW1 N Y PV hy r2 r3
              go_wp2_with fail
              rw [← HW1.out]
              go_quiet (fail)
              clear z1 z3 z4 z5
              go_wp2
              go_ret
              exact ⟨ret_bool R.out.symm, below_drews B1.out _⟩
            · have R := Y.out ⟨by omega, by omega, by omega, by omega, fun _ => ⟨by omega, fun _ => r3⟩⟩
              have d4 : (m == pm) = false := by simpa using r3
              clear hk0 b1 h1 hW1 N Y PV hy r2 r3
              go_wp2_with fail
              rw [← HW1.out]
              go_quiet (fail)
              clear z1 z3 z4 z5
              go_wp2
              go_roundw
              case rel => exact ⟨k + 1, by omega, by go_num, R, below_drews BR.out _⟩
              case measure => simp [RowKit.intOf]; omega
          · have d3 : (f == pt) = false := by simpa using r2
            have R := Y.out ⟨by omega, by omega, by omega, by omega, fun _ => ⟨by omega, fun h => absurd h r2⟩⟩
            clear hk0 b1 h1 hW1 N Y PV hy r2
            go_wp2_with fail
            rw [← HW1.out]
            go_quiet (fail)
            clear z1 z3 z4 z5
            go_wp2
            go_roundw
            case rel => exact ⟨k + 1, by omega, by go_num, R, below_drews BR.out _⟩
            case measure => simp [RowKit.intOf]; omega
    · obtain rfl : k = ns := by omega
      have OKS := OK
      have HB0 := Lib.hid hbel
      clear HS OK hbel
      go_wp2_with fail
      go_loopw [7] (fun i wr => ∃ k : Nat, k ≤ nt ∧ i = .int .i64 k ∧ Hid (∀ j, j < k → stOk T n j) ∧ Below W0.heap.size W0 wr) (fun i _ => nt - (RowKit.intOf i).toNat)
      case atStart => exact ⟨0, Nat.zero_le _, rfl, fun j hj => absurd hj (by omega), HB0.out⟩
      case round =>
        obtain ⟨k, hk, rfl, OK, hbel⟩ := hrel
        clear x0 x1 hltk HB0
        obtain ⟨x0, x1⟩ := BX.out _ hbel
        by_cases hltk : k < nt
        · have hkl : k < T.length := by rw [← hnt.out]; exact hltk
          obtain ⟨b, off, rfl, hb, ⟨⟨m1, m2⟩, ⟨f1, f2⟩⟩, c0, c1⟩ := HT.out k hkl
          have NO : ¬ stOk T n k → Hid (mrightB S T n = false) := fun hno => mright_st hkl hno
          have YES : stOk T n k → Hid (∀ j, j < k + 1 → stOk T n j) := fun hy j hj => by
            by_cases e : j = k
            · subst e; exact hy
            · exact OK.out j (by omega)
          unfold stOk at NO YES
          have hbel2 := below_more B0.out hbel
          have PV : Hid (0 < k → ∃ y, y = st T (k - 1) ∧ St.good y ∧ wr.cell? ⟨b, off + (k - 1) * 2, none⟩ = some (.int .i64 y.m) ∧ wr.cell? ⟨b, off + (k - 1) * 2 + 1, none⟩ = some (.int .i64 y.a)) := fun hk0 => by
            obtain ⟨b', off', e', hb', g', q0, q1⟩ := HT.out (k - 1) (by omega)
            injection e' with e'
            injection e' with e1 e2
            subst e1 e2
            exact ⟨_, rfl, g', below_cell hbel2 hb' q0, below_cell hbel2 hb' q1⟩
          generalize st T k = s at *
          obtain ⟨m, f⟩ := s
          simp only at m1 m2 f1 f2 c0 c1 NO YES
          replace c0 := below_cell hbel2 hb c0
          replace c1 := below_cell hbel2 hb c1
          have N := Lib.hid NO
          have Y := Lib.hid YES
          have HB := Lib.hid hbel2
          have KA : Hid (∀ o, Below wr.heap.size wr (wr.alloc o)) := fun o => (Below.refl _ _).alloc (Nat.le_refl _) _
          have lb0 := Nat.lt_of_lt_of_le l0 hbel.size
          have lbb := Nat.lt_of_lt_of_le hb hbel2.size
          have HE := Lib.hid hbel
          clear NO YES hbel hbel2 OK HT
          by_cases q1 : m ≤ 0
          · have R := N.out (by omega)
            go_wp2_with fail
            go_ret
            exact ⟨ret_bool R.out.symm, below_more HB.out (KA.out _)⟩
          by_cases q2 : f < 0
          · have R := N.out (by omega)
            go_wp2_with fail
            go_ret
            exact ⟨ret_bool R.out.symm, below_more HB.out (KA.out _)⟩
          by_cases q4 : n < f
          · have R := N.out (by omega)
            go_wp2_with fail
            go_ret
            exact ⟨ret_bool R.out.symm, below_more HB.out (KA.out _)⟩
          obtain ⟨W1, hW1⟩ : ∃ W1, W1 = wr.alloc (.cells #[.int .i64 m, .int .i64 f] 112) := ⟨_, rfl⟩
          have b1 : Below wr.heap.size wr W1 := by rw [hW1]; exact KA.out _
          have h1 : W1.heap[wr.heap.size]? = some (.cells #[.int .i64 m, .int .i64 f] 112 (0, 0)) := by rw [hW1]; exact heap_alloc_new _ _
          have y0 : W1.cell? ⟨wr.heap.size, 0, none⟩ = some (.int .i64 m) := by rw [cell_of_row _ _ _ _ _ _ h1]; rfl
          have y1 : W1.cell? ⟨wr.heap.size, 1, none⟩ = some (.int .i64 f) := by rw [cell_of_row _ _ _ _ _ _ h1]; rfl
          have x1' := below_cell b1 lb0 x1
          have HW1 := Lib.hid hW1
          have B1 := Lib.hid (below_more HB.out b1)
          have BR := Lib.hid (below_more HE.out b1)
          have z2 : (0 : Int) ≤ (k : Int) := by omega
          by_cases hk0 : k = 0
          · have R := Y.out ⟨by omega, by omega, by omega, fun h => by omega⟩
            have d0 : decide ((0 : Int) < (k : Int)) = false := by simp; omega
            have d1 : decide (0 < k) = false := by simp; omega
            clear hk0 b1 h1 hW1 N Y PV
            go_wp2_with fail
            rw [← HW1.out]
            go_quiet (fail)
            go_wp2
            go_roundw
            case rel => exact ⟨k + 1, by omega, by go_num, R, below_drews BR.out _⟩
            case measure => simp [RowKit.intOf]; omega
          · obtain ⟨y, hy, ⟨⟨g1, g2⟩, ⟨g3, g4⟩⟩, e0, e1⟩ := PV.out (by omega)
            rw [← hy] at N Y
            obtain ⟨pm, pf⟩ := y
            simp only at g1 g2 g3 g4 e0 e1 N Y
            replace e0 := below_cell b1 lbb e0
            replace e1 := below_cell b1 lbb e1
            have d0 : decide ((0 : Int) < (k : Int)) = true := by simp; omega
            have d1 : decide (0 < k) = true := by simp; omega
            have z1 : IntKind.i64.wrap ((k : Int) - 1) = (k : Int) - 1 := IntWalk.i64_in _ (by omega)
            have z6 : (1 : Int) ≤ (k : Int) := by omega
            have z3 : (0 : Int) ≤ (k : Int) - 1 := by omega
            have z5 : (k : Int) - 1 < (nt : Int) := by omega
            have z4 : ((k : Int) - 1).toNat = k - 1 := by omega
            by_cases r1 : f < pf
            · have R := N.out (by omega)
              have d2 : decide (f < pf) = true := by simpa using r1
              clear hk0 b1 h1 hW1 N Y PV hy
              go_wp2_with fail
              rw [← HW1.out]
              go_quiet (fail)
              clear z1 z3 z4 z5
              go_wp2
              go_ret
              exact ⟨ret_bool R.out.symm, below_drews B1.out _⟩
            · have d2 : decide (f < pf) = false := by simpa using r1
              by_cases r2 : f = pf
              · have d3 : (f == pf) = true := by simpa using r2
                by_cases r3 : m ≤ pm
                · have R := N.out (by omega)
                  have d4 : decide (m ≤ pm) = true := by simpa using r3
                  clear hk0 b1 h1 hW1 N Y PV hy r2 r3
                  go_wp2_with fail
                  rw [← HW1.out]
                  go_quiet (fail)
                  clear z1 z3 z4 z5
                  go_wp2
                  go_ret
                  exact ⟨ret_bool R.out.symm, below_drews B1.out _⟩
                · have R := Y.out ⟨by omega, by omega, by omega, fun _ => ⟨by omega, fun _ => by omega⟩⟩
                  have d4 : decide (m ≤ pm) = false := by simpa using r3
                  clear hk0 b1 h1 hW1 N Y PV hy r2 r3
                  go_wp2_with fail
                  rw [← HW1.out]
                  go_quiet (fail)
                  clear z1 z3 z4 z5
                  go_wp2
                  go_roundw
                  case rel => exact ⟨k + 1, by omega, by go_num, R, below_drews BR.out _⟩
                  case measure => simp [RowKit.intOf]; omega
              · have d3 : (f == pf) = false := by simpa using r2
                have R := Y.out ⟨by omega, by omega, by omega, fun _ => ⟨by omega, fun h => absurd h r2⟩⟩
                clear hk0 b1 h1 hW1 N Y PV hy r2
                go_wp2_with fail
                rw [← HW1.out]
                go_quiet (fail)
                clear z1 z3 z4 z5
                go_wp2
                go_roundw
                case rel => exact ⟨k + 1, by omega, by go_num, R, below_drews BR.out _⟩
                case measure => simp [RowKit.intOf]; omega
        · have R : Hid (mrightB S T n = true) := decide_eq_true ⟨fun j hj => OKS.out j (by rw [← hns.out] at hj; exact hj), fun j hj => OK.out j (by rw [← hnt.out] at hj; omega)⟩
          have HE := Lib.hid hbel
          clear OK OKS HT hbel
          go_wp2_with fail
          go_ret
          exact ⟨ret_bool R.out.symm, below_more B0.out HE.out⟩
end Go.Proofs.YtccaiippoephbaaGreatDoor.Rig
/- Contract: spans, of the plain text: the runs of letters' marks. -/
set_option maxRecDepth 100000
set_option linter.unusedVariables false
namespace Go.Proofs.YtccaiippoephbaaGreatDoor.Rig
open Go.RowKit Go.Lib Go.Proofs.YtccaiippoephbaaGreatDoor.Rt

theorem infoSpan : (Tryz.prog.info? 108).map (fun i => (i.zero, i.size, i.bytes)) = some (some (.agg #[.int .i64 0, .int .i64 0, .int .i64 0]), 3, 24) := by kernel_rfl
theorem infoSite : (Tryz.prog.info? 112).map (fun i => (i.zero, i.size, i.bytes)) = some (some (.agg #[.int .i64 0, .int .i64 0]), 2, 16) := by kernel_rfl

end Go.Proofs.YtccaiippoephbaaGreatDoor.Rig
