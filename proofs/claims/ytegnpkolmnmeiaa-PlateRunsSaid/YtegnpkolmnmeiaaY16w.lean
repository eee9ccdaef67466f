/- Plate: the plain text's Loose and New. -/
import Derived.Test.YtegnpkolmnmeiaaY16v
set_option linter.unusedVariables false
set_option linter.unusedSimpArgs false
set_option maxRecDepth 100000
namespace Go.Proofs.Ytegnpkolmnmeiaa.Plt
open Go.RowKit Go.Lib Go.Proofs.Ytegnpkolmnmeiaa.Bx

section
variable {base R M1 M2 c : Nat} {w w' : World} {f1 f2 : Lit → Option Value} {u : Nat → Value} {D : DK}
def looseN (D : DK) (k : Nat) : List Nat := (List.range k).filter fun i => !(D.P i).l.isEmpty
theorem looseN_yes {D : DK} {k : Nat} (h : (D.P k).l.length ≠ 0) : looseN D (k + 1) = looseN D k ++ [k] := by
  have e : (!(D.P k).l.isEmpty) = true := by
    cases hl : (D.P k).l with
    | nil => rw [hl] at h; simp at h
    | cons => rfl
  unfold looseN
  rw [List.range_succ, List.filter_append]
  simp [e]
theorem looseN_no {D : DK} {k : Nat} (h : (D.P k).l.length = 0) : looseN D (k + 1) = looseN D k := by
  have e : (!(D.P k).l.isEmpty) = false := by rw [List.eq_nil_of_length_eq_zero h]; rfl
  unfold looseN
  rw [List.range_succ, List.filter_append]
  simp [e]
theorem looseN_len (D : DK) (k : Nat) : (looseN D k).length ≤ k := by
  have := List.length_filter_le (fun i => !(D.P i).l.isEmpty) (List.range k)
  rwa [List.length_range] at this
set_option maxHeartbeats 4000000 in
theorem rloose_any (hd : Rm base w R M1 M2 c f1 f2 u D) : Calls Try.prog 20 #[.pointer (some ⟨R, 0, none⟩)] w (Listed w (looseL D)) := by
  have HD : Hid (∀ w', Below w.heap.size w w' → Rm base w' R M1 M2 c f1 f2 u D) := fun w' hb => hd.below hb
  have HN : Hid (looseL D = looseN D D.n) := rfl
  rw [HN.out]
  obtain ⟨n, P, off, left⟩ := D
  have HN2 := Lib.hid hd.n2
  simp only at HN2 ⊢
  have hn2 : n ≤ 16384 := HN2.out
  clear hd HN
  go_enter Try.func20, Try.ntmps20
  go_wp2_with fail
  go_loopg [3, 4] n (fun g l_ i_ wr => ∃ (k : Nat), k ≤ n ∧ n - k ≤ g ∧ i_ = .int .i64 k ∧ Hid (Rk.OwnK 3 1 w.heap.size wr l_ (cellsN (looseN ⟨n, P, off, left⟩ k))) ∧ Hid (Below w.heap.size w wr))
  case atStart => exact ⟨0, by omega, by omega, rfl, Rk.OwnK.nil_ _ _ _ _, Below.refl _ _⟩
  case round =>
    rename_i l_ _
    obtain ⟨k, hk, hg, rfl, HO, HB⟩ := hrel
    have hR := HD.out wr HB.out
    obtain ⟨c0, c1, c2, c3, c4, g1, g2, g4⟩ := hR.cells
    by_cases hlt : k < n
    · have iw : (k : Int) < (n : Nat) := by omega
      have n0 : (0 : Int) ≤ (k : Nat) := by omega
      have lk := look2 hR (i := k) hlt
      obtain ⟨a, cc, hu, hlc, hcm, _⟩ := rowr_at (hR.k2 k hlt).2
      rw [hu] at lk
      simp only at c0 hlc lk
      obtain ⟨m, hm⟩ : ∃ m, m = (P k).l.length := ⟨_, rfl⟩
      have HM := Lib.hid hm
      rw [← hm] at lk hlc
      clear hm hu hR c1 c2 c3 g1 g2 g4
      by_cases h0 : m = 0
      · subst h0
        have HE := Lib.hid (looseN_no (D := ⟨n, P, off, left⟩) (k := k) HM.out.symm)
        go_wp2_with fail
        go_roundg (n - (k + 1))
        case measure => omega
        case rel => exact ⟨k + 1, by omega, Nat.le_refl _, by go_num, by show Rk.OwnK _ _ _ _ _ (cellsN (looseN _ (k + 1))); rw [HE.out]; exact HO.out, HB.out⟩
      · have m0 : (0 : Int) < (m : Nat) := by omega
        have m1 : 0 < m := by omega
        have HE := Lib.hid (looseN_yes (D := ⟨n, P, off, left⟩) (k := k) (by rw [← HM.out]; exact h0))
        have HLL : Hid ((looseN ⟨n, P, off, left⟩ k).length ≤ 16384) := by show _ ≤ _; have := looseN_len ⟨n, P, off, left⟩ k; have := HN2.out; omega
        obtain ⟨va, vc, rfl⟩ := HO.out.is_slice
        have HO' := HO.out
        rw [cellsN_len] at HO' ⊢
        have HO1 := Lib.hid HO'
        generalize looseN ⟨n, P, off, left⟩ k = LN at *
        obtain ⟨W2, hW2⟩ : ∃ W2, W2 = wr.alloc (.cells #[.int .i64 (k : Nat)] 3) := ⟨_, rfl⟩
        obtain ⟨bx, rx, lx⟩ := box1 wr #[.int .i64 (k : Nat)] 3
        rw [← hW2] at bx rx lx
        have A1 : Hid (Rk.OwnK 3 1 w.heap.size W2 (.slice va LN.length vc) (cellsN LN)) := HO1.out.below bx
        have A2 : Hid (Rk.RowK 1 W2 (.slice (some ⟨wr.heap.size, 0, none⟩) 1 1) [[.int .i64 (k : Nat)]]) := Rk.row_one (e := 3) rx rfl
        have A3 : Hid (∀ y ∈ [[Value.int .i64 (k : Nat)]], ∀ q ∈ y, q.oneCell' = true) := by
          intro y hy q hq
          simp at hy
          subst hy
          simp at hq
          subst hq
          rfl
        have A4 : Hid ((cellsN LN).length + [[Value.int .i64 (k : Nat)]].length ≤ 100000) := by
          show _ ≤ _
          rw [cellsN_len]
          have := HLL.out
          simp
          omega
        have A5 : Hid (w.heap.size ≤ W2.heap.size) := Nat.le_trans HB.out.size bx.size
        have FN : Hid (∀ (v9 : Value) (w9 : World), Rk.OwnK 3 1 w.heap.size w9 v9 (cellsN LN ++ [[.int .i64 (k : Nat)]]) → W2.grownBy w9 (Value.slice va LN.length vc).ownBlock → Hid (Rk.OwnK 3 1 w.heap.size w9 v9 (cellsN (looseN ⟨n, P, off, left⟩ (k + 1))) ∧ Below w.heap.size w w9)) := fun v9 w9 o9 g9 => by
          have e : cellsN (LN ++ [k]) = cellsN LN ++ [[.int .i64 (k : Nat)]] := by unfold cellsN; rw [List.map_append]; rfl
          refine ⟨by rw [HE.out, e]; exact o9, A1.out.belowOf (below_on HB.out bx) (Nat.le_refl _) A5.out g9⟩
        clear bx rx lx h0 HO' HO
        subst hW2
        go_wp2_with (at_builtin; refine Rk.wpList_append_rowk rfl _ _ 34 3 1 8 _ Try.underlying34 infoInt rfl (by decide) (by decide) rfl w.heap.size _ _ (cellsN LN) [[.int .i64 (k : Nat)]] rfl rfl A1.out A2.out A3.out A4.out A5.out ?_)
        intro v9 w9 o9 g9 k9
        have QX := FN.out v9 w9 o9 g9
        clear o9 g9 k9 FN A1 A2 A3 A4 A5
        go_wp2_with fail
        go_roundg (n - (k + 1))
        case measure => omega
        case rel => exact ⟨k + 1, by omega, Nat.le_refl _, by go_num, QX.out.1, QX.out.2⟩
    · obtain rfl : k = n := by omega
      have iw : ¬ ((k : Int) < (k : Nat)) := by omega
      simp only at c0
      clear hR c1 c2 c3 g1 g2 g4 c4
      go_wp2_with fail
      go_ret
      exact ⟨_, rfl, HO.out.row, fun b e => (HO.out.block b e).1, HB.out⟩
def RMade (w : World) (n : Nat) : Ending → World → Prop := fun e w' => ∃ R F, e = .returned (.tuple #[.pointer (some ⟨R, 0, none⟩), .bool true]) ∧ RDisk w.heap.size w' R 0 F (newD n) ∧ Below w.heap.size w w'
theorem rnew_no (n : Int) (w : World) (h : n < 1 ∨ 16384 < n) : Calls Try.prog 7 #[.int .i64 n] w fun e w' => e = .returned (.tuple #[.pointer none, .bool false]) ∧ w = w' := by
  rcases h with h | h
  · go_enter Try.func7, Try.ntmps7
    go_wp2_with fail
    exact bodyPost_ret (v := .tuple #[.pointer none, .bool false]) (by simp [results, Try.results7, go_sem]) rfl ⟨rfl, rfl⟩
  · have h1 : ¬ n < 1 := by omega
    go_enter Try.func7, Try.ntmps7
    go_wp2_with fail
    exact bodyPost_ret (v := .tuple #[.pointer none, .bool false]) (by simp [results, Try.results7, go_sem]) rfl ⟨rfl, rfl⟩
theorem rnew_yes (n : Nat) (w : World) (h1 : 1 ≤ n) (h2 : n ≤ 16384) : Calls Try.prog 7 #[.int .i64 (n : Nat)] w (RMade w n) := by
  have n1 : ¬ (n : Int) < 1 := by omega
  have n2 : ¬ (16384 : Int) < (n : Nat) := by omega
  have n4 : ¬ 16384 < n := by omega
  have n5 : ¬ n < 1 := by omega
  have hmk1 : ∀ w : World, (Instr.makeMap 39 none).run Try.prog w = .ok (.map (some w.heap.size)) (w.alloc (.map #[] 0)) := fun w => rfl
  have hmk2 : ∀ w : World, (Instr.makeMap 40 none).run Try.prog w = .ok (.map (some w.heap.size)) (w.alloc (.map #[] 0)) := fun w => rfl
  have FN : Hid (RMade w n (.returned (.tuple #[.pointer (some ⟨w.heap.size + 1 + 1, 0, none⟩), .bool true])) (((w.alloc (.map #[] 0)).alloc (.map #[] 0)).alloc (.cells #[.int .i64 (n : Nat), .int .i64 (-1), .bool false, .map (some w.heap.size), .map (some (w.heap.size + 1))] 42))) := by
    obtain ⟨b3, r3, l3⟩ := box1 ((w.alloc (.map #[] 0)).alloc (.map #[] 0)) #[.int .i64 (n : Nat), .int .i64 (-1), .bool false, .map (some w.heap.size), .map (some (w.heap.size + 1))] 42
    have m1 := MapF.made Try.prog 3 w
    have m2 := MapF.made Try.prog 3 (w.alloc (.map #[] 0))
    have q1 : Below w.heap.size w (w.alloc (.map #[] 0)) := below_al (Below.refl _ _) _
    have q2 : Below (w.alloc (.map #[] 0)).heap.size (w.alloc (.map #[] 0)) ((w.alloc (.map #[] 0)).alloc (.map #[] 0)) := below_al (Below.refl _ _) _
    have s1 : (w.alloc (.map #[] 0)).heap.size = w.heap.size + 1 := by simp
    have s2 : ((w.alloc (.map #[] 0)).alloc (.map #[] 0)).heap.size = w.heap.size + 1 + 1 := by simp
    rw [s1] at m2 q2
    rw [s2] at r3 l3 b3
    refine ⟨w.heap.size + 1 + 1, _, rfl, ⟨w.heap.size, w.heap.size + 1, _, _, fun _ => .slice none 0 0, ⟨by omega, Nat.le_refl _, by omega, by omega, r3, (m1.same (q2.block _ (by omega))).same (b3.block _ (by omega)), m2.same (b3.block _ (by omega)), fun i hi => .inr ⟨rfl, rfl⟩, fun i hi => ⟨rfl, Rk.RowK.nil_ _ _⟩, fun i hi b e => (by cases e), h1, h2, by show (-1 : Int) ≤ -1; omega, by show (-1 : Int) ≤ _; omega⟩, rfl⟩, below_al (below_al q1 _) _⟩
  clear h1 h2
  go_enter Try.func7, Try.ntmps7
  go_wp2_with fail
  exact bodyPost_ret (v := .tuple #[.pointer (some ⟨w.heap.size + 1 + 1, 0, none⟩), .bool true]) (by simp [results, Try.results7, go_sem]) rfl FN.out
end
end Go.Proofs.Ytegnpkolmnmeiaa.Plt
