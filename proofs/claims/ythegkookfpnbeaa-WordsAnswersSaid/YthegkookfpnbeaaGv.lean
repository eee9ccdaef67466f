/- Words: list of the plain text. -/
import Derived.Test.YthegkookfpnbeaaGl
set_option linter.unusedVariables false
set_option linter.unusedSimpArgs false
set_option maxRecDepth 100000
namespace Go.Proofs.Ythegkookfpnbeaa.Wds
open Go.RowKit Go.Lib Go.Proofs.Ythegkookfpnbeaa.Bx Go.Proofs.Ythegkookfpnbeaa.Frm

theorem list_nums (xs : List Int) : listL xs = UInt8.ofNat xs.length :: numsL xs := rfl
set_option maxHeartbeats 8000000 in
theorem list_any {v : Value} {xs : List Int} (w : World) (h : Rig.Ints w v xs) (hl : xs.length ≤ 255) : Calls Try.prog 46 #[v] w fun e w' => e = .returned (.string (mkB (listL xs))) ∧ Below w.heap.size w w' := by
  have CN : Hid (∀ w', Below w.heap.size w w' → Calls Try.prog 45 #[v] w' fun e w'' => e = .returned (.string (mkB (numsL xs))) ∧ Below w'.heap.size w' w'') := fun w' hb => numbers_any w' (h.below hb (Nat.le_refl _)) (by omega)
  obtain ⟨a, cap, rfl⟩ := h.is_slice
  obtain ⟨n, hn⟩ : ∃ n, n = xs.length := ⟨_, rfl⟩
  have HK : Hid (n < 256) := by show n < 256; omega
  have wk : IntKind.u8.wrap (n : Int) = (n : Int) := IntWalk.u8_in _ (by omega)
  obtain ⟨T1, hT1⟩ : ∃ T1, T1 = mkB [UInt8.ofNat n] := ⟨_, rfl⟩
  obtain ⟨nx, hnx⟩ : ∃ nx, nx = mkB (numsL xs) := ⟨_, rfl⟩
  obtain ⟨fin, hfin⟩ : ∃ fin, fin = mkB (listL xs) := ⟨_, rfl⟩
  have zt : T1.size = 1 ∧ nx.size = 8 * n := ⟨by rw [hT1]; rfl, by rw [hnx, mkB_size, nums_len, hn]⟩
  have AD : ∀ w, (Op.stringOp .add T1 nx).run Try.prog w = .ok (.string fin) w := fun w => by
    have e : fin = T1 ++ nx := by rw [hfin, hT1, hnx, mkB_app, list_nums, hn]; rfl
    rw [e]
    exact run_string_add_sum w _ _ (by have := HK.out; omega)
  have CV : ∀ w : World, (convert 52 9 (.slice (some ⟨w.heap.size, 0, none⟩) 1 1)).run Try.prog (w.alloc (.cells #[.int .u8 (n : Nat)] 5)) = .ok (.string T1) (w.alloc (.cells #[.int .u8 (n : Nat)] 5)) := fun w => by rw [hT1]; exact one_conv (heap_alloc_new _ _) HK.out
  have HT1 : Hid (∀ (W : World) (b : Nat), Zb W b n → (convert 52 9 (.slice (some ⟨b, 0, none⟩) 1 1)).run Try.prog W = .ok (.string T1) W) := fun W b h => by rw [hT1]; exact one_conv h HK.out
  have HF : Hid (mkB (listL xs) = fin) := hfin.symm
  have KR : Hid (Below w.heap.size w w) := Below.refl _ _
  rw [← hnx] at CN
  rw [← hn] at CN ⊢
  clear hn hT1 hnx hfin zt h hl
  go_enter Try.func46, Try.ntmps46
  go_upto_region 1 with fail
  refine wp_region_held_drew (S := fun w' => Below w.heap.size w w' ∧ True) (by kernel_rfl) ?_ (fun hHeld => ?_)
  focus (exact (show Below w.heap.size w _ ∧ True from ⟨(Below.drew KR.out), trivial⟩))
  refine' wpAnyH_take (i := 0) (v := _) rfl (by kernel_rfl) (by kernel_rfl) (by kernel_rfl) (fun _ _ _ h => h) (Or.inl ⟨by rfl, ?hy1⟩) (by assumption) ?rest1
  case hy1 => (intro w hSw; (try dsimp only at hSw); go_simp; try with_reducible rfl)
  try simp only [Act.put, List.getElem_toArray, List.getElem_cons_zero, List.getElem_cons_succ, List.setIfInBounds_toArray, List.set_cons_zero, List.set_cons_succ]
  refine' wpAnyH_take (i := 1) (v := _) rfl (by kernel_rfl) (by kernel_rfl) (by kernel_rfl) (fun _ _ _ h => h) (Or.inl ⟨by rfl, ?hy2⟩) (by assumption) ?rest2
  case hy2 => (intro w hSw; (try dsimp only at hSw); go_simp; try with_reducible rfl)
  try simp only [Act.put, List.getElem_toArray, List.getElem_cons_zero, List.getElem_cons_succ, List.setIfInBounds_toArray, List.set_cons_zero, List.set_cons_succ]
  refine' wpAnyH_take (i := 2) (v := _) rfl (by kernel_rfl) (by kernel_rfl) (by kernel_rfl) (fun _ _ _ h => h) (Or.inl ⟨by rfl, ?hy3⟩) (by assumption) ?rest3
  case hy3 => (intro w hSw; (try dsimp only at hSw); go_simp; try with_reducible rfl)
  try simp only [Act.put, List.getElem_toArray, List.getElem_cons_zero, List.getElem_cons_succ, List.setIfInBounds_toArray, List.set_cons_zero, List.set_cons_succ]
  refine' wpAnyH_take (i := 5) (v := _) rfl (by kernel_rfl) (by kernel_rfl) (by kernel_rfl) (fun _ _ _ h => h) (Or.inl ⟨by rfl, ?hy4⟩) (by assumption) ?rest4
  case hy4 => (intro w hSw; (try dsimp only at hSw); go_simp; try with_reducible rfl)
  try simp only [Act.put, List.getElem_toArray, List.getElem_cons_zero, List.getElem_cons_succ, List.setIfInBounds_toArray, List.set_cons_zero, List.set_cons_succ]
  refine wpAnyH_ready (rs := [3, 6]) (by kernel_rfl) (by simp) ?_
  refine AllReadyH.cons rfl (fun K hK => ?_) ?_
  · go_simp
    refine hK.out _ _ ?_ (fun hHeld => ?_)
    focus (exact (show Below w.heap.size w _ ∧ True from ⟨(below_al (w' := w.drew) (hHeld).1 (.cells #[.int .u8 (n : Nat)] 5)), trivial⟩))
    clear hK K
    try simp only [Act.put, List.getElem_toArray, List.getElem_cons_zero, List.getElem_cons_succ, List.setIfInBounds_toArray, List.set_cons_zero, List.set_cons_succ]
    refine wpAnyH_mono (S2 := fun w' => (Below w.heap.size w w' ∧ True) ∧ Zb w' w.heap.size n) (fun _ h => h.1) _ _ _ _ ?_
    replace hHeld := And.intro hHeld (show Zb ((w.alloc (.cells #[.int .u8 (n : Nat)] 5)).drew) w.heap.size n from heap_alloc_new _ _)
    generalize (w.alloc (.cells #[.int .u8 (n : Nat)] 5)).drew = wb5 at hHeld ⊢
    refine' wpAnyH_take (i := 4) (v := _) rfl (by kernel_rfl) (by kernel_rfl) (by kernel_rfl) (fun _ _ _ h => h) (Or.inl ⟨by rfl, ?hy6⟩) (by assumption) ?rest6
    case hy6 => (intro w hSw; have cv := HT1.out _ _ (hSw.2); (try dsimp only at hSw); go_simp; try with_reducible rfl)
    try simp only [Act.put, List.getElem_toArray, List.getElem_cons_zero, List.getElem_cons_succ, List.setIfInBounds_toArray, List.set_cons_zero, List.set_cons_succ]
    refine wpAnyH_ready (rs := [6]) (by kernel_rfl) (by simp) ?_
    refine AllReadyH.cons rfl (fun K hK => ?_) ?_
    · go_simp
      (go_at_call 45; (with_reducible refine (CN.out _ (hHeld.1).1).mono ?_); rintro e w7 ⟨rfl, bt7⟩; have hk7 := below_on (B := w.heap.size) (w := w) (hHeld.1).1 bt7 (Nat.le_refl _))
      go_wp2_with fail
      refine hK.out _ _ ?_ (fun hHeld => ?_)
      focus (exact ⟨(show Below w.heap.size w _ ∧ True from ⟨hk7, trivial⟩), (Zb.below (hHeld.2) bt7)⟩)
      clear hK K
      try simp only [Act.put, List.getElem_toArray, List.getElem_cons_zero, List.getElem_cons_succ, List.setIfInBounds_toArray, List.set_cons_zero, List.set_cons_succ]
      refine' wpAnyH_take (i := 7) (v := _) rfl (by kernel_rfl) (by kernel_rfl) (by kernel_rfl) (fun _ _ _ h => h) (Or.inl ⟨by rfl, ?hy8⟩) (by assumption) ?rest8
      case hy8 => (intro w hSw; (try dsimp only at hSw); go_simp; try with_reducible rfl)
      try simp only [Act.put, List.getElem_toArray, List.getElem_cons_zero, List.getElem_cons_succ, List.setIfInBounds_toArray, List.set_cons_zero, List.set_cons_succ]
      refine' wpAnyH_take (i := 8) (v := _) rfl (by kernel_rfl) (by kernel_rfl) (by kernel_rfl) (fun _ _ _ h => h) (Or.inl ⟨by rfl, ?hy9⟩) (by assumption) ?rest9
      case hy9 => (intro w hSw; (try dsimp only at hSw); go_simp; try with_reducible rfl)
      try simp only [Act.put, List.getElem_toArray, List.getElem_cons_zero, List.getElem_cons_succ, List.setIfInBounds_toArray, List.set_cons_zero, List.set_cons_succ]
      refine wpAnyH_done (by kernel_rfl) ?_ _
      go_wp2_with fail
      go_ret
      exact ⟨by rw [HF.out]; rfl, (hHeld.1).1⟩
    exact AllReadyH.nil
  refine AllReadyH.cons rfl (fun K hK => ?_) ?_
  · go_simp
    (go_at_call 45; (with_reducible refine (CN.out _ (hHeld).1).mono ?_); rintro e w10 ⟨rfl, bt10⟩; have hk10 := below_on (B := w.heap.size) (w := w) (hHeld).1 bt10 (Nat.le_refl _))
    go_wp2_with fail
    refine hK.out _ _ ?_ (fun hHeld => ?_)
    focus (exact (show Below w.heap.size w _ ∧ True from ⟨hk10, trivial⟩))
    clear hK K
    try simp only [Act.put, List.getElem_toArray, List.getElem_cons_zero, List.getElem_cons_succ, List.setIfInBounds_toArray, List.set_cons_zero, List.set_cons_succ]
    refine wpAnyH_ready (rs := [3]) (by kernel_rfl) (by simp) ?_
    refine AllReadyH.cons rfl (fun K hK => ?_) ?_
    · go_simp
      refine hK.out _ _ ?_ (fun hHeld => ?_)
      focus (exact (show Below w.heap.size w _ ∧ True from ⟨(below_al (hHeld).1 _), trivial⟩))
      clear hK K
      try simp only [Act.put, List.getElem_toArray, List.getElem_cons_zero, List.getElem_cons_succ, List.setIfInBounds_toArray, List.set_cons_zero, List.set_cons_succ]
      refine wpAnyH_mono (S2 := fun w' => (Below w.heap.size w w' ∧ True) ∧ Zb w' w10.heap.size n) (fun _ h => h.1) _ _ _ _ ?_
      replace hHeld := And.intro hHeld (show Zb ((w10.alloc (.cells #[.int .u8 (n : Nat)] 5))) w10.heap.size n from heap_alloc_new _ _)
      generalize (w10.alloc (.cells #[.int .u8 (n : Nat)] 5)) = wb11 at hHeld ⊢
      refine' wpAnyH_take (i := 4) (v := _) rfl (by kernel_rfl) (by kernel_rfl) (by kernel_rfl) (fun _ _ _ h => h) (Or.inl ⟨by rfl, ?hy12⟩) (by assumption) ?rest12
      case hy12 => (intro w hSw; have cv := HT1.out _ _ (hSw.2); (try dsimp only at hSw); go_simp; try with_reducible rfl)
      try simp only [Act.put, List.getElem_toArray, List.getElem_cons_zero, List.getElem_cons_succ, List.setIfInBounds_toArray, List.set_cons_zero, List.set_cons_succ]
      refine' wpAnyH_take (i := 7) (v := _) rfl (by kernel_rfl) (by kernel_rfl) (by kernel_rfl) (fun _ _ _ h => h) (Or.inl ⟨by rfl, ?hy13⟩) (by assumption) ?rest13
      case hy13 => (intro w hSw; (try dsimp only at hSw); go_simp; try with_reducible rfl)
      try simp only [Act.put, List.getElem_toArray, List.getElem_cons_zero, List.getElem_cons_succ, List.setIfInBounds_toArray, List.set_cons_zero, List.set_cons_succ]
      refine' wpAnyH_take (i := 8) (v := _) rfl (by kernel_rfl) (by kernel_rfl) (by kernel_rfl) (fun _ _ _ h => h) (Or.inl ⟨by rfl, ?hy14⟩) (by assumption) ?rest14
      case hy14 => (intro w hSw; (try dsimp only at hSw); go_simp; try with_reducible rfl)
      try simp only [Act.put, List.getElem_toArray, List.getElem_cons_zero, List.getElem_cons_succ, List.setIfInBounds_toArray, List.set_cons_zero, List.set_cons_succ]
      refine wpAnyH_done (by kernel_rfl) ?_ _
      go_wp2_with fail
      go_ret
      exact ⟨by rw [HF.out]; rfl, (hHeld.1).1⟩
    exact AllReadyH.nil
  exact AllReadyH.nil
end Go.Proofs.Ythegkookfpnbeaa.Wds
