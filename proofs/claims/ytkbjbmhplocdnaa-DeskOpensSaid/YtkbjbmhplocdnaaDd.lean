/- Desk: Close, Open of the plain text. -/
import Derived.Test.YtkbjbmhplocdnaaDc
set_option linter.unusedVariables false
set_option linter.unusedSimpArgs false
set_option maxRecDepth 100000
namespace Go.Proofs.Ytkbjbmhplocdnaa.Dsk
open Go.RowKit Go.Lib Go.Proofs.Ytkbjbmhplocdnaa.Bx

theorem cells5 (y : Se) : (cellsS y).toArray = #[.string y.t, .int .i64 y.u, .int .i64 y.d, .int .i64 y.q, .string y.a] := rfl
theorem filter_next {A : List Se} {p : Se → Bool} {i : Nat} (hi : i < A.length) : (A.take (i + 1)).filter p = (A.take i).filter p ++ (if p (se A i) then [se A i] else []) := by
  rw [List.take_succ_eq_append_getElem hi, List.filter_append, ← se_at hi]
  congr 1
  cases h : p (se A i) <;> simp [h]
theorem filter_le (A : List Se) (p : Se → Bool) (i : Nat) : ((A.take i).filter p).length ≤ i := Nat.le_trans (List.length_filter_le ..) (by rw [List.length_take]; omega)
theorem OSe.len {base : Nat} {w : World} {a : Option Addr} {n cap : Nat} {X : List Se} (h : OSe base w (.slice a n cap) X) : n = X.length ∧ X.length ≤ cap ∧ cap ≤ maxLen := by
  obtain ⟨a', cap', e, h1, h2⟩ := h.seats.is_slice
  injection e with _ e2 e3
  subst e2 e3
  exact ⟨rfl, h1, h2⟩
theorem OSe.more {base : Nat} {w : World} {v : Value} {X : List Se} {y : Se} (h : Rk.OwnK 28 5 base w v (X.map cellsS ++ [cellsS y])) (hX : ∀ z ∈ X, good z) (hy : good y) : OSe base w v (X ++ [y]) := by
  refine ⟨by rw [List.map_append]; exact h, fun z hz => ?_⟩
  rcases List.mem_append.1 hz with hz | hz
  · exact hX z hz
  · rw [List.mem_singleton] at hz
    subst hz
    exact hy
theorem row_seat {w : World} {b : Nat} {y : Se} (h : w.heap[b]? = some (.cells (cellsS y).toArray 28 (0, 0))) : Rk.RowK 5 w (.slice (some ⟨b, 0, none⟩) 1 1) [cellsS y] := Rk.row_one (e := 28) h rfl
theorem seat_one1 (y : Se) : ∀ z ∈ [cellsS y], ∀ q ∈ z, q.oneCell' = true := fun z hz q hq => by
  rw [List.mem_singleton] at hz
  subst hz
  exact cellsS_one y q hq
theorem rClose_any {a : Option Addr} {cap : Nat} {A : List Se} (tok : ByteArray) (w : World) (h : SeC w a A.length A) (h60 : A.length ≤ 60) (hn : A.length ≤ cap) (hm : cap ≤ maxLen) : Calls Try.prog 18 #[.slice a A.length cap, .string tok] w fun e w' => ∃ v, e = .returned v ∧ OSe w.heap.size w' v (closeE A tok) ∧ Below w.heap.size w w' := by
  have HE := Lib.hid h
  have HX : Hid (∀ i, i < A.length → (A.take (i + 1)).filter (fun y => !decide (y.t = tok)) = (A.take i).filter (fun y => !decide (y.t = tok)) ++ (if (!decide ((se A i).t = tok)) = true then [se A i] else [])) := fun i hi => filter_next hi
  have HLE : Hid (∀ i, ((A.take i).filter (fun y => !decide (y.t = tok))).length ≤ i) := filter_le A _
  have HFI : Hid ((A.take A.length).filter (fun y => !decide (y.t = tok)) = closeE A tok) := by show _ = _; rw [List.take_length]; rfl
  obtain ⟨F, hF⟩ : ∃ F : Nat → List Se, F = fun i => (A.take i).filter (fun y => !decide (y.t = tok)) := ⟨_, rfl⟩
  have hF0 : F 0 = [] := by rw [hF]; rfl
  replace HX : Hid (∀ i, i < A.length → F (i + 1) = F i ++ (if (!decide ((se A i).t = tok)) = true then [se A i] else [])) := by rw [hF]; exact HX
  replace HLE : Hid (∀ i, (F i).length ≤ i) := by rw [hF]; exact HLE
  replace HFI : Hid (F A.length = closeE A tok) := by rw [hF]; exact HFI
  have HF0 := Lib.hid hF0
  clear hF hF0
  obtain ⟨n, hnn⟩ : ∃ n, n = A.length := ⟨_, rfl⟩
  rw [← hnn] at HE HX HFI hn h60 ⊢
  unfold maxLen at hm
  clear h hnn
  go_enter Try.func18, Try.ntmps18
  go_wp2_with fail
  go_loopg [5, 6] n (fun g o_ i_ wr => ∃ (i : Nat), i ≤ n ∧ n - i ≤ g ∧ i_ = .int .i64 i ∧ (∃ a c, o_ = .slice a (F i).length c) ∧ Hid (OSe w.heap.size wr o_ (F i)) ∧ Below w.heap.size w wr)
  case atStart => exact ⟨0, by omega, by omega, rfl, ⟨_, _, by rw [HF0.out]; rfl⟩, by rw [HF0.out]; exact OSe.nil_ _ _, Below.refl _ _⟩
  case round =>
    obtain ⟨i, hi, hg, rfl, ⟨oa, oc, rfl⟩, HO, hbel⟩ := hrel
    have HB := Lib.hid hbel
    by_cases hin : i < n
    · have iw : ((i : Nat) : Int) < (n : Int) := by omega
      have n0 : (0 : Int) ≤ (i : Int) := by omega
      obtain ⟨b, off, rfl, hlt, c0, c1, c2, c3, c4, hgd⟩ := HE.out wr hbel i hin
      have HN := Lib.hid (HX.out i hin)
      have SE := str_eq (se A i).t tok
      have hll := HLE.out i
      obtain ⟨_, hl1, hl2⟩ := HO.out.len
      unfold maxLen at hl2
      generalize se A i = y at *
      have HGD := Lib.hid hgd
      have CE : Hid ((cellsS y).toArray = #[.string y.t, .int .i64 y.u, .int .i64 y.d, .int .i64 y.q, .string y.a]) := rfl
      obtain ⟨k, hk⟩ : ∃ k, k = (F i).length := ⟨_, rfl⟩
      have HK := Lib.hid hk
      rw [← hk] at hll hl1 ⊢
      clear hbel hgd
      by_cases hz : y.t = tok
      · rw [decide_eq_true hz] at SE
        have HN2 : Hid (F (i + 1) = F i) := by show _ = _; rw [HN.out, decide_eq_true hz]; simp
        rw [← HN2.out] at HO hk
        clear HN HN2 hz
        rw [hk]
        clear hk
        go_wp2_with fail
        go_roundg (n - (i + 1))
        case measure => omega
        case rel => exact ⟨i + 1, by omega, Nat.le_refl _, by go_num, ⟨_, _, rfl⟩, HO, HB.out⟩
      · rw [decide_eq_false hz] at SE
        have HN2 : Hid (F (i + 1) = F i ++ [y]) := by show _ = _; rw [HN.out, decide_eq_false hz]; simp
        have A1 : Hid (Rk.OwnK 28 5 w.heap.size (wr.alloc (.cells (cellsS y).toArray 28)) (.slice oa k oc) ((F i).map cellsS)) := by
          have := Rk.OwnK.below HO.out.1 (below_al (Below.refl wr.heap.size wr) (.cells (cellsS y).toArray 28))
          rwa [← hk] at this
        have HGX := Lib.hid HO.out.2
        have A2 : Hid (Rk.RowK 5 (wr.alloc (.cells (cellsS y).toArray 28)) (.slice (some ⟨wr.heap.size, 0, none⟩) 1 1) [cellsS y]) := row_seat (heap_alloc_new _ _)
        have A3 : Hid (((F i).map cellsS).length + 1 ≤ 100000) := by show _ ≤ _; rw [List.length_map, ← hk]; omega
        have HBY : Hid (Below w.heap.size w (wr.alloc (.cells (cellsS y).toArray 28))) := below_al HB.out _
        have A4 : Hid (w.heap.size ≤ (wr.alloc (.cells (cellsS y).toArray 28)).heap.size) := HBY.out.size
        rw [CE.out] at A1 A2 HBY A4
        clear HN hz hk HO
        go_wp2_with (at_builtin; refine Rk.wpList_append_rowk rfl _ _ 22 28 5 56 _ Try.underlying22 infoSe rfl (by decide) (by decide) rfl w.heap.size _ _ ((F i).map cellsS) [cellsS y] rfl rfl A1.out A2.out (seat_one1 y) A3.out A4.out ?_)
        intro v6 w9 h5 g5 k5
        have K9 : Hid (OSe w.heap.size w9 v6 (F (i + 1))) := by
          show OSe _ _ _ _
          rw [HN2.out]
          exact OSe.more h5 HGX.out HGD.out
        have HB6 := Lib.hid (A1.out.belowOf HBY.out (Nat.le_refl _) A4.out g5)
        obtain ⟨a6, c6, rfl⟩ := K9.out.is_slice
        clear h5 g5 k5 A1 A2 A3 A4 HBY
        go_wp2_with fail
        go_roundg (n - (i + 1))
        case measure => omega
        case rel => exact ⟨i + 1, by omega, Nat.le_refl _, by go_num, ⟨_, _, rfl⟩, K9, HB6.out⟩
    · obtain rfl : i = n := by omega
      have iw : ¬ ((i : Int) < (i : Int)) := by omega
      rw [HFI.out] at HO
      rw [HFI.out]
      clear hbel
      go_wp2_with fail
      go_ret
      exact ⟨_, rfl, HO.out, HB.out⟩
end Go.Proofs.Ytkbjbmhplocdnaa.Dsk
