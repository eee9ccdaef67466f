/- View: Offset, of the program and of the plain text; what the law asks of its pieces; its three pieces. -/
import Derived.Test.YtcpdoicbekcpeaaVf
set_option linter.unusedVariables false
set_option linter.unusedSimpArgs false
set_option maxRecDepth 100000
namespace Go.Proofs.Ytcpdoicbekcpeaa.Vi
open Go.RowKit Go.Lib Go.Proofs.Ytcpdoicbekcpeaa.Rk

set_option maxHeartbeats 8000000 in
theorem Offset_any {v : Value} {A : List Pc} (id t : Int) (w : World) (h : Pcs w v A) (hr : rightPc A) : Calls Try.prog 12 #[v, .int .i64 id, .int .i64 t] w fun e w' => e = .returned (.tuple #[.int .i64 (ofs A id t 0).1, .bool (ofs A id t 0).2]) ∧ Below w.heap.size w w' := by
  obtain ⟨a, cap, rfl, hl, hm, hel⟩ := h.open_
  obtain ⟨n, hn⟩ : ∃ n, n = A.length := ⟨_, rfl⟩
  rw [← hn] at hl ⊢
  have HN := Lib.hid hn
  have HE := Lib.hid hel
  have HR := Lib.hid hr
  unfold maxLen at hm
  clear h hel hn hr
  go_enter Try.func12, Try.ntmps12
  go_wp2_with fail
  go_loopg [8, 13] n (fun g s i wr => ∃ k : Nat, k ≤ n ∧ n - k ≤ g ∧ i = .int .i64 k ∧ s = .int .i64 (wid (A.take k)) ∧ Hid (ofs A id t 0 = ofs (A.drop k) id t (wid (A.take k))) ∧ Below w.heap.size w wr)
  case atStart => exact ⟨0, Nat.zero_le _, by omega, rfl, by simp [wid], by show _ = _; simp [wid], Below.refl _ _⟩
  case round =>
    obtain ⟨k, hk, hg, rfl, rfl, HA, hbel⟩ := hrel
    by_cases hlt : k < n
    · have hkl : k < A.length := by rw [← HN.out]; exact hlt
      obtain ⟨b, off, rfl, hb, hgd, c0, c1, c2, c3⟩ := HE.out k hkl
      obtain ⟨sk, hsk⟩ : ∃ sk, sk = wid (A.take k) := ⟨_, rfl⟩
      have et := ofs_drop hkl id t (wid (A.take k))
      have ew := wid_take A hkl
      have b1 := wid_le HR.out (k := k) (by omega)
      have b2 := wide_in HR.out hkl
      rw [← hsk] at et ew b1 HA ⊢
      generalize A[k] = y at *
      obtain ⟨yi, yl, yn, yo⟩ := y
      simp only at c0 c1 c2 c3 et
      replace c0 := vcell hbel hb c0
      replace c1 := vcell hbel hb c1
      replace c2 := vcell hbel hb c2
      replace c3 := vcell hbel hb c3
      have C := fun w' => width_any ⟨yi, yl, yn, yo⟩ w'
      unfold Pc.val at C
      simp only at C
      generalize Pc.wide ⟨yi, yl, yn, yo⟩ = z at *
      have CC := fun w' => clamp_any t z w'
      have cz := clamp_in (n := t) b2.1
      generalize clampI t z = cl at *
      obtain ⟨B1, R1, L1⟩ := vbox wr #[.int .i64 yi, .int .i64 yl, .int .i64 yn, .bool yo] 35
      obtain ⟨W1, hW1⟩ : ∃ W1, W1 = wr.alloc (.cells #[.int .i64 yi, .int .i64 yl, .int .i64 yn, .bool yo] 35) := ⟨_, rfl⟩
      rw [← hW1] at B1 R1 L1
      have HW1 := Lib.hid hW1
      have HB := Lib.hid (below_more' hbel B1)
      obtain ⟨d0, d1, d2, d3⟩ := v4cells R1
      have ET := Lib.hid et
      have EW := Lib.hid ew
      have i1 : (k : Int) < (n : Int) := by omega
      have z1 : IntKind.i64.wrap (sk + z) = sk + z := IntWalk.i64_in _ (by omega)
      have z2 : IntKind.i64.wrap (sk + cl) = sk + cl := IntWalk.i64_in _ (by omega)
      clear hbel HE et hgd hW1 B1 R1 L1 ew hsk
      by_cases he : yi = id
      · have j1 : (yi == id) = true := by simp [he]
        have EQ : Hid (ofs A id t 0 = (sk + cl, true)) := by show _ = _; rw [HA.out, ET.out, if_pos he]
        clear he HA ET
        go_upto_region 5 with fail
        rw [← HW1.out]
        clear c0 c1 c2 c3
        go_wp2_with fail
        refine (C _).mono ?_
        rintro e w1 ⟨rfl, q1⟩
        have K1 := Lib.hid (below_more' HB.out q1)
        clear q1 d0 d1 d2 d3
        go_wp2_with fail
        refine (CC _).mono ?_
        rintro e w2 ⟨rfl, rfl⟩
        go_wp2_with fail
        exact bodyPost_ret (v := .tuple #[.int .i64 (sk + cl), .bool true]) (by simp [results, Try.results12, go_sem]) rfl ⟨by rw [EQ.out], K1.out⟩
      · have j1 : (yi == id) = false := by simp [he]
        have EQ : Hid (ofs A id t 0 = ofs (A.drop (k + 1)) id t (wid (A.take (k + 1)))) := by show _ = _; rw [HA.out, ET.out, if_neg he, EW.out]
        clear he HA ET
        go_upto_region 5 with fail
        rw [← HW1.out]
        clear c0 c1 c2 c3
        go_wp2_with fail
        refine (C _).mono ?_
        rintro e w1 ⟨rfl, q1⟩
        have K1 := Lib.hid (below_more' HB.out q1)
        clear q1 d0 d1 d2 d3
        go_wp2_with fail
        go_roundg (n - (k + 1))
        case measure => omega
        case rel => exact ⟨k + 1, by omega, Nat.le_refl _, by go_num, by rw [EW.out], EQ, K1.out⟩
    · obtain rfl : k = n := by omega
      have HB := Lib.hid hbel
      have EQ : Hid (ofs A id t 0 = (0, false)) := by show _ = _; rw [HA.out, HN.out, List.drop_length]; rfl
      have i1 : ¬ ((k : Int) < (k : Int)) := by omega
      clear hbel HE HA
      go_wp2_with fail
      exact bodyPost_ret (v := .tuple #[.int .i64 0, .bool false]) (by simp [results, Try.results12, go_sem]) rfl ⟨by rw [EQ.out], HB.out⟩
set_option maxHeartbeats 8000000 in
theorem rOffset_any {v : Value} {A : List Pc} (id t : Int) (w : World) (h : Pcs w v A) (hr : rightPc A) : Calls Try.prog 13 #[v, .int .i64 id, .int .i64 t] w fun e w' => e = .returned (.tuple #[.int .i64 (ofs A id t 0).1, .bool (ofs A id t 0).2]) ∧ Below w.heap.size w w' := by
  obtain ⟨a, cap, rfl, hl, hm, hel⟩ := h.open_
  obtain ⟨n, hn⟩ : ∃ n, n = A.length := ⟨_, rfl⟩
  rw [← hn] at hl ⊢
  have HN := Lib.hid hn
  have HE := Lib.hid hel
  have HR := Lib.hid hr
  unfold maxLen at hm
  clear h hel hn hr
  go_enter Try.func13, Try.ntmps13
  go_wp2_with fail
  go_loopg [8, 9] n (fun g s i wr => ∃ k : Nat, k ≤ n ∧ n - k ≤ g ∧ i = .int .i64 k ∧ s = .int .i64 (wid (A.take k)) ∧ Hid (ofs A id t 0 = ofs (A.drop k) id t (wid (A.take k))) ∧ Below w.heap.size w wr)
  case atStart => exact ⟨0, Nat.zero_le _, by omega, rfl, by simp [wid], by show _ = _; simp [wid], Below.refl _ _⟩
  case round =>
    obtain ⟨k, hk, hg, rfl, rfl, HA, hbel⟩ := hrel
    by_cases hlt : k < n
    · have hkl : k < A.length := by rw [← HN.out]; exact hlt
      obtain ⟨b, off, rfl, hb, hgd, c0, c1, c2, c3⟩ := HE.out k hkl
      obtain ⟨sk, hsk⟩ : ∃ sk, sk = wid (A.take k) := ⟨_, rfl⟩
      have et := ofs_drop hkl id t (wid (A.take k))
      have ew := wid_take A hkl
      have b1 := wid_le HR.out (k := k) (by omega)
      have b2 := wide_in HR.out hkl
      rw [← hsk] at et ew b1 HA ⊢
      generalize A[k] = y at *
      obtain ⟨yi, yl, yn, yo⟩ := y
      simp only at c0 c1 c2 c3 et
      replace c0 := vcell hbel hb c0
      replace c1 := vcell hbel hb c1
      replace c2 := vcell hbel hb c2
      replace c3 := vcell hbel hb c3
      have C := fun w' => rwide_any ⟨yi, yl, yn, yo⟩ w'
      unfold Pc.val at C
      simp only at C
      generalize Pc.wide ⟨yi, yl, yn, yo⟩ = z at *
      have cz := clamp_in (n := t) b2.1
      have hcl : clampI t z = if t < 0 then (if z < 0 then z else 0) else (if z < t then z else t) := by unfold clampI; split <;> split <;> omega
      have nz : ¬ z < 0 := by omega
      generalize clampI t z = cl at *
      have HCL : (t < 0 ∧ 0 = cl) ∨ (¬ t < 0 ∧ z < t ∧ z = cl) ∨ (¬ t < 0 ∧ ¬ z < t ∧ t = cl) := by
        rw [hcl]
        by_cases h1 : t < 0
        · simp [h1, nz]
        · by_cases h2 : z < t
          · simp [h1, h2]
          · simp [h1, h2]
      replace HCL := Lib.hid HCL
      have HB := Lib.hid hbel
      have ET := Lib.hid et
      have EW := Lib.hid ew
      have i1 : (k : Int) < (n : Int) := by omega
      have z1 : IntKind.i64.wrap (sk + z) = sk + z := IntWalk.i64_in _ (by omega)
      have z2 : IntKind.i64.wrap (sk + cl) = sk + cl := IntWalk.i64_in _ (by omega)
      clear hbel HE et hgd ew hsk hcl
      by_cases he : yi = id
      · have j1 : (yi == id) = true := by simp [he]
        have EQ : Hid (ofs A id t 0 = (sk + cl, true)) := by show _ = _; rw [HA.out, ET.out, if_pos he]
        clear he HA ET
        rcases HCL.out with ⟨g1, g2⟩ | ⟨g1, g3, g2⟩ | ⟨g1, g3, g2⟩
        · subst g2
          go_wp2_with fail
          refine (C _).mono ?_
          rintro e w1 ⟨rfl, q1⟩
          have K1 := Lib.hid (below_more' HB.out q1)
          clear q1 c0 c1 c2 c3
          go_wp2_with fail
          exact bodyPost_ret (v := .tuple #[.int .i64 (sk + 0), .bool true]) (by simp [results, Try.results13, go_sem]) rfl ⟨by rw [EQ.out], K1.out⟩
        · subst g2
          go_wp2_with fail
          refine (C _).mono ?_
          rintro e w1 ⟨rfl, q1⟩
          have K1 := Lib.hid (below_more' HB.out q1)
          clear q1 c0 c1 c2 c3
          go_wp2_with fail
          exact bodyPost_ret (v := .tuple #[.int .i64 (sk + z), .bool true]) (by simp [results, Try.results13, go_sem]) rfl ⟨by rw [EQ.out], K1.out⟩
        · subst g2
          go_wp2_with fail
          refine (C _).mono ?_
          rintro e w1 ⟨rfl, q1⟩
          have K1 := Lib.hid (below_more' HB.out q1)
          clear q1 c0 c1 c2 c3
          go_wp2_with fail
          exact bodyPost_ret (v := .tuple #[.int .i64 (sk + t), .bool true]) (by simp [results, Try.results13, go_sem]) rfl ⟨by rw [EQ.out], K1.out⟩
      · have j1 : (yi == id) = false := by simp [he]
        have EQ : Hid (ofs A id t 0 = ofs (A.drop (k + 1)) id t (wid (A.take (k + 1)))) := by show _ = _; rw [HA.out, ET.out, if_neg he, EW.out]
        clear he HA ET
        go_wp2_with fail
        refine (C _).mono ?_
        rintro e w1 ⟨rfl, q1⟩
        have K1 := Lib.hid (below_more' HB.out q1)
        clear q1 c0 c1 c2 c3
        go_wp2_with fail
        go_roundg (n - (k + 1))
        case measure => omega
        case rel => exact ⟨k + 1, by omega, Nat.le_refl _, by go_num, by rw [EW.out], EQ, K1.out⟩
    · obtain rfl : k = n := by omega
      have HB := Lib.hid hbel
      have EQ : Hid (ofs A id t 0 = (0, false)) := by show _ = _; rw [HA.out, HN.out, List.drop_length]; rfl
      have i1 : ¬ ((k : Int) < (k : Int)) := by omega
      clear hbel HE HA
      go_wp2_with fail
      exact bodyPost_ret (v := .tuple #[.int .i64 0, .bool false]) (by simp [results, Try.results13, go_sem]) rfl ⟨by rw [EQ.out], HB.out⟩
def GiveR (A : List Pc) (w : World) (e : Ending) (w' : World) : Prop := ∃ b, e = .returned (.bool b) ∧ (b = true → rightPc A) ∧ Below w.heap.size w w'
set_option maxHeartbeats 8000000 in
theorem right_any {v : Value} {A : List Pc} (w : World) (h : Pcs w v A) : Calls Try.prog 9 #[v] w (GiveR A w) := by
  obtain ⟨a, cap, rfl, hl, hm, hel⟩ := h.open_
  obtain ⟨n, hn⟩ : ∃ n, n = A.length := ⟨_, rfl⟩
  rw [← hn] at hl ⊢
  have HN := Lib.hid hn
  have HE := Lib.hid hel
  unfold maxLen at hm
  clear h hel hn
  go_enter Try.func9, Try.ntmps9
  go_wp2_with fail
  go_loopg [7] n (fun g i wr => ∃ k : Nat, k ≤ n ∧ n - k ≤ g ∧ i = .int .i64 k ∧ Hid (∀ j (hj : j < A.length), j < k → 0 ≤ A[j].n ∧ A[j].n ≤ 1099511627776) ∧ Below w.heap.size w wr)
  case atStart => exact ⟨0, Nat.zero_le _, by omega, rfl, fun j hj h => by omega, Below.refl _ _⟩
  case round =>
    obtain ⟨k, hk, hg, rfl, HA, hbel⟩ := hrel
    by_cases hlt : k < n
    · have hkl : k < A.length := by rw [← HN.out]; exact hlt
      obtain ⟨b, off, rfl, hb, hgd, c0, c1, c2, c3⟩ := HE.out k hkl
      have HZ : Hid (0 ≤ A[k].n ∧ A[k].n ≤ 1099511627776 → ∀ j (hj : j < A.length), j < k + 1 → 0 ≤ A[j].n ∧ A[j].n ≤ 1099511627776) := fun e j hj hjk => by
        by_cases q : j = k
        · subst q; exact e
        · exact HA.out j hj (by omega)
      generalize A[k] = y at *
      obtain ⟨yi, yl, yn, yo⟩ := y
      simp only at c0 c1 c2 c3 HZ
      replace c0 := vcell hbel hb c0
      replace c1 := vcell hbel hb c1
      replace c2 := vcell hbel hb c2
      replace c3 := vcell hbel hb c3
      have HB := Lib.hid (hbel.alloc hbel.size (.cells #[.int .i64 yi, .int .i64 yl, .int .i64 yn, .bool yo] 35))
      have i1 : (k : Int) < (n : Int) := by omega
      clear hbel HE hgd HA
      by_cases q1 : yn < 0
      · have j1 : decide (yn < 0) = true := decide_eq_true q1
        go_wp2_with fail
        go_ret
        exact ⟨false, rfl, (fun h => by cases h), HB.out⟩
      · have j1 : decide (yn < 0) = false := decide_eq_false q1
        by_cases q2 : 1099511627776 < yn
        · have j2 : decide (1099511627776 < yn) = true := decide_eq_true q2
          go_wp2_with fail
          go_ret
          exact ⟨false, rfl, (fun h => by cases h), HB.out⟩
        · have j2 : decide (1099511627776 < yn) = false := decide_eq_false q2
          have HZ2 := Lib.hid (HZ.out ⟨by omega, by omega⟩)
          clear HZ
          go_wp2_with fail
          go_roundg (n - (k + 1))
          case measure => omega
          case rel => exact ⟨k + 1, by omega, Nat.le_refl _, by go_num, HZ2, HB.out⟩
    · obtain rfl : k = n := by omega
      have HB := Lib.hid hbel
      have i1 : ¬ ((k : Int) < (k : Int)) := by omega
      clear hbel HE
      by_cases q : k ≤ 1000
      · have d2 : decide ((k : Int) ≤ 1000) = true := decide_eq_true (by omega)
        have HF : Hid (rightPc A) := ⟨fun y hy => by
          obtain ⟨j, hj, rfl⟩ := List.getElem_of_mem hy
          exact HA.out j hj (by rw [HN.out]; exact hj), by rw [← HN.out]; exact q⟩
        clear HA
        go_wp2_with fail
        go_ret
        exact ⟨true, by simp, (fun _ => HF.out), HB.out⟩
      · have d2 : decide ((k : Int) ≤ 1000) = false := decide_eq_false (by omega)
        clear HA
        go_wp2_with fail
        go_ret
        exact ⟨false, by simp, (fun h => by cases h), HB.out⟩
def GiveP (A : List Pc) (w : World) (e : Ending) (w' : World) : Prop := ∃ v, e = .returned v ∧ Pcs w' v A ∧ Below w.heap.size w w'
def threeP : List Pc := [⟨1, 0, 3, true⟩, ⟨2, 0, 0, false⟩, ⟨3, 0, 2, true⟩]
theorem three_right : rightPc threeP := by
  refine ⟨fun y hy => ?_, by decide⟩
  simp [threeP] at hy
  rcases hy with rfl | rfl | rfl <;> decide
theorem row3 {w : World} {b : Nat} {e : TypeId} (hb : w.heap[b]? = some (.cells ((threeP.map Pc.cells).flatten).toArray e (0, 0))) : Pcs w (.slice (some ⟨b, 0, none⟩) 3 3) threeP := by
  have hk : ∀ x ∈ threeP.map Pc.cells, x.length = 4 := fun x hx => by
    obtain ⟨y, _, rfl⟩ := List.mem_map.1 hx
    rfl
  refine ⟨⟨hk, some ⟨b, 0, none⟩, 3, rfl, by decide, by unfold maxLen; omega, .inr ⟨b, 0, rfl, (Array.getElem?_eq_some_iff.1 hb).1, fun j hj i u hu => ?_⟩⟩, fun y hy => ?_⟩
  · have hi : i < 4 := by
      rcases Nat.lt_or_ge i 4 with q | q
      · exact q
      · rw [List.getElem?_eq_none (by rw [hk _ (List.getElem_mem hj)]; exact q)] at hu; cases hu
    rw [cell_of_row w b _ _ _ (0, 0) hb, Nat.zero_add]
    rw [← flat_get hk j hj i hi] at hu
    simpa using hu
  · simp [threeP] at hy
    rcases hy with rfl | rfl | rfl <;> (refine ⟨⟨?_, ?_⟩, ⟨?_, ?_⟩, ⟨?_, ?_⟩⟩ <;> decide)
set_option maxHeartbeats 8000000 in
theorem three_any (w : World) : Calls Try.prog 7 #[] w (GiveP threeP w) := by
  go_enter Try.func7, Try.ntmps7
  go_wp2_with fail
  go_ret
  exact ⟨_, rfl, row3 (heap_alloc_new _ _), (Below.refl _ _).alloc (Nat.le_refl _) _⟩
end Go.Proofs.Ytcpdoicbekcpeaa.Vi
