/- View: Address, Offset, of the program and of the plain text. -/
import Derived.Test.YtcpdoicbekcpeaaVe
import Derived.Deep.RegionWith
import Derived.Deep.RegionHeld3
import Derived.Deep.DeepCutAuto
import Derived.Deep.CutBlock
set_option linter.unusedVariables false
set_option linter.unusedSimpArgs false
set_option maxRecDepth 100000
namespace Go.Proofs.Ytcpdoicbekcpeaa.Vi
open Go.RowKit Go.Lib Go.Proofs.Ytcpdoicbekcpeaa.Rk

def adr : List Pc → Int → Int × Int × Bool
  | [], _ => (0, 0, false)
  | y :: r, t => if t ≤ y.wide then (y.i, t, true) else adr r (t - y.wide)
def ofs : List Pc → Int → Int → Int → Int × Bool
  | [], _, _, _ => (0, false)
  | y :: r, id, t, s => if y.i = id then (s + clampI t y.wide, true) else ofs r id t (s + y.wide)
theorem adr_drop {A : List Pc} {k : Nat} (hk : k < A.length) (t : Int) : adr (A.drop k) t = if t ≤ A[k].wide then (A[k].i, t, true) else adr (A.drop (k + 1)) (t - A[k].wide) := by
  rw [List.drop_eq_getElem_cons hk]; rfl
theorem ofs_drop {A : List Pc} {k : Nat} (hk : k < A.length) (id t s : Int) : ofs (A.drop k) id t s = if A[k].i = id then (s + clampI t A[k].wide, true) else ofs (A.drop (k + 1)) id t (s + A[k].wide) := by
  rw [List.drop_eq_getElem_cons hk]; rfl
theorem vbox (w : World) (cs : Array Value) (ty : TypeId) : Below w.heap.size w (w.alloc (.cells cs ty)) ∧ (w.alloc (.cells cs ty)).heap[w.heap.size]? = some (.cells cs ty (0, 0)) ∧ (w.alloc (.cells cs ty)).heap.size = w.heap.size + 1 :=
  ⟨(Below.refl _ _).alloc (Nat.le_refl _) _, heap_alloc_new _ _, by simp⟩
theorem v4cells {w : World} {B : Nat} {x0 x1 x2 x3 : Value} {ty : TypeId} (z : w.heap[B]? = some (.cells #[x0, x1, x2, x3] ty (0, 0))) : w.cell? ⟨B, 0, none⟩ = some x0 ∧ w.cell? ⟨B, 1, none⟩ = some x1 ∧ w.cell? ⟨B, 2, none⟩ = some x2 ∧ w.cell? ⟨B, 3, none⟩ = some x3 := by
  refine ⟨?_, ?_, ?_, ?_⟩ <;> (rw [cell_of_row _ _ _ _ _ _ z]; rfl)
theorem vkeep {w w' : World} {B b : Nat} {o : Obj} (hb : Below B w w') (hB : b < B) (h : w.heap[b]? = some o) : w'.heap[b]? = some o := (hb.block b hB).trans h
theorem clamp_in {n m : Int} (h : 0 ≤ m) : 0 ≤ clampI n m ∧ clampI n m ≤ m := by unfold clampI; omega

set_option maxHeartbeats 8000000 in
theorem Address_any {v : Value} {A : List Pc} (off0 : Int) (w : World) (h : Pcs w v A) (hr : rightPc A) : Calls Try.prog 6 #[v, .int .i64 off0] w fun e w' => e = .returned (.tuple #[.int .i64 (adr A (clampI off0 (wid A))).1, .int .i64 (adr A (clampI off0 (wid A))).2.1, .bool (adr A (clampI off0 (wid A))).2.2]) ∧ Below w.heap.size w w' := by
  have CW : Hid (∀ w', Below w.heap.size w w' → Calls Try.prog 8 #[v] w' fun e w'' => e = .returned (.int .i64 (wid A)) ∧ Below w'.heap.size w' w'') := fun w' hb => Width_any w' (h.below hb (Nat.le_refl _)) hr
  have CC := clamp_any off0 (wid A)
  obtain ⟨a, cap, rfl, hl, hm, hel⟩ := h.open_
  obtain ⟨n, hn⟩ : ∃ n, n = A.length := ⟨_, rfl⟩
  rw [← hn] at hl CW ⊢
  have HN := Lib.hid hn
  have HE := Lib.hid hel
  have HR := Lib.hid hr
  unfold maxLen at hm
  obtain ⟨hw1, hw2⟩ := wid_all hr
  obtain ⟨ho1, ho2⟩ := clamp_in (n := off0) hw1
  obtain ⟨o, hO⟩ : ∃ o, o = clampI off0 (wid A) := ⟨_, rfl⟩
  rw [← hO] at ho1 ho2 CC ⊢
  obtain ⟨W9, hW9⟩ : ∃ W9, W9 = wid A := ⟨_, rfl⟩
  rw [← hW9] at hw1 hw2 ho2 CW CC
  clear h hel hn hr hO hW9
  go_enter Try.func6, Try.ntmps6
  go_wp2_with fail
  refine (CW.out _ (Below.refl _ _)).mono ?_
  rintro e w1 ⟨rfl, b1⟩
  have HB1 := Lib.hid b1
  clear b1
  go_wp2_with fail
  refine (CC _).mono ?_
  rintro e w2 ⟨rfl, rfl⟩
  go_wp2_with fail
  clear CW CC
  go_loopg [7, 16] n (fun g t i wr => ∃ k : Nat, ∃ t' : Int, k ≤ n ∧ n - k ≤ g ∧ i = .int .i64 k ∧ t = .int .i64 t' ∧ 0 ≤ t' ∧ t' ≤ 1099511627776000 ∧ Hid (adr A o = adr (A.drop k) t') ∧ Below w.heap.size w wr)
  case atStart => exact ⟨0, o, Nat.zero_le _, by omega, rfl, rfl, by omega, by omega, rfl, HB1.out⟩
  case round =>
    obtain ⟨k, t', hk, hg, rfl, rfl, ht1, ht2, HA, hbel⟩ := hrel
    by_cases hlt : k < n
    · have hkl : k < A.length := by rw [← HN.out]; exact hlt
      obtain ⟨b, off, rfl, hb, hgd, c0, c1, c2, c3⟩ := HE.out k hkl
      have et := adr_drop hkl t'
      have b2 := wide_in HR.out hkl
      generalize A[k] = y at *
      obtain ⟨yi, yl, yn, yo⟩ := y
      simp only at c0 c1 c2 c3 et
      replace c0 := vcell hbel hb c0
      replace c1 := vcell hbel hb c1
      replace c2 := vcell hbel hb c2
      replace c3 := vcell hbel hb c3
      have C := fun w' => width_any ⟨yi, yl, yn, yo⟩ w'
      unfold Pc.val at C
      simp only at C
      generalize Pc.wide ⟨yi, yl, yn, yo⟩ = z at *
      obtain ⟨B1, R1, L1⟩ := vbox wr #[.int .i64 yi, .int .i64 yl, .int .i64 yn, .bool yo] 35
      obtain ⟨W1, hW1⟩ : ∃ W1, W1 = wr.alloc (.cells #[.int .i64 yi, .int .i64 yl, .int .i64 yn, .bool yo] 35) := ⟨_, rfl⟩
      rw [← hW1] at B1 R1 L1
      have HW1 := Lib.hid hW1
      have HB := Lib.hid (below_more' hbel B1)
      obtain ⟨d0, d1, d2, d3⟩ := v4cells R1
      have HX : Hid (∀ w', Below W1.heap.size W1 w' → w'.cell? ⟨wr.heap.size, 0, none⟩ = some (.int .i64 yi) ∧ w'.cell? ⟨wr.heap.size, 1, none⟩ = some (.int .i64 yl) ∧ w'.cell? ⟨wr.heap.size, 2, none⟩ = some (.int .i64 yn) ∧ w'.cell? ⟨wr.heap.size, 3, none⟩ = some (.bool yo)) := fun w' hb => v4cells (vkeep hb (by omega) R1)
      have ET := Lib.hid et
      have i1 : (k : Int) < (n : Int) := by omega
      clear hbel HE et hgd hW1 B1 R1 L1
      go_upto_region 5 with fail
      rw [← HW1.out]
      clear c0 c1 c2 c3
      go_wp2_with fail
      refine (C _).mono ?_
      rintro e w1 ⟨rfl, q1⟩
      obtain ⟨e0, e1, e2, e3⟩ := HX.out _ q1
      have K1 := Lib.hid (below_more' HB.out q1)
      by_cases hle : t' ≤ z
      · have j1 : decide (t' ≤ z) = true := decide_eq_true hle
        have EQ : Hid (adr A o = (yi, t', true)) := by show _ = _; rw [HA.out, ET.out, if_pos hle]
        clear q1 d0 d1 d2 d3 HX ET HA
        go_wp2_with fail
        exact bodyPost_ret (v := .tuple #[.int .i64 yi, .int .i64 t', .bool true]) (by simp [results, Try.results6, go_sem]) rfl ⟨by rw [EQ.out], K1.out⟩
      · have j1 : decide (t' ≤ z) = false := decide_eq_false hle
        have z1 : IntKind.i64.wrap (t' - z) = t' - z := IntWalk.i64_in _ (by omega)
        have EQ : Hid (adr A o = adr (A.drop (k + 1)) (t' - z)) := by show _ = _; rw [HA.out, ET.out, if_neg hle]
        have K2 : Hid (∀ w2, Below w1.heap.size w1 w2 → Below w.heap.size w w2) := fun w2 hb => below_more' K1.out hb
        clear q1 d0 d1 d2 d3 HX ET HA
        go_wp2_with fail
        refine (C _).mono ?_
        rintro e w3 ⟨rfl, q3⟩
        have K3 := Lib.hid (K2.out _ q3)
        clear q3 e0 e1 e2 e3
        go_wp2_with fail
        go_roundg (n - (k + 1))
        case measure => omega
        case rel => exact ⟨k + 1, t' - z, by omega, Nat.le_refl _, by go_num, rfl, by omega, by omega, EQ, K3.out⟩
    · obtain rfl : k = n := by omega
      have HB := Lib.hid hbel
      have EQ : Hid (adr A o = (0, 0, false)) := by show _ = _; rw [HA.out, HN.out, List.drop_length]; rfl
      have i1 : ¬ ((k : Int) < (k : Int)) := by omega
      clear hbel HE HA
      go_wp2_with fail
      exact bodyPost_ret (v := .tuple #[.int .i64 0, .int .i64 0, .bool false]) (by simp [results, Try.results6, go_sem]) rfl ⟨by rw [EQ.out], HB.out⟩
set_option maxHeartbeats 8000000 in
theorem rAddress_any {v : Value} {A : List Pc} (off0 : Int) (w : World) (h : Pcs w v A) (hr : rightPc A) : Calls Try.prog 10 #[v, .int .i64 off0] w fun e w' => e = .returned (.tuple #[.int .i64 (adr A (clampI off0 (wid A))).1, .int .i64 (adr A (clampI off0 (wid A))).2.1, .bool (adr A (clampI off0 (wid A))).2.2]) ∧ Below w.heap.size w w' := by
  have CW : Hid (∀ w', Below w.heap.size w w' → Calls Try.prog 11 #[v] w' fun e w'' => e = .returned (.int .i64 (wid A)) ∧ Below w'.heap.size w' w'') := fun w' hb => rWidth_any w' (h.below hb (Nat.le_refl _)) hr
  obtain ⟨a, cap, rfl, hl, hm, hel⟩ := h.open_
  obtain ⟨n, hn⟩ : ∃ n, n = A.length := ⟨_, rfl⟩
  rw [← hn] at hl CW ⊢
  have HN := Lib.hid hn
  have HE := Lib.hid hel
  have HR := Lib.hid hr
  unfold maxLen at hm
  obtain ⟨hw1, hw2⟩ := wid_all hr
  obtain ⟨ho1, ho2⟩ := clamp_in (n := off0) hw1
  obtain ⟨o, hO⟩ : ∃ o, o = clampI off0 (wid A) := ⟨_, rfl⟩
  rw [← hO] at ho1 ho2 ⊢
  obtain ⟨W9, hW9⟩ : ∃ W9, W9 = wid A := ⟨_, rfl⟩
  rw [← hW9] at hw1 hw2 ho2 CW hO
  have hO2 : o = if off0 < 0 then (if W9 < 0 then W9 else 0) else (if W9 < off0 then W9 else off0) := by
    rw [hO]; unfold clampI; split <;> split <;> omega
  have HO2 := Lib.hid hO2
  clear h hel hn hr hO hW9 hO2
  have n0 : ¬ W9 < 0 := by omega
  have HC : (off0 < 0 ∧ o = 0) ∨ (¬ off0 < 0 ∧ W9 < off0 ∧ o = W9) ∨ (¬ off0 < 0 ∧ ¬ W9 < off0 ∧ o = off0) := by
    rw [HO2.out]
    by_cases h1 : off0 < 0
    · simp [h1, n0]
    · by_cases h2 : W9 < off0
      · simp [h1, h2]
      · simp [h1, h2]
  rcases HC with ⟨g1, ho3⟩ | ⟨g1, g2, ho3⟩ | ⟨g1, g2, ho3⟩
  · subst ho3
    go_enter Try.func10, Try.ntmps10
    go_wp2_with fail
    refine (CW.out _ (Below.refl _ _)).mono ?_
    rintro e w1 ⟨rfl, b1⟩
    have HB1 := Lib.hid b1
    clear b1
    clear CW
    go_wp2_with fail
    go_loopg [7, 8, 9] n (fun g s i _ wr => ∃ k : Nat, k ≤ n ∧ n - k ≤ g ∧ i = .int .i64 k ∧ s = .int .i64 (wid (A.take k)) ∧ Hid (adr A (0 : Int) = adr (A.drop k) ((0 : Int) - wid (A.take k))) ∧ Below w.heap.size w wr)
    case atStart => exact ⟨0, Nat.zero_le _, by omega, rfl, by simp [wid], by show _ = _; simp [wid], HB1.out⟩
    case round =>
      obtain ⟨k, hk, hg, rfl, rfl, HA, hbel⟩ := hrel
      by_cases hlt : k < n
      · have hkl : k < A.length := by rw [← HN.out]; exact hlt
        obtain ⟨b, off, rfl, hb, hgd, c0, c1, c2, c3⟩ := HE.out k hkl
        obtain ⟨sk, hsk⟩ : ∃ sk, sk = wid (A.take k) := ⟨_, rfl⟩
        have et := adr_drop hkl ((0 : Int) - wid (A.take k))
        have ew := wid_take A hkl
        have b1 := wid_le HR.out (k := k) (by omega)
        have b2 := wide_in HR.out hkl
        rw [← hsk] at et ew b1 HA ⊢
        generalize A[k] = y at *
        obtain ⟨yi, yl, yn, yo⟩ := y
        simp only at c0 c1 c2 c3 et
        have HB := Lib.hid hbel
        have c4 := vcell hbel hb c0
        have HX : Hid (∀ w', Below w.heap.size w w' → w'.cell? ⟨b, off + k * 4, none⟩ = some (.int .i64 yi)) := fun w' hb' => vcell hb' hb c0
        replace c1 := vcell hbel hb c1
        replace c2 := vcell hbel hb c2
        replace c3 := vcell hbel hb c3
        have C := fun w' => rwide_any ⟨yi, yl, yn, yo⟩ w'
        unfold Pc.val at C
        simp only at C
        generalize Pc.wide ⟨yi, yl, yn, yo⟩ = z at *
        have ET := Lib.hid et
        have EW := Lib.hid ew
        have i1 : (k : Int) < (n : Int) := by omega
        have z1 : IntKind.i64.wrap (sk + z) = sk + z := IntWalk.i64_in _ (by omega)
        have z2 : IntKind.i64.wrap ((0 : Int) - sk) = (0 : Int) - sk := IntWalk.i64_in _ (by omega)
        clear hbel HE et hgd hsk ew c0
        go_wp2_with fail
        refine (C _).mono ?_
        rintro e w1 ⟨rfl, q1⟩
        have K1 := Lib.hid (below_more' HB.out q1)
        have e0 := HX.out _ K1.out
        clear q1 HX c4 c1 c2 c3
        by_cases hle : (0 : Int) ≤ sk + z
        · have j1 : decide ((0 : Int) ≤ sk + z) = true := decide_eq_true hle
          have j2 : decide (sk + z ≥ (0 : Int)) = true := decide_eq_true hle
          have EQ : Hid (adr A (0 : Int) = (yi, (0 : Int) - sk, true)) := by show _ = _; rw [HA.out, ET.out, if_pos (by omega)]
          clear ET HA EW
          go_wp2_with fail
          exact bodyPost_ret (v := .tuple #[.int .i64 yi, .int .i64 ((0 : Int) - sk), .bool true]) (by simp [results, Try.results10, go_sem]) rfl ⟨by rw [EQ.out], K1.out⟩
        · have j1 : decide ((0 : Int) ≤ sk + z) = false := decide_eq_false hle
          have j2 : decide (sk + z ≥ (0 : Int)) = false := decide_eq_false hle
          have EQ : Hid (adr A (0 : Int) = adr (A.drop (k + 1)) ((0 : Int) - wid (A.take (k + 1)))) := by show _ = _; rw [HA.out, ET.out, if_neg (by omega), EW.out, Int.sub_sub]
          clear ET HA
          go_wp2_with fail
          go_roundg (n - (k + 1))
          case measure => omega
          case rel => exact ⟨k + 1, by omega, Nat.le_refl _, by go_num, by rw [EW.out], EQ, K1.out⟩
      · obtain rfl : k = n := by omega
        have HB := Lib.hid hbel
        have EQ : Hid (adr A (0 : Int) = (0, 0, false)) := by show _ = _; rw [HA.out, HN.out, List.drop_length]; rfl
        have i1 : ¬ ((k : Int) < (k : Int)) := by omega
        clear hbel HE HA
        go_wp2_with fail
        exact bodyPost_ret (v := .tuple #[.int .i64 0, .int .i64 0, .bool false]) (by simp [results, Try.results10, go_sem]) rfl ⟨by rw [EQ.out], HB.out⟩
  · subst ho3
    go_enter Try.func10, Try.ntmps10
    go_wp2_with fail
    refine (CW.out _ (Below.refl _ _)).mono ?_
    rintro e w1 ⟨rfl, b1⟩
    have HB1 := Lib.hid b1
    clear b1
    clear CW
    go_wp2_with fail
    go_loopg [7, 8, 9] n (fun g s i _ wr => ∃ k : Nat, k ≤ n ∧ n - k ≤ g ∧ i = .int .i64 k ∧ s = .int .i64 (wid (A.take k)) ∧ Hid (adr A o = adr (A.drop k) (o - wid (A.take k))) ∧ Below w.heap.size w wr)
    case atStart => exact ⟨0, Nat.zero_le _, by omega, rfl, by simp [wid], by show _ = _; simp [wid], HB1.out⟩
    case round =>
      obtain ⟨k, hk, hg, rfl, rfl, HA, hbel⟩ := hrel
      by_cases hlt : k < n
      · have hkl : k < A.length := by rw [← HN.out]; exact hlt
        obtain ⟨b, off, rfl, hb, hgd, c0, c1, c2, c3⟩ := HE.out k hkl
        obtain ⟨sk, hsk⟩ : ∃ sk, sk = wid (A.take k) := ⟨_, rfl⟩
        have et := adr_drop hkl (o - wid (A.take k))
        have ew := wid_take A hkl
        have b1 := wid_le HR.out (k := k) (by omega)
        have b2 := wide_in HR.out hkl
        rw [← hsk] at et ew b1 HA ⊢
        generalize A[k] = y at *
        obtain ⟨yi, yl, yn, yo⟩ := y
        simp only at c0 c1 c2 c3 et
        have HB := Lib.hid hbel
        have c4 := vcell hbel hb c0
        have HX : Hid (∀ w', Below w.heap.size w w' → w'.cell? ⟨b, off + k * 4, none⟩ = some (.int .i64 yi)) := fun w' hb' => vcell hb' hb c0
        replace c1 := vcell hbel hb c1
        replace c2 := vcell hbel hb c2
        replace c3 := vcell hbel hb c3
        have C := fun w' => rwide_any ⟨yi, yl, yn, yo⟩ w'
        unfold Pc.val at C
        simp only at C
        generalize Pc.wide ⟨yi, yl, yn, yo⟩ = z at *
        have ET := Lib.hid et
        have EW := Lib.hid ew
        have i1 : (k : Int) < (n : Int) := by omega
        have z1 : IntKind.i64.wrap (sk + z) = sk + z := IntWalk.i64_in _ (by omega)
        have z2 : IntKind.i64.wrap (o - sk) = o - sk := IntWalk.i64_in _ (by omega)
        clear hbel HE et hgd hsk ew c0
        go_wp2_with fail
        refine (C _).mono ?_
        rintro e w1 ⟨rfl, q1⟩
        have K1 := Lib.hid (below_more' HB.out q1)
        have e0 := HX.out _ K1.out
        clear q1 HX c4 c1 c2 c3
        by_cases hle : o ≤ sk + z
        · have j1 : decide (o ≤ sk + z) = true := decide_eq_true hle
          have j2 : decide (sk + z ≥ o) = true := decide_eq_true hle
          have EQ : Hid (adr A o = (yi, o - sk, true)) := by show _ = _; rw [HA.out, ET.out, if_pos (by omega)]
          clear ET HA EW
          go_wp2_with fail
          exact bodyPost_ret (v := .tuple #[.int .i64 yi, .int .i64 (o - sk), .bool true]) (by simp [results, Try.results10, go_sem]) rfl ⟨by rw [EQ.out], K1.out⟩
        · have j1 : decide (o ≤ sk + z) = false := decide_eq_false hle
          have j2 : decide (sk + z ≥ o) = false := decide_eq_false hle
          have EQ : Hid (adr A o = adr (A.drop (k + 1)) (o - wid (A.take (k + 1)))) := by show _ = _; rw [HA.out, ET.out, if_neg (by omega), EW.out, Int.sub_sub]
          clear ET HA
          go_wp2_with fail
          go_roundg (n - (k + 1))
          case measure => omega
          case rel => exact ⟨k + 1, by omega, Nat.le_refl _, by go_num, by rw [EW.out], EQ, K1.out⟩
      · obtain rfl : k = n := by omega
        have HB := Lib.hid hbel
        have EQ : Hid (adr A o = (0, 0, false)) := by show _ = _; rw [HA.out, HN.out, List.drop_length]; rfl
        have i1 : ¬ ((k : Int) < (k : Int)) := by omega
        clear hbel HE HA
        go_wp2_with fail
        exact bodyPost_ret (v := .tuple #[.int .i64 0, .int .i64 0, .bool false]) (by simp [results, Try.results10, go_sem]) rfl ⟨by rw [EQ.out], HB.out⟩
  · subst ho3
    go_enter Try.func10, Try.ntmps10
    go_wp2_with fail
    refine (CW.out _ (Below.refl _ _)).mono ?_
    rintro e w1 ⟨rfl, b1⟩
    have HB1 := Lib.hid b1
    clear b1
    clear CW
    go_wp2_with fail
    go_loopg [7, 8, 9] n (fun g s i _ wr => ∃ k : Nat, k ≤ n ∧ n - k ≤ g ∧ i = .int .i64 k ∧ s = .int .i64 (wid (A.take k)) ∧ Hid (adr A o = adr (A.drop k) (o - wid (A.take k))) ∧ Below w.heap.size w wr)
    case atStart => exact ⟨0, Nat.zero_le _, by omega, rfl, by simp [wid], by show _ = _; simp [wid], HB1.out⟩
    case round =>
      obtain ⟨k, hk, hg, rfl, rfl, HA, hbel⟩ := hrel
      by_cases hlt : k < n
      · have hkl : k < A.length := by rw [← HN.out]; exact hlt
        obtain ⟨b, off, rfl, hb, hgd, c0, c1, c2, c3⟩ := HE.out k hkl
        obtain ⟨sk, hsk⟩ : ∃ sk, sk = wid (A.take k) := ⟨_, rfl⟩
        have et := adr_drop hkl (o - wid (A.take k))
        have ew := wid_take A hkl
        have b1 := wid_le HR.out (k := k) (by omega)
        have b2 := wide_in HR.out hkl
        rw [← hsk] at et ew b1 HA ⊢
        generalize A[k] = y at *
        obtain ⟨yi, yl, yn, yo⟩ := y
        simp only at c0 c1 c2 c3 et
        have HB := Lib.hid hbel
        have c4 := vcell hbel hb c0
        have HX : Hid (∀ w', Below w.heap.size w w' → w'.cell? ⟨b, off + k * 4, none⟩ = some (.int .i64 yi)) := fun w' hb' => vcell hb' hb c0
        replace c1 := vcell hbel hb c1
        replace c2 := vcell hbel hb c2
        replace c3 := vcell hbel hb c3
        have C := fun w' => rwide_any ⟨yi, yl, yn, yo⟩ w'
        unfold Pc.val at C
        simp only at C
        generalize Pc.wide ⟨yi, yl, yn, yo⟩ = z at *
        have ET := Lib.hid et
        have EW := Lib.hid ew
        have i1 : (k : Int) < (n : Int) := by omega
        have z1 : IntKind.i64.wrap (sk + z) = sk + z := IntWalk.i64_in _ (by omega)
        have z2 : IntKind.i64.wrap (o - sk) = o - sk := IntWalk.i64_in _ (by omega)
        clear hbel HE et hgd hsk ew c0
        go_wp2_with fail
        refine (C _).mono ?_
        rintro e w1 ⟨rfl, q1⟩
        have K1 := Lib.hid (below_more' HB.out q1)
        have e0 := HX.out _ K1.out
        clear q1 HX c4 c1 c2 c3
        by_cases hle : o ≤ sk + z
        · have j1 : decide (o ≤ sk + z) = true := decide_eq_true hle
          have j2 : decide (sk + z ≥ o) = true := decide_eq_true hle
          have EQ : Hid (adr A o = (yi, o - sk, true)) := by show _ = _; rw [HA.out, ET.out, if_pos (by omega)]
          clear ET HA EW
          go_wp2_with fail
          exact bodyPost_ret (v := .tuple #[.int .i64 yi, .int .i64 (o - sk), .bool true]) (by simp [results, Try.results10, go_sem]) rfl ⟨by rw [EQ.out], K1.out⟩
        · have j1 : decide (o ≤ sk + z) = false := decide_eq_false hle
          have j2 : decide (sk + z ≥ o) = false := decide_eq_false hle
          have EQ : Hid (adr A o = adr (A.drop (k + 1)) (o - wid (A.take (k + 1)))) := by show _ = _; rw [HA.out, ET.out, if_neg (by omega), EW.out, Int.sub_sub]
          clear ET HA
          go_wp2_with fail
          go_roundg (n - (k + 1))
          case measure => omega
          case rel => exact ⟨k + 1, by omega, Nat.le_refl _, by go_num, by rw [EW.out], EQ, K1.out⟩
      · obtain rfl : k = n := by omega
        have HB := Lib.hid hbel
        have EQ : Hid (adr A o = (0, 0, false)) := by show _ = _; rw [HA.out, HN.out, List.drop_length]; rfl
        have i1 : ¬ ((k : Int) < (k : Int)) := by omega
        clear hbel HE HA
        go_wp2_with fail
        exact bodyPost_ret (v := .tuple #[.int .i64 0, .int .i64 0, .bool false]) (by simp [results, Try.results10, go_sem]) rfl ⟨by rw [EQ.out], HB.out⟩
end Go.Proofs.Ytcpdoicbekcpeaa.Vi
