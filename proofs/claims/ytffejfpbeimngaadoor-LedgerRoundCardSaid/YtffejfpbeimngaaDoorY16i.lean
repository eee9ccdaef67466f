/- Plate: the program's New. -/
import Derived.Test.YtffejfpbeimngaaDoorY16h
set_option linter.unusedVariables false
set_option linter.unusedSimpArgs false
set_option maxRecDepth 100000
namespace Go.Proofs.YtffejfpbeimngaaDoor.Plt
open Go.RowKit Go.Lib Go.Proofs.YtffejfpbeimngaaDoor.Bx

theorem infoPlate : (Tryd.prog.info? 47).map (fun i => (i.zero, i.size, i.bytes)) = some (some (.agg #[.string ByteArray.empty, .slice none 0 0]), 2, 40) := by kernel_rfl
theorem made_at (z0 z1 : Value) (n i : Nat) (hi : i < n) : (madeCells #[z0, z1] (n * 2))[i * 2]? = some z0 ∧ (madeCells #[z0, z1] (n * 2))[i * 2 + 1]? = some z1 := by
  unfold madeCells
  constructor
  · rw [Array.getElem?_map, Array.getElem?_range, if_pos (by omega)]
    show some (#[z0, z1][(i * 2) % 2]!) = _
    rw [show (i * 2) % 2 = 0 by omega]
    rfl
  · rw [Array.getElem?_map, Array.getElem?_range, if_pos (by omega)]
    show some (#[z0, z1][(i * 2 + 1) % 2]!) = _
    rw [show (i * 2 + 1) % 2 = 1 by omega]
    rfl
def begP (t : Nat) (i : Nat) : PL := if i < t then ⟨fullB ByteArray.empty, []⟩ else ⟨ByteArray.empty, []⟩
def begD (n t : Nat) : DK := ⟨n, begP t, false, -1⟩
theorem Gm.congr {w : World} {G n : Nat} {P P' : Nat → PL} {u : Nat → Value} (h : Gm w G n P u) (hP : ∀ i, i < n → P' i = P i) : Gm w G n P' u := by
  obtain ⟨cs, h1, h2, h3⟩ := h
  exact ⟨cs, h1, h2, fun i hi => by rw [hP i hi]; exact h3 i hi⟩
theorem beg_step {base B G n t : Nat} {w : World} (h : Dm base w B G (.slice none 0 0) (fun _ => nilV) [] (begD n t)) (ht : t < n) : Dm base (w.setCell ⟨G, t * 2, none⟩ (.string (fullB ByteArray.empty))) B G (.slice none 0 0) (fun _ => nilV) [] (begD n (t + 1)) := by
  have hc : ∀ q, q ≠ G → (w.setCell ⟨G, t * 2, none⟩ (.string (fullB ByteArray.empty))).heap[q]? = w.heap[q]? := fun q hq => Below.heap_setCell _ _ _ _ hq
  refine ⟨h.hB, h.hG, by rw [hc B (Dx.neBG h)]; exact h.blk, ((Dx.pl h).setF ht _).congr (fun i hi => ?_), h.n1, h.n2, h.left1, h.left2, Rk.OwnK.nil_ _ _ _ _, by simp, fun i => ?_, fun i hi => ?_, fun i j _ _ _ g e => by cases e⟩
  · show begP (t + 1) i = upd (begP t) t ⟨_, (begP t t).l⟩ i
    by_cases e : i = t
    · subst e
      rw [upd_same]
      unfold begP
      rw [if_pos (by omega), if_neg (by omega)]
    · rw [upd_other _ _ e]
      unfold begP
      by_cases h : i < t
      · rw [if_pos h, if_pos (by omega)]
      · rw [if_neg h, if_neg (by omega)]
  · constructor
    · intro h
      simp at h
    · rintro ⟨_, h⟩
      refine absurd ?_ h
      show (begP (t + 1) i).l = []
      unfold begP
      split <;> rfl
  · have e : (begP (t + 1) i).l = [] := by unfold begP; split <;> rfl
    show Rk.OwnK _ _ _ _ _ (cellsT (begP (t + 1) i).l)
    rw [e]
    exact Rk.OwnK.nil_ _ _ _ _
theorem beg_end {base B G n : Nat} {w : World} (h : Dm base w B G (.slice none 0 0) (fun _ => nilV) [] (begD n n)) : Dm base w B G (.slice none 0 0) (fun _ => nilV) [] (newD n) :=
  Dm.congr h (P' := fun _ => ⟨fullB ByteArray.empty, []⟩) (fun i hi => by
    show _ = begP n i
    unfold begP
    rw [if_pos (show i < n from hi)])
theorem beg_start {base n : Nat} {w w2 : World} (h : w2.ownsRow base 47 2 (.slice (some ⟨w.heap.size, 0, none⟩) n n) n (madeCells #[.string ByteArray.empty, .slice none 0 0] (n * 2)).toList) (hb : base ≤ w2.heap.size) (h1 : 1 ≤ n) (h2 : n ≤ 16384) : Dm base (w2.alloc (.cells #[.slice (some ⟨w.heap.size, 0, none⟩) n n, .slice none 0 0, .bool false, .int .i64 (-1)] 44)) w2.heap.size w.heap.size (.slice none 0 0) (fun _ => nilV) [] (begD n 0) := by
  obtain ⟨b1, r1, l1⟩ := box1 w2 #[.slice (some ⟨w.heap.size, 0, none⟩) n n, .slice none 0 0, .bool false, .int .i64 (-1)] 44
  rcases h.2 with ⟨e, _⟩ | ⟨g, cap, cur, e, hbg, hg, _, _, hsz, htk⟩
  · cases e
  injection e with e1 e2 e3
  injection e1 with e1
  injection e1 with e1
  subst e1 e3
  have hgl := (Array.getElem?_eq_some_iff.1 hg).1
  have hcur : cur = madeCells #[.string ByteArray.empty, .slice none 0 0] (n * 2) := by
    rw [List.take_of_length_le (by rw [Array.length_toList, hsz]; exact Nat.le_refl _)] at htk
    exact Array.toList_inj.1 htk
  refine ⟨hb, hbg, r1, ⟨cur, by rw [b1.block _ hgl]; exact hg, hsz, fun i hi => ?_⟩, h1, h2, by show (-1 : Int) ≤ -1; omega, by show (-1 : Int) ≤ _; omega, Rk.OwnK.nil_ _ _ _ _, by simp, fun i => ?_, fun i hi => ?_, fun i j _ _ _ g e => by cases e⟩
  · rw [hcur]
    have := made_at (.string ByteArray.empty) (.slice none 0 0) n i hi
    refine ⟨?_, this.2⟩
    rw [this.1]
    rfl
  · constructor
    · intro h
      simp at h
    · rintro ⟨_, h⟩
      refine absurd ?_ h
      show (begP 0 i).l = []
      rfl
  · exact Rk.OwnK.nil_ _ _ _ _
def Made (w : World) (n : Nat) : Ending → World → Prop := fun e w' => ∃ B G, e = .returned (.tuple #[.pointer (some ⟨B, 0, none⟩), .bool true]) ∧ Dm w.heap.size w' B G (.slice none 0 0) (fun _ => nilV) [] (newD n) ∧ Below w.heap.size w w'
theorem new_no (n : Int) (w : World) (h : n < 1 ∨ 16384 < n) : Calls Tryd.prog 6 #[.int .i64 n] w fun e w' => e = .returned (.tuple #[.pointer none, .bool false]) ∧ w = w' := by
  rcases h with h | h
  · go_enter Tryd.func6, Tryd.ntmps6
    go_wp2_with fail
    exact bodyPost_ret (v := .tuple #[.pointer none, .bool false]) (by simp [results, Tryd.results6, go_sem]) rfl ⟨rfl, rfl⟩
  · have h1 : ¬ n < 1 := by omega
    go_enter Tryd.func6, Tryd.ntmps6
    go_wp2_with fail
    exact bodyPost_ret (v := .tuple #[.pointer none, .bool false]) (by simp [results, Tryd.results6, go_sem]) rfl ⟨rfl, rfl⟩
set_option maxHeartbeats 4000000 in
theorem new_yes (n : Nat) (w : World) (h1 : 1 ≤ n) (h2 : n ≤ 16384) : Calls Tryd.prog 6 #[.int .i64 (n : Nat)] w (Made w n) := by
  obtain ⟨i0, hi, hz0, hz1, hz2⟩ := Rk.kparts infoPlate
  have A2 : Hid (i0.bytes * n ≤ 281474976710656) := by show _ ≤ _; rw [hz2]; omega
  have A3 : Hid (n ≤ maxLen) := by show _ ≤ _; unfold maxLen; omega
  have A4 : Hid (w.heap.size ≤ w.heap.size) := Nat.le_refl _
  have HI := Lib.hid hi
  have HZ0 := Lib.hid hz0
  have HZ1 := Lib.hid hz1
  have H1 := Lib.hid h1
  have H2 := Lib.hid h2
  have n1 : ¬ (n : Int) < 1 := by omega
  have n2 : ¬ (16384 : Int) < (n : Nat) := by omega
  have n3 : (0 : Int) ≤ (n : Nat) := by omega
  have n4 : ¬ 16384 < n := by omega
  have n5 : ¬ n < 1 := by omega
  have HF := Lib.hid (fun w5 => filled_any ByteArray.empty w5 (by decide))
  clear hi hz0 hz1 hz2 h1 h2
  go_enter Tryd.func6, Tryd.ntmps6
  go_wp2_with (at_make; refine wpList_make_full _ rfl _ _ 41 rfl w.heap.size 47 i0 (.agg #[.string ByteArray.empty, .slice none 0 0]) 2 Tryd.underlying41 HI.out HZ0.out HZ1.out .i64 .i64 _ _ n rfl rfl rfl rfl A2.out A3.out A4.out ?_)
  intro w2 r2 g2
  have hb2 : Below w.heap.size w w2 := (Below.refl _ _).grown g2 (Nat.le_refl _) (fun k e => by cases e)
  have D2 := Lib.hid (beg_start (w := w) r2 hb2.size H1.out H2.out)
  have B2 := Lib.hid (below_al hb2 (.cells #[.slice (some ⟨w.heap.size, 0, none⟩) n n, .slice none 0 0, .bool false, .int .i64 (-1)] 44))
  obtain ⟨G, hG⟩ : ∃ G, G = w.heap.size := ⟨_, rfl⟩
  have HG := Lib.hid hG
  clear r2 g2 hb2
  go_upto_region 4 with fail
  obtain ⟨w3, hw3⟩ : ∃ w3, w3 = w2.alloc (.cells #[.slice (some ⟨w.heap.size, 0, none⟩) n n, .slice none 0 0, .bool false, .int .i64 (-1)] 44) := ⟨_, rfl⟩
  rw [← hw3] at D2 B2 ⊢
  generalize w2.heap.size = B at *
  clear hw3 A2 A3 A4 HI HZ0 HZ1 HG hG
  go_wp2_with fail
  refine (HF.out w3).mono ?_
  rintro e w4 ⟨rfl, b4⟩
  have D4 := Lib.hid (Dx.below D2.out b4)
  have B4 := Lib.hid (below_on B2.out b4)
  obtain ⟨c0, _⟩ := Dx.cells D4.out
  simp only [begD] at c0
  clear b4 B2 D2 HF
  go_wp2_with fail
  go_loopg [6, 23] n (fun g _ i_ wr => ∃ t : Nat, t ≤ n ∧ n - t ≤ g ∧ i_ = .int .i64 t ∧ Hid (Dm w.heap.size wr B w.heap.size (.slice none 0 0) (fun _ => nilV) [] (begD n t)) ∧ Hid (Below w.heap.size w wr))
  case atStart => exact ⟨0, by omega, by omega, rfl, D4.out, B4.out⟩
  case round =>
    obtain ⟨t, ht, hg, rfl, DX, HB⟩ := hrel
    by_cases hlt : t < n
    · have iw : (t : Int) < (n : Nat) := by omega
      have n0 : (0 : Int) ≤ (t : Nat) := by omega
      obtain ⟨x0, _⟩ := Dx.cells DX.out
      obtain ⟨z0, z1, y0, y1⟩ := (Dx.pl DX.out).cells (i := t) hlt
      have D5 := Lib.hid (beg_step DX.out hlt)
      have B5 : Hid (Below w.heap.size w (wr.setCell ⟨w.heap.size, t * 2, none⟩ (.string (fullB ByteArray.empty)))) := below_put HB.out (Nat.le_refl _) _
      simp only [begD] at x0
      go_wp2_with fail
      go_roundg (n - (t + 1))
      case measure => omega
      case rel => exact ⟨t + 1, by omega, Nat.le_refl _, by go_num, D5.out, B5.out⟩
    · obtain rfl : t = n := by omega
      have iw : ¬ ((t : Int) < (t : Nat)) := by omega
      go_wp2_with fail
      exact bodyPost_ret (v := .tuple #[.pointer (some ⟨B, 0, none⟩), .bool true]) (by simp [results, Tryd.results6, go_sem]) rfl ⟨B, w.heap.size, rfl, beg_end DX.out, HB.out⟩
end Go.Proofs.YtffejfpbeimngaaDoor.Plt
