/- Frame: rows of texts; Same of the plain text. -/
import Derived.Test.YtffejfpbeimngaaDoorFa
import Derived.Test.YtffejfpbeimngaaDoorRw
import Derived.OpenShut
import Derived.Lib.Strings
import Derived.BigQuiet
import Derived.Deep.DeepCutAuto
import Derived.Deep.CutBlock
import Derived.Deep.LoopGhost
import Derived.Deep.RegionHeld3
set_option linter.unusedVariables false
set_option linter.unusedSimpArgs false
set_option maxRecDepth 100000
namespace Go.Proofs.YtffejfpbeimngaaDoor.Frm
open Go.RowKit Go.Lib Go.Proofs.YtffejfpbeimngaaDoor.Bx

theorem d_drews {B : Nat} {a w : World} (h : Below B a w) (n : Nat) : Below B a (w.drewN n) := ⟨h.os, h.tape, h.output, h.size, h.block⟩
theorem str_eq (s t : ByteArray) : (s.toList == t.toList) = decide (s = t) := by
  rw [Lib.toList_data, Lib.toList_data]
  by_cases h : s = t
  · subst h; simp
  · rw [decide_eq_false h]
    simp only [beq_eq_false_iff_ne, ne_eq]
    intro e
    exact h (by cases s; cases t; congr; exact Array.toList_inj.1 e)
def cellsT (X : List (List UInt8)) : List (List Value) := X.map fun l => [Value.string (mkB l)]
theorem cellsT_len (X : List (List UInt8)) : (cellsT X).length = X.length := List.length_map _
/-- A row of texts that is read, and one of the call's own. -/
def Strs (w : World) (v : Value) (X : List (List UInt8)) : Prop := Rk.RowK 1 w v (cellsT X)
def OStrs (base : Nat) (w : World) (v : Value) (X : List (List UInt8)) : Prop := Rk.OwnK 9 1 base w v (cellsT X)
def tx (X : List (List UInt8)) (j : Nat) : List UInt8 := X.getD j []
theorem tx_at {X : List (List UInt8)} {j : Nat} (h : j < X.length) : tx X j = X[j] := by
  unfold tx
  rw [List.getD_eq_getElem?_getD, List.getElem?_eq_getElem h]
  rfl
theorem Strs.below {w w' : World} {v : Value} {X : List (List UInt8)} (h : Strs w v X) (hb : Below w.heap.size w w') : Strs w' v X := Rk.RowK.below h hb (Nat.le_refl _)
theorem OStrs.read {base : Nat} {w : World} {v : Value} {X : List (List UInt8)} (h : OStrs base w v X) : Strs w v X := Rk.OwnK.row h
theorem OStrs.below {base : Nat} {w w' : World} {v : Value} {X : List (List UInt8)} (h : OStrs base w v X) (hb : Below w.heap.size w w') : OStrs base w' v X := Rk.OwnK.below h hb
theorem Strs.is_slice {w : World} {v : Value} {X : List (List UInt8)} (h : Strs w v X) : ∃ a cap, v = .slice a X.length cap ∧ X.length ≤ cap ∧ cap ≤ maxLen := by
  obtain ⟨_, a, cap, e, h1, h2, _⟩ := h
  rw [cellsT_len] at e h1
  exact ⟨a, cap, e, h1, h2⟩
theorem Strs.get {w : World} {a : Option Addr} {n cap : Nat} {X : List (List UInt8)} (h : Strs w (.slice a n cap) X) {j : Nat} (hj : j < X.length) : ∃ b off, a = some ⟨b, off, none⟩ ∧ b < w.heap.size ∧ w.cell? ⟨b, off + j, none⟩ = some (.string (mkB (tx X j))) := by
  obtain ⟨_, a', cap', e, h1, h2, h3⟩ := h
  injection e with e1 e2 e3
  subst e1
  rcases h3 with h3 | ⟨b, off, rfl, hb, hc⟩
  · have : X.length = 0 := by rw [← cellsT_len, h3]; rfl
    omega
  · have hc' := hc j (by rw [cellsT_len]; exact hj) 0
    unfold cellsT at hc'
    simp only [List.getElem_map, Nat.mul_one, Nat.add_zero] at hc'
    exact ⟨b, off, rfl, hb, by rw [tx_at hj]; exact hc' _ rfl⟩
theorem Strs.nil_ (w : World) : Strs w (.slice none 0 0) [] := Rk.RowK.nil_ _ _
theorem OStrs.nil_ (base : Nat) (w : World) : OStrs base w (.slice none 0 0) [] := Rk.OwnK.nil_ _ _ _ _
def sameX (X Y : List (List UInt8)) : Bool := decide (X = Y)
theorem sameX_no {X Y : List (List UInt8)} {i : Nat} (h : tx X i ≠ tx Y i) : sameX X Y = false := decide_eq_false fun e => h (by rw [e])
theorem sameX_yes {X Y : List (List UInt8)} (hl : X.length = Y.length) (h : ∀ i, i < X.length → tx X i = tx Y i) : sameX X Y = true := decide_eq_true (by
  apply List.ext_getElem hl
  intro i h1 h2
  have := h i h1
  rwa [tx_at h1, tx_at h2] at this)
set_option maxHeartbeats 8000000 in
theorem rSame_any {a b : Option Addr} {n cap m cap' : Nat} {X Y : List (List UInt8)} (w : World) (h : Strs w (.slice a n cap) X) (h' : Strs w (.slice b m cap') Y) : Calls Tryd.prog 10 #[.slice a n cap, .slice b m cap'] w fun e w' => e = .returned (.bool (sameX X Y)) ∧ Below w.heap.size w w' := by
  obtain ⟨a1, c1, e, hn, hm⟩ := h.is_slice
  injection e with e1 e2 e3
  subst e1 e2 e3
  obtain ⟨b1, d1, e, hn', hm'⟩ := h'.is_slice
  injection e with e1 e2 e3
  subst e1 e2 e3
  have HE : Hid (∀ k, ∀ j, j < X.length → ∃ b off, a = some ⟨b, off, none⟩ ∧ b < w.heap.size ∧ (w.drewN k).cell? ⟨b, off + j, none⟩ = some (.string (mkB (tx X j)))) := fun k j hj => (h.below (d_drews (Below.refl _ _) k)).get hj
  have HE' : Hid (∀ k, ∀ j, j < Y.length → ∃ c off, b = some ⟨c, off, none⟩ ∧ c < w.heap.size ∧ (w.drewN k).cell? ⟨c, off + j, none⟩ = some (.string (mkB (tx Y j)))) := fun k j hj => (h'.below (d_drews (Below.refl _ _) k)).get hj
  unfold maxLen at hm hm'
  by_cases hl : X.length = Y.length
  · have HNO : Hid (∀ i, i < X.length → ¬ tx X i = tx Y i → sameX X Y = false) := fun i hi hne => sameX_no hne
    have HYE : Hid ((∀ i, i < X.length → tx X i = tx Y i) → sameX X Y = true) := fun h' => sameX_yes hl h'
    rw [← hl] at HE' hn' ⊢
    obtain ⟨n, hnn⟩ : ∃ n, n = X.length := ⟨_, rfl⟩
    rw [← hnn] at HE HE' HNO HYE hn hn' ⊢
    obtain ⟨r, hr⟩ : ∃ r, r = sameX X Y := ⟨_, rfl⟩
    rw [← hr] at HNO HYE ⊢
    clear h h' hnn hr hl
    go_enter Tryd.func10, Tryd.ntmps10
    go_wp2_with fail
    go_loopg [5] n (fun g i_ wr => ∃ (i : Nat), i ≤ n ∧ n - i ≤ g ∧ i_ = .int .i64 i ∧ Hid (∀ j, j < i → tx X j = tx Y j) ∧ ∃ k, wr = w.drewN k)
    case atStart => exact ⟨0, by omega, by omega, rfl, fun j hj => absurd hj (by omega), 0, rfl⟩
    case round =>
      obtain ⟨i, hi, hg, rfl, HH, k, rfl⟩ := hrel
      by_cases hin : i < n
      · have iw : ((i : Nat) : Int) < (n : Int) := by omega
        have n0 : (0 : Int) ≤ (i : Int) := by omega
        obtain ⟨c, off, rfl, hlt, c0⟩ := HE.out k i hin
        obtain ⟨c', off', rfl, hlt', d0⟩ := HE'.out k i hin
        have HN := Lib.hid (HNO.out i hin)
        have HH2 : Hid (tx X i = tx Y i → ∀ j, j < i + 1 → tx X j = tx Y j) := fun h j hj => by
          by_cases e : j = i
          · subst e; exact h
          · exact HH.out j (by omega)
        have HIJ : Hid (mkB (tx X i) = mkB (tx Y i) → tx X i = tx Y i) := mkB_inj
        generalize tx X i = y at *
        generalize tx Y i = z at *
        obtain ⟨s, hs⟩ : ∃ s, s = mkB y := ⟨_, rfl⟩
        obtain ⟨t, ht⟩ : ∃ t, t = mkB z := ⟨_, rfl⟩
        have HST : Hid (y = z → s = t) := fun e => by rw [hs, ht, e]
        rw [← hs, ← ht] at HIJ
        rw [← hs] at c0
        rw [← ht] at d0
        clear hs ht
        obtain ⟨wo, hwo⟩ : ∃ wo, wo = w.drewN k := ⟨_, rfl⟩
        rw [← hwo] at c0 d0 ⊢
        have HWO := Lib.hid hwo
        clear hwo
        have SQ := str_eq s t
        by_cases hst : s = t
        · subst hst
          rw [decide_eq_true rfl] at SQ
          have HH3 := Lib.hid (HH2.out (HIJ.out rfl))
          clear HN HH2 HST HIJ
          go_upto_region 6 with fail
          go_quiet (fail)
          have HD : Hid (wo.drewN nq = w.drewN (k + nq)) := by show _ = _; rw [HWO.out, World.drewN_drewN]
          go_wp2_with fail
          go_roundg (n - (i + 1))
          case measure => omega
          case rel => exact ⟨i + 1, by omega, Nat.le_refl _, by go_num, HH3, _, HD.out⟩
        · have hr := HN.out (fun e => hst (HST.out e))
          rw [decide_eq_false hst] at SQ
          clear HN HH2 HST HIJ
          go_upto_region 6 with fail
          go_quiet (fail)
          have HDB : Hid (Below w.heap.size w (wo.drewN nq)) := by show Below _ _ _; rw [HWO.out, World.drewN_drewN]; exact d_drews (Below.refl _ _) _
          go_wp2_with fail
          go_ret
          exact ⟨by first | rfl | (rw [hr]; rfl) | (rw [hr]; done), HDB.out⟩
      · obtain rfl : i = n := by omega
        have iw : ¬ ((i : Int) < (i : Int)) := by omega
        have hs := HYE.out HH.out
        go_wp2_with fail
        go_ret
        exact ⟨by first | rfl | (rw [hs]; rfl) | (rw [hs]; done), d_drews (Below.refl _ _) _⟩
  · have hs : sameX X Y = false := decide_eq_false fun e => hl (by rw [e])
    have q1 : ¬ ((X.length : Int) = (Y.length : Int)) := by omega
    clear h h' HE HE'
    go_enter Tryd.func10, Tryd.ntmps10
    go_wp2_with fail
    go_ret
    exact ⟨by first | rfl | (rw [hs]; rfl) | (rw [hs]; done), Below.refl _ _⟩
end Go.Proofs.YtffejfpbeimngaaDoor.Frm
