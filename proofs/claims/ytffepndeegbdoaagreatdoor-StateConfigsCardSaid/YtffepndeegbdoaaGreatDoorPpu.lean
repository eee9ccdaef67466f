/- Salt: the program's put. -/
import Derived.Test.YtffepndeegbdoaaGreatDoorPfo
set_option linter.unusedVariables false
set_option linter.unusedSimpArgs false
set_option maxRecDepth 100000
namespace Go.Proofs.YtffepndeegbdoaaGreatDoor.Slt
open Go.RowKit Go.Lib Go.Proofs.YtffepndeegbdoaaGreatDoor.Bx

theorem getD_app_left {l r : List Nat} {i : Nat} (h : i < l.length) : (l ++ r).getD i 0 = l.getD i 0 := by
  rw [List.getD_eq_getElem?_getD, List.getD_eq_getElem?_getD, List.getElem?_append_left h]
theorem getD_app_at (l : List Nat) (b : Nat) : (l ++ [b]).getD l.length 0 = b := by
  rw [List.getD_eq_getElem?_getD, List.getElem?_append_right (Nat.le_refl _), Nat.sub_self]
  rfl
theorem sched_congr {b b' : List Nat} {a a' : Nat} (h : ∀ i, i < 64 → b.getD (a + i) 0 = b'.getD (a' + i) 0) : ∀ t, sched b a t = sched b' a' t
  | 0 => rfl
  | t + 1 => by
    rw [sched, sched, sched_congr h t]
    by_cases ht : t < 16
    · rw [if_pos ht, if_pos ht]
      unfold wordN
      rw [h (4 * t) (by omega), Nat.add_assoc, Nat.add_assoc, Nat.add_assoc, h (4 * t + 1) (by omega), h (4 * t + 2) (by omega), h (4 * t + 3) (by omega)]
      rw [Nat.add_assoc, Nat.add_assoc, Nat.add_assoc]
    · rw [if_neg ht, if_neg ht]
theorem block_congr {b b' h : List Nat} {a a' : Nat} (e : ∀ i, i < 64 → b.getD (a + i) 0 = b'.getD (a' + i) 0) : Slt.block b h a = Slt.block b' h a' := by
  unfold Slt.block
  rw [sched_congr e]
theorem blocks_app (l r : List Nat) : ∀ q, 64 * q ≤ l.length → blocks (l ++ r) q = blocks l q
  | 0, _ => rfl
  | q + 1, h => by
    rw [blocks, blocks, blocks_app l r q (by omega)]
    exact block_congr fun i hi => getD_app_left (by omega)

/-- The digest in block g has taken in the bytes l. -/
def St (g : Nat) (w : World) (l : List Nat) : Prop := ∃ B, Dig g w (blocks l (l.length / 64)) B l.length ∧ B8 B ∧ ∀ i, i < l.length % 64 → B.getD i 0 = l.getD (64 * (l.length / 64) + i) 0
theorem St.below {g : Nat} {w w' : World} {l : List Nat} (h : St g w l) (b : Below w.heap.size w w') : St g w' l := by
  obtain ⟨B, h1, h2⟩ := h
  exact ⟨B, h1.below b, h2⟩
theorem B8.set {l : List Nat} (h : B8 l) (i : Nat) {x : Nat} (hx : x < 256) : B8 (l.set i x) := fun j => by
  rw [getD_set]
  split
  · exact hx
  · exact h j
theorem st_more {g : Nat} {w : World} {l B : List Nat} {b : Nat} (hb : b < 256) (h8 : B8 B) (hB : B.length = 64) (hl : ∀ i, i < l.length % 64 → B.getD i 0 = l.getD (64 * (l.length / 64) + i) 0) (hne : (l.length + 1) % 64 ≠ 0)
    (h : Dig g w (blocks l (l.length / 64)) (B.set (l.length % 64) b) (l.length + 1)) : St g w (l ++ [b]) := by
  have e1 : (l ++ [b]).length = l.length + 1 := by simp
  have e2 : (l.length + 1) / 64 = l.length / 64 := by omega
  have e3 : (l.length + 1) % 64 = l.length % 64 + 1 := by omega
  refine ⟨B.set (l.length % 64) b, ?_, h8.set _ hb, fun i hi => ?_⟩
  · rw [e1, e2, blocks_app l [b] _ (by omega)]
    exact h
  · rw [e1, e3] at hi
    rw [e1, e2, getD_set]
    by_cases hi2 : i = l.length % 64
    · subst hi2
      rw [if_pos ⟨rfl, by rw [hB]; omega⟩, show 64 * (l.length / 64) + l.length % 64 = l.length by omega, getD_app_at]
    · rw [if_neg (fun e => hi2 e.1.symm), getD_app_left (by omega), hl i (by omega)]
theorem st_full {g : Nat} {w : World} {l B : List Nat} {b : Nat} (hb : b < 256) (h8 : B8 B) (hB : B.length = 64) (hl : ∀ i, i < l.length % 64 → B.getD i 0 = l.getD (64 * (l.length / 64) + i) 0) (hz : (l.length + 1) % 64 = 0)
    (h : Dig g w (Slt.block (B.set (l.length % 64) b) (blocks l (l.length / 64)) 0) (B.set (l.length % 64) b) (l.length + 1)) : St g w (l ++ [b]) := by
  have e1 : (l ++ [b]).length = l.length + 1 := by simp
  have e2 : (l.length + 1) / 64 = l.length / 64 + 1 := by omega
  refine ⟨B.set (l.length % 64) b, ?_, h8.set _ hb, fun i hi => ?_⟩
  · rw [e1, e2, blocks, blocks_app l [b] _ (by omega), ← block_congr (b := B.set (l.length % 64) b) (a := 0) (fun i hi => ?_)]
    · exact h
    · rw [Nat.zero_add, getD_set]
      by_cases hi2 : i = l.length % 64
      · subst hi2
        rw [if_pos ⟨rfl, by rw [hB]; omega⟩, show 64 * (l.length / 64) + l.length % 64 = l.length by omega, getD_app_at]
      · rw [if_neg (fun e => hi2 e.1.symm), getD_app_left (by omega), hl i (by omega)]
  · rw [e1, hz] at hi
    omega

theorem Roots.grown {w w' : World} {g : Nat} (h : Roots w) (b : w.grownBy w' (some g)) (hg : 0 < g) (hs : 0 < w.heap.size) : Roots w' := fun t ht => grown_cell b hs (by omega) (h t ht)
theorem pput_any (g : Nat) (l : List Nat) (b : Nat) (w : World) (h : St g w l) (hb : b < 256) (hn : l.length < 1000000) (hR : Roots w) (hg : 0 < g) : Calls Tryz.prog 48 #[.pointer (some ⟨g, 0, none⟩), .int .u8 (b : Nat)] w fun e w' => e = .returned (.tuple #[]) ∧ St g w' (l ++ [b]) ∧ w.grownBy w' (some g) := by
  obtain ⟨B, hd, h8, hl⟩ := h
  have HM := Lib.hid (fun w' => st_more (g := g) (w := w') hb h8 hd.2.1 hl)
  have HF := Lib.hid (fun w' => st_full (g := g) (w := w') hb h8 hd.2.1 hl)
  have HB8 := Lib.hid (h8.set (l.length % 64) hb)
  have HO : Hid (B32 (blocks l (l.length / 64))) := blocks_ok _ _
  obtain ⟨H, hH⟩ : ∃ H, H = blocks l (l.length / 64) := ⟨_, rfl⟩
  rw [← hH] at HM HF HO hd
  obtain ⟨n, hnn⟩ : ∃ n, n = l.length := ⟨_, rfl⟩
  rw [← hnn] at HM HF HB8 hd hn
  obtain ⟨m, hm⟩ : ∃ m, m = n % 64 := ⟨_, rfl⟩
  rw [← hm] at HM HF HB8
  have m64 : m < 64 := by omega
  have em : (n : Int) % 64 = (m : Nat) := by omega
  have HDD := Lib.hid hd
  have HRR := Lib.hid hR
  have HG := Lib.hid hg
  have cn := hd.n
  have fn := hd.free 72
  have cb := hd.b m64
  have fb := hd.free (8 + m)
  generalize B.getD m 0 = b0 at *
  have HNM := Lib.hid hm
  clear hd hR hH hnn hl h8 hg hm
  go_enter Tryz.func48, Tryz.ntmps48
  go_upto_region 0 with fail
  go_region
  have HD1 : Hid (Dig g (w.setCell ⟨g, 8 + m, none⟩ (.int .u8 (b : Nat))).drew H (B.set m b) n) := HDD.out.set_b m64 b
  have HB1 : Hid (w.grownBy (w.setCell ⟨g, 8 + m, none⟩ (.int .u8 (b : Nat))).drew (some g)) := grown_below (grown_put (grown_refl _ _)) ((Below.refl _ _).drew)
  obtain ⟨W1, hW1⟩ : ∃ W1, W1 = (w.setCell ⟨g, 8 + m, none⟩ (.int .u8 (b : Nat))).drew := ⟨_, rfl⟩
  rw [← hW1] at HD1 HB1 ⊢
  clear hW1 cn fn cb fb em
  have cn := HD1.out.n
  have fn := HD1.out.free 72
  go_upto_region 2 with fail
  have e1 : (n : Int) + 1 = ((n + 1 : Nat) : Int) := by omega
  rw [e1]
  have HD2 : Hid (Dig g (W1.setCell ⟨g, 72, none⟩ (.int .u64 ((n + 1 : Nat) : Int))) H (B.set m b) (n + 1)) := HD1.out.set_n (n + 1)
  have HB2 : Hid (w.grownBy (W1.setCell ⟨g, 72, none⟩ (.int .u64 ((n + 1 : Nat) : Int))) (some g)) := grown_put HB1.out
  obtain ⟨W2, hW2⟩ : ∃ W2, W2 = W1.setCell ⟨g, 72, none⟩ (.int .u64 ((n + 1 : Nat) : Int)) := ⟨_, rfl⟩
  rw [← hW2] at HD2 HB2 ⊢
  clear hW2 cn fn e1
  have cn := HD2.out.n
  by_cases hz : (n + 1) % 64 = 0
  · have z1 : ((n + 1 : Nat) : Int) % 64 = 0 := by omega
    have CF := Lib.hid (pfold_any g H (B.set m b) (n + 1) W2 HD2.out HO.out HB8.out (HRR.out.grown HB2.out HG.out (by have := HDD.out.lt; omega)) HG.out)
    have HZ := Lib.hid hz
    clear hz
    go_wp2_with fail
    refine CF.out.mono ?_
    rintro e w3 ⟨rfl, hd3, b3⟩
    have K1 := Lib.hid (HF.out w3 HZ.out hd3)
    have K2 := Lib.hid (grown_trans HB2.out b3)
    clear hd3 b3
    go_wp2_with fail
    go_end0
    exact ⟨rfl, K1.out, K2.out⟩
  · have z1 : ¬ (((n + 1 : Nat) : Int) % 64 = 0) := by omega
    have K1 := Lib.hid (HM.out W2 hz HD2.out)
    clear hz
    go_wp2_with fail
    go_end0
    exact ⟨rfl, K1.out, HB2.out⟩
end Go.Proofs.YtffepndeegbdoaaGreatDoor.Slt
