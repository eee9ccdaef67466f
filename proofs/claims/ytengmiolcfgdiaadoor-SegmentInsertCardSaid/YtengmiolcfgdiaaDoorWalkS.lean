/- Contracts of balance: made by genS.py (one theorem a case). -/
import Derived.Test.YtengmiolcfgdiaaDoorWalkR
set_option linter.unusedVariables false
namespace Go.Proofs.YtengmiolcfgdiaaDoor.Con
open Go.RowKit Go.Lib Go.Proofs.YtengmiolcfgdiaaDoor.Let Go.Proofs.YtengmiolcfgdiaaDoor.Tree

theorem below_cell {w w' : World} (hb : Below w.heap.size w w') {b o : Nat} {x : Value} (hlt : b < w.heap.size) (h : w.cell? ⟨b, o, none⟩ = some x) : w'.cell? ⟨b, o, none⟩ = some x :=
  (hb.cell (p := ⟨b, o, none⟩) hlt).trans h
theorem below_more {w w1 w2 : World} (h1 : Below w.heap.size w w1) (h2 : Below w1.heap.size w1 w2) : Below w.heap.size w w2 := h1.trans (h2.mono h1.size)

theorem by_LR {t : T} (hp : 0 < t.ht) : t.by = t.L.by + t.R.by := by
  obtain ⟨l, r, rfl⟩ : ∃ l r, t = .node l r := ⟨_, _, T.node_of_ht hp⟩
  rfl

/-- What is made in a world is kept below it. -/
theorem made_of {w w1 w2 : World} {t : T} {v : Value} (h1 : Below w.heap.size w w1) (h2 : Below w1.heap.size w1 w2) (h : Rp w2 t v) (e : Ending) (he : e = .returned v) : Made w t e w2 :=
  ⟨v, he, h, below_more h1 h2⟩

set_option maxRecDepth 100000 in
set_option maxHeartbeats 1000000 in
theorem balance_1 {a b : T} {va vb : Value} (w : World) (ha : Rp w a va) (hb : Rp w b vb) (oka : a.ok) (okb : b.ok) (hby : a.by + b.by ≤ 1073741824) (hd1 : a.ht ≤ b.ht + 2) (hd2 : b.ht ≤ a.ht + 2) (c1 : a.ht + 1 < b.ht) (c2 : b.R.ht < b.L.ht) :
    Calls Tryd.prog 110 #[va, vb] w (Made w (bal a b)) := by
  have OK := (bal_of oka okb hd1 hd2).ok
  rw [bal1 c1 c2] at OK ⊢
  obtain ⟨OK1, OK2, -, -⟩ := OK
  obtain ⟨ol, or, -, -, -, -⟩ := T.ok_L okb (by omega)
  have y1 := by_LR (t := b) (by omega)
  obtain ⟨pl, pr, -, -, -, -⟩ := T.ok_L ol (by omega)
  have y2 := by_LR (t := b.L) (by omega)
  have ga := T.ht_by oka
  have gb := T.ht_by okb
  have HA := Lib.hid ha
  have HB := Lib.hid hb
  obtain ⟨x, xl, xr, rfl, ⟨h0, h1, h2, h3, h4, h5, h6⟩, hl, hr⟩ := ha.unfold (ok_not_nil oka)
  obtain ⟨y, yl, yr, rfl, ⟨k0, k1, k2, k3, k4, k5, k6⟩, kl, kr⟩ := hb.unfold (ok_not_nil okb)
  have HR := Lib.hid kr
  obtain ⟨z, zl, zr, rfl, ⟨m0, m1, m2, m3, m4, m5, m6⟩, ml, mr⟩ := kl.unfold (ok_not_nil ol)
  obtain ⟨q, ql, qr, rfl, ⟨n0, n1, n2, n3, n4, n5, n6⟩, -, -⟩ := kr.unfold (ok_not_nil or)
  have HLL := Lib.hid ml
  have HLR := Lib.hid mr
  have e1 : IntKind.i64.wrap ((a.ht : Int) + 1) = (a.ht : Int) + 1 := IntWalk.i64_in _ (by omega)
  have e2 : IntKind.i64.wrap ((b.ht : Int) + 1) = (b.ht : Int) + 1 := IntWalk.i64_in _ (by omega)
  have g1 : decide ((a.ht : Int) + 1 < (b.ht : Int)) = true := by simp; omega
  have g2 : decide (b.R.ht < b.L.ht) = true := by simp; omega
  have hD : Hid (∀ n, Below w.heap.size w (w.drewN n)) := fun n => below_drews (Below.refl _ _) n
  clear ha hb hl hr kl kr hd1 hd2 ml mr h1 h2 h3 h4 h5 k1 k4 k5 m1 m4 m5 n1 n2 n3 n4 n5
  go_enter Tryd.func110, Tryd.ntmps110
  go_wp2_with fail
  go_quiet (fail)
  go_wp2_with fail
  have KP : Hid (∀ w', Below w.heap.size w w' → Below w.heap.size w w' ∧ w'.cell? ⟨y, 1, none⟩ = some (.pointer (some ⟨z, 0, none⟩)) ∧ w'.cell? ⟨y, 2, none⟩ = some (.pointer (some ⟨q, 0, none⟩)) ∧ w'.cell? ⟨z, 1, none⟩ = some zl ∧ w'.cell? ⟨z, 2, none⟩ = some zr) :=
    fun w' h => ⟨h, below_cell h k0 k2, below_cell h k0 k3, below_cell h m0 m2, below_cell h m0 m3⟩
  go_region_held3 (fun w' => Below w.heap.size w w' ∧ w'.cell? ⟨y, 1, none⟩ = some (.pointer (some ⟨z, 0, none⟩)) ∧ w'.cell? ⟨y, 2, none⟩ = some (.pointer (some ⟨q, 0, none⟩)) ∧ w'.cell? ⟨z, 1, none⟩ = some zl ∧ w'.cell? ⟨z, 2, none⟩ = some zr)
    ((refine KP.out _ ?_; focus ((repeat first | assumption | exact hD.out _ | exact Below.refl _ _ | apply Below.drew | apply below_drews); done)))
    (first
      | (go_at_call 87; go_split_ands; (with_reducible refine (node_any (a := a) (b := b.L.L) (va := (.pointer (some ⟨x, 0, none⟩))) (vb := zl) _ ?_ ?_ oka pl (by (try simp only [T.by]); omega)).mono ?_); (first | (refine Rp.below (w := w) ?_ (Nat.le_refl _) HA.out; focus ((repeat first | assumption | exact hD.out _ | exact Below.refl _ _ | apply Below.drew | apply below_drews); done)) | exact Rp.below hb (Nat.le_refl _) (by assumption) | assumption); (first | (refine Rp.below (w := w) ?_ (Nat.le_refl _) HLL.out; focus ((repeat first | assumption | exact hD.out _ | exact Below.refl _ _ | apply Below.drew | apply below_drews); done)) | exact Rp.below hb (Nat.le_refl _) (by assumption) | assumption); rintro e w1 ⟨v, rfl, hr, hb⟩; have hb1 := below_more (w := w) (by (repeat first | assumption | exact hD.out _ | exact Below.refl _ _ | apply Below.drew | apply below_drews)) hb)
      | (go_at_call 87; go_split_ands; (with_reducible refine (node_any (a := b.L.R) (b := b.R) (va := zr) (vb := (.pointer (some ⟨q, 0, none⟩))) _ ?_ ?_ pr or (by (try simp only [T.by]); omega)).mono ?_); (first | (refine Rp.below (w := w) ?_ (Nat.le_refl _) HLR.out; focus ((repeat first | assumption | exact hD.out _ | exact Below.refl _ _ | apply Below.drew | apply below_drews); done)) | exact Rp.below hb (Nat.le_refl _) (by assumption) | assumption); (first | (refine Rp.below (w := w) ?_ (Nat.le_refl _) HR.out; focus ((repeat first | assumption | exact hD.out _ | exact Below.refl _ _ | apply Below.drew | apply below_drews); done)) | exact Rp.below hb (Nat.le_refl _) (by assumption) | assumption); rintro e w1 ⟨v, rfl, hr, hb⟩; have hb1 := below_more (w := w) (by (repeat first | assumption | exact hD.out _ | exact Below.refl _ _ | apply Below.drew | apply below_drews)) hb)
      | (go_at_call 87; go_split_ands; (with_reducible refine (node_any (a := .node a b.L.L) (b := .node b.L.R b.R) (va := _) (vb := _) _ ?_ ?_ OK1 OK2 (by (try simp only [T.by]); omega)).mono ?_); (first | (refine Rp.below (w := w) ?_ (Nat.le_refl _) HA.out; focus ((repeat first | assumption | exact hD.out _ | exact Below.refl _ _ | apply Below.drew | apply below_drews); done)) | exact Rp.below hb (Nat.le_refl _) (by assumption) | assumption); (first | (refine Rp.below (w := w) ?_ (Nat.le_refl _) HA.out; focus ((repeat first | assumption | exact hD.out _ | exact Below.refl _ _ | apply Below.drew | apply below_drews); done)) | exact Rp.below hb (Nat.le_refl _) (by assumption) | assumption); rintro e w1 ⟨v, rfl, hr, hb⟩; have hb1 := below_more (w := w) (by (repeat first | assumption | exact hD.out _ | exact Below.refl _ _ | apply Below.drew | apply below_drews)) hb))
  go_wp2_with fail
  go_ret
  exact ⟨_, rfl, hr, hb1⟩

set_option maxRecDepth 100000 in
set_option maxHeartbeats 1000000 in
theorem balance_2 {a b : T} {va vb : Value} (w : World) (ha : Rp w a va) (hb : Rp w b vb) (oka : a.ok) (okb : b.ok) (hby : a.by + b.by ≤ 1073741824) (hd1 : a.ht ≤ b.ht + 2) (hd2 : b.ht ≤ a.ht + 2) (c1 : a.ht + 1 < b.ht) (c2 : ¬ b.R.ht < b.L.ht) :
    Calls Tryd.prog 110 #[va, vb] w (Made w (bal a b)) := by
  have OK := (bal_of oka okb hd1 hd2).ok
  rw [bal2 c1 c2] at OK ⊢
  obtain ⟨OK1, OK2, -, -⟩ := OK
  obtain ⟨ol, or, -, -, -, -⟩ := T.ok_L okb (by omega)
  have y1 := by_LR (t := b) (by omega)
  have ga := T.ht_by oka
  have gb := T.ht_by okb
  have HA := Lib.hid ha
  have HB := Lib.hid hb
  obtain ⟨x, xl, xr, rfl, ⟨h0, h1, h2, h3, h4, h5, h6⟩, hl, hr⟩ := ha.unfold (ok_not_nil oka)
  obtain ⟨y, yl, yr, rfl, ⟨k0, k1, k2, k3, k4, k5, k6⟩, kl, kr⟩ := hb.unfold (ok_not_nil okb)
  have HR := Lib.hid kr
  have HL := Lib.hid kl
  obtain ⟨z, zl, zr, rfl, ⟨m0, m1, m2, m3, m4, m5, m6⟩, ml, mr⟩ := kl.unfold (ok_not_nil ol)
  obtain ⟨q, ql, qr, rfl, ⟨n0, n1, n2, n3, n4, n5, n6⟩, -, -⟩ := kr.unfold (ok_not_nil or)
  have e1 : IntKind.i64.wrap ((a.ht : Int) + 1) = (a.ht : Int) + 1 := IntWalk.i64_in _ (by omega)
  have e2 : IntKind.i64.wrap ((b.ht : Int) + 1) = (b.ht : Int) + 1 := IntWalk.i64_in _ (by omega)
  have g1 : decide ((a.ht : Int) + 1 < (b.ht : Int)) = true := by simp; omega
  have g2 : decide (b.R.ht < b.L.ht) = false := by simp; omega
  have hD : Hid (∀ n, Below w.heap.size w (w.drewN n)) := fun n => below_drews (Below.refl _ _) n
  clear ha hb hl hr kl kr hd1 hd2 ml mr h1 h2 h3 h4 h5 k1 k4 k5 m1 m2 m3 m4 m5 n1 n2 n3 n4 n5
  go_enter Tryd.func110, Tryd.ntmps110
  go_wp2_with fail
  go_quiet (fail)
  go_wp2_with fail
  go_quiet (fail)
  go_wp2_with fail
  have KP : Hid (∀ w', Below w.heap.size w w' → Below w.heap.size w w' ∧ w'.cell? ⟨y, 1, none⟩ = some (.pointer (some ⟨z, 0, none⟩)) ∧ w'.cell? ⟨y, 2, none⟩ = some (.pointer (some ⟨q, 0, none⟩))) :=
    fun w' h => ⟨h, below_cell h k0 k2, below_cell h k0 k3⟩
  go_region_held3 (fun w' => Below w.heap.size w w' ∧ w'.cell? ⟨y, 1, none⟩ = some (.pointer (some ⟨z, 0, none⟩)) ∧ w'.cell? ⟨y, 2, none⟩ = some (.pointer (some ⟨q, 0, none⟩)))
    ((refine KP.out _ ?_; focus ((repeat first | assumption | exact hD.out _ | exact Below.refl _ _ | apply Below.drew | apply below_drews); done)))
    (first
      | (go_at_call 87; go_split_ands; (with_reducible refine (node_any (a := a) (b := b.L) (va := (.pointer (some ⟨x, 0, none⟩))) (vb := (.pointer (some ⟨z, 0, none⟩))) _ ?_ ?_ oka ol (by (try simp only [T.by]); omega)).mono ?_); (first | (refine Rp.below (w := w) ?_ (Nat.le_refl _) HA.out; focus ((repeat first | assumption | exact hD.out _ | exact Below.refl _ _ | apply Below.drew | apply below_drews); done)) | exact Rp.below hb (Nat.le_refl _) (by assumption) | assumption); (first | (refine Rp.below (w := w) ?_ (Nat.le_refl _) HL.out; focus ((repeat first | assumption | exact hD.out _ | exact Below.refl _ _ | apply Below.drew | apply below_drews); done)) | exact Rp.below hb (Nat.le_refl _) (by assumption) | assumption); rintro e w1 ⟨v, rfl, hr, hb⟩; have hb1 := below_more (w := w) (by (repeat first | assumption | exact hD.out _ | exact Below.refl _ _ | apply Below.drew | apply below_drews)) hb)
      | (go_at_call 87; go_split_ands; (with_reducible refine (node_any (a := .node a b.L) (b := b.R) (va := _) (vb := (.pointer (some ⟨q, 0, none⟩))) _ ?_ ?_ OK1 or (by (try simp only [T.by]); omega)).mono ?_); (first | (refine Rp.below (w := w) ?_ (Nat.le_refl _) HA.out; focus ((repeat first | assumption | exact hD.out _ | exact Below.refl _ _ | apply Below.drew | apply below_drews); done)) | exact Rp.below hb (Nat.le_refl _) (by assumption) | assumption); (first | (refine Rp.below (w := w) ?_ (Nat.le_refl _) HR.out; focus ((repeat first | assumption | exact hD.out _ | exact Below.refl _ _ | apply Below.drew | apply below_drews); done)) | exact Rp.below hb (Nat.le_refl _) (by assumption) | assumption); rintro e w1 ⟨v, rfl, hr, hb⟩; have hb1 := below_more (w := w) (by (repeat first | assumption | exact hD.out _ | exact Below.refl _ _ | apply Below.drew | apply below_drews)) hb))
  go_wp2_with fail
  go_ret
  exact ⟨_, rfl, hr, hb1⟩

set_option maxRecDepth 100000 in
set_option maxHeartbeats 1000000 in
theorem balance_3 {a b : T} {va vb : Value} (w : World) (ha : Rp w a va) (hb : Rp w b vb) (oka : a.ok) (okb : b.ok) (hby : a.by + b.by ≤ 1073741824) (hd1 : a.ht ≤ b.ht + 2) (hd2 : b.ht ≤ a.ht + 2) (c1 : b.ht + 1 < a.ht) (c2 : a.L.ht < a.R.ht) :
    Calls Tryd.prog 110 #[va, vb] w (Made w (bal a b)) := by
  have OK := (bal_of oka okb hd1 hd2).ok
  rw [bal3 c1 c2] at OK ⊢
  obtain ⟨OK1, OK2, -, -⟩ := OK
  obtain ⟨ol, or, -, -, -, -⟩ := T.ok_L oka (by omega)
  have y1 := by_LR (t := a) (by omega)
  obtain ⟨pl, pr, -, -, -, -⟩ := T.ok_L or (by omega)
  have y2 := by_LR (t := a.R) (by omega)
  have ga := T.ht_by oka
  have gb := T.ht_by okb
  have HA := Lib.hid ha
  have HB := Lib.hid hb
  obtain ⟨x, xl, xr, rfl, ⟨h0, h1, h2, h3, h4, h5, h6⟩, hl, hr⟩ := ha.unfold (ok_not_nil oka)
  obtain ⟨y, yl, yr, rfl, ⟨k0, k1, k2, k3, k4, k5, k6⟩, kl, kr⟩ := hb.unfold (ok_not_nil okb)
  have HL := Lib.hid hl
  obtain ⟨z, zl, zr, rfl, ⟨m0, m1, m2, m3, m4, m5, m6⟩, -, -⟩ := hl.unfold (ok_not_nil ol)
  obtain ⟨q, ql, qr, rfl, ⟨n0, n1, n2, n3, n4, n5, n6⟩, nl, nr⟩ := hr.unfold (ok_not_nil or)
  have HRL := Lib.hid nl
  have HRR := Lib.hid nr
  have e1 : IntKind.i64.wrap ((a.ht : Int) + 1) = (a.ht : Int) + 1 := IntWalk.i64_in _ (by omega)
  have e2 : IntKind.i64.wrap ((b.ht : Int) + 1) = (b.ht : Int) + 1 := IntWalk.i64_in _ (by omega)
  have g1 : decide ((a.ht : Int) + 1 < (b.ht : Int)) = false := by simp; omega
  have g2 : decide ((b.ht : Int) + 1 < (a.ht : Int)) = true := by simp; omega
  have g3 : decide (a.L.ht < a.R.ht) = true := by simp; omega
  have hD : Hid (∀ n, Below w.heap.size w (w.drewN n)) := fun n => below_drews (Below.refl _ _) n
  clear ha hb hl hr kl kr hd1 hd2 nl nr h1 h4 h5 k1 k2 k3 k4 k5 m1 m2 m3 m4 m5 n1 n4 n5
  go_enter Tryd.func110, Tryd.ntmps110
  go_wp2_with fail
  go_quiet (fail)
  go_wp2_with fail
  go_quiet (fail)
  go_wp2_with fail
  go_quiet (fail)
  go_wp2_with fail
  have KP : Hid (∀ w', Below w.heap.size w w' → Below w.heap.size w w' ∧ w'.cell? ⟨x, 1, none⟩ = some (.pointer (some ⟨z, 0, none⟩)) ∧ w'.cell? ⟨x, 2, none⟩ = some (.pointer (some ⟨q, 0, none⟩)) ∧ w'.cell? ⟨q, 1, none⟩ = some ql ∧ w'.cell? ⟨q, 2, none⟩ = some qr) :=
    fun w' h => ⟨h, below_cell h h0 h2, below_cell h h0 h3, below_cell h n0 n2, below_cell h n0 n3⟩
  go_region_held3 (fun w' => Below w.heap.size w w' ∧ w'.cell? ⟨x, 1, none⟩ = some (.pointer (some ⟨z, 0, none⟩)) ∧ w'.cell? ⟨x, 2, none⟩ = some (.pointer (some ⟨q, 0, none⟩)) ∧ w'.cell? ⟨q, 1, none⟩ = some ql ∧ w'.cell? ⟨q, 2, none⟩ = some qr)
    ((refine KP.out _ ?_; focus ((repeat first | assumption | exact hD.out _ | exact Below.refl _ _ | apply Below.drew | apply below_drews); done)))
    (first
      | (go_at_call 87; go_split_ands; (with_reducible refine (node_any (a := a.L) (b := a.R.L) (va := (.pointer (some ⟨z, 0, none⟩))) (vb := ql) _ ?_ ?_ ol pl (by (try simp only [T.by]); omega)).mono ?_); (first | (refine Rp.below (w := w) ?_ (Nat.le_refl _) HL.out; focus ((repeat first | assumption | exact hD.out _ | exact Below.refl _ _ | apply Below.drew | apply below_drews); done)) | exact Rp.below hb (Nat.le_refl _) (by assumption) | assumption); (first | (refine Rp.below (w := w) ?_ (Nat.le_refl _) HRL.out; focus ((repeat first | assumption | exact hD.out _ | exact Below.refl _ _ | apply Below.drew | apply below_drews); done)) | exact Rp.below hb (Nat.le_refl _) (by assumption) | assumption); rintro e w1 ⟨v, rfl, hr, hb⟩; have hb1 := below_more (w := w) (by (repeat first | assumption | exact hD.out _ | exact Below.refl _ _ | apply Below.drew | apply below_drews)) hb)
      | (go_at_call 87; go_split_ands; (with_reducible refine (node_any (a := a.R.R) (b := b) (va := qr) (vb := (.pointer (some ⟨y, 0, none⟩))) _ ?_ ?_ pr okb (by (try simp only [T.by]); omega)).mono ?_); (first | (refine Rp.below (w := w) ?_ (Nat.le_refl _) HRR.out; focus ((repeat first | assumption | exact hD.out _ | exact Below.refl _ _ | apply Below.drew | apply below_drews); done)) | exact Rp.below hb (Nat.le_refl _) (by assumption) | assumption); (first | (refine Rp.below (w := w) ?_ (Nat.le_refl _) HB.out; focus ((repeat first | assumption | exact hD.out _ | exact Below.refl _ _ | apply Below.drew | apply below_drews); done)) | exact Rp.below hb (Nat.le_refl _) (by assumption) | assumption); rintro e w1 ⟨v, rfl, hr, hb⟩; have hb1 := below_more (w := w) (by (repeat first | assumption | exact hD.out _ | exact Below.refl _ _ | apply Below.drew | apply below_drews)) hb)
      | (go_at_call 87; go_split_ands; (with_reducible refine (node_any (a := .node a.L a.R.L) (b := .node a.R.R b) (va := _) (vb := _) _ ?_ ?_ OK1 OK2 (by (try simp only [T.by]); omega)).mono ?_); (first | (refine Rp.below (w := w) ?_ (Nat.le_refl _) HA.out; focus ((repeat first | assumption | exact hD.out _ | exact Below.refl _ _ | apply Below.drew | apply below_drews); done)) | exact Rp.below hb (Nat.le_refl _) (by assumption) | assumption); (first | (refine Rp.below (w := w) ?_ (Nat.le_refl _) HA.out; focus ((repeat first | assumption | exact hD.out _ | exact Below.refl _ _ | apply Below.drew | apply below_drews); done)) | exact Rp.below hb (Nat.le_refl _) (by assumption) | assumption); rintro e w1 ⟨v, rfl, hr, hb⟩; have hb1 := below_more (w := w) (by (repeat first | assumption | exact hD.out _ | exact Below.refl _ _ | apply Below.drew | apply below_drews)) hb))
  go_wp2_with fail
  go_ret
  exact ⟨_, rfl, hr, hb1⟩

set_option maxRecDepth 100000 in
set_option maxHeartbeats 1000000 in
theorem balance_4 {a b : T} {va vb : Value} (w : World) (ha : Rp w a va) (hb : Rp w b vb) (oka : a.ok) (okb : b.ok) (hby : a.by + b.by ≤ 1073741824) (hd1 : a.ht ≤ b.ht + 2) (hd2 : b.ht ≤ a.ht + 2) (c1 : b.ht + 1 < a.ht) (c2 : ¬ a.L.ht < a.R.ht) :
    Calls Tryd.prog 110 #[va, vb] w (Made w (bal a b)) := by
  have OK := (bal_of oka okb hd1 hd2).ok
  rw [bal4 c1 c2] at OK ⊢
  obtain ⟨OK1, OK2, -, -⟩ := OK
  obtain ⟨ol, or, -, -, -, -⟩ := T.ok_L oka (by omega)
  have y1 := by_LR (t := a) (by omega)
  have ga := T.ht_by oka
  have gb := T.ht_by okb
  have HA := Lib.hid ha
  have HB := Lib.hid hb
  obtain ⟨x, xl, xr, rfl, ⟨h0, h1, h2, h3, h4, h5, h6⟩, hl, hr⟩ := ha.unfold (ok_not_nil oka)
  obtain ⟨y, yl, yr, rfl, ⟨k0, k1, k2, k3, k4, k5, k6⟩, kl, kr⟩ := hb.unfold (ok_not_nil okb)
  have HL := Lib.hid hl
  have HR := Lib.hid hr
  obtain ⟨z, zl, zr, rfl, ⟨m0, m1, m2, m3, m4, m5, m6⟩, -, -⟩ := hl.unfold (ok_not_nil ol)
  obtain ⟨q, ql, qr, rfl, ⟨n0, n1, n2, n3, n4, n5, n6⟩, -, -⟩ := hr.unfold (ok_not_nil or)
  have e1 : IntKind.i64.wrap ((a.ht : Int) + 1) = (a.ht : Int) + 1 := IntWalk.i64_in _ (by omega)
  have e2 : IntKind.i64.wrap ((b.ht : Int) + 1) = (b.ht : Int) + 1 := IntWalk.i64_in _ (by omega)
  have g1 : decide ((a.ht : Int) + 1 < (b.ht : Int)) = false := by simp; omega
  have g2 : decide ((b.ht : Int) + 1 < (a.ht : Int)) = true := by simp; omega
  have g3 : decide (a.L.ht < a.R.ht) = false := by simp; omega
  have hD : Hid (∀ n, Below w.heap.size w (w.drewN n)) := fun n => below_drews (Below.refl _ _) n
  clear ha hb hl hr kl kr hd1 hd2 h1 h4 h5 k1 k2 k3 k4 k5 m1 m2 m3 m4 m5 n1 n2 n3 n4 n5
  go_enter Tryd.func110, Tryd.ntmps110
  go_wp2_with fail
  go_quiet (fail)
  go_wp2_with fail
  go_quiet (fail)
  go_wp2_with fail
  go_quiet (fail)
  go_wp2_with fail
  go_quiet (fail)
  go_wp2_with fail
  have KP : Hid (∀ w', Below w.heap.size w w' → Below w.heap.size w w' ∧ w'.cell? ⟨x, 1, none⟩ = some (.pointer (some ⟨z, 0, none⟩)) ∧ w'.cell? ⟨x, 2, none⟩ = some (.pointer (some ⟨q, 0, none⟩))) :=
    fun w' h => ⟨h, below_cell h h0 h2, below_cell h h0 h3⟩
  go_region_held3 (fun w' => Below w.heap.size w w' ∧ w'.cell? ⟨x, 1, none⟩ = some (.pointer (some ⟨z, 0, none⟩)) ∧ w'.cell? ⟨x, 2, none⟩ = some (.pointer (some ⟨q, 0, none⟩)))
    ((refine KP.out _ ?_; focus ((repeat first | assumption | exact hD.out _ | exact Below.refl _ _ | apply Below.drew | apply below_drews); done)))
    (first
      | (go_at_call 87; go_split_ands; (with_reducible refine (node_any (a := a.R) (b := b) (va := (.pointer (some ⟨q, 0, none⟩))) (vb := (.pointer (some ⟨y, 0, none⟩))) _ ?_ ?_ or okb (by (try simp only [T.by]); omega)).mono ?_); (first | (refine Rp.below (w := w) ?_ (Nat.le_refl _) HR.out; focus ((repeat first | assumption | exact hD.out _ | exact Below.refl _ _ | apply Below.drew | apply below_drews); done)) | exact Rp.below hb (Nat.le_refl _) (by assumption) | assumption); (first | (refine Rp.below (w := w) ?_ (Nat.le_refl _) HB.out; focus ((repeat first | assumption | exact hD.out _ | exact Below.refl _ _ | apply Below.drew | apply below_drews); done)) | exact Rp.below hb (Nat.le_refl _) (by assumption) | assumption); rintro e w1 ⟨v, rfl, hr, hb⟩; have hb1 := below_more (w := w) (by (repeat first | assumption | exact hD.out _ | exact Below.refl _ _ | apply Below.drew | apply below_drews)) hb)
      | (go_at_call 87; go_split_ands; (with_reducible refine (node_any (a := a.L) (b := .node a.R b) (va := (.pointer (some ⟨z, 0, none⟩))) (vb := _) _ ?_ ?_ ol OK2 (by (try simp only [T.by]); omega)).mono ?_); (first | (refine Rp.below (w := w) ?_ (Nat.le_refl _) HL.out; focus ((repeat first | assumption | exact hD.out _ | exact Below.refl _ _ | apply Below.drew | apply below_drews); done)) | exact Rp.below hb (Nat.le_refl _) (by assumption) | assumption); (first | (refine Rp.below (w := w) ?_ (Nat.le_refl _) HA.out; focus ((repeat first | assumption | exact hD.out _ | exact Below.refl _ _ | apply Below.drew | apply below_drews); done)) | exact Rp.below hb (Nat.le_refl _) (by assumption) | assumption); rintro e w1 ⟨v, rfl, hr, hb⟩; have hb1 := below_more (w := w) (by (repeat first | assumption | exact hD.out _ | exact Below.refl _ _ | apply Below.drew | apply below_drews)) hb))
  go_wp2_with fail
  go_ret
  exact ⟨_, rfl, hr, hb1⟩

set_option maxRecDepth 100000 in
set_option maxHeartbeats 1000000 in
theorem balance_5 {a b : T} {va vb : Value} (w : World) (ha : Rp w a va) (hb : Rp w b vb) (oka : a.ok) (okb : b.ok) (hby : a.by + b.by ≤ 1073741824) (hd1 : a.ht ≤ b.ht + 2) (hd2 : b.ht ≤ a.ht + 2) (c1 : ¬ b.ht + 1 < a.ht) (c2 : ¬ a.ht + 1 < b.ht) :
    Calls Tryd.prog 110 #[va, vb] w (Made w (bal a b)) := by
  have OK := (bal_of oka okb hd1 hd2).ok
  rw [bal5 c1 c2] at OK ⊢

  have ga := T.ht_by oka
  have gb := T.ht_by okb
  have HA := Lib.hid ha
  have HB := Lib.hid hb
  obtain ⟨x, xl, xr, rfl, ⟨h0, h1, h2, h3, h4, h5, h6⟩, hl, hr⟩ := ha.unfold (ok_not_nil oka)
  obtain ⟨y, yl, yr, rfl, ⟨k0, k1, k2, k3, k4, k5, k6⟩, kl, kr⟩ := hb.unfold (ok_not_nil okb)

  have e1 : IntKind.i64.wrap ((a.ht : Int) + 1) = (a.ht : Int) + 1 := IntWalk.i64_in _ (by omega)
  have e2 : IntKind.i64.wrap ((b.ht : Int) + 1) = (b.ht : Int) + 1 := IntWalk.i64_in _ (by omega)
  have g1 : decide ((a.ht : Int) + 1 < (b.ht : Int)) = false := by simp; omega
  have g2 : decide ((b.ht : Int) + 1 < (a.ht : Int)) = false := by simp; omega
  have hD : Hid (∀ n, Below w.heap.size w (w.drewN n)) := fun n => below_drews (Below.refl _ _) n
  clear ha hb hl hr kl kr hd1 hd2 h1 h2 h3 h4 h5 k1 k2 k3 k4 k5
  go_enter Tryd.func110, Tryd.ntmps110
  go_wp2_with fail
  go_quiet (fail)
  go_wp2_with fail
  go_quiet (fail)
  go_wp2_with fail
  go_quiet (fail)
  go_wp2_with fail
  go_quiet (fail)
  go_wp2_with fail
  refine (node_any _ (Rp.below (w := w) (by (repeat first | assumption | exact hD.out _ | exact Below.refl _ _ | apply Below.drew | apply below_drews)) (Nat.le_refl _) HA.out) (Rp.below (w := w) (by (repeat first | assumption | exact hD.out _ | exact Below.refl _ _ | apply Below.drew | apply below_drews)) (Nat.le_refl _) HB.out) oka okb hby).mono ?_
  rintro e w1 ⟨v, rfl, hr, hb⟩
  go_wp2_with fail
  go_ret
  exact ⟨_, rfl, hr, below_more (by (repeat first | assumption | exact hD.out _ | exact Below.refl _ _ | apply Below.drew | apply below_drews)) hb⟩

theorem balance_any {a b : T} {va vb : Value} (w : World) (ha : Rp w a va) (hb : Rp w b vb) (oka : a.ok) (okb : b.ok) (hby : a.by + b.by ≤ 1073741824) (hd1 : a.ht ≤ b.ht + 2) (hd2 : b.ht ≤ a.ht + 2) :
    Calls Tryd.prog 110 #[va, vb] w (Made w (bal a b)) := by
  by_cases c1 : a.ht + 1 < b.ht
  · by_cases c2 : b.R.ht < b.L.ht
    · exact balance_1 w ha hb oka okb hby hd1 hd2 c1 c2
    · exact balance_2 w ha hb oka okb hby hd1 hd2 c1 c2
  · by_cases c3 : b.ht + 1 < a.ht
    · by_cases c2 : a.L.ht < a.R.ht
      · exact balance_3 w ha hb oka okb hby hd1 hd2 c3 c2
      · exact balance_4 w ha hb oka okb hby hd1 hd2 c3 c2
    · exact balance_5 w ha hb oka okb hby hd1 hd2 c3 c1
end Go.Proofs.YtengmiolcfgdiaaDoor.Con
