/- A rope in memory: a tree's nodes, each a block of its own, that nobody writes again. Contracts of Len, Bytes, Height, leaf and node. Contracts of balance: made by genS.py (one theorem a case). Contracts of link, firstPart, lastPart, cutFirst, cutLast. Contracts of Join, split, Cut, Put, Drop. -/
import Derived.Test.YtcpdoicbekcpeaaDoorQL2
import Derived.Test.YtcpdoicbekcpeaaDoorQL1
import Derived.Deep.RegionHeld3
import Derived.BigRegion
import Derived.Laws.NewBlocks
set_option linter.unusedVariables false
set_option maxRecDepth 100000
namespace Go.Proofs.YtcpdoicbekcpeaaDoor.Con
open Go.RowKit Go.Lib Go.Proofs.YtcpdoicbekcpeaaDoor.Let Go.Proofs.YtcpdoicbekcpeaaDoor.Tree

/-- The cells of a node: part, left, right, count, bytes, height. -/
def Nd (w : World) (b : Nat) (p l r : Value) (c y h : Nat) : Prop :=
  b < w.heap.size ∧ w.cell? ⟨b, 0, none⟩ = some p ∧ w.cell? ⟨b, 1, none⟩ = some l ∧ w.cell? ⟨b, 2, none⟩ = some r ∧ w.cell? ⟨b, 3, none⟩ = some (.int .i64 c) ∧ w.cell? ⟨b, 4, none⟩ = some (.int .i64 y) ∧ w.cell? ⟨b, 5, none⟩ = some (.int .i64 h)

theorem Nd.below {w w' : World} {b : Nat} {p l r : Value} {c y h : Nat} (H : Nd w b p l r c y h) {B : Nat} (hb : Below B w w') (hB : w.heap.size ≤ B) : Nd w' b p l r c y h := by
  obtain ⟨h0, h1, h2, h3, h4, h5, h6⟩ := H
  have hlt : b < B := by omega
  exact ⟨Nat.lt_of_lt_of_le h0 hb.size, (hb.cell (p := ⟨b, 0, none⟩) hlt).trans h1, (hb.cell (p := ⟨b, 1, none⟩) hlt).trans h2, (hb.cell (p := ⟨b, 2, none⟩) hlt).trans h3, (hb.cell (p := ⟨b, 3, none⟩) hlt).trans h4, (hb.cell (p := ⟨b, 4, none⟩) hlt).trans h5, (hb.cell (p := ⟨b, 5, none⟩) hlt).trans h6⟩

/-- The part of a node. -/
def T.P : T → List UInt8
  | .leaf s => s
  | _ => []

/-- Block b is a rope's node (no row of a list). -/
def Ty (w : World) (b : Nat) : Prop := ∃ cs, w.heap[b]? = some (.cells cs 126 (0, 0))
theorem Ty.below {w w' : World} {b : Nat} (h : Ty w b) {B : Nat} (hb : Below B w w') (hB : b < B) : Ty w' b := by
  obtain ⟨cs, hc⟩ := h
  exact ⟨cs, (hb.block b hB).trans hc⟩
theorem Ty.new (w : World) (cs : Array Value) : Ty (w.alloc (.cells cs 126)) w.heap.size := ⟨cs, heap_alloc_new w _⟩

/-- The value v is the tree t in the world w. -/
def Rp (w : World) : T → Value → Prop
  | .nil, v => v = .pointer none
  | .leaf s, v => ∃ b, v = .pointer (some ⟨b, 0, none⟩) ∧ (Nd w b (.string (mk s)) (.pointer none) (.pointer none) (cnt s) s.length 0 ∧ Ty w b)
  | .node l r, v => ∃ b vl vr, v = .pointer (some ⟨b, 0, none⟩) ∧ (Nd w b (.string (mk [])) vl vr (l.cn + r.cn) (l.by + r.by) (max l.ht r.ht + 1) ∧ Ty w b) ∧ Rp w l vl ∧ Rp w r vr

theorem Rp.below {w w' : World} {B : Nat} (hb : Below B w w') (hB : w.heap.size ≤ B) : ∀ {t : T} {v : Value}, Rp w t v → Rp w' t v
  | .nil, v, h => h
  | .leaf s, v, ⟨b, e, h, ht⟩ => ⟨b, e, h.below hb hB, ht.below hb (Nat.lt_of_lt_of_le h.1 hB)⟩
  | .node l r, v, ⟨b, vl, vr, e, ⟨h, ht⟩, h1, h2⟩ => ⟨b, vl, vr, e, ⟨h.below hb hB, ht.below hb (Nat.lt_of_lt_of_le h.1 hB)⟩, Rp.below hb hB h1, Rp.below hb hB h2⟩

/-- Whatever leaves the nodes' blocks as they were leaves the tree. -/
theorem Nd.same {w w' : World} {b : Nat} {p l r : Value} {c y h : Nat} (H : Nd w b p l r c y h) (hb : w'.heap[b]? = w.heap[b]?) (hs : w.heap.size ≤ w'.heap.size) : Nd w' b p l r c y h := by
  obtain ⟨h0, h1, h2, h3, h4, h5, h6⟩ := H
  refine ⟨Nat.lt_of_lt_of_le h0 hs, ?_, ?_, ?_, ?_, ?_, ?_⟩
  · rw [World.cell?_of_block (w := w) (a := ⟨b, 0, none⟩) hb, h1]
  · rw [World.cell?_of_block (w := w) (a := ⟨b, 1, none⟩) hb, h2]
  · rw [World.cell?_of_block (w := w) (a := ⟨b, 2, none⟩) hb, h3]
  · rw [World.cell?_of_block (w := w) (a := ⟨b, 3, none⟩) hb, h4]
  · rw [World.cell?_of_block (w := w) (a := ⟨b, 4, none⟩) hb, h5]
  · rw [World.cell?_of_block (w := w) (a := ⟨b, 5, none⟩) hb, h6]
theorem Rp.same {w w' : World} (hk : ∀ b, Ty w b → w'.heap[b]? = w.heap[b]?) (hs : w.heap.size ≤ w'.heap.size) : ∀ {t : T} {v : Value}, Rp w t v → Rp w' t v
  | .nil, v, h => h
  | .leaf s, v, ⟨b, e, h, ht⟩ => ⟨b, e, h.same (hk b ht) hs, by obtain ⟨cs, hc⟩ := ht; exact ⟨cs, (hk b ⟨cs, hc⟩).trans hc⟩⟩
  | .node l r, v, ⟨b, vl, vr, e, ⟨h, ht⟩, h1, h2⟩ => ⟨b, vl, vr, e, ⟨h.same (hk b ht) hs, by obtain ⟨cs, hc⟩ := ht; exact ⟨cs, (hk b ⟨cs, hc⟩).trans hc⟩⟩, Rp.same hk hs h1, Rp.same hk hs h2⟩

/-- A tree that is not nothing, opened. -/
theorem Rp.unfold {w : World} : ∀ {t : T} {v : Value}, Rp w t v → t ≠ .nil → ∃ b vl vr, v = .pointer (some ⟨b, 0, none⟩) ∧ Nd w b (.string (mk (T.P t))) vl vr t.cn t.by t.ht ∧ Rp w t.L vl ∧ Rp w t.R vr
  | .nil, v, h, hn => absurd rfl hn
  | .leaf s, v, ⟨b, e, h, _⟩, _ => ⟨b, _, _, e, h, rfl, rfl⟩
  | .node l r, v, ⟨b, vl, vr, e, ⟨h, _⟩, h1, h2⟩, _ => ⟨b, vl, vr, e, h, h1, h2⟩

/-- What a call that makes a tree gives. -/
def Made (w : World) (t : T) (e : Ending) (w' : World) : Prop := ∃ v, e = .returned v ∧ Rp w' t v ∧ Below w.heap.size w w'

theorem len_any {t : T} {v : Value} (w : World) (h : Rp w t v) : Calls Tryd.prog 20 #[v] w fun e w' => e = .returned (.int .i64 t.cn) ∧ w = w' := by
  by_cases hn : t = .nil
  · subst hn
    have : v = .pointer none := h
    subst this
    go_enter Tryd.func20, Tryd.ntmps20
    go_wp2
    go_ret
    exact ⟨rfl, rfl⟩
  · obtain ⟨b, vl, vr, rfl, ⟨h0, h1, h2, h3, h4, h5, h6⟩, hl, hr⟩ := h.unfold hn
    clear h hl hr
    go_enter Tryd.func20, Tryd.ntmps20
    go_wp2
    go_ret
    exact ⟨rfl, rfl⟩

theorem bytes_any {t : T} {v : Value} (w : World) (h : Rp w t v) : Calls Tryd.prog 69 #[v] w fun e w' => e = .returned (.int .i64 t.by) ∧ w = w' := by
  by_cases hn : t = .nil
  · subst hn
    have : v = .pointer none := h
    subst this
    go_enter Tryd.func69, Tryd.ntmps69
    go_wp2
    go_ret
    exact ⟨rfl, rfl⟩
  · obtain ⟨b, vl, vr, rfl, ⟨h0, h1, h2, h3, h4, h5, h6⟩, hl, hr⟩ := h.unfold hn
    clear h hl hr
    go_enter Tryd.func69, Tryd.ntmps69
    go_wp2
    go_ret
    exact ⟨rfl, rfl⟩

theorem nd_new (w : World) (p l r : Value) (c y h : Nat) (t : TypeId) (fr : Nat × Nat) : Nd (w.alloc (.cells #[p, l, r, .int .i64 c, .int .i64 y, .int .i64 h] t fr)) w.heap.size p l r c y h := by
  have hh : (w.alloc (.cells #[p, l, r, .int .i64 c, .int .i64 y, .int .i64 h] t fr)).heap[w.heap.size]? = some (.cells #[p, l, r, .int .i64 c, .int .i64 y, .int .i64 h] t fr) := heap_alloc_new w _
  refine ⟨by simp, ?_, ?_, ?_, ?_, ?_, ?_⟩ <;> simp only [World.cell?, hh] <;> rfl

set_option maxHeartbeats 400000 in
theorem leaf_any (s : ByteArray) (w : World) (hs : s.size ≤ maxLen) : Calls Tryd.prog 122 #[.string s] w (Made w (.leaf s.data.toList)) := by
  have hs2 := hs
  unfold maxLen at hs
  go_enter Tryd.func122, Tryd.ntmps122
  go_wp2_with fail
  refine (count_any s _ hs2).mono ?_
  rintro e w1 ⟨rfl, hb1⟩
  go_wp2
  go_ret
  refine ⟨_, rfl, ⟨_, rfl, ?_, Ty.new _ _⟩, hb1.alloc hb1.size _⟩
  rw [mk_self, sz]
  exact nd_new ..

theorem node_rp {w : World} {a b : T} {va vb : Value} (ha : Rp w a va) (hb : Rp w b vb) {c y h : Int} {p : ByteArray} (hp : p = mk []) (hc : c = (a.cn + b.cn : Nat)) (hy : y = (a.by + b.by : Nat)) (hh : h = (max a.ht b.ht + 1 : Nat)) (e : Ending) (he : e = .returned (.pointer (some ⟨w.heap.size, 0, none⟩))) :
    Made w (.node a b) e (w.alloc (.cells #[.string p, va, vb, .int .i64 c, .int .i64 y, .int .i64 h] 126)).drew := by
  subst hp hc hy hh he
  have bel : Below w.heap.size w (w.alloc (.cells #[.string (mk []), va, vb, .int .i64 (a.cn + b.cn : Nat), .int .i64 (a.by + b.by : Nat), .int .i64 (max a.ht b.ht + 1 : Nat)] 126)) := (Below.refl _ w).alloc (Nat.le_refl _) _
  have h1 : Rp (w.alloc (.cells #[.string (mk []), va, vb, .int .i64 (a.cn + b.cn : Nat), .int .i64 (a.by + b.by : Nat), .int .i64 (max a.ht b.ht + 1 : Nat)] 126)) (.node a b) (.pointer (some ⟨w.heap.size, 0, none⟩)) :=
    ⟨_, _, _, rfl, ⟨nd_new .., Ty.new _ _⟩, Rp.below bel (Nat.le_refl _) ha, Rp.below bel (Nat.le_refl _) hb⟩
  exact ⟨_, rfl, Rp.below ((Below.refl _ _).drew) (Nat.le_refl _) h1, bel.drew⟩

set_option maxHeartbeats 1000000 in
theorem node_any {a b : T} {va vb : Value} (w : World) (ha : Rp w a va) (hb : Rp w b vb) (oka : a.ok) (okb : b.ok) (hby : a.by + b.by ≤ 1073741824) :
    Calls Tryd.prog 124 #[va, vb] w (Made w (.node a b)) := by
  have ca := T.cn_by a
  have cb := T.cn_by b
  have ga := T.ht_by oka
  have gb := T.ht_by okb
  have HA := Lib.hid ha
  have HB := Lib.hid hb
  obtain ⟨x, xl, xr, rfl, ⟨h0, h1, h2, h3, h4, h5, h6⟩, -, -⟩ := ha.unfold (ok_not_nil oka)
  obtain ⟨y, yl, yr, rfl, ⟨k0, k1, k2, k3, k4, k5, k6⟩, -, -⟩ := hb.unfold (ok_not_nil okb)
  clear ha hb h1 h2 k1 k2
  have w1 : IntKind.i64.wrap ((a.cn : Int) + b.cn) = (a.cn : Int) + b.cn := IntWalk.i64_in _ (by omega)
  have w2 : IntKind.i64.wrap ((a.by : Int) + b.by) = (a.by : Int) + b.by := IntWalk.i64_in _ (by omega)
  have w3 : IntKind.i64.wrap ((a.ht : Int) + 1) = (a.ht : Int) + 1 := IntWalk.i64_in _ (by omega)
  have w4 : IntKind.i64.wrap ((b.ht : Int) + 1) = (b.ht : Int) + 1 := IntWalk.i64_in _ (by omega)
  by_cases hlt : a.ht < b.ht
  all_goals
    go_enter Tryd.func124, Tryd.ntmps124
    go_wp2_with fail
    go_region_held3 (fun w' => w'.cell? ⟨x, 3, none⟩ = some (.int .i64 a.cn) ∧ w'.cell? ⟨x, 4, none⟩ = some (.int .i64 a.by) ∧ w'.cell? ⟨x, 5, none⟩ = some (.int .i64 a.ht) ∧ w'.cell? ⟨y, 3, none⟩ = some (.int .i64 b.cn) ∧ w'.cell? ⟨y, 4, none⟩ = some (.int .i64 b.by) ∧ w'.cell? ⟨y, 5, none⟩ = some (.int .i64 b.ht)) (go_keep) (first | fail)
    go_wp2
    go_ret
    exact node_rp HA.out HB.out rfl (by omega) (by omega) (by omega) _ rfl
end Go.Proofs.YtcpdoicbekcpeaaDoor.Con

namespace Go.Proofs.YtcpdoicbekcpeaaDoor.Con
open Go.RowKit Go.Lib Go.Proofs.YtcpdoicbekcpeaaDoor.Let Go.Proofs.YtcpdoicbekcpeaaDoor.Tree

theorem below_cell {w w' : World} (hb : Below w.heap.size w w') {b o : Nat} {x : Value} (hlt : b < w.heap.size) (h : w.cell? ⟨b, o, none⟩ = some x) : w'.cell? ⟨b, o, none⟩ = some x :=
  (hb.cell (p := ⟨b, o, none⟩) hlt).trans h
theorem below_more {w w1 w2 : World} (h1 : Below w.heap.size w w1) (h2 : Below w1.heap.size w1 w2) : Below w.heap.size w w2 := h1.trans (h2.mono h1.size)

theorem by_LR {t : T} (hp : 0 < t.ht) : t.by = t.L.by + t.R.by := by
  obtain ⟨l, r, rfl⟩ : ∃ l r, t = .node l r := ⟨_, _, T.node_of_ht hp⟩
  rfl

/-- What is made in a world is kept below it. -/
theorem made_of {w w1 w2 : World} {t : T} {v : Value} (h1 : Below w.heap.size w w1) (h2 : Below w1.heap.size w1 w2) (h : Rp w2 t v) (e : Ending) (he : e = .returned v) : Made w t e w2 :=
  ⟨v, he, h, below_more h1 h2⟩

set_option maxRecDepth 100000 in
set_option maxHeartbeats 1000000 in
theorem balance_1 {a b : T} {va vb : Value} (w : World) (ha : Rp w a va) (hb : Rp w b vb) (oka : a.ok) (okb : b.ok) (hby : a.by + b.by ≤ 1073741824) (hd1 : a.ht ≤ b.ht + 2) (hd2 : b.ht ≤ a.ht + 2) (c1 : a.ht + 1 < b.ht) (c2 : b.R.ht < b.L.ht) :
    Calls Tryd.prog 156 #[va, vb] w (Made w (bal a b)) := by
  have OK := (bal_of oka okb hd1 hd2).ok
  rw [bal1 c1 c2] at OK ⊢
  obtain ⟨OK1, OK2, -, -⟩ := OK
  obtain ⟨ol, or, -, -, -, -⟩ := T.ok_L okb (by omega)
  have y1 := by_LR (t := b) (by omega)
  obtain ⟨pl, pr, -, -, -, -⟩ := T.ok_L ol (by omega)
  have y2 := by_LR (t := b.L) (by omega)
  have ga := T.ht_by oka
  have gb := T.ht_by okb
  have HA := Lib.hid ha
  have HB := Lib.hid hb
  obtain ⟨x, xl, xr, rfl, ⟨h0, h1, h2, h3, h4, h5, h6⟩, hl, hr⟩ := ha.unfold (ok_not_nil oka)
  obtain ⟨y, yl, yr, rfl, ⟨k0, k1, k2, k3, k4, k5, k6⟩, kl, kr⟩ := hb.unfold (ok_not_nil okb)
  have HR := Lib.hid kr
  obtain ⟨z, zl, zr, rfl, ⟨m0, m1, m2, m3, m4, m5, m6⟩, ml, mr⟩ := kl.unfold (ok_not_nil ol)
  obtain ⟨q, ql, qr, rfl, ⟨n0, n1, n2, n3, n4, n5, n6⟩, -, -⟩ := kr.unfold (ok_not_nil or)
  have HLL := Lib.hid ml
  have HLR := Lib.hid mr
  have e1 : IntKind.i64.wrap ((a.ht : Int) + 1) = (a.ht : Int) + 1 := IntWalk.i64_in _ (by omega)
  have e2 : IntKind.i64.wrap ((b.ht : Int) + 1) = (b.ht : Int) + 1 := IntWalk.i64_in _ (by omega)
  have g1 : decide ((a.ht : Int) + 1 < (b.ht : Int)) = true := by simp; omega
  have g2 : decide (b.R.ht < b.L.ht) = true := by simp; omega
  have hD : Hid (∀ n, Below w.heap.size w (w.drewN n)) := fun n => below_drews (Below.refl _ _) n
  clear ha hb hl hr kl kr hd1 hd2 ml mr h1 h2 h3 h4 h5 k1 k4 k5 m1 m4 m5 n1 n2 n3 n4 n5
  go_enter Tryd.func156, Tryd.ntmps156
  go_wp2_with fail
  go_quiet (fail)
  go_wp2_with fail
  have KP : Hid (∀ w', Below w.heap.size w w' → Below w.heap.size w w' ∧ w'.cell? ⟨y, 1, none⟩ = some (.pointer (some ⟨z, 0, none⟩)) ∧ w'.cell? ⟨y, 2, none⟩ = some (.pointer (some ⟨q, 0, none⟩)) ∧ w'.cell? ⟨z, 1, none⟩ = some zl ∧ w'.cell? ⟨z, 2, none⟩ = some zr) :=
    fun w' h => ⟨h, below_cell h k0 k2, below_cell h k0 k3, below_cell h m0 m2, below_cell h m0 m3⟩
  go_region_held3 (fun w' => Below w.heap.size w w' ∧ w'.cell? ⟨y, 1, none⟩ = some (.pointer (some ⟨z, 0, none⟩)) ∧ w'.cell? ⟨y, 2, none⟩ = some (.pointer (some ⟨q, 0, none⟩)) ∧ w'.cell? ⟨z, 1, none⟩ = some zl ∧ w'.cell? ⟨z, 2, none⟩ = some zr)
    ((refine KP.out _ ?_; focus ((repeat first | assumption | exact hD.out _ | exact Below.refl _ _ | apply Below.drew | apply below_drews); done)))
    (first
      | (go_at_call 124; go_split_ands; (with_reducible refine (node_any (a := a) (b := b.L.L) (va := (.pointer (some ⟨x, 0, none⟩))) (vb := zl) _ ?_ ?_ oka pl (by (try simp only [T.by]); omega)).mono ?_); (first | (refine Rp.below (w := w) ?_ (Nat.le_refl _) HA.out; focus ((repeat first | assumption | exact hD.out _ | exact Below.refl _ _ | apply Below.drew | apply below_drews); done)) | exact Rp.below hb (Nat.le_refl _) (by assumption) | assumption); (first | (refine Rp.below (w := w) ?_ (Nat.le_refl _) HLL.out; focus ((repeat first | assumption | exact hD.out _ | exact Below.refl _ _ | apply Below.drew | apply below_drews); done)) | exact Rp.below hb (Nat.le_refl _) (by assumption) | assumption); rintro e w1 ⟨v, rfl, hr, hb⟩; have hb1 := below_more (w := w) (by (repeat first | assumption | exact hD.out _ | exact Below.refl _ _ | apply Below.drew | apply below_drews)) hb)
      | (go_at_call 124; go_split_ands; (with_reducible refine (node_any (a := b.L.R) (b := b.R) (va := zr) (vb := (.pointer (some ⟨q, 0, none⟩))) _ ?_ ?_ pr or (by (try simp only [T.by]); omega)).mono ?_); (first | (refine Rp.below (w := w) ?_ (Nat.le_refl _) HLR.out; focus ((repeat first | assumption | exact hD.out _ | exact Below.refl _ _ | apply Below.drew | apply below_drews); done)) | exact Rp.below hb (Nat.le_refl _) (by assumption) | assumption); (first | (refine Rp.below (w := w) ?_ (Nat.le_refl _) HR.out; focus ((repeat first | assumption | exact hD.out _ | exact Below.refl _ _ | apply Below.drew | apply below_drews); done)) | exact Rp.below hb (Nat.le_refl _) (by assumption) | assumption); rintro e w1 ⟨v, rfl, hr, hb⟩; have hb1 := below_more (w := w) (by (repeat first | assumption | exact hD.out _ | exact Below.refl _ _ | apply Below.drew | apply below_drews)) hb)
      | (go_at_call 124; go_split_ands; (with_reducible refine (node_any (a := .node a b.L.L) (b := .node b.L.R b.R) (va := _) (vb := _) _ ?_ ?_ OK1 OK2 (by (try simp only [T.by]); omega)).mono ?_); (first | (refine Rp.below (w := w) ?_ (Nat.le_refl _) HA.out; focus ((repeat first | assumption | exact hD.out _ | exact Below.refl _ _ | apply Below.drew | apply below_drews); done)) | exact Rp.below hb (Nat.le_refl _) (by assumption) | assumption); (first | (refine Rp.below (w := w) ?_ (Nat.le_refl _) HA.out; focus ((repeat first | assumption | exact hD.out _ | exact Below.refl _ _ | apply Below.drew | apply below_drews); done)) | exact Rp.below hb (Nat.le_refl _) (by assumption) | assumption); rintro e w1 ⟨v, rfl, hr, hb⟩; have hb1 := below_more (w := w) (by (repeat first | assumption | exact hD.out _ | exact Below.refl _ _ | apply Below.drew | apply below_drews)) hb))
  go_wp2_with fail
  go_ret
  exact ⟨_, rfl, hr, hb1⟩

set_option maxRecDepth 100000 in
set_option maxHeartbeats 1000000 in
theorem balance_2 {a b : T} {va vb : Value} (w : World) (ha : Rp w a va) (hb : Rp w b vb) (oka : a.ok) (okb : b.ok) (hby : a.by + b.by ≤ 1073741824) (hd1 : a.ht ≤ b.ht + 2) (hd2 : b.ht ≤ a.ht + 2) (c1 : a.ht + 1 < b.ht) (c2 : ¬ b.R.ht < b.L.ht) :
    Calls Tryd.prog 156 #[va, vb] w (Made w (bal a b)) := by
  have OK := (bal_of oka okb hd1 hd2).ok
  rw [bal2 c1 c2] at OK ⊢
  obtain ⟨OK1, OK2, -, -⟩ := OK
  obtain ⟨ol, or, -, -, -, -⟩ := T.ok_L okb (by omega)
  have y1 := by_LR (t := b) (by omega)
  have ga := T.ht_by oka
  have gb := T.ht_by okb
  have HA := Lib.hid ha
  have HB := Lib.hid hb
  obtain ⟨x, xl, xr, rfl, ⟨h0, h1, h2, h3, h4, h5, h6⟩, hl, hr⟩ := ha.unfold (ok_not_nil oka)
  obtain ⟨y, yl, yr, rfl, ⟨k0, k1, k2, k3, k4, k5, k6⟩, kl, kr⟩ := hb.unfold (ok_not_nil okb)
  have HR := Lib.hid kr
  have HL := Lib.hid kl
  obtain ⟨z, zl, zr, rfl, ⟨m0, m1, m2, m3, m4, m5, m6⟩, ml, mr⟩ := kl.unfold (ok_not_nil ol)
  obtain ⟨q, ql, qr, rfl, ⟨n0, n1, n2, n3, n4, n5, n6⟩, -, -⟩ := kr.unfold (ok_not_nil or)
  have e1 : IntKind.i64.wrap ((a.ht : Int) + 1) = (a.ht : Int) + 1 := IntWalk.i64_in _ (by omega)
  have e2 : IntKind.i64.wrap ((b.ht : Int) + 1) = (b.ht : Int) + 1 := IntWalk.i64_in _ (by omega)
  have g1 : decide ((a.ht : Int) + 1 < (b.ht : Int)) = true := by simp; omega
  have g2 : decide (b.R.ht < b.L.ht) = false := by simp; omega
  have hD : Hid (∀ n, Below w.heap.size w (w.drewN n)) := fun n => below_drews (Below.refl _ _) n
  clear ha hb hl hr kl kr hd1 hd2 ml mr h1 h2 h3 h4 h5 k1 k4 k5 m1 m2 m3 m4 m5 n1 n2 n3 n4 n5
  go_enter Tryd.func156, Tryd.ntmps156
  go_wp2_with fail
  go_quiet (fail)
  go_wp2_with fail
  go_quiet (fail)
  go_wp2_with fail
  have KP : Hid (∀ w', Below w.heap.size w w' → Below w.heap.size w w' ∧ w'.cell? ⟨y, 1, none⟩ = some (.pointer (some ⟨z, 0, none⟩)) ∧ w'.cell? ⟨y, 2, none⟩ = some (.pointer (some ⟨q, 0, none⟩))) :=
    fun w' h => ⟨h, below_cell h k0 k2, below_cell h k0 k3⟩
  go_region_held3 (fun w' => Below w.heap.size w w' ∧ w'.cell? ⟨y, 1, none⟩ = some (.pointer (some ⟨z, 0, none⟩)) ∧ w'.cell? ⟨y, 2, none⟩ = some (.pointer (some ⟨q, 0, none⟩)))
    ((refine KP.out _ ?_; focus ((repeat first | assumption | exact hD.out _ | exact Below.refl _ _ | apply Below.drew | apply below_drews); done)))
    (first
      | (go_at_call 124; go_split_ands; (with_reducible refine (node_any (a := a) (b := b.L) (va := (.pointer (some ⟨x, 0, none⟩))) (vb := (.pointer (some ⟨z, 0, none⟩))) _ ?_ ?_ oka ol (by (try simp only [T.by]); omega)).mono ?_); (first | (refine Rp.below (w := w) ?_ (Nat.le_refl _) HA.out; focus ((repeat first | assumption | exact hD.out _ | exact Below.refl _ _ | apply Below.drew | apply below_drews); done)) | exact Rp.below hb (Nat.le_refl _) (by assumption) | assumption); (first | (refine Rp.below (w := w) ?_ (Nat.le_refl _) HL.out; focus ((repeat first | assumption | exact hD.out _ | exact Below.refl _ _ | apply Below.drew | apply below_drews); done)) | exact Rp.below hb (Nat.le_refl _) (by assumption) | assumption); rintro e w1 ⟨v, rfl, hr, hb⟩; have hb1 := below_more (w := w) (by (repeat first | assumption | exact hD.out _ | exact Below.refl _ _ | apply Below.drew | apply below_drews)) hb)
      | (go_at_call 124; go_split_ands; (with_reducible refine (node_any (a := .node a b.L) (b := b.R) (va := _) (vb := (.pointer (some ⟨q, 0, none⟩))) _ ?_ ?_ OK1 or (by (try simp only [T.by]); omega)).mono ?_); (first | (refine Rp.below (w := w) ?_ (Nat.le_refl _) HA.out; focus ((repeat first | assumption | exact hD.out _ | exact Below.refl _ _ | apply Below.drew | apply below_drews); done)) | exact Rp.below hb (Nat.le_refl _) (by assumption) | assumption); (first | (refine Rp.below (w := w) ?_ (Nat.le_refl _) HR.out; focus ((repeat first | assumption | exact hD.out _ | exact Below.refl _ _ | apply Below.drew | apply below_drews); done)) | exact Rp.below hb (Nat.le_refl _) (by assumption) | assumption); rintro e w1 ⟨v, rfl, hr, hb⟩; have hb1 := below_more (w := w) (by (repeat first | assumption | exact hD.out _ | exact Below.refl _ _ | apply Below.drew | apply below_drews)) hb))
  go_wp2_with fail
  go_ret
  exact ⟨_, rfl, hr, hb1⟩

set_option maxRecDepth 100000 in
set_option maxHeartbeats 1000000 in
theorem balance_3 {a b : T} {va vb : Value} (w : World) (ha : Rp w a va) (hb : Rp w b vb) (oka : a.ok) (okb : b.ok) (hby : a.by + b.by ≤ 1073741824) (hd1 : a.ht ≤ b.ht + 2) (hd2 : b.ht ≤ a.ht + 2) (c1 : b.ht + 1 < a.ht) (c2 : a.L.ht < a.R.ht) :
    Calls Tryd.prog 156 #[va, vb] w (Made w (bal a b)) := by
  have OK := (bal_of oka okb hd1 hd2).ok
  rw [bal3 c1 c2] at OK ⊢
  obtain ⟨OK1, OK2, -, -⟩ := OK
  obtain ⟨ol, or, -, -, -, -⟩ := T.ok_L oka (by omega)
  have y1 := by_LR (t := a) (by omega)
  obtain ⟨pl, pr, -, -, -, -⟩ := T.ok_L or (by omega)
  have y2 := by_LR (t := a.R) (by omega)
  have ga := T.ht_by oka
  have gb := T.ht_by okb
  have HA := Lib.hid ha
  have HB := Lib.hid hb
  obtain ⟨x, xl, xr, rfl, ⟨h0, h1, h2, h3, h4, h5, h6⟩, hl, hr⟩ := ha.unfold (ok_not_nil oka)
  obtain ⟨y, yl, yr, rfl, ⟨k0, k1, k2, k3, k4, k5, k6⟩, kl, kr⟩ := hb.unfold (ok_not_nil okb)
  have HL := Lib.hid hl
  obtain ⟨z, zl, zr, rfl, ⟨m0, m1, m2, m3, m4, m5, m6⟩, -, -⟩ := hl.unfold (ok_not_nil ol)
  obtain ⟨q, ql, qr, rfl, ⟨n0, n1, n2, n3, n4, n5, n6⟩, nl, nr⟩ := hr.unfold (ok_not_nil or)
  have HRL := Lib.hid nl
  have HRR := Lib.hid nr
  have e1 : IntKind.i64.wrap ((a.ht : Int) + 1) = (a.ht : Int) + 1 := IntWalk.i64_in _ (by omega)
  have e2 : IntKind.i64.wrap ((b.ht : Int) + 1) = (b.ht : Int) + 1 := IntWalk.i64_in _ (by omega)
  have g1 : decide ((a.ht : Int) + 1 < (b.ht : Int)) = false := by simp; omega
  have g2 : decide ((b.ht : Int) + 1 < (a.ht : Int)) = true := by simp; omega
  have g3 : decide (a.L.ht < a.R.ht) = true := by simp; omega
  have hD : Hid (∀ n, Below w.heap.size w (w.drewN n)) := fun n => below_drews (Below.refl _ _) n
  clear ha hb hl hr kl kr hd1 hd2 nl nr h1 h4 h5 k1 k2 k3 k4 k5 m1 m2 m3 m4 m5 n1 n4 n5
  go_enter Tryd.func156, Tryd.ntmps156
  go_wp2_with fail
  go_quiet (fail)
  go_wp2_with fail
  go_quiet (fail)
  go_wp2_with fail
  go_quiet (fail)
  go_wp2_with fail
  have KP : Hid (∀ w', Below w.heap.size w w' → Below w.heap.size w w' ∧ w'.cell? ⟨x, 1, none⟩ = some (.pointer (some ⟨z, 0, none⟩)) ∧ w'.cell? ⟨x, 2, none⟩ = some (.pointer (some ⟨q, 0, none⟩)) ∧ w'.cell? ⟨q, 1, none⟩ = some ql ∧ w'.cell? ⟨q, 2, none⟩ = some qr) :=
    fun w' h => ⟨h, below_cell h h0 h2, below_cell h h0 h3, below_cell h n0 n2, below_cell h n0 n3⟩
  go_region_held3 (fun w' => Below w.heap.size w w' ∧ w'.cell? ⟨x, 1, none⟩ = some (.pointer (some ⟨z, 0, none⟩)) ∧ w'.cell? ⟨x, 2, none⟩ = some (.pointer (some ⟨q, 0, none⟩)) ∧ w'.cell? ⟨q, 1, none⟩ = some ql ∧ w'.cell? ⟨q, 2, none⟩ = some qr)
    ((refine KP.out _ ?_; focus ((repeat first | assumption | exact hD.out _ | exact Below.refl _ _ | apply Below.drew | apply below_drews); done)))
    (first
      | (go_at_call 124; go_split_ands; (with_reducible refine (node_any (a := a.L) (b := a.R.L) (va := (.pointer (some ⟨z, 0, none⟩))) (vb := ql) _ ?_ ?_ ol pl (by (try simp only [T.by]); omega)).mono ?_); (first | (refine Rp.below (w := w) ?_ (Nat.le_refl _) HL.out; focus ((repeat first | assumption | exact hD.out _ | exact Below.refl _ _ | apply Below.drew | apply below_drews); done)) | exact Rp.below hb (Nat.le_refl _) (by assumption) | assumption); (first | (refine Rp.below (w := w) ?_ (Nat.le_refl _) HRL.out; focus ((repeat first | assumption | exact hD.out _ | exact Below.refl _ _ | apply Below.drew | apply below_drews); done)) | exact Rp.below hb (Nat.le_refl _) (by assumption) | assumption); rintro e w1 ⟨v, rfl, hr, hb⟩; have hb1 := below_more (w := w) (by (repeat first | assumption | exact hD.out _ | exact Below.refl _ _ | apply Below.drew | apply below_drews)) hb)
      | (go_at_call 124; go_split_ands; (with_reducible refine (node_any (a := a.R.R) (b := b) (va := qr) (vb := (.pointer (some ⟨y, 0, none⟩))) _ ?_ ?_ pr okb (by (try simp only [T.by]); omega)).mono ?_); (first | (refine Rp.below (w := w) ?_ (Nat.le_refl _) HRR.out; focus ((repeat first | assumption | exact hD.out _ | exact Below.refl _ _ | apply Below.drew | apply below_drews); done)) | exact Rp.below hb (Nat.le_refl _) (by assumption) | assumption); (first | (refine Rp.below (w := w) ?_ (Nat.le_refl _) HB.out; focus ((repeat first | assumption | exact hD.out _ | exact Below.refl _ _ | apply Below.drew | apply below_drews); done)) | exact Rp.below hb (Nat.le_refl _) (by assumption) | assumption); rintro e w1 ⟨v, rfl, hr, hb⟩; have hb1 := below_more (w := w) (by (repeat first | assumption | exact hD.out _ | exact Below.refl _ _ | apply Below.drew | apply below_drews)) hb)
      | (go_at_call 124; go_split_ands; (with_reducible refine (node_any (a := .node a.L a.R.L) (b := .node a.R.R b) (va := _) (vb := _) _ ?_ ?_ OK1 OK2 (by (try simp only [T.by]); omega)).mono ?_); (first | (refine Rp.below (w := w) ?_ (Nat.le_refl _) HA.out; focus ((repeat first | assumption | exact hD.out _ | exact Below.refl _ _ | apply Below.drew | apply below_drews); done)) | exact Rp.below hb (Nat.le_refl _) (by assumption) | assumption); (first | (refine Rp.below (w := w) ?_ (Nat.le_refl _) HA.out; focus ((repeat first | assumption | exact hD.out _ | exact Below.refl _ _ | apply Below.drew | apply below_drews); done)) | exact Rp.below hb (Nat.le_refl _) (by assumption) | assumption); rintro e w1 ⟨v, rfl, hr, hb⟩; have hb1 := below_more (w := w) (by (repeat first | assumption | exact hD.out _ | exact Below.refl _ _ | apply Below.drew | apply below_drews)) hb))
  go_wp2_with fail
  go_ret
  exact ⟨_, rfl, hr, hb1⟩

set_option maxRecDepth 100000 in
set_option maxHeartbeats 1000000 in
theorem balance_4 {a b : T} {va vb : Value} (w : World) (ha : Rp w a va) (hb : Rp w b vb) (oka : a.ok) (okb : b.ok) (hby : a.by + b.by ≤ 1073741824) (hd1 : a.ht ≤ b.ht + 2) (hd2 : b.ht ≤ a.ht + 2) (c1 : b.ht + 1 < a.ht) (c2 : ¬ a.L.ht < a.R.ht) :
    Calls Tryd.prog 156 #[va, vb] w (Made w (bal a b)) := by
  have OK := (bal_of oka okb hd1 hd2).ok
  rw [bal4 c1 c2] at OK ⊢
  obtain ⟨OK1, OK2, -, -⟩ := OK
  obtain ⟨ol, or, -, -, -, -⟩ := T.ok_L oka (by omega)
  have y1 := by_LR (t := a) (by omega)
  have ga := T.ht_by oka
  have gb := T.ht_by okb
  have HA := Lib.hid ha
  have HB := Lib.hid hb
  obtain ⟨x, xl, xr, rfl, ⟨h0, h1, h2, h3, h4, h5, h6⟩, hl, hr⟩ := ha.unfold (ok_not_nil oka)
  obtain ⟨y, yl, yr, rfl, ⟨k0, k1, k2, k3, k4, k5, k6⟩, kl, kr⟩ := hb.unfold (ok_not_nil okb)
  have HL := Lib.hid hl
  have HR := Lib.hid hr
  obtain ⟨z, zl, zr, rfl, ⟨m0, m1, m2, m3, m4, m5, m6⟩, -, -⟩ := hl.unfold (ok_not_nil ol)
  obtain ⟨q, ql, qr, rfl, ⟨n0, n1, n2, n3, n4, n5, n6⟩, -, -⟩ := hr.unfold (ok_not_nil or)
  have e1 : IntKind.i64.wrap ((a.ht : Int) + 1) = (a.ht : Int) + 1 := IntWalk.i64_in _ (by omega)
  have e2 : IntKind.i64.wrap ((b.ht : Int) + 1) = (b.ht : Int) + 1 := IntWalk.i64_in _ (by omega)
  have g1 : decide ((a.ht : Int) + 1 < (b.ht : Int)) = false := by simp; omega
  have g2 : decide ((b.ht : Int) + 1 < (a.ht : Int)) = true := by simp; omega
  have g3 : decide (a.L.ht < a.R.ht) = false := by simp; omega
  have hD : Hid (∀ n, Below w.heap.size w (w.drewN n)) := fun n => below_drews (Below.refl _ _) n
  clear ha hb hl hr kl kr hd1 hd2 h1 h4 h5 k1 k2 k3 k4 k5 m1 m2 m3 m4 m5 n1 n2 n3 n4 n5
  go_enter Tryd.func156, Tryd.ntmps156
  go_wp2_with fail
  go_quiet (fail)
  go_wp2_with fail
  go_quiet (fail)
  go_wp2_with fail
  go_quiet (fail)
  go_wp2_with fail
  go_quiet (fail)
  go_wp2_with fail
  have KP : Hid (∀ w', Below w.heap.size w w' → Below w.heap.size w w' ∧ w'.cell? ⟨x, 1, none⟩ = some (.pointer (some ⟨z, 0, none⟩)) ∧ w'.cell? ⟨x, 2, none⟩ = some (.pointer (some ⟨q, 0, none⟩))) :=
    fun w' h => ⟨h, below_cell h h0 h2, below_cell h h0 h3⟩
  go_region_held3 (fun w' => Below w.heap.size w w' ∧ w'.cell? ⟨x, 1, none⟩ = some (.pointer (some ⟨z, 0, none⟩)) ∧ w'.cell? ⟨x, 2, none⟩ = some (.pointer (some ⟨q, 0, none⟩)))
    ((refine KP.out _ ?_; focus ((repeat first | assumption | exact hD.out _ | exact Below.refl _ _ | apply Below.drew | apply below_drews); done)))
    (first
      | (go_at_call 124; go_split_ands; (with_reducible refine (node_any (a := a.R) (b := b) (va := (.pointer (some ⟨q, 0, none⟩))) (vb := (.pointer (some ⟨y, 0, none⟩))) _ ?_ ?_ or okb (by (try simp only [T.by]); omega)).mono ?_); (first | (refine Rp.below (w := w) ?_ (Nat.le_refl _) HR.out; focus ((repeat first | assumption | exact hD.out _ | exact Below.refl _ _ | apply Below.drew | apply below_drews); done)) | exact Rp.below hb (Nat.le_refl _) (by assumption) | assumption); (first | (refine Rp.below (w := w) ?_ (Nat.le_refl _) HB.out; focus ((repeat first | assumption | exact hD.out _ | exact Below.refl _ _ | apply Below.drew | apply below_drews); done)) | exact Rp.below hb (Nat.le_refl _) (by assumption) | assumption); rintro e w1 ⟨v, rfl, hr, hb⟩; have hb1 := below_more (w := w) (by (repeat first | assumption | exact hD.out _ | exact Below.refl _ _ | apply Below.drew | apply below_drews)) hb)
      | (go_at_call 124; go_split_ands; (with_reducible refine (node_any (a := a.L) (b := .node a.R b) (va := (.pointer (some ⟨z, 0, none⟩))) (vb := _) _ ?_ ?_ ol OK2 (by (try simp only [T.by]); omega)).mono ?_); (first | (refine Rp.below (w := w) ?_ (Nat.le_refl _) HL.out; focus ((repeat first | assumption | exact hD.out _ | exact Below.refl _ _ | apply Below.drew | apply below_drews); done)) | exact Rp.below hb (Nat.le_refl _) (by assumption) | assumption); (first | (refine Rp.below (w := w) ?_ (Nat.le_refl _) HA.out; focus ((repeat first | assumption | exact hD.out _ | exact Below.refl _ _ | apply Below.drew | apply below_drews); done)) | exact Rp.below hb (Nat.le_refl _) (by assumption) | assumption); rintro e w1 ⟨v, rfl, hr, hb⟩; have hb1 := below_more (w := w) (by (repeat first | assumption | exact hD.out _ | exact Below.refl _ _ | apply Below.drew | apply below_drews)) hb))
  go_wp2_with fail
  go_ret
  exact ⟨_, rfl, hr, hb1⟩

set_option maxRecDepth 100000 in
set_option maxHeartbeats 1000000 in
theorem balance_5 {a b : T} {va vb : Value} (w : World) (ha : Rp w a va) (hb : Rp w b vb) (oka : a.ok) (okb : b.ok) (hby : a.by + b.by ≤ 1073741824) (hd1 : a.ht ≤ b.ht + 2) (hd2 : b.ht ≤ a.ht + 2) (c1 : ¬ b.ht + 1 < a.ht) (c2 : ¬ a.ht + 1 < b.ht) :
    Calls Tryd.prog 156 #[va, vb] w (Made w (bal a b)) := by
  have OK := (bal_of oka okb hd1 hd2).ok
  rw [bal5 c1 c2] at OK ⊢

  have ga := T.ht_by oka
  have gb := T.ht_by okb
  have HA := Lib.hid ha
  have HB := Lib.hid hb
  obtain ⟨x, xl, xr, rfl, ⟨h0, h1, h2, h3, h4, h5, h6⟩, hl, hr⟩ := ha.unfold (ok_not_nil oka)
  obtain ⟨y, yl, yr, rfl, ⟨k0, k1, k2, k3, k4, k5, k6⟩, kl, kr⟩ := hb.unfold (ok_not_nil okb)

  have e1 : IntKind.i64.wrap ((a.ht : Int) + 1) = (a.ht : Int) + 1 := IntWalk.i64_in _ (by omega)
  have e2 : IntKind.i64.wrap ((b.ht : Int) + 1) = (b.ht : Int) + 1 := IntWalk.i64_in _ (by omega)
  have g1 : decide ((a.ht : Int) + 1 < (b.ht : Int)) = false := by simp; omega
  have g2 : decide ((b.ht : Int) + 1 < (a.ht : Int)) = false := by simp; omega
  have hD : Hid (∀ n, Below w.heap.size w (w.drewN n)) := fun n => below_drews (Below.refl _ _) n
  clear ha hb hl hr kl kr hd1 hd2 h1 h2 h3 h4 h5 k1 k2 k3 k4 k5
  go_enter Tryd.func156, Tryd.ntmps156
  go_wp2_with fail
  go_quiet (fail)
  go_wp2_with fail
  go_quiet (fail)
  go_wp2_with fail
  go_quiet (fail)
  go_wp2_with fail
  go_quiet (fail)
  go_wp2_with fail
  refine (node_any _ (Rp.below (w := w) (by (repeat first | assumption | exact hD.out _ | exact Below.refl _ _ | apply Below.drew | apply below_drews)) (Nat.le_refl _) HA.out) (Rp.below (w := w) (by (repeat first | assumption | exact hD.out _ | exact Below.refl _ _ | apply Below.drew | apply below_drews)) (Nat.le_refl _) HB.out) oka okb hby).mono ?_
  rintro e w1 ⟨v, rfl, hr, hb⟩
  go_wp2_with fail
  go_ret
  exact ⟨_, rfl, hr, below_more (by (repeat first | assumption | exact hD.out _ | exact Below.refl _ _ | apply Below.drew | apply below_drews)) hb⟩

theorem balance_any {a b : T} {va vb : Value} (w : World) (ha : Rp w a va) (hb : Rp w b vb) (oka : a.ok) (okb : b.ok) (hby : a.by + b.by ≤ 1073741824) (hd1 : a.ht ≤ b.ht + 2) (hd2 : b.ht ≤ a.ht + 2) :
    Calls Tryd.prog 156 #[va, vb] w (Made w (bal a b)) := by
  by_cases c1 : a.ht + 1 < b.ht
  · by_cases c2 : b.R.ht < b.L.ht
    · exact balance_1 w ha hb oka okb hby hd1 hd2 c1 c2
    · exact balance_2 w ha hb oka okb hby hd1 hd2 c1 c2
  · by_cases c3 : b.ht + 1 < a.ht
    · by_cases c2 : a.L.ht < a.R.ht
      · exact balance_3 w ha hb oka okb hby hd1 hd2 c3 c2
      · exact balance_4 w ha hb oka okb hby hd1 hd2 c3 c2
    · exact balance_5 w ha hb oka okb hby hd1 hd2 c3 c1
end Go.Proofs.YtcpdoicbekcpeaaDoor.Con

namespace Go.Proofs.YtcpdoicbekcpeaaDoor.Con
open Go.RowKit Go.Lib Go.Proofs.YtcpdoicbekcpeaaDoor.Let Go.Proofs.YtcpdoicbekcpeaaDoor.Tree

theorem link_by {a b : T} (ha : a.ok) (hb : b.ok) : (link a b).by = a.by + b.by := by
  rw [T.by_txt, (link_of _ (Nat.le_refl _) ha hb).txt, List.length_append, ← T.by_txt, ← T.by_txt]

theorem link_nil (b : T) : link .nil b = b := by rw [link, if_pos rfl]
theorem link_nil2 {a : T} (h : a ≠ .nil) : link a .nil = a := by rw [link, if_neg h, if_pos rfl]
theorem link_hi {a b : T} (ha : a.ok) (hb : b.ok) (c : b.ht + 1 < a.ht) : link a b = bal a.L (link a.R b) := by
  rw [link, if_neg (ok_not_nil ha), if_neg (ok_not_nil hb), dif_pos c]
theorem link_lo {a b : T} (ha : a.ok) (hb : b.ok) (c : a.ht + 1 < b.ht) : link a b = bal (link a b.L) b.R := by
  rw [link, if_neg (ok_not_nil ha), if_neg (ok_not_nil hb), dif_neg (by omega), dif_pos c]
theorem link_eq {a b : T} (ha : a.ok) (hb : b.ok) (c1 : ¬ b.ht + 1 < a.ht) (c2 : ¬ a.ht + 1 < b.ht) : link a b = .node a b := by
  rw [link, if_neg (ok_not_nil ha), if_neg (ok_not_nil hb), dif_neg c1, dif_neg c2]

/-- The heights ahead of a balance in link. -/
theorem link_hts {a b : T} (ha : a.ok) (hb : b.ok) (c : b.ht + 1 < a.ht) : a.L.ht ≤ (link a.R b).ht + 2 ∧ (link a.R b).ht ≤ a.L.ht + 2 ∧ (link a.R b).ok := by
  obtain ⟨o1, o2, o3, o4, o5, o6⟩ := T.ok_L ha (by omega)
  have i := link_of _ (Nat.le_refl _) o2 hb
  have := i.lo
  have := i.hi
  exact ⟨by omega, by omega, i.ok⟩
theorem link_hts2 {a b : T} (ha : a.ok) (hb : b.ok) (c : a.ht + 1 < b.ht) : (link a b.L).ht ≤ b.R.ht + 2 ∧ b.R.ht ≤ (link a b.L).ht + 2 ∧ (link a b.L).ok := by
  obtain ⟨o1, o2, o3, o4, o5, o6⟩ := T.ok_L hb (by omega)
  have i := link_of _ (Nat.le_refl _) ha o1
  have := i.lo
  have := i.hi
  exact ⟨by omega, by omega, i.ok⟩

set_option maxRecDepth 100000 in
set_option maxHeartbeats 1000000 in
theorem link_any : ∀ (n : Nat) {a b : T} {va vb : Value} (w : World), a.ht + b.ht < n → Rp w a va → Rp w b vb → a.okn → b.okn → a.by + b.by ≤ 1073741824 →
    Calls Tryd.prog 135 #[va, vb] w (Made w (link a b)) := by
  intro n
  induction n with
  | zero => intro a b va vb w hn; omega
  | succ n ih =>
    intro a b va vb w hn ha hb na nb hby
    rcases na with rfl | oka
    · rw [link_nil]
      have HB := Lib.hid hb
      have : va = .pointer none := ha
      subst this
      clear ha hb
      go_enter Tryd.func135, Tryd.ntmps135
      go_wp2_with fail
      go_ret
      exact ⟨_, rfl, HB.out, Below.refl _ _⟩
    rcases nb with rfl | okb
    · rw [link_nil2 (ok_not_nil oka)]
      have HA := Lib.hid ha
      have : vb = .pointer none := hb
      subst this
      obtain ⟨x, xl, xr, rfl, ⟨h0, h1, h2, h3, h4, h5, h6⟩, hl, hr⟩ := ha.unfold (ok_not_nil oka)
      clear ha hb hl hr h1 h2 h3 h4 h5 h6
      go_enter Tryd.func135, Tryd.ntmps135
      go_wp2_with fail
      go_ret
      exact ⟨_, rfl, HA.out, Below.refl _ _⟩
    have ga := T.ht_by oka
    have gb := T.ht_by okb
    have HA := Lib.hid ha
    have HB := Lib.hid hb
    have e1 : IntKind.i64.wrap ((a.ht : Int) + 1) = (a.ht : Int) + 1 := IntWalk.i64_in _ (by omega)
    have e2 : IntKind.i64.wrap ((b.ht : Int) + 1) = (b.ht : Int) + 1 := IntWalk.i64_in _ (by omega)
    have hD : Hid (∀ n, Below w.heap.size w (w.drewN n)) := fun n => below_drews (Below.refl _ _) n
    obtain ⟨x, xl, xr, rfl, ⟨h0, h1, h2, h3, h4, h5, h6⟩, hl, hr⟩ := ha.unfold (ok_not_nil oka)
    obtain ⟨y, yl, yr, rfl, ⟨k0, k1, k2, k3, k4, k5, k6⟩, kl, kr⟩ := hb.unfold (ok_not_nil okb)
    clear ha hb
    by_cases c1 : b.ht + 1 < a.ht
    · rw [link_hi oka okb c1]
      obtain ⟨q1, q2, q3⟩ := link_hts oka okb c1
      obtain ⟨ol, or, -, -, -, p6⟩ := T.ok_L oka (by omega)
      have y1 := by_LR (t := a) (by omega)
      have y2 := link_by or okb
      have HL := Lib.hid hl
      have HR := Lib.hid hr
      have IH : Hid (∀ w, Rp w a.R xr → Rp w b (.pointer (some ⟨y, 0, none⟩)) → Calls Tryd.prog 135 #[xr, .pointer (some ⟨y, 0, none⟩)] w (Made w (link a.R b))) := fun w r1 r2 => ih w (by omega) r1 r2 (.inr or) (.inr okb) (by omega)
      clear ih hl hr kl kr h1 h4 h5 k1 k2 k3 k4 k5
      have g1 : decide ((b.ht : Int) + 1 < (a.ht : Int)) = true := by simp; omega
      have KP : Hid (∀ w', Below w.heap.size w w' → Below w.heap.size w w' ∧ w'.cell? ⟨x, 1, none⟩ = some xl ∧ w'.cell? ⟨x, 2, none⟩ = some xr) :=
        fun w' h => ⟨h, below_cell h h0 h2, below_cell h h0 h3⟩
      go_enter Tryd.func135, Tryd.ntmps135
      go_wp2_with fail
      go_quiet (fail)
      go_wp2_with fail
      go_region_held3 (fun w' => Below w.heap.size w w' ∧ w'.cell? ⟨x, 1, none⟩ = some xl ∧ w'.cell? ⟨x, 2, none⟩ = some xr)
        ((refine KP.out _ ?_; focus ((repeat first | assumption | exact hD.out _ | exact Below.refl _ _ | apply Below.drew | apply below_drews); done)))
        (first
          | (go_at_call 135; go_split_ands; (with_reducible refine (IH.out _ ?_ ?_).mono ?_); (focus (refine Rp.below (w := w) ?_ (Nat.le_refl _) HR.out; (repeat first | assumption | exact hD.out _ | exact Below.refl _ _ | apply Below.drew | apply below_drews); done)); (focus (refine Rp.below (w := w) ?_ (Nat.le_refl _) HB.out; (repeat first | assumption | exact hD.out _ | exact Below.refl _ _ | apply Below.drew | apply below_drews); done)); rintro e w1 ⟨v, rfl, hr, hb⟩; have hb1 := below_more (w := w) (by (repeat first | assumption | exact hD.out _ | exact Below.refl _ _ | apply Below.drew | apply below_drews)) hb)
          | (go_at_call 156; go_split_ands; (with_reducible refine (balance_any (a := a.L) (b := link a.R b) _ ?_ hr ol q3 (by omega) q1 q2).mono ?_); (focus (refine Rp.below (w := w) ?_ (Nat.le_refl _) HL.out; (repeat first | assumption | exact hD.out _ | exact Below.refl _ _ | apply Below.drew | apply below_drews); done)); rintro e w1 ⟨v, rfl, hr, hb⟩; have hb1 := below_more (w := w) (by (repeat first | assumption | exact hD.out _ | exact Below.refl _ _ | apply Below.drew | apply below_drews)) hb))
      go_wp2_with fail
      go_ret
      exact ⟨_, rfl, hr, hb1⟩
    by_cases c2 : a.ht + 1 < b.ht
    · rw [link_lo oka okb c2]
      obtain ⟨q1, q2, q3⟩ := link_hts2 oka okb c2
      obtain ⟨ol, or, -, -, -, p6⟩ := T.ok_L okb (by omega)
      have y1 := by_LR (t := b) (by omega)
      have y2 := link_by oka ol
      have HL := Lib.hid kl
      have HR := Lib.hid kr
      have IH : Hid (∀ w, Rp w a (.pointer (some ⟨x, 0, none⟩)) → Rp w b.L yl → Calls Tryd.prog 135 #[.pointer (some ⟨x, 0, none⟩), yl] w (Made w (link a b.L))) := fun w r1 r2 => ih w (by omega) r1 r2 (.inr oka) (.inr ol) (by omega)
      clear ih hl hr kl kr h1 h2 h3 h4 h5 k1 k4 k5
      have g1 : decide ((b.ht : Int) + 1 < (a.ht : Int)) = false := by simp; omega
      have g2 : decide ((a.ht : Int) + 1 < (b.ht : Int)) = true := by simp; omega
      have KP : Hid (∀ w', Below w.heap.size w w' → Below w.heap.size w w' ∧ w'.cell? ⟨y, 1, none⟩ = some yl ∧ w'.cell? ⟨y, 2, none⟩ = some yr) :=
        fun w' h => ⟨h, below_cell h k0 k2, below_cell h k0 k3⟩
      go_enter Tryd.func135, Tryd.ntmps135
      go_wp2_with fail
      go_quiet (fail)
      go_wp2_with fail
      go_quiet (fail)
      go_wp2_with fail
      go_region_held3 (fun w' => Below w.heap.size w w' ∧ w'.cell? ⟨y, 1, none⟩ = some yl ∧ w'.cell? ⟨y, 2, none⟩ = some yr)
        ((refine KP.out _ ?_; focus ((repeat first | assumption | exact hD.out _ | exact Below.refl _ _ | apply Below.drew | apply below_drews); done)))
        (first
          | (go_at_call 135; go_split_ands; (with_reducible refine (IH.out _ ?_ ?_).mono ?_); (focus (refine Rp.below (w := w) ?_ (Nat.le_refl _) HA.out; (repeat first | assumption | exact hD.out _ | exact Below.refl _ _ | apply Below.drew | apply below_drews); done)); (focus (refine Rp.below (w := w) ?_ (Nat.le_refl _) HL.out; (repeat first | assumption | exact hD.out _ | exact Below.refl _ _ | apply Below.drew | apply below_drews); done)); rintro e w1 ⟨v, rfl, hr, hb⟩; have hb1 := below_more (w := w) (by (repeat first | assumption | exact hD.out _ | exact Below.refl _ _ | apply Below.drew | apply below_drews)) hb)
          | (go_at_call 156; go_split_ands; (with_reducible refine (balance_any (a := link a b.L) (b := b.R) _ hr ?_ q3 or (by omega) q1 q2).mono ?_); (focus (refine Rp.below (w := w) ?_ (Nat.le_refl _) HR.out; (repeat first | assumption | exact hD.out _ | exact Below.refl _ _ | apply Below.drew | apply below_drews); done)); rintro e w1 ⟨v, rfl, hr, hb⟩; have hb1 := below_more (w := w) (by (repeat first | assumption | exact hD.out _ | exact Below.refl _ _ | apply Below.drew | apply below_drews)) hb))
      go_wp2_with fail
      go_ret
      exact ⟨_, rfl, hr, hb1⟩
    · rw [link_eq oka okb c1 c2]
      clear ih hl hr kl kr h1 h2 h3 h4 h5 k1 k2 k3 k4 k5
      have g1 : decide ((b.ht : Int) + 1 < (a.ht : Int)) = false := by simp; omega
      have g2 : decide ((a.ht : Int) + 1 < (b.ht : Int)) = false := by simp; omega
      go_enter Tryd.func135, Tryd.ntmps135
      go_wp2_with fail
      go_quiet (fail)
      go_wp2_with fail
      go_quiet (fail)
      go_wp2_with fail
      refine (node_any _ (Rp.below (w := w) (by (repeat first | assumption | exact hD.out _ | exact Below.refl _ _ | apply Below.drew | apply below_drews)) (Nat.le_refl _) HA.out) (Rp.below (w := w) (by (repeat first | assumption | exact hD.out _ | exact Below.refl _ _ | apply Below.drew | apply below_drews)) (Nat.le_refl _) HB.out) oka okb hby).mono ?_
      rintro e w1 ⟨v, rfl, hr, hb⟩
      go_wp2_with fail
      go_ret
      exact ⟨_, rfl, hr, below_more (by (repeat first | assumption | exact hD.out _ | exact Below.refl _ _ | apply Below.drew | apply below_drews)) hb⟩

/-- The first and the last part. -/
def fstP : T → List UInt8
  | .nil => []
  | .leaf s => s
  | .node l _ => fstP l
def lstP : T → List UInt8
  | .nil => []
  | .leaf s => s
  | .node _ r => lstP r

/-- The height that stands in a node. -/
def htIn (w : World) : Value → Nat
  | .pointer (some a) => match w.cell? ⟨a.block, 5, none⟩ with
    | some (.int _ n) => n.toNat
    | _ => 0
  | _ => 0
theorem htIn_of {w : World} {t : T} {v : Value} (h : Rp w t v) (ok : t.ok) : htIn w v = t.ht := by
  obtain ⟨b, vl, vr, rfl, ⟨h0, h1, h2, h3, h4, h5, h6⟩, -, -⟩ := h.unfold (ok_not_nil ok)
  simp [htIn, h6]
theorem leaf_of {t : T} (ok : t.ok) (h : t.ht = 0) : t = .leaf (T.P t) := by
  cases t with
  | nil => exact absurd ok id
  | leaf s => rfl
  | node l r => simp [T.ht] at h

def relF (w : World) (t : T) (v : Value) : Prop := ∃ u : T, Rp w u v ∧ u.ok ∧ fstP t = fstP u
def relL (w : World) (t : T) (v : Value) : Prop := ∃ u : T, Rp w u v ∧ u.ok ∧ lstP t = lstP u

set_option maxRecDepth 100000 in
set_option maxHeartbeats 400000 in
theorem first_any {t : T} {v : Value} (w : World) (h : Rp w t v) (ok : t.ok) : Calls Tryd.prog 134 #[v] w fun e w' => e = .returned (.string (mk (fstP t))) ∧ w = w' := by
  go_enter Tryd.func134, Tryd.ntmps134
  go_wp2
  go_loop [0] (fun v => relF w t v) (fun v => htIn w v)
  case atStart => exact ⟨t, h, ok, rfl⟩
  case round =>
    obtain ⟨u, hr, oku, e⟩ := hrel
    clear h
    have HE := Lib.hid e
    have HM := Lib.hid (htIn_of hr oku)
    clear e
    by_cases hz : u.ht = 0
    · obtain ⟨s, rfl⟩ : ∃ s, u = .leaf s := ⟨_, leaf_of oku hz⟩
      obtain ⟨b, vl, vr, rfl, ⟨h0, h1, h2, h3, h4, h5, h6⟩, -, -⟩ := hr.unfold (ok_not_nil oku)
      change w.cell? ⟨b, 0, none⟩ = some (.string (mk s)) at h1
      rw [hz] at h6
      clear hr h2 h3 h4 h5 hz
      go_wp2
      go_ret
      exact ⟨by rw [HE.out]; rfl, rfl⟩
    · obtain ⟨l, r, rfl⟩ : ∃ l r, u = .node l r := ⟨_, _, T.node_of_ht (by omega)⟩
      obtain ⟨b, vl, vr, rfl, ⟨h0, h1, h2, h3, h4, h5, h6⟩, hl, -⟩ := hr.unfold (ok_not_nil oku)
      have HR : Hid (relF w t vl) := ⟨l, hl, oku.1, HE.out⟩
      have HL := Lib.hid (htIn_of hl oku.1)
      have hlt := T.L_lt (t := .node l r) (by omega)
      have HX : Hid (l.ht < (T.node l r).ht) := hlt
      have hpos : (0 : Int) < ((T.node l r).ht : Int) := by omega
      clear hr h1 h3 h4 h5 hz hl hlt
      generalize (T.node l r).ht = H at *
      go_wp2
      go_round
      case rel => exact HR.out
      case measure => rw [HM.out, HL.out]; exact HX.out

set_option maxRecDepth 100000 in
set_option maxHeartbeats 400000 in
theorem last_any {t : T} {v : Value} (w : World) (h : Rp w t v) (ok : t.ok) : Calls Tryd.prog 133 #[v] w fun e w' => e = .returned (.string (mk (lstP t))) ∧ w = w' := by
  go_enter Tryd.func133, Tryd.ntmps133
  go_wp2
  go_loop [0] (fun v => relL w t v) (fun v => htIn w v)
  case atStart => exact ⟨t, h, ok, rfl⟩
  case round =>
    obtain ⟨u, hr, oku, e⟩ := hrel
    clear h
    have HE := Lib.hid e
    have HM := Lib.hid (htIn_of hr oku)
    clear e
    by_cases hz : u.ht = 0
    · obtain ⟨s, rfl⟩ : ∃ s, u = .leaf s := ⟨_, leaf_of oku hz⟩
      obtain ⟨b, vl, vr, rfl, ⟨h0, h1, h2, h3, h4, h5, h6⟩, -, -⟩ := hr.unfold (ok_not_nil oku)
      change w.cell? ⟨b, 0, none⟩ = some (.string (mk s)) at h1
      rw [hz] at h6
      clear hr h2 h3 h4 h5 hz
      go_wp2
      go_ret
      exact ⟨by rw [HE.out]; rfl, rfl⟩
    · obtain ⟨l, r, rfl⟩ : ∃ l r, u = .node l r := ⟨_, _, T.node_of_ht (by omega)⟩
      obtain ⟨b, vl, vr, rfl, ⟨h0, h1, h2, h3, h4, h5, h6⟩, -, hl⟩ := hr.unfold (ok_not_nil oku)
      have HR : Hid (relL w t vr) := ⟨r, hl, oku.2.1, HE.out⟩
      have HL := Lib.hid (htIn_of hl oku.2.1)
      have hlt := T.R_lt (t := .node l r) (by omega)
      have HX : Hid (r.ht < (T.node l r).ht) := hlt
      have hpos : (0 : Int) < ((T.node l r).ht : Int) := by omega
      clear hr h1 h2 h4 h5 hz hl hlt
      generalize (T.node l r).ht = H at *
      go_wp2
      go_round
      case rel => exact HR.out
      case measure => rw [HM.out, HL.out]; exact HX.out

/-- The first part and the rest; the rest and the last part. -/
def cutF : T → List UInt8 × T
  | .nil => ([], .nil)
  | .leaf s => (s, .nil)
  | .node l r => ((cutF l).1, link (cutF l).2 r)
def cutL : T → T × List UInt8
  | .nil => (.nil, [])
  | .leaf s => (.nil, s)
  | .node l r => (link l (cutL r).1, (cutL r).2)

theorem link_okn {a b : T} (ha : a.okn) (hb : b.okn) : (link a b).okn ∧ (link a b).txt = a.txt ++ b.txt := by
  rcases ha with rfl | ha
  · rw [link_nil]
    exact ⟨hb, rfl⟩
  rcases hb with rfl | hb
  · rw [link_nil2 (ok_not_nil ha)]
    exact ⟨.inr ha, by simp [T.txt]⟩
  have i := link_of _ (Nat.le_refl _) ha hb
  exact ⟨.inr i.ok, i.txt⟩
theorem okn_by {a : T} : a.by = a.txt.length := T.by_txt a

theorem cutF_ok : ∀ {t : T}, t.ok → okp (cutF t).1 ∧ (cutF t).2.okn ∧ (cutF t).1 ++ (cutF t).2.txt = t.txt ∧ (cutF t).1 = fstP t
  | .leaf s, h => ⟨h, .inl rfl, by simp [cutF, T.txt], rfl⟩
  | .node l r, h => by
    obtain ⟨h1, h2, h3, h4⟩ := cutF_ok h.1
    obtain ⟨k1, k2⟩ := link_okn h2 (b := r) (.inr h.2.1)
    refine ⟨h1, k1, ?_, h4⟩
    show (cutF l).1 ++ (link (cutF l).2 r).txt = l.txt ++ r.txt
    rw [k2, ← h3, List.append_assoc]
theorem cutL_ok : ∀ {t : T}, t.ok → okp (cutL t).2 ∧ (cutL t).1.okn ∧ (cutL t).1.txt ++ (cutL t).2 = t.txt ∧ (cutL t).2 = lstP t
  | .leaf s, h => ⟨h, .inl rfl, by simp [cutL, T.txt], rfl⟩
  | .node l r, h => by
    obtain ⟨h1, h2, h3, h4⟩ := cutL_ok h.2.1
    obtain ⟨k1, k2⟩ := link_okn (a := l) (.inr h.1) h2
    refine ⟨h1, k1, ?_, h4⟩
    show (link l (cutL r).1).txt ++ (cutL r).2 = l.txt ++ r.txt
    rw [k2, ← h3, List.append_assoc]
theorem cutF_by {t : T} (h : t.ok) : (cutF t).1.length + (cutF t).2.by = t.by := by
  obtain ⟨h1, h2, h3, h4⟩ := cutF_ok h
  rw [T.by_txt, T.by_txt, ← h3, List.length_append]
theorem cutL_by {t : T} (h : t.ok) : (cutL t).1.by + (cutL t).2.length = t.by := by
  obtain ⟨h1, h2, h3, h4⟩ := cutL_ok h
  rw [T.by_txt, T.by_txt, ← h3, List.length_append]

def MadeF (w : World) (t : T) (e : Ending) (w' : World) : Prop := ∃ v, e = .returned (.tuple #[.string (mk (cutF t).1), v]) ∧ Rp w' (cutF t).2 v ∧ Below w.heap.size w w'
def MadeL (w : World) (t : T) (e : Ending) (w' : World) : Prop := ∃ v, e = .returned (.tuple #[v, .string (mk (cutL t).2)]) ∧ Rp w' (cutL t).1 v ∧ Below w.heap.size w w'

set_option maxRecDepth 100000 in
set_option maxHeartbeats 400000 in
theorem cutF_any : ∀ {t : T} {v : Value} (w : World), Rp w t v → t.ok → t.by ≤ 1073741824 → Calls Tryd.prog 137 #[v] w (MadeF w t) := by
  intro t
  induction t with
  | nil => intro v w h ok; exact absurd ok id
  | leaf s =>
    intro v w h ok hby
    obtain ⟨b, vl, vr, rfl, ⟨h0, h1, h2, h3, h4, h5, h6⟩, -, -⟩ := h.unfold (ok_not_nil ok)
    change w.cell? ⟨b, 0, none⟩ = some (.string (mk s)) at h1
    change w.cell? ⟨b, 5, none⟩ = some (.int .i64 (0 : Nat)) at h6
    clear h h2 h3 h4 h5
    go_enter Tryd.func137, Tryd.ntmps137
    go_wp2
    go_ret2
    exact ⟨_, rfl, rfl, Below.refl _ _⟩
  | node l r ihl ihr =>
    intro v w h ok hby
    obtain ⟨b, vl, vr, rfl, ⟨h0, h1, h2, h3, h4, h5, h6⟩, hl, hr⟩ := h.unfold (ok_not_nil ok)
    obtain ⟨c1, c2, c3, c4⟩ := cutF_ok ok.1
    have cb := cutF_by ok.1
    have okr := ok.2.1
    have HL := Lib.hid hl
    have HR := Lib.hid hr
    have hne : (((T.node l r).ht : Int) == 0) = false := by
      have : (T.node l r).ht = max l.ht r.ht + 1 := rfl
      rw [beq_eq_false_iff_ne]
      omega
    have e2 : (T.node l r).by = l.by + r.by := rfl
    have IH : Hid (∀ w, Rp w l vl → Calls Tryd.prog 137 #[vl] w (MadeF w l)) := fun w r1 => ihl w r1 ok.1 (by omega)
    have B1 : Hid ((cutF l).2.by + r.by ≤ 1073741824) := by show _ ≤ _; omega
    have h2' := Lib.hid h2
    have h3' := Lib.hid h3
    clear ihl ihr h hl hr h1 h4 h5 c3 c4 cb e2 ok
    generalize (T.node l r).ht = H at *
    go_enter Tryd.func137, Tryd.ntmps137
    go_wp2_with fail
    refine (IH.out _ HL.out).mono ?_
    rintro e w1 ⟨v, rfl, hrp, hb⟩
    have h3n := below_cell hb h0 h3
    clear h2 h3
    go_wp2_with fail
    refine (link_any _ _ (Nat.lt_succ_self _) hrp (Rp.below hb (Nat.le_refl _) HR.out) c2 (.inr okr) B1.out).mono ?_
    rintro e w2 ⟨v2, rfl, hrp2, hb2⟩
    go_wp2_with fail
    go_ret2
    exact ⟨_, rfl, hrp2, below_more hb hb2⟩

set_option maxRecDepth 100000 in
set_option maxHeartbeats 400000 in
theorem cutL_any : ∀ {t : T} {v : Value} (w : World), Rp w t v → t.ok → t.by ≤ 1073741824 → Calls Tryd.prog 136 #[v] w (MadeL w t) := by
  intro t
  induction t with
  | nil => intro v w h ok; exact absurd ok id
  | leaf s =>
    intro v w h ok hby
    obtain ⟨b, vl, vr, rfl, ⟨h0, h1, h2, h3, h4, h5, h6⟩, -, -⟩ := h.unfold (ok_not_nil ok)
    change w.cell? ⟨b, 0, none⟩ = some (.string (mk s)) at h1
    change w.cell? ⟨b, 5, none⟩ = some (.int .i64 (0 : Nat)) at h6
    clear h h2 h3 h4 h5
    go_enter Tryd.func136, Tryd.ntmps136
    go_wp2_with fail
    go_quiet (fail)
    go_wp2_with fail
    go_ret2
    exact ⟨_, rfl, rfl, below_drews (Below.refl _ _) _⟩
  | node l r ihl ihr =>
    intro v w h ok hby
    obtain ⟨b, vl, vr, rfl, ⟨h0, h1, h2, h3, h4, h5, h6⟩, hl, hr⟩ := h.unfold (ok_not_nil ok)
    obtain ⟨c1, c2, c3, c4⟩ := cutL_ok ok.2.1
    have cb := cutL_by ok.2.1
    have okl := ok.1
    have HL := Lib.hid hl
    have HR := Lib.hid hr
    have hne : (((T.node l r).ht : Int) == 0) = false := by
      have : (T.node l r).ht = max l.ht r.ht + 1 := rfl
      rw [beq_eq_false_iff_ne]
      omega
    have e2 : (T.node l r).by = l.by + r.by := rfl
    have IH : Hid (∀ w, Rp w r vr → Calls Tryd.prog 136 #[vr] w (MadeL w r)) := fun w r1 => ihr w r1 ok.2.1 (by omega)
    have B1 : Hid (l.by + (cutL r).1.by ≤ 1073741824) := by show _ ≤ _; omega
    clear ihl ihr h hl hr h1 h4 h5 c3 c4 cb e2 ok
    generalize (T.node l r).ht = H at *
    go_enter Tryd.func136, Tryd.ntmps136
    go_wp2_with fail
    refine (IH.out _ HR.out).mono ?_
    rintro e w1 ⟨v, rfl, hrp, hb⟩
    have h2n := below_cell hb h0 h2
    clear h2 h3
    go_wp2_with fail
    refine (link_any _ _ (Nat.lt_succ_self _) (Rp.below hb (Nat.le_refl _) HL.out) hrp (.inr okl) c2 B1.out).mono ?_
    rintro e w2 ⟨v2, rfl, hrp2, hb2⟩
    go_wp2_with fail
    go_ret2
    exact ⟨_, rfl, hrp2, below_more hb hb2⟩
end Go.Proofs.YtcpdoicbekcpeaaDoor.Con

namespace Go.Proofs.YtcpdoicbekcpeaaDoor.Con
open Go.RowKit Go.Lib Go.Proofs.YtcpdoicbekcpeaaDoor.Let Go.Proofs.YtcpdoicbekcpeaaDoor.Tree

def join (a b : T) : T :=
  if a.by = 0 then b else if b.by = 0 then a
  else if 64 < (lstP a).length + (fstP b).length then link a b
  else link (link (cutL a).1 (.leaf ((cutL a).2 ++ (cutF b).1))) (cutF b).2

theorem by_zero {a : T} (h : a.okn) (h0 : a.by = 0) : a = .nil := by
  rcases h with rfl | h
  · rfl
  · have := T.ok_by h
    omega
theorem by_pos {a : T} (h : a.okn) (h0 : ¬ a.by = 0) : a.ok := by
  rcases h with rfl | h
  · exact absurd rfl h0
  · exact h
theorem glue {x y : List UInt8} (hx : okp x) (hy : okp y) (h : ¬ 64 < x.length + y.length) : okp (x ++ y) :=
  ⟨fun e => hx.1 (List.append_eq_nil_iff.1 e).1, by rw [List.length_append]; omega, (right_app _ _ hx.2.2).2 hy.2.2⟩

theorem join_okn {a b : T} (ha : a.okn) (hb : b.okn) : (join a b).okn ∧ (join a b).txt = a.txt ++ b.txt := by
  unfold join
  by_cases h1 : a.by = 0
  · obtain rfl := by_zero ha h1
    rw [if_pos h1]
    exact ⟨hb, rfl⟩
  by_cases h2 : b.by = 0
  · obtain rfl := by_zero hb h2
    rw [if_neg h1, if_pos h2]
    exact ⟨ha, by simp [T.txt]⟩
  rw [if_neg h1, if_neg h2]
  by_cases h3 : 64 < (lstP a).length + (fstP b).length
  · rw [if_pos h3]
    exact link_okn ha hb
  · rw [if_neg h3]
    obtain ⟨p1, p2, p3, p4⟩ := cutL_ok (by_pos ha h1)
    obtain ⟨q1, q2, q3, q4⟩ := cutF_ok (by_pos hb h2)
    have hg : okp ((cutL a).2 ++ (cutF b).1) := glue p1 q1 (by rw [p4, q4]; exact h3)
    obtain ⟨l1, l2⟩ := link_okn p2 (b := .leaf ((cutL a).2 ++ (cutF b).1)) (.inr hg)
    obtain ⟨m1, m2⟩ := link_okn l1 q2
    refine ⟨m1, ?_⟩
    rw [m2, l2, ← p3, ← q3]
    simp [T.txt, List.append_assoc]
theorem join_by {a b : T} (ha : a.okn) (hb : b.okn) : (join a b).by = a.by + b.by := by
  rw [T.by_txt, (join_okn ha hb).2, List.length_append, ← T.by_txt, ← T.by_txt]
theorem link_byn {a b : T} (ha : a.okn) (hb : b.okn) : (link a b).by = a.by + b.by := by
  rw [T.by_txt, (link_okn ha hb).2, List.length_append, ← T.by_txt, ← T.by_txt]

theorem leaf_mk (l : List UInt8) (w : World) (h : l.length ≤ maxLen) : Calls Tryd.prog 122 #[.string (mk l)] w (Made w (.leaf l)) := by
  have := leaf_any (mk l) w (by rw [mk_size]; exact h)
  rw [Let.mk_data] at this
  exact this
theorem mk_app (x y : List UInt8) : mk x ++ mk y = mk (x ++ y) := by rw [mk_append, Let.mk_data, Let.mk_data]

set_option maxRecDepth 100000 in
set_option maxHeartbeats 1000000 in
theorem join_any {a b : T} {va vb : Value} (w : World) (ha : Rp w a va) (hb : Rp w b vb) (na : a.okn) (nb : b.okn) (hby : a.by + b.by ≤ 1073741824) :
    Calls Tryd.prog 117 #[va, vb] w (Made w (join a b)) := by
  have HA := Lib.hid ha
  have HB := Lib.hid hb
  clear ha hb
  by_cases h1 : a.by = 0
  · have hj : join a b = b := by unfold join; rw [if_pos h1]
    rw [hj]
    have z1 : ((a.by : Int) == 0) = true := by simp [h1]
    clear hj h1
    go_enter Tryd.func117, Tryd.ntmps117
    go_wp2_with fail
    refine (bytes_any _ HA.out).mono ?_
    rintro e w1 ⟨rfl, rfl⟩
    go_wp2_with fail
    go_ret
    exact ⟨_, rfl, HB.out, Below.refl _ _⟩
  have oka := by_pos na h1
  have z1 : ((a.by : Int) == 0) = false := by rw [beq_eq_false_iff_ne]; omega
  by_cases h2 : b.by = 0
  · have hj : join a b = a := by unfold join; rw [if_neg h1, if_pos h2]
    rw [hj]
    have z2 : ((b.by : Int) == 0) = true := by simp [h2]
    clear hj h1 h2
    go_enter Tryd.func117, Tryd.ntmps117
    go_wp2_with fail
    refine (bytes_any _ HA.out).mono ?_
    rintro e w1 ⟨rfl, rfl⟩
    go_wp2_with fail
    refine (bytes_any _ HB.out).mono ?_
    rintro e w1 ⟨rfl, rfl⟩
    go_wp2_with fail
    go_ret
    exact ⟨_, rfl, HA.out, Below.refl _ _⟩
  have okb := by_pos nb h2
  have z2 : ((b.by : Int) == 0) = false := by rw [beq_eq_false_iff_ne]; omega
  have la : (mk (lstP a)).size = (lstP a).length := mk_size _
  have lb : (mk (fstP b)).size = (fstP b).length := mk_size _
  obtain ⟨p1, p2, p3, p4⟩ := cutL_ok oka
  obtain ⟨q1, q2, q3, q4⟩ := cutF_ok okb
  have s1 : (lstP a).length ≤ 64 := by rw [← p4]; exact p1.2.1
  have s2 : (fstP b).length ≤ 64 := by rw [← q4]; exact q1.2.1
  by_cases h3 : 64 < (lstP a).length + (fstP b).length
  · have hj : join a b = link a b := by unfold join; rw [if_neg h1, if_neg h2, if_pos h3]
    rw [hj]
    have z3 : (64 : Int) < ((lstP a).length : Int) + ((fstP b).length : Int) := by omega
    clear hj h1 h2 h3 p1 p2 p3 p4 q1 q2 q3 q4
    go_enter Tryd.func117, Tryd.ntmps117
    go_wp2_with fail
    refine (bytes_any _ HA.out).mono ?_
    rintro e w1 ⟨rfl, rfl⟩
    go_wp2_with fail
    refine (bytes_any _ HB.out).mono ?_
    rintro e w1 ⟨rfl, rfl⟩
    go_wp2_with fail
    refine (last_any _ HA.out oka).mono ?_
    rintro e w1 ⟨rfl, rfl⟩
    go_wp2_with fail
    refine (first_any _ HB.out okb).mono ?_
    rintro e w1 ⟨rfl, rfl⟩
    go_wp2_with fail
    refine (link_any _ _ (Nat.lt_succ_self _) HA.out HB.out na nb hby).mono ?_
    rintro e w1 ⟨v, rfl, hr, hb⟩
    go_wp2_with fail
    go_ret
    exact ⟨_, rfl, hr, hb⟩
  · have hj : join a b = link (link (cutL a).1 (.leaf ((cutL a).2 ++ (cutF b).1))) (cutF b).2 := by unfold join; rw [if_neg h1, if_neg h2, if_neg h3]
    rw [hj]
    have z3 : ¬ (64 : Int) < ((lstP a).length : Int) + ((fstP b).length : Int) := by omega
    have hg : okp ((cutL a).2 ++ (cutF b).1) := glue p1 q1 (by rw [p4, q4]; exact h3)
    have y1 := cutL_by oka
    have y2 := cutF_by okb
    have y3 := link_byn p2 (b := .leaf ((cutL a).2 ++ (cutF b).1)) (.inr hg)
    have y4 : (T.leaf ((cutL a).2 ++ (cutF b).1)).by = (cutL a).2.length + (cutF b).1.length := by simp [T.by]
    have B1 : Hid ((cutL a).1.by + (T.leaf ((cutL a).2 ++ (cutF b).1)).by ≤ 1073741824) := by show _ ≤ _; omega
    have B2 : Hid ((link (cutL a).1 (.leaf ((cutL a).2 ++ (cutF b).1))).by + (cutF b).2.by ≤ 1073741824) := by show _ ≤ _; omega
    have B3 : Hid (((cutL a).2 ++ (cutF b).1).length ≤ maxLen) := by show _ ≤ _; have := hg.2.1; unfold maxLen; omega
    obtain ⟨l1, -⟩ := link_okn p2 (b := .leaf ((cutL a).2 ++ (cutF b).1)) (.inr hg)
    have r1 : ∀ w : World, (Op.stringOp .add (mk (cutL a).2) (mk (cutF b).1)).run Tryd.prog w = .ok (.string (mk ((cutL a).2 ++ (cutF b).1))) w := fun w => by
      rw [← mk_app]
      exact run_string_add_sum w _ _ (by rw [mk_size, mk_size]; have := p1.2.1; have := q1.2.1; omega)
    have ba : a.by ≤ 1073741824 := by omega
    have bb : b.by ≤ 1073741824 := by omega
    clear hj h1 h2 h3 p3 p4 q3 q4 y1 y2 y3 y4 p1 q1
    go_enter Tryd.func117, Tryd.ntmps117
    go_wp2_with fail
    refine (bytes_any _ HA.out).mono ?_
    rintro e w1 ⟨rfl, rfl⟩
    go_wp2_with fail
    refine (bytes_any _ HB.out).mono ?_
    rintro e w1 ⟨rfl, rfl⟩
    go_wp2_with fail
    refine (last_any _ HA.out oka).mono ?_
    rintro e w1 ⟨rfl, rfl⟩
    go_wp2_with fail
    refine (first_any _ HB.out okb).mono ?_
    rintro e w1 ⟨rfl, rfl⟩
    go_wp2_with fail
    refine (cutL_any _ HA.out oka ba).mono ?_
    rintro e w1 ⟨v, rfl, hr, hb⟩
    go_wp2_with fail
    refine (cutF_any _ (Rp.below hb (Nat.le_refl _) HB.out) okb bb).mono ?_
    rintro e w2 ⟨v2, rfl, hr2, hb2⟩
    go_wp2_with fail
    refine (leaf_mk _ _ B3.out).mono ?_
    rintro e w3 ⟨v3, rfl, hr3, hb3⟩
    go_wp2_with fail
    refine (link_any _ _ (Nat.lt_succ_self _) (Rp.below hb3 (Nat.le_refl _) (Rp.below hb2 (Nat.le_refl _) hr)) hr3 p2 (.inr hg) B1.out).mono ?_
    rintro e w4 ⟨v4, rfl, hr4, hb4⟩
    go_wp2_with fail
    refine (link_any _ _ (Nat.lt_succ_self _) hr4 (Rp.below hb4 (Nat.le_refl _) (Rp.below hb3 (Nat.le_refl _) hr2)) l1 q2 B2.out).mono ?_
    rintro e w5 ⟨v5, rfl, hr5, hb5⟩
    go_wp2_with fail
    go_ret
    exact ⟨_, rfl, hr5, below_more (below_more (below_more (below_more hb hb2) hb3) hb4) hb5⟩

/-- The letters ahead of a place, and the others. -/
def split : T → Int → T × T
  | .nil, _ => (.nil, .nil)
  | .leaf s, at' => if at' ≤ 0 then (.nil, .leaf s) else if (cnt s : Int) ≤ at' then (.leaf s, .nil) else (.leaf (s.take (byt at'.toNat s)), .leaf (s.drop (byt at'.toNat s)))
  | .node l r, at' => if at' ≤ 0 then (.nil, .node l r) else if ((l.cn + r.cn : Nat) : Int) ≤ at' then (.node l r, .nil)
    else if at' ≤ l.cn then ((split l at').1, join (split l at').2 r) else (join l (split r (at' - l.cn)).1, (split r (at' - l.cn)).2)

structure SplitOk (t : T) (a : Int) : Prop where
  ok1 : (split t a).1.okn
  ok2 : (split t a).2.okn
  t1 : (split t a).1.txt = t.txt.take (byt a.toNat t.txt)
  t2 : (split t a).2.txt = t.txt.drop (byt a.toNat t.txt)

theorem split_ok : ∀ {t : T} (a : Int), t.okn → SplitOk t a := by
  intro t
  induction t with
  | nil => intro a _; exact ⟨.inl rfl, .inl rfl, by simp [split, T.txt], by simp [split, T.txt]⟩
  | leaf s =>
    intro a h
    have hs : okp s := by
      rcases h with h | h
      · cases h
      · exact h
    by_cases h0 : a ≤ 0
    · have e : split (.leaf s) a = (.nil, .leaf s) := by simp only [split]; rw [if_pos h0]
      have z : a.toNat = 0 := by omega
      refine ⟨by rw [e]; exact .inl rfl, by rw [e]; exact h, ?_, ?_⟩ <;> rw [e, z, byt_zero] <;> rfl
    · by_cases h1 : (cnt s : Int) ≤ a
      · have e : split (.leaf s) a = (.leaf s, .nil) := by simp only [split]; rw [if_neg h0, if_pos h1]
        have z : byt a.toNat s = s.length := byt_all (by omega)
        refine ⟨by rw [e]; exact h, by rw [e]; exact .inl rfl, ?_, ?_⟩ <;> rw [e] <;> simp [T.txt, z]
      · have e : split (.leaf s) a = (.leaf (s.take (byt a.toNat s)), .leaf (s.drop (byt a.toNat s))) := by simp only [split]; rw [if_neg h0, if_neg h1]
        have hl := byt_lt (k := a.toNat) (l := s) (by omega)
        have hg := byt_ge a.toNat s hl
        obtain ⟨h2, h3, h4⟩ := hs
        refine ⟨?_, ?_, by rw [e]; rfl, by rw [e]; rfl⟩ <;> rw [e] <;> refine .inr ⟨?_, ?_, ?_⟩
        · intro e2
          have := congrArg List.length e2
          rw [List.length_take, List.length_nil] at this
          omega
        · rw [List.length_take]
          omega
        · exact (right_take _ s h4).1
        · intro e2
          have := congrArg List.length e2
          rw [List.length_drop, List.length_nil] at this
          omega
        · rw [List.length_drop]
          omega
        · exact right_drop _ s h4
  | node l r il ir =>
    intro a h
    have hs : (T.node l r).ok := by
      rcases h with h | h
      · cases h
      · exact h
    have hc := T.cn_txt hs
    have hcl := T.cn_txt hs.1
    have hrl := T.ok_right hs.1
    have hn : (T.node l r).cn = l.cn + r.cn := rfl
    have ht : (T.node l r).txt = l.txt ++ r.txt := rfl
    by_cases h0 : a ≤ 0
    · have e : split (.node l r) a = (.nil, .node l r) := by simp only [split]; rw [if_pos h0]
      have z : a.toNat = 0 := by omega
      refine ⟨by rw [e]; exact .inl rfl, by rw [e]; exact h, ?_, ?_⟩ <;> rw [e, z, byt_zero] <;> rfl
    by_cases h1 : ((l.cn + r.cn : Nat) : Int) ≤ a
    · have e : split (.node l r) a = (.node l r, .nil) := by simp only [split]; rw [if_neg h0, if_pos h1]
      have z : byt a.toNat (T.node l r).txt = (T.node l r).txt.length := byt_all (by omega)
      refine ⟨by rw [e]; exact h, by rw [e]; exact .inl rfl, ?_, ?_⟩ <;> rw [e, z]
      · rw [List.take_length]
      · rw [List.drop_length]; rfl
    by_cases h2 : a ≤ l.cn
    · have e : split (.node l r) a = ((split l a).1, join (split l a).2 r) := by simp only [split]; rw [if_neg h0, if_neg h1, if_pos h2]
      obtain ⟨o1, o2, t1, t2⟩ := il a (.inr hs.1)
      obtain ⟨j1, j2⟩ := join_okn o2 (b := r) (.inr hs.2.1)
      have hb : byt a.toNat (l.txt ++ r.txt) = byt a.toNat l.txt := byt_app_left _ _ hrl _ (by omega)
      have hle := byt_le a.toNat l.txt
      refine ⟨by rw [e]; exact o1, by rw [e]; exact j1, ?_, ?_⟩ <;> rw [e]
      · show (split l a).1.txt = _
        rw [t1, ht, hb, List.take_append_of_le_length hle]
      · show (join (split l a).2 r).txt = _
        rw [j2, t2, ht, hb, List.drop_append_of_le_length hle]
    · have e : split (.node l r) a = (join l (split r (a - l.cn)).1, (split r (a - l.cn)).2) := by simp only [split]; rw [if_neg h0, if_neg h1, if_neg h2]
      obtain ⟨o1, o2, t1, t2⟩ := ir (a - l.cn) (.inr hs.2.1)
      obtain ⟨j1, j2⟩ := join_okn (a := l) (.inr hs.1) o1
      have hb : byt a.toNat (l.txt ++ r.txt) = l.txt.length + byt (a - l.cn).toNat r.txt := by
        have := byt_app_right r.txt _ hrl (a - l.cn).toNat
        rw [← this]
        congr 1
        omega
      refine ⟨by rw [e]; exact j1, by rw [e]; exact o2, ?_, ?_⟩ <;> rw [e]
      · show (join l (split r (a - l.cn)).1).txt = _
        rw [j2, t1, ht, hb, List.take_length_add_append]
      · show (split r (a - l.cn)).2.txt = _
        rw [t2, ht, hb, List.drop_length_add_append]
theorem split_by {t : T} (a : Int) (h : t.okn) : (split t a).1.by + (split t a).2.by = t.by := by
  obtain ⟨-, -, t1, t2⟩ := split_ok a h
  rw [T.by_txt, T.by_txt, T.by_txt, t1, t2, ← List.length_append, List.take_append_drop]

def Made2 (w : World) (t u : T) (e : Ending) (w' : World) : Prop := ∃ v v2, e = .returned (.tuple #[v, v2]) ∧ Rp w' t v ∧ Rp w' u v2 ∧ Below w.heap.size w w'

theorem split_low {t : T} {a : Int} (h : a ≤ 0) (n : t.okn) : split t a = (.nil, t) := by
  cases t with
  | nil => rfl
  | leaf s => simp only [split]; rw [if_pos h]
  | node l r => simp only [split]; rw [if_pos h]
theorem split_high {t : T} {a : Int} (h0 : ¬ a ≤ 0) (h : (t.cn : Int) ≤ a) (n : t.okn) : split t a = (t, .nil) := by
  cases t with
  | nil => rfl
  | leaf s =>
    have h' : (cnt s : Int) ≤ a := h
    simp only [split]; rw [if_neg h0, if_pos h']
  | node l r =>
    have h' : ((l.cn + r.cn : Nat) : Int) ≤ a := h
    simp only [split]; rw [if_neg h0, if_pos h']

set_option maxRecDepth 100000 in
set_option maxHeartbeats 1000000 in
theorem split_low_any {t : T} {v : Value} (w : World) (a : Int) (h : Rp w t v) (h0 : a ≤ 0) (n : t.okn) (ha : -9223372036854775808 ≤ a) :
    Calls Tryd.prog 115 #[v, .int .i64 a] w (Made2 w (split t a).1 (split t a).2) := by
  rw [split_low h0 n]
  have H := Lib.hid h
  clear h
  go_enter Tryd.func115, Tryd.ntmps115
  go_wp2_with fail
  go_ret2
  exact ⟨_, _, rfl, rfl, H.out, Below.refl _ _⟩

set_option maxRecDepth 100000 in
set_option maxHeartbeats 1000000 in
theorem split_high_any {t : T} {v : Value} (w : World) (a : Int) (h : Rp w t v) (h0 : ¬ a ≤ 0) (h1 : (t.cn : Int) ≤ a) (n : t.okn) :
    Calls Tryd.prog 115 #[v, .int .i64 a] w (Made2 w (split t a).1 (split t a).2) := by
  rw [split_high h0 h1 n]
  have H := Lib.hid h
  clear h
  go_enter Tryd.func115, Tryd.ntmps115
  go_wp2_with fail
  refine (len_any _ H.out).mono ?_
  rintro e w1 ⟨rfl, rfl⟩
  go_wp2_with fail
  go_ret2
  exact ⟨_, _, rfl, H.out, rfl, Below.refl _ _⟩

set_option maxRecDepth 100000 in
set_option maxHeartbeats 1000000 in
theorem split_leaf_any {s : List UInt8} {v : Value} (w : World) (a : Int) (h : Rp w (.leaf s) v) (ok : okp s) (h0 : ¬ a ≤ 0) (h1 : ¬ (cnt s : Int) ≤ a) :
    Calls Tryd.prog 115 #[v, .int .i64 a] w (Made2 w (split (.leaf s) a).1 (split (.leaf s) a).2) := by
  have e : split (.leaf s) a = (.leaf (s.take (byt a.toNat s)), .leaf (s.drop (byt a.toNat s))) := by simp only [split]; rw [if_neg h0, if_neg h1]
  rw [e]
  clear e
  have hl := byt_lt (k := a.toNat) (l := s) (by omega)
  have hsz := ok.2.1
  have ms : (mk s).size = s.length := mk_size s
  have HN : Hid (Rp w (.leaf s) v) := h
  obtain ⟨b, vl, vr, rfl, ⟨g0, g1, g2, g3, g4, g5, g6⟩, -, -⟩ := h.unfold (t := .leaf s) (by intro e; cases e)
  change w.cell? ⟨b, 0, none⟩ = some (.string (mk s)) at g1
  change w.cell? ⟨b, 5, none⟩ = some (.int .i64 (0 : Nat)) at g6
  have hcn : (T.leaf s).cn = cnt s := rfl
  have CB : Hid (∀ w, Calls Tryd.prog 132 #[.string (mk s), .int .i64 a] w fun e w' => e = .returned (.int .i64 (byt a.toNat s)) ∧ Below w.heap.size w w') := fun w => by
    have hc := cnt_len s
    have := byte_any (mk s) a w (by rw [mk_size]; unfold maxLen; omega) (by omega) (by omega)
    rw [Let.mk_data] at this
    exact this
  have x1 : (mk s).extract 0 (byt a.toNat s) = mk (s.take (byt a.toNat s)) := by rw [mk_extract, Let.mk_data, List.drop_zero]
  have x2 : (mk s).extract (byt a.toNat s) s.length = mk (s.drop (byt a.toNat s)) := by rw [mk_extract, Let.mk_data, List.take_length]
  have C1 : Hid ((s.take (byt a.toNat s)).length ≤ maxLen) := by show _ ≤ _; rw [List.length_take]; unfold maxLen; omega
  have C2 : Hid ((s.drop (byt a.toNat s)).length ≤ maxLen) := by show _ ≤ _; rw [List.length_drop]; unfold maxLen; omega
  have hD : Hid (∀ n, Below w.heap.size w (w.drewN n)) := fun n => below_drews (Below.refl _ _) n
  clear h g2 g3 g4 g5 ok
  generalize byt a.toNat s = k at *
  generalize cnt s = cs at *
  go_enter Tryd.func115, Tryd.ntmps115
  go_wp2_with fail
  refine (len_any _ HN.out).mono ?_
  rintro e w1 ⟨rfl, rfl⟩
  go_wp2_with fail
  refine (CB.out _).mono ?_
  rintro e w1 ⟨rfl, hb⟩
  have g1' := below_cell hb g0 g1
  have KP : Hid (∀ w', Below w.heap.size w w' → Below w.heap.size w w' ∧ w'.cell? ⟨b, 0, none⟩ = some (.string (mk s))) :=
    fun w' h => ⟨h, below_cell h g0 g1⟩
  have k0 : (0 : Int) ≤ (k : Int) := by omega
  have k1 : (k : Int) ≤ (s.length : Int) := by omega
  go_wp2_with fail
  go_region_held3 (fun w' => Below w.heap.size w w' ∧ w'.cell? ⟨b, 0, none⟩ = some (.string (mk s)))
    ((refine KP.out _ ?_; focus ((repeat first | assumption | exact hD.out _ | exact Below.refl _ _ | apply Below.drew | apply below_drews); done)))
    (first
      | (go_at_call 122; go_split_ands; (with_reducible refine (leaf_mk (s.take k) _ C1.out).mono ?_); rintro e w2 ⟨v, rfl, hr, hb2⟩; have hb1 := below_more (w := w) (by (repeat first | assumption | exact hD.out _ | exact Below.refl _ _ | apply Below.drew | apply below_drews)) hb2)
      | (go_at_call 122; go_split_ands; (with_reducible refine (leaf_mk (s.drop k) _ C2.out).mono ?_); rintro e w3 ⟨v3, rfl, hr3, hb3⟩; have hb4 := below_more (w := w) (by (repeat first | assumption | exact hD.out _ | exact Below.refl _ _ | apply Below.drew | apply below_drews)) hb3))
  go_wp2_with fail
  go_ret2
  exact ⟨_, _, rfl, Rp.below hb3 (Nat.le_refl _) hr, hr3, hb4⟩

set_option maxRecDepth 100000 in
set_option maxHeartbeats 1000000 in
theorem split_any : ∀ {t : T} {v : Value} (w : World) (a : Int), Rp w t v → t.okn → t.by ≤ 1073741824 → -9223372036854775808 ≤ a → a ≤ 9223372036854775807 →
    Calls Tryd.prog 115 #[v, .int .i64 a] w (Made2 w (split t a).1 (split t a).2) := by
  intro t
  induction t with
  | nil =>
    intro v w a h n hby a1 a2
    by_cases h0 : a ≤ 0
    · exact split_low_any w a h h0 n a1
    · exact split_high_any w a h h0 (by simp only [T.cn]; omega) n
  | leaf s =>
    intro v w a h n hby a1 a2
    have hs : okp s := by
      rcases n with h | h
      · cases h
      · exact h
    by_cases h0 : a ≤ 0
    · exact split_low_any w a h h0 n a1
    by_cases h1 : (cnt s : Int) ≤ a
    · exact split_high_any w a h h0 h1 n
    · exact split_leaf_any w a h hs h0 h1
  | node l r il ir =>
    intro v w a h n hby a1 a2
    by_cases h0 : a ≤ 0
    · exact split_low_any w a h h0 n a1
    by_cases h1 : ((T.node l r).cn : Int) ≤ a
    · exact split_high_any w a h h0 h1 n
    have hs : (T.node l r).ok := by
      rcases n with h | h
      · cases h
      · exact h
    have hn : (T.node l r).cn = l.cn + r.cn := rfl
    have ey : (T.node l r).by = l.by + r.by := rfl
    have cl := T.cn_by l
    have cr := T.cn_by r
    have hht : (T.node l r).ht = max l.ht r.ht + 1 := rfl
    have h1' : ¬ ((l.cn + r.cn : Nat) : Int) ≤ a := h1
    have HN : Hid (Rp w (.node l r) v) := h
    have hD : Hid (∀ n, Below w.heap.size w (w.drewN n)) := fun n => below_drews (Below.refl _ _) n
    obtain ⟨b, vl, vr, rfl, ⟨g0, g1, g2, g3, g4, g5, g6⟩, hl, hr⟩ := h.unfold (ok_not_nil hs)
    change Rp w l vl at hl
    change Rp w r vr at hr
    have HL := Lib.hid hl
    have HR := Lib.hid hr
    obtain ⟨bl, vll, vlr, rfl, ⟨k0, k1, k2, k3, k4, k5, k6⟩, -, -⟩ := hl.unfold (ok_not_nil hs.1)
    have hne : (((T.node l r).ht : Int) == 0) = false := by rw [beq_eq_false_iff_ne]; omega
    by_cases h2 : a ≤ l.cn
    · have e : split (.node l r) a = ((split l a).1, join (split l a).2 r) := by simp only [split]; rw [if_neg h0, if_neg h1', if_pos h2]
      rw [e]
      have S := split_ok a (t := l) (.inr hs.1)
      have sb := split_by a (t := l) (.inr hs.1)
      have IH : Hid (∀ w, Rp w l (.pointer (some ⟨bl, 0, none⟩)) → Calls Tryd.prog 115 #[.pointer (some ⟨bl, 0, none⟩), .int .i64 a] w (Made2 w (split l a).1 (split l a).2)) := fun w r1 => il w a r1 (.inr hs.1) (by omega) a1 a2
      have B1 : Hid ((split l a).2.by + r.by ≤ 1073741824) := by show _ ≤ _; omega
      have okr : r.okn := .inr hs.2.1
      have O2 := S.ok2
      have KP : Hid (∀ w', Below w.heap.size w w' → w'.cell? ⟨b, 2, none⟩ = some vr) := fun w' h => below_cell h g0 g3
      have h1z : ¬ ((T.node l r).cn : Int) ≤ a := h1
      clear il ir h hl hr g1 g4 g5 k1 k2 k3 k5 k6 e sb S h1 hs ey hn hht
      generalize (T.node l r).ht = H at *
      go_enter Tryd.func115, Tryd.ntmps115
      go_wp2_with fail
      refine (len_any _ HN.out).mono ?_
      rintro e w1 ⟨rfl, rfl⟩
      go_wp2_with fail
      refine (IH.out _ HL.out).mono ?_
      rintro e w1 ⟨v1, v2, rfl, hr1, hr2, hb⟩
      have g3' := KP.out _ hb
      clear g2 g3 k4 g6
      go_wp2_with fail
      refine (join_any _ hr2 (Rp.below hb (Nat.le_refl _) HR.out) O2 okr B1.out).mono ?_
      rintro e w2 ⟨v3, rfl, hr3, hb2⟩
      go_wp2_with fail
      go_ret2
      exact ⟨_, _, rfl, Rp.below hb2 (Nat.le_refl _) hr1, hr3, below_more hb hb2⟩
    · have e : split (.node l r) a = (join l (split r (a - l.cn)).1, (split r (a - l.cn)).2) := by simp only [split]; rw [if_neg h0, if_neg h1', if_neg h2]
      rw [e]
      have S := split_ok (a - l.cn) (t := r) (.inr hs.2.1)
      have sb := split_by (a - l.cn) (t := r) (.inr hs.2.1)
      have IH : Hid (∀ w, Rp w r vr → Calls Tryd.prog 115 #[vr, .int .i64 (a - l.cn)] w (Made2 w (split r (a - l.cn)).1 (split r (a - l.cn)).2)) := fun w r1 => ir w (a - l.cn) r1 (.inr hs.2.1) (by omega) (by omega) (by omega)
      have B1 : Hid (l.by + (split r (a - l.cn)).1.by ≤ 1073741824) := by show _ ≤ _; omega
      have okl : l.okn := .inr hs.1
      have O2 := S.ok1
      have KP : Hid (∀ w', Below w.heap.size w w' → Below w.heap.size w w' ∧ w'.cell? ⟨b, 1, none⟩ = some (.pointer (some ⟨bl, 0, none⟩)) ∧ w'.cell? ⟨b, 2, none⟩ = some vr ∧ w'.cell? ⟨bl, 3, none⟩ = some (.int .i64 l.cn)) := fun w' h => ⟨h, below_cell h g0 g2, below_cell h g0 g3, below_cell h k0 k4⟩
      have h1z : ¬ ((T.node l r).cn : Int) ≤ a := h1
      have e1 : IntKind.i64.wrap (a - (l.cn : Int)) = a - l.cn := IntWalk.i64_in _ (by omega)
      have e2 : decide (a ≤ (l.cn : Int)) = false := by simp; omega
      clear il ir h hl hr g1 g4 g5 k1 k2 k3 k5 k6 e sb S h1 hs ey hn hht
      generalize (T.node l r).ht = H at *
      go_enter Tryd.func115, Tryd.ntmps115
      go_wp2_with fail
      refine (len_any _ HN.out).mono ?_
      rintro e w1 ⟨rfl, rfl⟩
      go_wp2_with fail
      go_region_held3 (fun w' => Below w.heap.size w w' ∧ w'.cell? ⟨b, 1, none⟩ = some (.pointer (some ⟨bl, 0, none⟩)) ∧ w'.cell? ⟨b, 2, none⟩ = some vr ∧ w'.cell? ⟨bl, 3, none⟩ = some (.int .i64 l.cn))
        ((refine KP.out _ ?_; focus ((repeat first | assumption | exact hD.out _ | exact Below.refl _ _ | apply Below.drew | apply below_drews); done)))
        (first
          | (go_at_call 115; go_split_ands; (with_reducible refine (IH.out _ ?_).mono ?_); (focus (refine Rp.below (w := w) ?_ (Nat.le_refl _) HR.out; (repeat first | assumption | exact hD.out _ | exact Below.refl _ _ | apply Below.drew | apply below_drews); done)); rintro e w1 ⟨v1, v2, rfl, hr1, hr2, hb⟩; have hb1 := below_more (w := w) (by (repeat first | assumption | exact hD.out _ | exact Below.refl _ _ | apply Below.drew | apply below_drews)) hb))
      have g2' := (KP.out _ hb1).2.1
      clear g2 g3 k4 g6
      go_wp2_with fail
      refine (join_any _ (Rp.below hb1 (Nat.le_refl _) HL.out) hr1 okl O2 B1.out).mono ?_
      rintro e w2 ⟨v3, rfl, hr3, hb2⟩
      go_wp2_with fail
      go_ret2
      exact ⟨_, _, rfl, hr3, Rp.below hb2 (Nat.le_refl _) hr2, below_more hb1 hb2⟩

/-- Put, Drop, Cut. -/
def putT (t : T) (a : Int) (u : T) : T := join (join (split t a).1 u) (split t a).2
def cutT (t : T) (a b : Int) : T := (split (split t b).1 a).2
def dropT (t : T) (a b : Int) : T := if b ≤ a then t else join (split t a).1 (split t b).2

theorem putT_ok {t u : T} (a : Int) (ht : t.okn) (hu : u.okn) : (putT t a u).okn ∧ (putT t a u).txt = put t.txt a u.txt := by
  obtain ⟨o1, o2, t1, t2⟩ := split_ok a ht
  obtain ⟨j1, j2⟩ := join_okn o1 hu
  obtain ⟨k1, k2⟩ := join_okn j1 o2
  refine ⟨k1, ?_⟩
  unfold putT put
  rw [k2, j2, t1, t2]
theorem cutT_ok {t : T} (a b : Int) (ht : t.okn) : (cutT t a b).okn ∧ (cutT t a b).txt = cut t.txt a b := by
  obtain ⟨o1, o2, t1, t2⟩ := split_ok b ht
  obtain ⟨p1, p2, u1, u2⟩ := split_ok a o1
  refine ⟨p2, ?_⟩
  unfold cutT cut
  rw [u2, t1]
  have hr := T.okn_right ht
  obtain ⟨r1, c1⟩ := right_take b.toNat t.txt hr
  by_cases h : a.toNat ≤ b.toNat
  · by_cases h3 : a.toNat ≤ cnt t.txt
    · have := byt_app_left (t.txt.drop (byt b.toNat t.txt)) _ r1 a.toNat (by omega)
      rw [List.take_append_drop] at this
      rw [this]
    · have e1 : byt a.toNat t.txt = t.txt.length := byt_all (by omega)
      have e2 : byt a.toNat (t.txt.take (byt b.toNat t.txt)) = (t.txt.take (byt b.toNat t.txt)).length := byt_all (by omega)
      rw [e2, List.drop_length, e1]
      symm
      apply List.drop_eq_nil_of_le
      rw [List.length_take]
      omega
  · have e2 : byt a.toNat (t.txt.take (byt b.toNat t.txt)) = (t.txt.take (byt b.toNat t.txt)).length := byt_all (by omega)
    rw [e2, List.drop_length]
    symm
    apply List.drop_eq_nil_of_le
    have := byt_mono (show b.toNat ≤ a.toNat by omega) t.txt
    rw [List.length_take]
    omega
def dropL (s : List UInt8) (a b : Int) : List UInt8 := if byt b.toNat s ≤ byt a.toNat s then s else s.take (byt a.toNat s) ++ s.drop (byt b.toNat s)
theorem dropT_ok {t : T} (a b : Int) (ht : t.okn) : (dropT t a b).okn ∧ (dropT t a b).txt = dropL t.txt a b := by
  unfold dropT dropL
  by_cases h : b ≤ a
  · rw [if_pos h, if_pos (byt_mono (by omega) _)]
    exact ⟨ht, rfl⟩
  · rw [if_neg h]
    obtain ⟨o1, o2, t1, t2⟩ := split_ok a ht
    obtain ⟨p1, p2, u1, u2⟩ := split_ok b ht
    obtain ⟨j1, j2⟩ := join_okn o1 p2
    refine ⟨j1, ?_⟩
    rw [j2, t1, u2]
    by_cases h2 : byt b.toNat t.txt ≤ byt a.toNat t.txt
    · rw [if_pos h2]
      have h3 := byt_mono (show a.toNat ≤ b.toNat by omega) t.txt
      rw [show byt b.toNat t.txt = byt a.toNat t.txt by omega, List.take_append_drop]
    · rw [if_neg h2]

set_option maxRecDepth 100000 in
set_option maxHeartbeats 1000000 in
theorem put_rope {t u : T} {v x : Value} (w : World) (a : Int) (h : Rp w t v) (hu : Rp w u x) (n : t.okn) (m : u.okn) (hby : t.by + u.by ≤ 1073741824) (a1 : -9223372036854775808 ≤ a) (a2 : a ≤ 9223372036854775807) :
    Calls Tryd.prog 94 #[v, .int .i64 a, x] w (Made w (putT t a u)) := by
  obtain ⟨o1, o2, -, -⟩ := split_ok a n
  have sb := split_by a n
  have jb := join_by o1 m
  obtain ⟨j1, -⟩ := join_okn o1 m
  have HU := Lib.hid hu
  have H := Lib.hid h
  have B1 : Hid ((split t a).1.by + u.by ≤ 1073741824) := by show _ ≤ _; omega
  have B2 : Hid ((join (split t a).1 u).by + (split t a).2.by ≤ 1073741824) := by show _ ≤ _; omega
  clear h hu sb jb
  have hby2 : t.by ≤ 1073741824 := by omega
  go_enter Tryd.func94, Tryd.ntmps94
  go_wp2_with fail
  refine (split_any _ a H.out n hby2 a1 a2).mono ?_
  rintro e w1 ⟨v1, v2, rfl, h1, h2, hb⟩
  go_wp2_with fail
  refine (join_any _ h1 (Rp.below hb (Nat.le_refl _) HU.out) o1 m B1.out).mono ?_
  rintro e w2 ⟨v3, rfl, h3, hb2⟩
  go_wp2_with fail
  refine (join_any _ h3 (Rp.below hb2 (Nat.le_refl _) h2) j1 o2 B2.out).mono ?_
  rintro e w3 ⟨v4, rfl, h4, hb3⟩
  go_wp2_with fail
  go_ret
  exact ⟨_, rfl, h4, below_more (below_more hb hb2) hb3⟩

set_option maxRecDepth 100000 in
set_option maxHeartbeats 1000000 in
theorem cut_rope {t : T} {v : Value} (w : World) (a b : Int) (h : Rp w t v) (n : t.okn) (hby : t.by ≤ 1073741824) (a1 : -9223372036854775808 ≤ a) (a2 : a ≤ 9223372036854775807) (b1 : -9223372036854775808 ≤ b) (b2 : b ≤ 9223372036854775807) :
    Calls Tryd.prog 90 #[v, .int .i64 a, .int .i64 b] w (Made w (cutT t a b)) := by
  obtain ⟨o1, o2, -, -⟩ := split_ok b n
  have sb := split_by b n
  have H := Lib.hid h
  have B1 : Hid ((split t b).1.by ≤ 1073741824) := by show _ ≤ _; omega
  clear h sb
  go_enter Tryd.func90, Tryd.ntmps90
  go_wp2_with fail
  refine (split_any _ b H.out n hby b1 b2).mono ?_
  rintro e w1 ⟨v1, v2, rfl, h1, h2, hb⟩
  go_wp2_with fail
  refine (split_any _ a h1 o1 B1.out a1 a2).mono ?_
  rintro e w2 ⟨v3, v4, rfl, h3, h4, hb2⟩
  go_wp2_with fail
  go_ret
  exact ⟨_, rfl, h4, below_more hb hb2⟩

set_option maxRecDepth 100000 in
set_option maxHeartbeats 1000000 in
theorem drop_rope {t : T} {v : Value} (w : World) (a b : Int) (h : Rp w t v) (n : t.okn) (hby : t.by ≤ 1073741824) (a1 : -9223372036854775808 ≤ a) (a2 : a ≤ 9223372036854775807) (b1 : -9223372036854775808 ≤ b) (b2 : b ≤ 9223372036854775807) :
    Calls Tryd.prog 100 #[v, .int .i64 a, .int .i64 b] w (Made w (dropT t a b)) := by
  have H := Lib.hid h
  clear h
  by_cases c : b ≤ a
  · have e : dropT t a b = t := by unfold dropT; rw [if_pos c]
    rw [e]
    clear e
    go_enter Tryd.func100, Tryd.ntmps100
    go_wp2_with fail
    go_ret
    exact ⟨_, rfl, H.out, Below.refl _ _⟩
  · have e : dropT t a b = join (split t a).1 (split t b).2 := by unfold dropT; rw [if_neg c]
    rw [e]
    clear e
    obtain ⟨o1, o2, t1, t2⟩ := split_ok b n
    obtain ⟨p1, p2, u1, u2⟩ := split_ok a n
    have B1 : Hid ((split t a).1.by + (split t b).2.by ≤ 1073741824) := by
      show _ ≤ _
      have h1 := split_by a n
      have h2 := split_by b n
      have e1 : (split t a).1.by = min (byt a.toNat t.txt) t.txt.length := by rw [T.by_txt, u1, List.length_take]
      have e2 : (split t b).2.by = t.txt.length - byt b.toNat t.txt := by rw [T.by_txt, t2, List.length_drop]
      have h3 := byt_mono (show a.toNat ≤ b.toNat by omega) t.txt
      have h4 := byt_le b.toNat t.txt
      have h5 := T.by_txt t
      omega
    clear t1 t2 u1 u2
    go_enter Tryd.func100, Tryd.ntmps100
    go_wp2_with fail
    refine (split_any _ a H.out n hby a1 a2).mono ?_
    rintro e w1 ⟨v1, v2, rfl, h1, h2, hb⟩
    go_wp2_with fail
    refine (split_any _ b (Rp.below hb (Nat.le_refl _) H.out) n hby b1 b2).mono ?_
    rintro e w2 ⟨v3, v4, rfl, h3, h4, hb2⟩
    go_wp2_with fail
    refine (join_any _ (Rp.below hb2 (Nat.le_refl _) h1) h4 p1 o2 B1.out).mono ?_
    rintro e w3 ⟨v5, rfl, h5, hb3⟩
    go_wp2_with fail
    go_ret
    exact ⟨_, rfl, h5, below_more (below_more hb hb2) hb3⟩
end Go.Proofs.YtcpdoicbekcpeaaDoor.Con
