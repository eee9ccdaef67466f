/- A rope in memory: a tree's nodes, each a block of its own, that nobody writes again. Contracts of Len, Bytes, Height, leaf and node. -/
import Derived.Test.YtccaiippoephbaaGreatDoorWu
import Derived.Test.YtccaiippoephbaaGreatDoorWt
import Derived.Deep.RegionHeld3
import Derived.BigRegion
import Derived.Laws.NewBlocks
set_option maxRecDepth 100000
set_option linter.unusedVariables false
namespace Go.Proofs.YtccaiippoephbaaGreatDoor.Con
open Go.RowKit Go.Lib Go.Proofs.YtccaiippoephbaaGreatDoor.Let Go.Proofs.YtccaiippoephbaaGreatDoor.Tree

/-- The cells of a node: part, left, right, count, bytes, height. -/
def Nd (w : World) (b : Nat) (p l r : Value) (c y h : Nat) : Prop :=
  b < w.heap.size ∧ w.cell? ⟨b, 0, none⟩ = some p ∧ w.cell? ⟨b, 1, none⟩ = some l ∧ w.cell? ⟨b, 2, none⟩ = some r ∧ w.cell? ⟨b, 3, none⟩ = some (.int .i64 c) ∧ w.cell? ⟨b, 4, none⟩ = some (.int .i64 y) ∧ w.cell? ⟨b, 5, none⟩ = some (.int .i64 h)

theorem Nd.below {w w' : World} {b : Nat} {p l r : Value} {c y h : Nat} (H : Nd w b p l r c y h) {B : Nat} (hb : Below B w w') (hB : w.heap.size ≤ B) : Nd w' b p l r c y h := by
  obtain ⟨h0, h1, h2, h3, h4, h5, h6⟩ := H
  have hlt : b < B := by omega
  exact ⟨Nat.lt_of_lt_of_le h0 hb.size, (hb.cell (p := ⟨b, 0, none⟩) hlt).trans h1, (hb.cell (p := ⟨b, 1, none⟩) hlt).trans h2, (hb.cell (p := ⟨b, 2, none⟩) hlt).trans h3, (hb.cell (p := ⟨b, 3, none⟩) hlt).trans h4, (hb.cell (p := ⟨b, 4, none⟩) hlt).trans h5, (hb.cell (p := ⟨b, 5, none⟩) hlt).trans h6⟩

/-- The part of a node. -/
def T.P : T → List UInt8
  | .leaf s => s
  | _ => []

/-- Block b is a rope's node (no row of a list). -/
def Ty (w : World) (b : Nat) : Prop := ∃ cs, w.heap[b]? = some (.cells cs 169 (0, 0))
theorem Ty.below {w w' : World} {b : Nat} (h : Ty w b) {B : Nat} (hb : Below B w w') (hB : b < B) : Ty w' b := by
  obtain ⟨cs, hc⟩ := h
  exact ⟨cs, (hb.block b hB).trans hc⟩
theorem Ty.new (w : World) (cs : Array Value) : Ty (w.alloc (.cells cs 169)) w.heap.size := ⟨cs, heap_alloc_new w _⟩

/-- The value v is the tree t in the world w. -/
def Rp (w : World) : T → Value → Prop
  | .nil, v => v = .pointer none
  | .leaf s, v => ∃ b, v = .pointer (some ⟨b, 0, none⟩) ∧ (Nd w b (.string (mk s)) (.pointer none) (.pointer none) (cnt s) s.length 0 ∧ Ty w b)
  | .node l r, v => ∃ b vl vr, v = .pointer (some ⟨b, 0, none⟩) ∧ (Nd w b (.string (mk [])) vl vr (l.cn + r.cn) (l.by + r.by) (max l.ht r.ht + 1) ∧ Ty w b) ∧ Rp w l vl ∧ Rp w r vr

theorem Rp.below {w w' : World} {B : Nat} (hb : Below B w w') (hB : w.heap.size ≤ B) : ∀ {t : T} {v : Value}, Rp w t v → Rp w' t v
  | .nil, v, h => h
  | .leaf s, v, ⟨b, e, h, ht⟩ => ⟨b, e, h.below hb hB, ht.below hb (Nat.lt_of_lt_of_le h.1 hB)⟩
  | .node l r, v, ⟨b, vl, vr, e, ⟨h, ht⟩, h1, h2⟩ => ⟨b, vl, vr, e, ⟨h.below hb hB, ht.below hb (Nat.lt_of_lt_of_le h.1 hB)⟩, Rp.below hb hB h1, Rp.below hb hB h2⟩

/-- Whatever leaves the nodes' blocks as they were leaves the tree. -/
theorem Nd.same {w w' : World} {b : Nat} {p l r : Value} {c y h : Nat} (H : Nd w b p l r c y h) (hb : w'.heap[b]? = w.heap[b]?) (hs : w.heap.size ≤ w'.heap.size) : Nd w' b p l r c y h := by
  obtain ⟨h0, h1, h2, h3, h4, h5, h6⟩ := H
  refine ⟨Nat.lt_of_lt_of_le h0 hs, ?_, ?_, ?_, ?_, ?_, ?_⟩
  · rw [World.cell?_of_block (w := w) (a := ⟨b, 0, none⟩) hb, h1]
  · rw [World.cell?_of_block (w := w) (a := ⟨b, 1, none⟩) hb, h2]
  · rw [World.cell?_of_block (w := w) (a := ⟨b, 2, none⟩) hb, h3]
  · rw [World.cell?_of_block (w := w) (a := ⟨b, 3, none⟩) hb, h4]
  · rw [World.cell?_of_block (w := w) (a := ⟨b, 4, none⟩) hb, h5]
  · rw [World.cell?_of_block (w := w) (a := ⟨b, 5, none⟩) hb, h6]
theorem Rp.same {w w' : World} (hk : ∀ b, Ty w b → w'.heap[b]? = w.heap[b]?) (hs : w.heap.size ≤ w'.heap.size) : ∀ {t : T} {v : Value}, Rp w t v → Rp w' t v
  | .nil, v, h => h
  | .leaf s, v, ⟨b, e, h, ht⟩ => ⟨b, e, h.same (hk b ht) hs, by obtain ⟨cs, hc⟩ := ht; exact ⟨cs, (hk b ⟨cs, hc⟩).trans hc⟩⟩
  | .node l r, v, ⟨b, vl, vr, e, ⟨h, ht⟩, h1, h2⟩ => ⟨b, vl, vr, e, ⟨h.same (hk b ht) hs, by obtain ⟨cs, hc⟩ := ht; exact ⟨cs, (hk b ⟨cs, hc⟩).trans hc⟩⟩, Rp.same hk hs h1, Rp.same hk hs h2⟩

/-- A tree that is not nothing, opened. -/
theorem Rp.unfold {w : World} : ∀ {t : T} {v : Value}, Rp w t v → t ≠ .nil → ∃ b vl vr, v = .pointer (some ⟨b, 0, none⟩) ∧ Nd w b (.string (mk (T.P t))) vl vr t.cn t.by t.ht ∧ Rp w t.L vl ∧ Rp w t.R vr
  | .nil, v, h, hn => absurd rfl hn
  | .leaf s, v, ⟨b, e, h, _⟩, _ => ⟨b, _, _, e, h, rfl, rfl⟩
  | .node l r, v, ⟨b, vl, vr, e, ⟨h, _⟩, h1, h2⟩, _ => ⟨b, vl, vr, e, h, h1, h2⟩

/-- What a call that makes a tree gives. -/
def Made (w : World) (t : T) (e : Ending) (w' : World) : Prop := ∃ v, e = .returned v ∧ Rp w' t v ∧ Below w.heap.size w w'

theorem len_any {t : T} {v : Value} (w : World) (h : Rp w t v) : Calls Tryz.prog 85 #[v] w fun e w' => e = .returned (.int .i64 t.cn) ∧ w = w' := by
  by_cases hn : t = .nil
  · subst hn
    have : v = .pointer none := h
    subst this
    go_enter Tryz.func85, Tryz.ntmps85
    go_wp2
    go_ret
    exact ⟨rfl, rfl⟩
  · obtain ⟨b, vl, vr, rfl, ⟨h0, h1, h2, h3, h4, h5, h6⟩, hl, hr⟩ := h.unfold hn
    clear h hl hr
    go_enter Tryz.func85, Tryz.ntmps85
    go_wp2
    go_ret
    exact ⟨rfl, rfl⟩

theorem nd_new (w : World) (p l r : Value) (c y h : Nat) (t : TypeId) (fr : Nat × Nat) : Nd (w.alloc (.cells #[p, l, r, .int .i64 c, .int .i64 y, .int .i64 h] t fr)) w.heap.size p l r c y h := by
  have hh : (w.alloc (.cells #[p, l, r, .int .i64 c, .int .i64 y, .int .i64 h] t fr)).heap[w.heap.size]? = some (.cells #[p, l, r, .int .i64 c, .int .i64 y, .int .i64 h] t fr) := heap_alloc_new w _
  refine ⟨by simp, ?_, ?_, ?_, ?_, ?_, ?_⟩ <;> simp only [World.cell?, hh] <;> rfl

set_option maxHeartbeats 400000 in
theorem leaf_any (s : ByteArray) (w : World) (hs : s.size ≤ maxLen) : Calls Tryz.prog 114 #[.string s] w (Made w (.leaf s.data.toList)) := by
  have hs2 := hs
  unfold maxLen at hs
  go_enter Tryz.func114, Tryz.ntmps114
  go_wp2_with fail
  refine (count_any s _ hs2).mono ?_
  rintro e w1 ⟨rfl, hb1⟩
  go_wp2
  go_ret
  refine ⟨_, rfl, ⟨_, rfl, ?_, Ty.new _ _⟩, hb1.alloc hb1.size _⟩
  rw [mk_self, sz]
  exact nd_new ..

theorem node_rp {w : World} {a b : T} {va vb : Value} (ha : Rp w a va) (hb : Rp w b vb) {c y h : Int} {p : ByteArray} (hp : p = mk []) (hc : c = (a.cn + b.cn : Nat)) (hy : y = (a.by + b.by : Nat)) (hh : h = (max a.ht b.ht + 1 : Nat)) (e : Ending) (he : e = .returned (.pointer (some ⟨w.heap.size, 0, none⟩))) :
    Made w (.node a b) e (w.alloc (.cells #[.string p, va, vb, .int .i64 c, .int .i64 y, .int .i64 h] 169)).drew := by
  subst hp hc hy hh he
  have bel : Below w.heap.size w (w.alloc (.cells #[.string (mk []), va, vb, .int .i64 (a.cn + b.cn : Nat), .int .i64 (a.by + b.by : Nat), .int .i64 (max a.ht b.ht + 1 : Nat)] 169)) := (Below.refl _ w).alloc (Nat.le_refl _) _
  have h1 : Rp (w.alloc (.cells #[.string (mk []), va, vb, .int .i64 (a.cn + b.cn : Nat), .int .i64 (a.by + b.by : Nat), .int .i64 (max a.ht b.ht + 1 : Nat)] 169)) (.node a b) (.pointer (some ⟨w.heap.size, 0, none⟩)) :=
    ⟨_, _, _, rfl, ⟨nd_new .., Ty.new _ _⟩, Rp.below bel (Nat.le_refl _) ha, Rp.below bel (Nat.le_refl _) hb⟩
  exact ⟨_, rfl, Rp.below ((Below.refl _ _).drew) (Nat.le_refl _) h1, bel.drew⟩

set_option maxHeartbeats 1000000 in
theorem node_any {a b : T} {va vb : Value} (w : World) (ha : Rp w a va) (hb : Rp w b vb) (oka : a.ok) (okb : b.ok) (hby : a.by + b.by ≤ 1073741824) :
    Calls Tryz.prog 116 #[va, vb] w (Made w (.node a b)) := by
  have ca := T.cn_by a
  have cb := T.cn_by b
  have ga := T.ht_by oka
  have gb := T.ht_by okb
  have HA := Lib.hid ha
  have HB := Lib.hid hb
  obtain ⟨x, xl, xr, rfl, ⟨h0, h1, h2, h3, h4, h5, h6⟩, -, -⟩ := ha.unfold (ok_not_nil oka)
  obtain ⟨y, yl, yr, rfl, ⟨k0, k1, k2, k3, k4, k5, k6⟩, -, -⟩ := hb.unfold (ok_not_nil okb)
  clear ha hb h1 h2 k1 k2
  have w1 : IntKind.i64.wrap ((a.cn : Int) + b.cn) = (a.cn : Int) + b.cn := IntWalk.i64_in _ (by omega)
  have w2 : IntKind.i64.wrap ((a.by : Int) + b.by) = (a.by : Int) + b.by := IntWalk.i64_in _ (by omega)
  have w3 : IntKind.i64.wrap ((a.ht : Int) + 1) = (a.ht : Int) + 1 := IntWalk.i64_in _ (by omega)
  have w4 : IntKind.i64.wrap ((b.ht : Int) + 1) = (b.ht : Int) + 1 := IntWalk.i64_in _ (by omega)
  by_cases hlt : a.ht < b.ht
  all_goals
    go_enter Tryz.func116, Tryz.ntmps116
    go_wp2_with fail
    go_region_held3 (fun w' => w'.cell? ⟨x, 3, none⟩ = some (.int .i64 a.cn) ∧ w'.cell? ⟨x, 4, none⟩ = some (.int .i64 a.by) ∧ w'.cell? ⟨x, 5, none⟩ = some (.int .i64 a.ht) ∧ w'.cell? ⟨y, 3, none⟩ = some (.int .i64 b.cn) ∧ w'.cell? ⟨y, 4, none⟩ = some (.int .i64 b.by) ∧ w'.cell? ⟨y, 5, none⟩ = some (.int .i64 b.ht)) (go_keep) (first | fail)
    go_wp2
    go_ret
    exact node_rp HA.out HB.out rfl (by omega) (by omega) (by omega) _ rfl
end Go.Proofs.YtccaiippoephbaaGreatDoor.Con
/- Contracts of balance: made by genS.py (one theorem a case). -/
set_option maxRecDepth 100000
set_option linter.unusedVariables false
namespace Go.Proofs.YtccaiippoephbaaGreatDoor.Con
open Go.RowKit Go.Lib Go.Proofs.YtccaiippoephbaaGreatDoor.Let Go.Proofs.YtccaiippoephbaaGreatDoor.Tree

theorem below_cell {w w' : World} (hb : Below w.heap.size w w') {b o : Nat} {x : Value} (hlt : b < w.heap.size) (h : w.cell? ⟨b, o, none⟩ = some x) : w'.cell? ⟨b, o, none⟩ = some x :=
  (hb.cell (p := ⟨b, o, none⟩) hlt).trans h
theorem below_more {w w1 w2 : World} (h1 : Below w.heap.size w w1) (h2 : Below w1.heap.size w1 w2) : Below w.heap.size w w2 := h1.trans (h2.mono h1.size)

/-- What is made in a world is kept below it. -/
theorem made_of {w w1 w2 : World} {t : T} {v : Value} (h1 : Below w.heap.size w w1) (h2 : Below w1.heap.size w1 w2) (h : Rp w2 t v) (e : Ending) (he : e = .returned v) : Made w t e w2 :=
  ⟨v, he, h, below_more h1 h2⟩

end Go.Proofs.YtccaiippoephbaaGreatDoor.Con
/- Contracts of link, firstPart, lastPart, cutFirst, cutLast. -/
set_option maxRecDepth 100000
set_option linter.unusedVariables false
namespace Go.Proofs.YtccaiippoephbaaGreatDoor.Con
open Go.RowKit Go.Lib Go.Proofs.YtccaiippoephbaaGreatDoor.Let Go.Proofs.YtccaiippoephbaaGreatDoor.Tree

/-- The first and the last part. -/
def fstP : T → List UInt8
  | .nil => []
  | .leaf s => s
  | .node l _ => fstP l
def lstP : T → List UInt8
  | .nil => []
  | .leaf s => s
  | .node _ r => lstP r

/-- The first part and the rest; the rest and the last part. -/
def cutF : T → List UInt8 × T
  | .nil => ([], .nil)
  | .leaf s => (s, .nil)
  | .node l r => ((cutF l).1, link (cutF l).2 r)
def cutL : T → T × List UInt8
  | .nil => (.nil, [])
  | .leaf s => (.nil, s)
  | .node l r => (link l (cutL r).1, (cutL r).2)

end Go.Proofs.YtccaiippoephbaaGreatDoor.Con
/- Contracts of Join, split, Cut, Put, Drop. -/
set_option maxRecDepth 100000
set_option linter.unusedVariables false
namespace Go.Proofs.YtccaiippoephbaaGreatDoor.Con
open Go.RowKit Go.Lib Go.Proofs.YtccaiippoephbaaGreatDoor.Let Go.Proofs.YtccaiippoephbaaGreatDoor.Tree

def join (a b : T) : T :=
  if a.by = 0 then b else if b.by = 0 then a
  else if 64 < (lstP a).length + (fstP b).length then link a b
  else link (link (cutL a).1 (.leaf ((cutL a).2 ++ (cutF b).1))) (cutF b).2

theorem leaf_mk (l : List UInt8) (w : World) (h : l.length ≤ maxLen) : Calls Tryz.prog 114 #[.string (mk l)] w (Made w (.leaf l)) := by
  have := leaf_any (mk l) w (by rw [mk_size]; exact h)
  rw [Let.mk_data] at this
  exact this
/-- The letters ahead of a place, and the others. -/
def split : T → Int → T × T
  | .nil, _ => (.nil, .nil)
  | .leaf s, at' => if at' ≤ 0 then (.nil, .leaf s) else if (cnt s : Int) ≤ at' then (.leaf s, .nil) else (.leaf (s.take (byt at'.toNat s)), .leaf (s.drop (byt at'.toNat s)))
  | .node l r, at' => if at' ≤ 0 then (.nil, .node l r) else if ((l.cn + r.cn : Nat) : Int) ≤ at' then (.node l r, .nil)
    else if at' ≤ l.cn then ((split l at').1, join (split l at').2 r) else (join l (split r (at' - l.cn)).1, (split r (at' - l.cn)).2)

end Go.Proofs.YtccaiippoephbaaGreatDoor.Con
