/- Plate: a disk as plain values, and in memory; what a call may change. -/
import Derived.Test.YtffejfpbeimngaaDoorBx
import Derived.IntWalk
import Derived.Sort.Row
set_option linter.unusedVariables false
set_option linter.unusedSimpArgs false
namespace Go.Proofs.YtffejfpbeimngaaDoor.Plt
open Go.RowKit Go.Lib Go.Proofs.YtffejfpbeimngaaDoor.Bx

/-- A plate: what is firm, and what was laid since. -/
structure PL where
  f : ByteArray
  l : List ByteArray
structure DK where
  n : Nat
  P : Nat → PL
  off : Bool
  left : Int
def PL.last (p : PL) : ByteArray := p.l.getD (p.l.length - 1) p.f
def PL.pick (p : PL) (k : Nat) : ByteArray := if k = 0 then p.f else p.l.getD (k - 1) p.f
def PL.held (p : PL) (n : Int) : ByteArray := p.pick (n % ((p.l.length + 1 : Nat) : Int)).toNat
def PL.settle (p : PL) : PL := ⟨p.last, []⟩
def fullL (s : ByteArray) : List UInt8 := s.data.toList ++ List.replicate (128 - s.size) 0
def fullB (s : ByteArray) : ByteArray := ⟨(fullL s).toArray⟩
def upd {α : Type} (P : Nat → α) (i : Nat) (p : α) : Nat → α := fun j => if j = i then p else P j
theorem upd_same {α : Type} (P : Nat → α) (i : Nat) (p : α) : upd P i p i = p := by simp [upd]
theorem upd_other {α : Type} (P : Nat → α) {i j : Nat} (p : α) (h : j ≠ i) : upd P i p j = P j := by simp [upd, h]
def dec (n : Int) : Int := if 0 < n then n - 1 else n
def canLay (D : DK) (i : Int) (s : ByteArray) : Bool := !D.off && (decide (0 ≤ i) && decide (i < D.n)) && decide (s.size ≤ 128)
def laidP (D : DK) (i : Nat) (s : ByteArray) : Nat → PL := upd D.P i ⟨(D.P i).f, (D.P i).l ++ [fullB s]⟩
def layD (D : DK) (i : Int) (s : ByteArray) : DK := if canLay D i s then (if D.left = 0 then ⟨D.n, D.P, true, D.left⟩ else ⟨D.n, laidP D i.toNat s, D.off, dec D.left⟩) else D
def layB (D : DK) (i : Int) (s : ByteArray) : Bool := canLay D i s && !decide (D.left = 0)
def barD (D : DK) : DK := if D.off then D else if D.left = 0 then ⟨D.n, D.P, true, D.left⟩ else ⟨D.n, fun j => (D.P j).settle, D.off, dec D.left⟩
def barB (D : DK) : Bool := !D.off && !decide (D.left = 0)
def limD (D : DK) (n : Int) : DK := ⟨D.n, D.P, D.off, if n < -1 then -1 else n⟩
def looseL (D : DK) : List Nat := (List.range D.n).filter fun i => !(D.P i).l.isEmpty
def fallP (P : Nat → PL) (L : List Nat) (pk : List Int) : Nat → Nat → PL
  | 0 => P
  | k + 1 => upd (fallP P L pk k) (L.getD k 0) ⟨(P (L.getD k 0)).held (pk.getD k 0), []⟩
def fallD (D : DK) (pk : List Int) : DK := ⟨D.n, fallP D.P (looseL D) pk (looseL D).length, false, -1⟩
def getB (D : DK) (i : Int) : Bool := !D.off && (decide (0 ≤ i) && decide (i < D.n))
def getS (D : DK) (i : Int) : ByteArray := if getB D i then (D.P i.toNat).last else ByteArray.empty
def newD (n : Nat) : DK := ⟨n, fun _ => ⟨fullB ByteArray.empty, []⟩, false, -1⟩

theorem last_nil (f : ByteArray) : PL.last ⟨f, []⟩ = f := rfl
theorem settle_nil {p : PL} (h : p.l = []) : p.settle = p := by
  obtain ⟨f, l⟩ := p
  simp only at h
  subst h
  rfl
theorem fallP_other {P : Nat → PL} {L : List Nat} {pk : List Int} {j : Nat} : ∀ k, (∀ i, i < k → L.getD i 0 ≠ j) → fallP P L pk k j = P j
  | 0, _ => rfl
  | k + 1, h => by
    show upd _ _ _ _ = _
    rw [upd_other _ _ (fun e => h k (by omega) e.symm)]
    exact fallP_other k (fun i hi => h i (by omega))
theorem fallP_at {P : Nat → PL} {L : List Nat} {pk : List Int} (hn : L.Nodup) {i : Nat} : ∀ k, k ≤ L.length → i < k → fallP P L pk k (L.getD i 0) = ⟨(P (L.getD i 0)).held (pk.getD i 0), []⟩
  | 0, _, h => absurd h (by omega)
  | k + 1, hk, h => by
    show upd _ _ _ _ = _
    by_cases e : i = k
    · subst e
      rw [upd_same]
    · rw [upd_other]
      · exact fallP_at hn k (by omega) (by omega)
      · intro e1
        rw [List.getD_eq_getElem?_getD, List.getD_eq_getElem?_getD, List.getElem?_eq_getElem (by omega), List.getElem?_eq_getElem (by omega)] at e1
        exact e ((List.getElem_inj hn).1 e1)
theorem loose_nodup (D : DK) : (looseL D).Nodup := List.Nodup.sublist List.filter_sublist List.nodup_range
theorem loose_mem (D : DK) (i : Nat) : i ∈ looseL D ↔ i < D.n ∧ (D.P i).l ≠ [] := by
  unfold looseL
  simp
theorem loose_lt (D : DK) {k : Nat} (h : k < (looseL D).length) : (looseL D).getD k 0 < D.n ∧ (D.P ((looseL D).getD k 0)).l ≠ [] := by
  rw [List.getD_eq_getElem?_getD, List.getElem?_eq_getElem h]
  exact (loose_mem D _).1 (List.getElem_mem h)
theorem loose_none {D : DK} {j : Nat} (h : (D.P j).l = []) : ∀ i, i < (looseL D).length → (looseL D).getD i 0 ≠ j := fun i hi e => (loose_lt D hi).2 (by rw [e]; exact h)

/-- A call leaves all blocks but those of F. -/
structure Chg (F : Nat → Prop) (w w' : World) : Prop where
  os : w'.os = w.os
  tape : w'.tape = w.tape
  output : w'.output = w.output
  size : w.heap.size ≤ w'.heap.size
  block : ∀ k, k < w.heap.size → ¬ F k → w'.heap[k]? = w.heap[k]?
theorem Chg.refl (F : Nat → Prop) (w : World) : Chg F w w := ⟨rfl, rfl, rfl, Nat.le_refl _, fun _ _ _ => rfl⟩
theorem Chg.trans {F F' : Nat → Prop} {w w1 w2 : World} (h : Chg F w w1) (k : Chg F' w1 w2) (hs : ∀ g, F' g → F g ∨ w.heap.size ≤ g) : Chg F w w2 :=
  ⟨k.os.trans h.os, k.tape.trans h.tape, k.output.trans h.output, Nat.le_trans h.size k.size, fun g hg hn => (k.block g (Nat.lt_of_lt_of_le hg h.size) (fun q => by rcases hs g q with q | q; exact hn q; omega)).trans (h.block g hg hn)⟩
theorem Chg.of_below {F : Nat → Prop} {w w' : World} (h : Below w.heap.size w w') : Chg F w w' := ⟨h.os, h.tape, h.output, h.size, fun k hk _ => h.block k hk⟩
theorem Chg.below {F : Nat → Prop} {w w' : World} {B : Nat} (h : Chg F w w') (hF : ∀ g, F g → B ≤ g) (hB : B ≤ w.heap.size) : Below B w w' := ⟨h.os, h.tape, h.output, h.size, fun k hk => h.block k (by omega) (fun q => by have := hF k q; omega)⟩
theorem Chg.of_grown {F : Nat → Prop} {w w' : World} {row : Option Nat} (h : w.grownBy w' row) (hF : ∀ g, row = some g → F g) : Chg F w w' := ⟨h.os, h.tape, h.output, h.size, fun k hk hn => h.block k hk (fun e => hn (hF k e.symm))⟩
theorem Chg.mono {F F' : Nat → Prop} {w w' : World} (h : Chg F w w') (hF : ∀ g, F g → F' g) : Chg F' w w' := ⟨h.os, h.tape, h.output, h.size, fun k hk hn => h.block k hk (fun q => hn (hF k q))⟩
theorem Chg.set {F : Nat → Prop} {w w' : World} (h : Chg F w w') {B o : Nat} (hB : F B ∨ w.heap.size ≤ B) (u : Value) : Chg F w (w'.setCell ⟨B, o, none⟩ u) :=
  h.trans (F' := fun g => g = B) ⟨rfl, rfl, rfl, by simp [World.setCell], fun k hk hn => Below.heap_setCell _ _ _ _ hn⟩ (fun g e => by subst e; exact hB)
theorem Chg.drew {F : Nat → Prop} {w w' : World} (h : Chg F w w') : Chg F w w'.drew := ⟨h.os, h.tape, h.output, h.size, h.block⟩
theorem own_same {e : TypeId} {k base : Nat} {w w' : World} {v : Value} {xs : List (List Value)} (h : Rk.OwnK e k base w v xs) (hs : ∀ g, v.ownBlock = some g → w'.heap[g]? = w.heap[g]?) : Rk.OwnK e k base w' v xs := by
  refine ⟨h.1, h.2.1, ?_⟩
  rcases h.2.2 with h0 | ⟨g, cap, cur, rfl, hb, hg, hr⟩
  · exact .inl h0
  · exact .inr ⟨g, cap, cur, rfl, hb, by rw [hs g rfl]; exact hg, hr⟩
/-- Rows and blocks of unlike types lie apart. -/
theorem own_apart {T T' : TypeId} {k base g : Nat} {w : World} {v : Value} {xs : List (List Value)} {cs : Array Value} (h : Rk.OwnK T k base w v xs) (hv : v.ownBlock = some g) (hB : w.heap[g]? = some (.cells cs T' (0, 0))) : T = T' := by
  rcases h.2.2 with ⟨rfl, _⟩ | ⟨g', cap, cur, rfl, _, hg, _⟩
  · cases hv
  · have e : g' = g := by simpa [Value.ownBlock] using hv
    subst e
    rw [hg] at hB
    injection hB with hB
    injection hB with _ q
theorem own_block {T : TypeId} {k base g : Nat} {w : World} {v : Value} {xs : List (List Value)} (h : Rk.OwnK T k base w v xs) (hv : v.ownBlock = some g) : ∃ cs, w.heap[g]? = some (.cells cs T (0, 0)) := by
  rcases h.2.2 with ⟨rfl, _⟩ | ⟨g', cap, cur, rfl, _, hg, _⟩
  · cases hv
  · have e : g' = g := by simpa [Value.ownBlock] using hv
    subst e
    exact ⟨_, hg⟩
/-- The plates' own block. -/
def Gm (w : World) (G n : Nat) (P : Nat → PL) (u : Nat → Value) : Prop :=
  ∃ cs, w.heap[G]? = some (.cells cs 47 (0, 0)) ∧ cs.size = n * 2 ∧ ∀ i, i < n → cs[i * 2]? = some (.string (P i).f) ∧ cs[i * 2 + 1]? = some (u i)
theorem Gm.same {w w' : World} {G n : Nat} {P : Nat → PL} {u : Nat → Value} (h : Gm w G n P u) (hs : w'.heap[G]? = w.heap[G]?) : Gm w' G n P u := by
  obtain ⟨cs, h1, h2, h3⟩ := h
  exact ⟨cs, by rw [hs]; exact h1, h2, h3⟩
theorem Gm.cells {w : World} {G n : Nat} {P : Nat → PL} {u : Nat → Value} (h : Gm w G n P u) {i : Nat} (hi : i < n) : w.cell? ⟨G, i * 2, none⟩ = some (.string (P i).f) ∧ w.cell? ⟨G, i * 2 + 1, none⟩ = some (u i) ∧ w.frozen? ⟨G, i * 2, none⟩ = false ∧ w.frozen? ⟨G, i * 2 + 1, none⟩ = false := by
  obtain ⟨cs, h1, h2, h3⟩ := h
  refine ⟨?_, ?_, free_at h1, free_at h1⟩
  · rw [cell_of_row _ _ _ _ _ _ h1]; exact (h3 i hi).1
  · rw [cell_of_row _ _ _ _ _ _ h1]; exact (h3 i hi).2
theorem Gm.setU {w : World} {G n : Nat} {P : Nat → PL} {u : Nat → Value} (h : Gm w G n P u) {i : Nat} (hi : i < n) (v : Value) (l : List ByteArray) : Gm (w.setCell ⟨G, i * 2 + 1, none⟩ v) G n (upd P i ⟨(P i).f, l⟩) (upd u i v) := by
  obtain ⟨cs, h1, h2, h3⟩ := h
  refine ⟨_, set_block h1, by simpa using h2, fun j hj => ?_⟩
  by_cases e : j = i
  · subst e
    rw [upd_same, upd_same, Array.getElem?_setIfInBounds, Array.getElem?_setIfInBounds, if_neg (by omega), if_pos rfl, if_pos (by omega)]
    exact ⟨(h3 j hj).1, rfl⟩
  · rw [upd_other _ _ e, upd_other _ _ e, Array.getElem?_setIfInBounds, Array.getElem?_setIfInBounds, if_neg (by omega), if_neg (by omega)]
    exact h3 j hj
theorem Gm.setF {w : World} {G n : Nat} {P : Nat → PL} {u : Nat → Value} (h : Gm w G n P u) {i : Nat} (hi : i < n) (s : ByteArray) : Gm (w.setCell ⟨G, i * 2, none⟩ (.string s)) G n (upd P i ⟨s, (P i).l⟩) u := by
  obtain ⟨cs, h1, h2, h3⟩ := h
  refine ⟨_, set_block h1, by simpa using h2, fun j hj => ?_⟩
  by_cases e : j = i
  · subst e
    rw [upd_same, Array.getElem?_setIfInBounds, Array.getElem?_setIfInBounds, if_pos rfl, if_pos (by omega), if_neg (by omega)]
    exact ⟨rfl, (h3 j hj).2⟩
  · rw [upd_other _ _ e, Array.getElem?_setIfInBounds, Array.getElem?_setIfInBounds, if_neg (by omega), if_neg (by omega)]
    exact h3 j hj
theorem Gm.set2 {w : World} {G n : Nat} {P : Nat → PL} {u : Nat → Value} (h : Gm w G n P u) {i : Nat} (hi : i < n) (s : ByteArray) (v : Value) (l : List ByteArray) : Gm ((w.setCell ⟨G, i * 2, none⟩ (.string s)).setCell ⟨G, i * 2 + 1, none⟩ v) G n (upd P i ⟨s, l⟩) (upd u i v) := by
  have h1 := (h.setF hi s).setU hi v l
  rw [upd_same] at h1
  obtain ⟨cs, a, b, c⟩ := h1
  refine ⟨cs, a, b, fun j hj => ?_⟩
  have := c j hj
  by_cases e : j = i
  · subst e
    rw [upd_same] at this ⊢
    exact this
  · rw [upd_other _ _ e, upd_other _ _ e] at this
    rw [upd_other _ _ e]
    exact this
def cellsN (L : List Nat) : List (List Value) := L.map fun i => [Value.int .i64 (i : Nat)]
def cellsT (X : List ByteArray) : List (List Value) := X.map fun s => [Value.string s]
theorem cellsN_len (L : List Nat) : (cellsN L).length = L.length := List.length_map _
theorem cellsT_len (X : List ByteArray) : (cellsT X).length = X.length := List.length_map _
/-- A disk in memory; M tells which plates its list of loose ones has. -/
structure Dx (base : Nat) (w : World) (B G : Nat) (v : Value) (u : Nat → Value) (L : List Nat) (D : DK) (M : Nat → Prop) : Prop where
  hB : base ≤ B
  hG : base ≤ G
  blk : w.heap[B]? = some (.cells #[.slice (some ⟨G, 0, none⟩) D.n D.n, v, .bool D.off, .int .i64 D.left] 44 (0, 0))
  pl : Gm w G D.n D.P u
  n1 : 1 ≤ D.n
  n2 : D.n ≤ 16384
  left1 : -1 ≤ D.left
  left2 : D.left ≤ 9223372036854775807
  own : Rk.OwnK 3 1 base w v (cellsN L)
  nod : L.Nodup
  mem : ∀ i, i ∈ L ↔ i < D.n ∧ M i
  row : ∀ i, i < D.n → Rk.OwnK 9 1 base w (u i) (cellsT (D.P i).l)
  apart : ∀ i j, i < D.n → j < D.n → i ≠ j → ∀ g, (u i).ownBlock = some g → (u j).ownBlock ≠ some g
def Loo (D : DK) (i : Nat) : Prop := (D.P i).l ≠ []
def Dm (base : Nat) (w : World) (B G : Nat) (v : Value) (u : Nat → Value) (L : List Nat) (D : DK) : Prop := Dx base w B G v u L D (Loo D)
def Ft (B G : Nat) (v : Value) (u : Nat → Value) (n : Nat) (g : Nat) : Prop := g = B ∨ g = G ∨ v.ownBlock = some g ∨ ∃ i, i < n ∧ (u i).ownBlock = some g
def Disk (base : Nat) (w : World) (B : Nat) (F : Nat → Prop) (D : DK) : Prop := ∃ G v u L, Dm base w B G v u L D ∧ F = Ft B G v u D.n
section
variable {base B G : Nat} {w w' : World} {v : Value} {u : Nat → Value} {L : List Nat} {D : DK} {M : Nat → Prop}
theorem Dx.lt (h : Dx base w B G v u L D M) : ∀ g, Ft B G v u D.n g → base ≤ g ∧ g < w.heap.size := by
  rintro g (rfl | rfl | e | ⟨i, hi, e⟩)
  · exact ⟨h.hB, (Array.getElem?_eq_some_iff.1 h.blk).1⟩
  · obtain ⟨cs, h1, _⟩ := h.pl
    exact ⟨h.hG, (Array.getElem?_eq_some_iff.1 h1).1⟩
  · exact h.own.block g e
  · exact (h.row i hi).block g e
theorem Disk.lt {F : Nat → Prop} (h : Disk base w B F D) : ∀ g, F g → base ≤ g ∧ g < w.heap.size := by
  obtain ⟨G, v, u, L, h, rfl⟩ := h
  exact Dx.lt h
theorem Dx.kept (h : Dx base w B G v u L D M) (hs : ∀ g, Ft B G v u D.n g → w'.heap[g]? = w.heap[g]?) : Dx base w' B G v u L D M :=
  ⟨h.hB, h.hG, by rw [hs B (.inl rfl)]; exact h.blk, h.pl.same (hs G (.inr (.inl rfl))), h.n1, h.n2, h.left1, h.left2, own_same h.own (fun g e => hs g (.inr (.inr (.inl e)))), h.nod, h.mem, fun i hi => own_same (h.row i hi) (fun g e => hs g (.inr (.inr (.inr ⟨i, hi, e⟩)))), h.apart⟩
theorem Dx.chg {F : Nat → Prop} (h : Dx base w B G v u L D M) (hc : Chg F w w') (hd : ∀ g, Ft B G v u D.n g → ¬ F g) : Dx base w' B G v u L D M :=
  h.kept fun g hg => hc.block g (h.lt g hg).2 (hd g hg)
theorem Dx.below (h : Dx base w B G v u L D M) (hb : Below w.heap.size w w') : Dx base w' B G v u L D M := h.kept fun g hg => hb.block g (h.lt g hg).2
theorem Disk.chg {F F' : Nat → Prop} (h : Disk base w B F D) (hc : Chg F' w w') (hd : ∀ g, F g → ¬ F' g) : Disk base w' B F D := by
  obtain ⟨G, v, u, L, h, rfl⟩ := h
  exact ⟨G, v, u, L, Dx.chg h hc hd, rfl⟩
theorem Disk.below {F : Nat → Prop} (h : Disk base w B F D) (hb : Below w.heap.size w w') : Disk base w' B F D := by
  obtain ⟨G, v, u, L, h, rfl⟩ := h
  exact ⟨G, v, u, L, Dx.below h hb, rfl⟩
theorem Dx.cells (h : Dx base w B G v u L D M) : w.cell? ⟨B, 0, none⟩ = some (.slice (some ⟨G, 0, none⟩) D.n D.n) ∧ w.cell? ⟨B, 1, none⟩ = some v ∧ w.cell? ⟨B, 2, none⟩ = some (.bool D.off) ∧ w.cell? ⟨B, 3, none⟩ = some (.int .i64 D.left) ∧
    w.frozen? ⟨B, 0, none⟩ = false ∧ w.frozen? ⟨B, 1, none⟩ = false ∧ w.frozen? ⟨B, 2, none⟩ = false ∧ w.frozen? ⟨B, 3, none⟩ = false := by
  obtain ⟨a, b, c, d⟩ := four_cells h.blk
  exact ⟨a, b, c, d, free_at h.blk, free_at h.blk, free_at h.blk, free_at h.blk⟩
/-- The blocks that a disk has are unlike each other. -/
theorem Dx.neBG (h : Dx base w B G v u L D M) : B ≠ G := by
  rintro rfl
  obtain ⟨cs, h1, _⟩ := h.pl
  have := h.blk
  rw [h1] at this
  injection this with this
  injection this with _ q
  exact absurd q (by decide)
theorem Dx.neBv (h : Dx base w B G v u L D M) : v.ownBlock ≠ some B := fun e => absurd (own_apart h.own e h.blk) (by decide)
theorem Dx.neGv (h : Dx base w B G v u L D M) : v.ownBlock ≠ some G := fun e => by
  obtain ⟨cs, h1, _⟩ := h.pl
  exact absurd (own_apart h.own e h1) (by decide)
theorem Dx.neBu (h : Dx base w B G v u L D M) {i : Nat} (hi : i < D.n) : (u i).ownBlock ≠ some B := fun e => absurd (own_apart (h.row i hi) e h.blk) (by decide)
theorem Dx.neGu (h : Dx base w B G v u L D M) {i : Nat} (hi : i < D.n) : (u i).ownBlock ≠ some G := fun e => by
  obtain ⟨cs, h1, _⟩ := h.pl
  exact absurd (own_apart (h.row i hi) e h1) (by decide)
theorem Dx.neuv (h : Dx base w B G v u L D M) {i g : Nat} (hi : i < D.n) (e : (u i).ownBlock = some g) : v.ownBlock ≠ some g := fun e' => by
  obtain ⟨cs, h1⟩ := own_block (h.row i hi) e
  exact absurd (own_apart h.own e' h1) (by decide)
/-- Behind a store into the disk's own block. -/
theorem Dx.set (h : Dx base w B G v u L D M) (o : Nat) (x : Value) (v' : Value) (D' : DK) (hn : D'.n = D.n) (hP : D'.P = D.P) (hl1 : -1 ≤ D'.left) (hl2 : D'.left ≤ 9223372036854775807) (L' : List Nat) (M' : Nat → Prop) (hnd : L'.Nodup) (hm : ∀ i, i ∈ L' ↔ i < D.n ∧ M' i)
    (hb : #[Value.slice (some ⟨G, 0, none⟩) D.n D.n, v, .bool D.off, .int .i64 D.left].setIfInBounds o x = #[.slice (some ⟨G, 0, none⟩) D.n D.n, v', .bool D'.off, .int .i64 D'.left]) (ho : Rk.OwnK 3 1 base w v' (cellsN L')) (hvB : v'.ownBlock ≠ some B) : Dx base (w.setCell ⟨B, o, none⟩ x) B G v' u L' D' M' := by
  have hc : ∀ k, k ≠ B → (w.setCell ⟨B, o, none⟩ x).heap[k]? = w.heap[k]? := fun k hk => Below.heap_setCell _ _ _ _ hk
  obtain ⟨n, P, off, left⟩ := D
  obtain ⟨n', P', off', left'⟩ := D'
  simp only at hn hP hl1 hl2 hm hb
  subst hn hP
  refine ⟨h.hB, h.hG, ?_, h.pl.same (hc G (fun e => h.neBG e.symm)), h.n1, h.n2, hl1, hl2, own_same ho (fun g e => hc g (fun e' => hvB (by rw [e, e']))), hnd, hm, fun i hi => own_same (h.row i hi) (fun g e => hc g (fun e' => h.neBu hi (by rw [e, e']))), h.apart⟩
  rw [set_block h.blk, hb]
end
/-- What a call on a disk leaves: its answer, the disk as it is then, all else as it was. -/
def Did (base : Nat) (w : World) (B : Nat) (F : Nat → Prop) (D' : DK) (r : Value) : Ending → World → Prop := fun e w' =>
  e = .returned r ∧ ∃ F', Disk base w' B F' D' ∧ Chg F w w' ∧ ∀ g, F' g → F g ∨ w.heap.size ≤ g
end Go.Proofs.YtffejfpbeimngaaDoor.Plt
