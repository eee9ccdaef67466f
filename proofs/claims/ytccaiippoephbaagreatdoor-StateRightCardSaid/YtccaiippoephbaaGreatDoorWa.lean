/- Rows of elements of k cells each, whatever the cells are: read (RowK), the call's own (OwnK); one element more, another row behind. -/
import Derived.Test.YtccaiippoephbaaGreatDoorChecked
import Derived.WalkKit
import Derived.Below
import Derived.OwnWalk
import Derived.Laws.AppendOwn
import Derived.Laws.AppendOwnNone
import Derived.Maps.AppendAt
import Derived.Lib.Hide
import Derived.Deep.RegionLaw
import Derived.OneCell
import Derived.SizedLaws
import Derived.Deep.Slices
import Derived.Deep.Fields
set_option linter.unusedVariables false
set_option maxRecDepth 100000
namespace Go.Proofs.YtccaiippoephbaaGreatDoor.Rk
open Go.RowKit

/-- A slice that is read: its elements' cells. -/
def RowK (k : Nat) (w : World) (v : Value) (xs : List (List Value)) : Prop :=
  (∀ x ∈ xs, x.length = k) ∧ ∃ a cap, v = .slice a xs.length cap ∧ xs.length ≤ cap ∧ cap ≤ maxLen ∧
    (xs = [] ∨ ∃ b off, a = some ⟨b, off, none⟩ ∧ b < w.heap.size ∧ ∀ j (h : j < xs.length) i u, xs[j][i]? = some u → w.cell? ⟨b, off + j * k + i, none⟩ = some u)
theorem RowK.below {k : Nat} {w w' : World} {v : Value} {xs : List (List Value)} (h : RowK k w v xs) {B : Nat} (hb : Below B w w') (hB : w.heap.size ≤ B) : RowK k w' v xs := by
  obtain ⟨h0, a, cap, rfl, h1, h2, h3⟩ := h
  refine ⟨h0, a, cap, rfl, h1, h2, ?_⟩
  rcases h3 with rfl | ⟨b, off, rfl, hlt, hc⟩
  · exact .inl rfl
  · refine .inr ⟨b, off, rfl, Nat.lt_of_lt_of_le hlt hb.size, fun j hj i u hu => ?_⟩
    rw [hb.cell (p := ⟨b, off + j * k + i, none⟩) (Nat.lt_of_lt_of_le hlt hB)]
    exact hc j hj i u hu
theorem RowK.is_slice {k : Nat} {w : World} {v : Value} {xs : List (List Value)} (h : RowK k w v xs) : ∃ a cap, v = .slice a xs.length cap := by
  obtain ⟨_, a, cap, rfl, _⟩ := h
  exact ⟨a, cap, rfl⟩
theorem RowK.nil_ (k : Nat) (w : World) : RowK k w (.slice none 0 0) [] := ⟨fun _ h => by simp at h, none, 0, rfl, Nat.le_refl _, Nat.zero_le _, .inl rfl⟩
theorem flat_get {k : Nat} : ∀ {xs : List (List Value)}, (∀ x ∈ xs, x.length = k) → ∀ j (h : j < xs.length) i, i < k → xs.flatten[j * k + i]? = xs[j][i]?
  | [], _, j, h, _, _ => absurd h (Nat.not_lt_zero _)
  | x :: xs, hk, j, h, i, hi => by
    have hx : x.length = k := hk x List.mem_cons_self
    rw [List.flatten_cons]
    cases j with
    | zero =>
      rw [Nat.zero_mul, Nat.zero_add, List.getElem?_append_left (by omega)]
      rfl
    | succ j =>
      rw [List.getElem?_append_right (by rw [hx, Nat.succ_mul]; omega), hx, show (j + 1) * k + i - k = j * k + i by rw [Nat.succ_mul]; omega]
      exact flat_get (fun y hy => hk y (List.mem_cons_of_mem _ hy)) j (by simpa using h) i hi
theorem flat_len {k : Nat} : ∀ {xs : List (List Value)}, (∀ x ∈ xs, x.length = k) → xs.flatten.length = xs.length * k
  | [], _ => by simp
  | x :: xs, hk => by
    rw [List.flatten_cons, List.length_append, hk x List.mem_cons_self, flat_len (fun y hy => hk y (List.mem_cons_of_mem _ hy)), List.length_cons, Nat.succ_mul]
    omega

/-- A row of the call's own. -/
def OwnK (e : TypeId) (k base : Nat) (w : World) (v : Value) (xs : List (List Value)) : Prop :=
  (∀ x ∈ xs, x.length = k ∧ ∀ u ∈ x, u.oneCell' = true) ∧ w.ownsRow base e k v xs.length xs.flatten
theorem OwnK.row {e : TypeId} {k base : Nat} {w : World} {v : Value} {xs : List (List Value)} (h : OwnK e k base w v xs) : RowK k w v xs := by
  obtain ⟨h0, h⟩ := h
  refine ⟨fun x hx => (h0 x hx).1, ?_⟩
  rcases h.2 with ⟨rfl, h1⟩ | ⟨g, cap, cur, rfl, hb, hg, hle, hm, hsz, htake⟩
  · have : xs = [] := List.eq_nil_of_length_eq_zero h1
    subst this
    exact ⟨none, 0, rfl, Nat.le_refl _, Nat.zero_le _, .inl rfl⟩
  · refine ⟨some ⟨g, 0, none⟩, cap, rfl, hle, hm, ?_⟩
    by_cases hx : xs = []
    · exact .inl hx
    · refine .inr ⟨g, 0, rfl, (Array.getElem?_eq_some_iff.1 hg).1, fun j hj i u hu => ?_⟩
      have hk := (h0 xs[j] (List.getElem_mem hj)).1
      have hi : i < k := by
        rcases Nat.lt_or_ge i k with q | q
        · exact q
        · rw [List.getElem?_eq_none (by omega)] at hu; cases hu
      have hc := World.ownsRow.cells h (g := g) rfl (j * k + i) u (by rw [flat_get (fun x hx => (h0 x hx).1) j hj i hi]; exact hu)
      have hadd : (⟨g, 0, none⟩ : Addr).add (j * k + i) = ⟨g, j * k + i, none⟩ := by unfold Addr.add; split <;> simp_all
      rw [hadd] at hc
      rw [Nat.zero_add]
      exact hc
theorem OwnK.nil_ (e : TypeId) (k base : Nat) (w : World) : OwnK e k base w (.slice none 0 0) [] := ⟨fun _ h => by simp at h, World.ownsRow_nil _ _ _ _⟩
theorem OwnK.kept {e : TypeId} {k base : Nat} {w w' : World} {v : Value} {xs : List (List Value)} {row : Option Nat} (h : OwnK e k base w v xs) (hg : w.grownBy w' row) (hne : v.ownBlock = none ∨ v.ownBlock ≠ row) : OwnK e k base w' v xs :=
  ⟨h.1, h.2.kept hg hne⟩
theorem grown_of_below {w w' : World} (hb : Below w.heap.size w w') (row : Option Nat) : w.grownBy w' row := ⟨hb.os, hb.tape, hb.output, hb.size, fun k hk _ => hb.block k hk⟩
theorem OwnK.below {e : TypeId} {k base : Nat} {w w' : World} {v : Value} {xs : List (List Value)} (h : OwnK e k base w v xs) (hb : Below w.heap.size w w') : OwnK e k base w' v xs :=
  h.kept (grown_of_below hb none) (by cases hv : v.ownBlock <;> simp)
theorem OwnK.block {e : TypeId} {k base : Nat} {w : World} {v : Value} {xs : List (List Value)} (h : OwnK e k base w v xs) : ∀ g, v.ownBlock = some g → base ≤ g ∧ g < w.heap.size := h.2.lt
theorem OwnK.is_slice {e : TypeId} {k base : Nat} {w : World} {v : Value} {xs : List (List Value)} (h : OwnK e k base w v xs) : ∃ a cap, v = .slice a xs.length cap := h.row.is_slice
theorem OwnK.low {e : TypeId} {k base : Nat} {w : World} {v : Value} {xs : List (List Value)} (h : OwnK e k base w v xs) {b : Nat} (hb : b < base) : v.ownBlock ≠ some b := fun e1 => by
  have := (h.block b e1).1
  omega
/-- The world behind an append: what lay there stays, but for the row's own block. -/
theorem OwnK.belowOf {e : TypeId} {k base B : Nat} {w0 w w' : World} {v : Value} {xs : List (List Value)} (h : OwnK e k base w v xs) (hb : Below B w0 w) (hB : B ≤ base) (hs : base ≤ w.heap.size) (hg : w.grownBy w' v.ownBlock) : Below B w0 w' :=
  hb.grown hg (Nat.le_trans hB hs) (fun g e1 => Nat.le_trans hB (h.block g e1).1)

theorem kparts {P : Program} {e : TypeId} {z : Value} {k bytes : Nat} (h : (P.info? e).map (fun i => (i.zero, i.size, i.bytes)) = some (some z, k, bytes)) : ∃ i, P.info? e = some i ∧ i.zero = some z ∧ i.size = k ∧ i.bytes = bytes := by
  cases hi : P.info? e with
  | none => rw [hi] at h; cases h
  | some i =>
    rw [hi] at h
    simp only [Option.map_some, Option.some.injEq, Prod.mk.injEq] at h
    exact ⟨i, rfl, h.1, h.2.1, h.2.2⟩
theorem kadd (b o j : Nat) : (⟨b, o, none⟩ : Addr).add j = ⟨b, o + j, none⟩ := by
  unfold Addr.add
  by_cases h : j = 0
  · rw [if_pos h, h, Nat.add_zero]
  · rw [if_neg h]
theorem nil_append_run {P : Program} (w : World) (base : Nat) (t ty e : TypeId) (i : TypeInfo) (size : Nat) (ht : P.underlying t = some (.slice e)) (hi : P.info? e = some i)
    (v : Value) (n : Nat) (xs : List Value) (hown : w.ownsRow base e size v n xs) (c : Nat) : (Builtin.append_ #[t, t] ty #[v, .slice none 0 c]).run P w = .ok v w := by
  rcases hown.2 with ⟨rfl, rfl⟩ | ⟨g, cap, cur, rfl, _, _, hnc, _⟩
  · simp [Builtin.append_, run_underlying ht, sizeOf, typeInfo, hi, Builtin.lenOf, Builtin.firstCells]
  · simp [Builtin.append_, run_underlying ht, sizeOf, typeInfo, hi, Builtin.lenOf, Builtin.firstCells, hnc, storeCells]

/-- A row that is read, appended to a row of the call's own. -/
theorem run_append_rowk {P : Program} (w : World) (base : Nat) (tS ty e : TypeId) (k bytes : Nat) (z : Value) (ht : P.underlying tS = some (.slice e)) (hinfo : (P.info? e).map (fun i => (i.zero, i.size, i.bytes)) = some (some z, k, bytes)) (hzs : z.cells.size = k) (hk : 0 < k) (hby : bytes ≤ 1000)
    (v u : Value) (xs ys : List (List Value)) (hown : OwnK e k base w v xs) (hy : RowK k w u ys) (hyo : ∀ y ∈ ys, ∀ q ∈ y, q.oneCell' = true) (hn : xs.length + ys.length ≤ 100000) (hbase : base ≤ w.heap.size) :
    ∃ v' w', (Builtin.append_ #[tS, tS] ty #[v, u]).run P w = .ok v' w' ∧ OwnK e k base w' v' (xs ++ ys) ∧ w.grownBy w' v.ownBlock ∧ (v'.ownBlock = v.ownBlock ∨ v'.ownBlock = some w.heap.size) := by
  obtain ⟨i0, hi, hz0, hz1, hz2⟩ := kparts hinfo
  have hbig : (xs.length + ys.length) * bytes ≤ 140737488355328 := Nat.le_trans (Nat.mul_le_mul (show xs.length + ys.length ≤ 100000 from hn) hby) (by decide)
  obtain ⟨hyl, a, cap, rfl, h1, h2, h3⟩ := hy
  cases a with
  | none =>
    have he : ys = [] := by
      rcases h3 with h3 | ⟨b, off, h3, _⟩
      · exact h3
      · cases h3
    subst he
    exact ⟨v, w, nil_append_run w base tS ty e i0 k ht hi v xs.length xs.flatten hown.2 cap, by rw [List.append_nil]; exact hown, ⟨rfl, rfl, rfl, Nat.le_refl _, fun _ _ _ => rfl⟩, .inl rfl⟩
  | some ad =>
    have hfl : ys.flatten.length = ys.length * k := flat_len hyl
    obtain ⟨v', w', hr, q2, q3, q4, q5⟩ := run_append_own_at (P := P) w base tS ty e i0 z k bytes ht hi hz0 hz1 hz2 hzs hk v xs.length xs.flatten hown.2 ad ys.length cap ys.flatten hfl (by
        intro j q hj
        have hjl : j < ys.length * k := by
          rcases Nat.lt_or_ge j ys.flatten.length with g | g
          · omega
          · rw [List.getElem?_eq_none g] at hj; cases hj
        rcases h3 with h3 | ⟨b, off, h3, hb, hc⟩
        · subst h3; simp at hj
        · injection h3 with h3
          subst h3
          have hm : j % k < k := Nat.mod_lt _ hk
          have hd : j / k < ys.length := Nat.div_lt_of_lt_mul (by rw [Nat.mul_comm]; exact hjl)
          have hj2 : j / k * k + j % k = j := by rw [Nat.mul_comm]; exact Nat.div_add_mod j k
          have := hc (j / k) hd (j % k) q (by rw [← flat_get hyl (j / k) hd (j % k) hm, hj2]; exact hj)
          rw [kadd, ← this, show off + j / k * k + j % k = off + j by omega])
      (fun q hq => by
        obtain ⟨y, hy1, hy2⟩ := List.mem_flatten.1 hq
        exact hyo y hy1 q hy2) (by unfold maxLen; omega) hbig hbase
    refine ⟨v', w', hr, ⟨fun x hx => ?_, ?_⟩, q3, q5⟩
    · rcases List.mem_append.1 hx with hx | hx
      · exact hown.1 x hx
      · exact ⟨hyl x hx, hyo x hx⟩
    · rw [List.length_append, List.flatten_append]
      exact q2
section
variable {P : Program}
/-- .. as a step of a walk. -/
theorem wpList_append_rowk {w : World} {ops : Array Oper} {rest : List Oper} {o : Oper} {a : Act} {Q : Exit → Act → World → Prop} (hgd : o.guard = none) (s x : Operand) (tS e : TypeId) (k bytes : Nat) (z : Value)
    (ht : P.underlying tS = some (.slice e)) (hinfo : (P.info? e).map (fun i => (i.zero, i.size, i.bytes)) = some (some z, k, bytes)) (hzs : z.cells.size = k) (hk : 0 < k) (hby : bytes ≤ 1000)
    (ho : o.op = .call { callee := .builtin .append, args := #[s, x], argTypes := #[tS, tS] }) (base : Nat) (v u : Value) (xs ys : List (List Value)) (hs : a.eval s = v) (hx : a.eval x = u) (hown : OwnK e k base w v xs) (hy : RowK k w u ys) (hyo : ∀ y ∈ ys, ∀ q ∈ y, q.oneCell' = true) (hn : xs.length + ys.length ≤ 100000) (hbase : base ≤ w.heap.size)
    (h : ∀ v' w', OwnK e k base w' v' (xs ++ ys) → w.grownBy w' v.ownBlock → (v'.ownBlock = v.ownBlock ∨ v'.ownBlock = some w.heap.size) → wpList P ops Q rest (a.put o.dst v') w') : wpList P ops Q (o :: rest) a w := by
  refine wpList_plain hgd fun K hK => ?_
  obtain ⟨v', w', hr, h2, h3, h5⟩ := run_append_rowk (P := P) w base tS o.type e k bytes z ht hinfo hzs hk hby v u xs ys hown hy hyo hn hbase
  unfold Oper.wp execOp
  simp only [ho, resolve, invoke, builtin, Sem.run_bind, Sem.run_pure, Result.andThen_ok, List.map_toArray, List.map_cons, List.map_nil, hs, hx, hr]
  exact hK _ _ (h v' w' h2 h3 h5)
/-- One element more, which lies in a block of its own. -/
theorem row_one {e : TypeId} {k b : Nat} {w : World} {y : List Value} (hb : w.heap[b]? = some (.cells y.toArray e (0, 0))) (hyl : y.length = k) : RowK k w (.slice (some ⟨b, 0, none⟩) 1 1) [y] := by
  refine ⟨fun x hx => by simp at hx; rw [hx]; exact hyl, some ⟨b, 0, none⟩, 1, rfl, Nat.le_refl _, by unfold maxLen; omega, .inr ⟨b, 0, rfl, (Array.getElem?_eq_some_iff.1 hb).1, fun j hj i u hu => ?_⟩⟩
  have hj0 : j = 0 := by simpa using hj
  subst hj0
  simp only [List.getElem_cons_zero] at hu
  rw [Nat.zero_mul, Nat.zero_add, cell_of_row w b i _ _ (0, 0) hb]
  simpa using hu
end

/-- Elements with a meaning: of each a relation holds between its cells and what it means. -/
def Rows {α : Type} (k : Nat) (R : World → List Value → α → Prop) (w : World) (v : Value) (A : List α) : Prop :=
  ∃ p : List (List Value × α), p.map Prod.snd = A ∧ RowK k w v (p.map Prod.fst) ∧ ∀ x ∈ p, R w x.1 x.2
theorem Rows.below {α : Type} {k : Nat} {R : World → List Value → α → Prop} (hR : ∀ {w w' : World} {x : List Value} {y : α}, R w x y → Below w.heap.size w w' → R w' x y) {w w' : World} {v : Value} {A : List α} (h : Rows k R w v A) (hb : Below w.heap.size w w') : Rows k R w' v A := by
  obtain ⟨p, h1, h2, h3⟩ := h
  exact ⟨p, h1, h2.below hb (Nat.le_refl _), fun x hx => hR (h3 x hx) hb⟩
/-- The same, of the call's own. -/
def OwnR {α : Type} (e : TypeId) (k : Nat) (R : World → List Value → α → Prop) (base : Nat) (w : World) (v : Value) (A : List α) : Prop :=
  ∃ p : List (List Value × α), p.map Prod.snd = A ∧ OwnK e k base w v (p.map Prod.fst) ∧ ∀ x ∈ p, R w x.1 x.2
theorem OwnR.rows {α : Type} {e : TypeId} {k base : Nat} {R : World → List Value → α → Prop} {w : World} {v : Value} {A : List α} (h : OwnR e k R base w v A) : Rows k R w v A := by
  obtain ⟨p, h1, h2, h3⟩ := h
  exact ⟨p, h1, h2.row, h3⟩
theorem OwnR.nil_ {α : Type} (e : TypeId) (k : Nat) (R : World → List Value → α → Prop) (base : Nat) (w : World) : OwnR e k R base w (.slice none 0 0) [] := ⟨[], rfl, OwnK.nil_ _ _ _ _, fun _ h => by simp at h⟩
theorem OwnR.below {α : Type} {e : TypeId} {k base : Nat} {R : World → List Value → α → Prop} (hR : ∀ {w w' : World} {x : List Value} {y : α}, R w x y → Below w.heap.size w w' → R w' x y) {w w' : World} {v : Value} {A : List α} (h : OwnR e k R base w v A) (hb : Below w.heap.size w w') : OwnR e k R base w' v A := by
  obtain ⟨p, h1, h2, h3⟩ := h
  exact ⟨p, h1, h2.below hb, fun x hx => hR (h3 x hx) hb⟩
theorem OwnR.is_slice {α : Type} {e : TypeId} {k base : Nat} {R : World → List Value → α → Prop} {w : World} {v : Value} {A : List α} (h : OwnR e k R base w v A) : ∃ a cap, v = .slice a A.length cap := by
  obtain ⟨p, h1, h2, _⟩ := h
  obtain ⟨a, cap, e⟩ := h2.is_slice
  exact ⟨a, cap, by rw [e, ← h1, List.length_map, List.length_map]⟩
theorem Rows.is_slice {α : Type} {k : Nat} {R : World → List Value → α → Prop} {w : World} {v : Value} {A : List α} (h : Rows k R w v A) : ∃ a cap, v = .slice a A.length cap := by
  obtain ⟨p, h1, h2, _⟩ := h
  obtain ⟨a, cap, e⟩ := h2.is_slice
  exact ⟨a, cap, by rw [e, ← h1, List.length_map, List.length_map]⟩
theorem Rows.nil_ {α : Type} (k : Nat) (R : World → List Value → α → Prop) (w : World) : Rows k R w (.slice none 0 0) [] := ⟨[], rfl, RowK.nil_ _ _, fun _ h => by simp at h⟩
/-- An element: its cells. -/
theorem Rows.get {α : Type} {k : Nat} {R : World → List Value → α → Prop} {w : World} {a : Option Addr} {n cap : Nat} {A : List α} (h : Rows k R w (.slice a n cap) A) {j : Nat} (hj : j < A.length) :
    ∃ b off x, a = some ⟨b, off, none⟩ ∧ b < w.heap.size ∧ x.length = k ∧ R w x A[j] ∧ ∀ i u, x[i]? = some u → w.cell? ⟨b, off + j * k + i, none⟩ = some u := by
  obtain ⟨p, h1, ⟨h0, a', cap', e, h2, h3, h4⟩, h5⟩ := h
  injection e with e1 e2 e3
  subst e1
  have hl : p.length = A.length := by rw [← h1, List.length_map]
  have hjp : j < p.length := by omega
  rcases h4 with h4 | ⟨b, off, rfl, hb, hc⟩
  · have : p.length = 0 := by rw [← List.length_map (f := Prod.fst), h4]; rfl
    omega
  · refine ⟨b, off, p[j].1, rfl, hb, h0 _ (List.mem_map_of_mem (List.getElem_mem hjp)), ?_, fun i u hu => hc j (by rw [List.length_map]; exact hjp) i u (by rw [List.getElem_map]; exact hu)⟩
    have : A[j] = p[j].2 := by
      subst h1
      rw [List.getElem_map]
    rw [this]
    exact h5 _ (List.getElem_mem hjp)
/-- What a slice of another one's elements means. -/
theorem Rows.len {α : Type} {k : Nat} {R : World → List Value → α → Prop} {w : World} {a : Option Addr} {n cap : Nat} {A : List α} (h : Rows k R w (.slice a n cap) A) : n = A.length ∧ A.length ≤ cap ∧ cap ≤ maxLen := by
  obtain ⟨p, h1, ⟨h0, a', cap', e, h2, h3, h4⟩, h5⟩ := h
  injection e with e1 e2 e3
  subst e1 e3
  have hl : p.length = A.length := by rw [← h1, List.length_map]
  rw [List.length_map] at e2 h2
  omega
/-- One element more. -/
theorem OwnR.put {α : Type} {e : TypeId} {k base : Nat} {R : World → List Value → α → Prop} {w w' : World} {v v' : Value} {A : List α} {y : List Value} {x : α} (h : OwnR e k R base w v A) (h' : ∀ p : List (List Value × α), p.map Prod.snd = A → OwnK e k base w v (p.map Prod.fst) → (∀ x ∈ p, R w x.1 x.2) → OwnK e k base w' v' (p.map Prod.fst ++ [y])) (hR : ∀ {x : List Value} {y : α}, R w x y → R w' x y) (hx : R w' y x) : OwnR e k R base w' v' (A ++ [x]) := by
  obtain ⟨p, h1, h2, h3⟩ := h
  refine ⟨p ++ [(y, x)], by rw [List.map_append, h1]; rfl, by rw [List.map_append]; exact h' p h1 h2 h3, fun q hq => ?_⟩
  rcases List.mem_append.1 hq with hq | hq
  · exact hR (h3 q hq)
  · simp at hq
    subst hq
    exact hx
end Go.Proofs.YtccaiippoephbaaGreatDoor.Rk
/- A block of the call's own: made, read, written; no program's own types. -/
set_option linter.unusedVariables false
set_option linter.unusedSimpArgs false
namespace Go.Proofs.YtccaiippoephbaaGreatDoor.Bx
open Go.RowKit Go.Lib

theorem box1 (w : World) (cs : Array Value) (ty : TypeId) : Below w.heap.size w (w.alloc (.cells cs ty)) ∧ (w.alloc (.cells cs ty)).heap[w.heap.size]? = some (.cells cs ty (0, 0)) ∧ (w.alloc (.cells cs ty)).heap.size = w.heap.size + 1 :=
  ⟨(Below.refl _ _).alloc (Nat.le_refl _) _, heap_alloc_new _ _, by simp⟩
theorem below_al {w w' : World} (h : Below w.heap.size w w') (o : Obj) : Below w.heap.size w (w'.alloc o) := h.alloc h.size o
theorem below_put {W0 w1 : World} {B C j : Nat} (h : Below B W0 w1) (hC : B ≤ C) (u : Value) : Below B W0 (w1.setCell ⟨C, j, none⟩ u) := h.setCell (p := ⟨C, j, none⟩) hC u
theorem below_on {w w1 w2 : World} {B : Nat} (h1 : Below B w w1) (h2 : Below w1.heap.size w1 w2) (hB : B ≤ w.heap.size := by exact Nat.le_refl _) : Below B w w2 := h1.trans (h2.mono (Nat.le_trans hB h1.size))
theorem vcell {w w' : World} {b o : Nat} {v : Value} {B : Nat} (hb : Below B w w') (hlt : b < B) (h : w.cell? ⟨b, o, none⟩ = some v) : w'.cell? ⟨b, o, none⟩ = some v := by
  rw [hb.cell (p := ⟨b, o, none⟩) hlt]; exact h
theorem set_block {B i : Nat} {w : World} {u : Value} {cs : Array Value} {ty : TypeId} (hB : w.heap[B]? = some (.cells cs ty (0, 0))) : (w.setCell ⟨B, i, none⟩ u).heap[B]? = some (.cells (cs.setIfInBounds i u) ty (0, 0)) := by
  rw [heap_setCell_same _ _ _ _ _ _ hB]
theorem free_at {w : World} {B i : Nat} {cs : Array Value} {ty : TypeId} (z : w.heap[B]? = some (.cells cs ty (0, 0))) : w.frozen? ⟨B, i, none⟩ = false := by
  unfold World.frozen?
  simp [z]
theorem one_cell {w : World} {B : Nat} {x0 : Value} {ty : TypeId} (z : w.heap[B]? = some (.cells #[x0] ty (0, 0))) : w.cell? ⟨B, 0, none⟩ = some x0 := by
  rw [cell_of_row _ _ _ _ _ _ z]; rfl
theorem two_cells {w : World} {B : Nat} {x0 x1 : Value} {ty : TypeId} (z : w.heap[B]? = some (.cells #[x0, x1] ty (0, 0))) : w.cell? ⟨B, 0, none⟩ = some x0 ∧ w.cell? ⟨B, 1, none⟩ = some x1 := by
  refine ⟨?_, ?_⟩ <;> (rw [cell_of_row _ _ _ _ _ _ z]; rfl)
theorem three_cells {w : World} {B : Nat} {x0 x1 x2 : Value} {ty : TypeId} (z : w.heap[B]? = some (.cells #[x0, x1, x2] ty (0, 0))) : w.cell? ⟨B, 0, none⟩ = some x0 ∧ w.cell? ⟨B, 1, none⟩ = some x1 ∧ w.cell? ⟨B, 2, none⟩ = some x2 := by
  refine ⟨?_, ?_, ?_⟩ <;> (rw [cell_of_row _ _ _ _ _ _ z]; rfl)
theorem four_cells {w : World} {B : Nat} {x0 x1 x2 x3 : Value} {ty : TypeId} (z : w.heap[B]? = some (.cells #[x0, x1, x2, x3] ty (0, 0))) : w.cell? ⟨B, 0, none⟩ = some x0 ∧ w.cell? ⟨B, 1, none⟩ = some x1 ∧ w.cell? ⟨B, 2, none⟩ = some x2 ∧ w.cell? ⟨B, 3, none⟩ = some x3 := by
  refine ⟨?_, ?_, ?_, ?_⟩ <;> (rw [cell_of_row _ _ _ _ _ _ z]; rfl)
theorem five_cells {w : World} {B : Nat} {x0 x1 x2 x3 x4 : Value} {ty : TypeId} (z : w.heap[B]? = some (.cells #[x0, x1, x2, x3, x4] ty (0, 0))) : w.cell? ⟨B, 0, none⟩ = some x0 ∧ w.cell? ⟨B, 1, none⟩ = some x1 ∧ w.cell? ⟨B, 2, none⟩ = some x2 ∧ w.cell? ⟨B, 3, none⟩ = some x3 ∧ w.cell? ⟨B, 4, none⟩ = some x4 := by
  refine ⟨?_, ?_, ?_, ?_, ?_⟩ <;> (rw [cell_of_row _ _ _ _ _ _ z]; rfl)
end Go.Proofs.YtccaiippoephbaaGreatDoor.Bx
/- Frame: what the document asks, as plain lists; streams that are cut. No program is spoken of here. -/
set_option linter.unusedVariables false
set_option linter.unusedSimpArgs false
namespace Go.Proofs.YtccaiippoephbaaGreatDoor.Frm
open Go.Lib

def mkB (l : List UInt8) : ByteArray := ⟨l.toArray⟩
theorem mkB_data (l : List UInt8) : (mkB l).data.toList = l := rfl
theorem mkB_self (s : ByteArray) : mkB s.data.toList = s := rfl
theorem mkB_size (l : List UInt8) : (mkB l).size = l.length := by
  show l.toArray.size = _
  simp
theorem mkB_inj {l m : List UInt8} (h : mkB l = mkB m) : l = m := by
  have := congrArg (fun s : ByteArray => s.data.toList) h
  exact this
theorem mkB_extract (l : List UInt8) (a b : Nat) : (mkB l).extract a b = mkB ((l.take b).drop a) := by
  have h : ((mkB l).extract a b).data.toList = (l.take b).drop a := by
    rw [ByteArray.data_extract, Array.toList_extract, List.extract_eq_take_drop, List.drop_take]
    rfl
  rw [← mkB_self ((mkB l).extract a b), h]
def hd (l : List UInt8) : Nat := (l.getD 0 0).toNat * 256 + (l.getD 1 0).toNat
abbrev Res := List (List UInt8) × List UInt8 × Bool
def consR (x : List UInt8) (p : Res) : Res := (x :: p.1, p.2.1, p.2.2)
def splitF (most : Int) : Nat → List UInt8 → Res
  | 0, l => ([], l, true)
  | k + 1, l => if l.length < 2 then ([], l, true) else if hd l = 0 ∨ most < hd l then ([], [], false) else if l.length < hd l + 2 then ([], l, true) else consR ((l.take (hd l + 2)).drop 2) (splitF most k (l.drop (hd l + 2)))
def sp (most : Int) (l : List UInt8) : Res := splitF most l.length l
def wrapB (l : List UInt8) : List UInt8 := UInt8.ofNat (l.length / 256) :: UInt8.ofNat (l.length % 256) :: l
theorem hd_wrap {l r : List UInt8} (h : l.length ≤ 65535) : hd (wrapB l ++ r) = l.length := by
  show (UInt8.ofNat (l.length / 256)).toNat * 256 + (UInt8.ofNat (l.length % 256)).toNat = _
  rw [UInt8.toNat_ofNat', UInt8.toNat_ofNat', Nat.mod_eq_of_lt (show l.length / 256 < 2 ^ 8 by omega), Nat.mod_eq_of_lt (show l.length % 256 < 2 ^ 8 by omega)]
  omega
end Go.Proofs.YtccaiippoephbaaGreatDoor.Frm
/- Words: numbers, texts and bools as bytes. No program is spoken of here. -/
set_option linter.unusedVariables false
set_option linter.unusedSimpArgs false
namespace Go.Proofs.YtccaiippoephbaaGreatDoor.Wds
open Go.Lib Go.Proofs.YtccaiippoephbaaGreatDoor.Frm

/-- A number as 64 bits. -/
def u64 (n : Int) : Nat := (n % 18446744073709551616).toNat
def byteN (n : Int) (j : Nat) : UInt8 := UInt8.ofNat (u64 n / 2 ^ (8 * (7 - j)))
def numL (n : Int) : List UInt8 := (List.range 8).map (byteN n)
def valN (l : List UInt8) : Nat := l.foldl (fun a b => a * 256 + b.toNat) 0
def back (m : Nat) : Int := if m % 18446744073709551616 < 9223372036854775808 then (m % 18446744073709551616 : Nat) else (m % 18446744073709551616 : Nat) - 18446744073709551616
def textL (l : List UInt8) : List UInt8 := UInt8.ofNat (l.length / 256) :: UInt8.ofNat (l.length % 256) :: l
def listL (xs : List Int) : List UInt8 := UInt8.ofNat xs.length :: xs.flatMap numL
def countN (op : Int) : Nat := if op = 3 ∨ op = 8 ∨ op = 9 ∨ op = 10 then 1 else if op = 12 ∨ op = 14 ∨ op = 15 then 2 else if op = 4 ∨ op = 11 ∨ op = 13 then 3 else if op = 5 then 4 else if op = 6 then 5 else if op = 7 then 6 else 0
/-! a reader: what is left, and whether it is spoilt -/
structure Rd where
  s : List UInt8
  bad : Bool
def takeR (r : Rd) (n : Nat) : List UInt8 × Rd := if r.bad = true ∨ r.s.length < n then (List.replicate n 0, ⟨r.s, true⟩) else (r.s.take n, ⟨r.s.drop n, false⟩)
theorem take_len (r : Rd) (n : Nat) : (takeR r n).1.length = n := by
  unfold takeR
  split
  · exact List.length_replicate
  · show (r.s.take n).length = n
    rw [List.length_take]
    omega
def numR (r : Rd) : Int × Rd := (back (valN (takeR r 8).1), (takeR r 8).2)
def lenR (r : Rd) : Nat × Rd := (((takeR r 1).1.getD 0 0).toNat, (takeR r 1).2)
def flagR (r : Rd) : Bool × Rd := (decide (((takeR r 1).1.getD 0 0).toNat = 1), if 1 < ((takeR r 1).1.getD 0 0).toNat then ⟨(takeR r 1).2.s, true⟩ else (takeR r 1).2)
def textR (r : Rd) : List UInt8 × Rd := if (takeR r 2).2.bad = true ∨ (takeR r 2).2.s.length < hd (takeR r 2).1 then ([], ⟨(takeR r 2).2.s, true⟩) else takeR (takeR r 2).2 (hd (takeR r 2).1)
/-! what is written is read again -/
theorem take_app {l b : List UInt8} {n : Nat} (h : l.length = n) : takeR ⟨l ++ b, false⟩ n = (l, ⟨b, false⟩) := by
  subst h
  unfold takeR
  rw [if_neg (by simp)]
  simp
theorem text_app {l : List UInt8} (h : l.length ≤ 65535) (b : List UInt8) : textR ⟨textL l ++ b, false⟩ = (l, ⟨b, false⟩) := by
  unfold textR
  rw [show textL l ++ b = [UInt8.ofNat (l.length / 256), UInt8.ofNat (l.length % 256)] ++ (l ++ b) from rfl, take_app (show [UInt8.ofNat (l.length / 256), UInt8.ofNat (l.length % 256)].length = 2 from rfl)]
  have e : hd [UInt8.ofNat (l.length / 256), UInt8.ofNat (l.length % 256)] = l.length := by
    have := hd_wrap (l := l) (r := []) h
    exact this
  simp only [e]
  rw [if_neg (by simp), take_app rfl]
/-! and what is read is written as just these bytes -/
def Took (r : Rd) (l : List UInt8) (r' : Rd) : Prop := r'.bad = false → r.bad = false ∧ r.s = l ++ r'.s
theorem take_took (r : Rd) (n : Nat) : Took r (takeR r n).1 (takeR r n).2 := by
  unfold Took takeR
  intro h
  split at h
  · cases h
  · rename_i hn
    rw [if_neg hn]
    refine ⟨?_, (List.take_append_drop _ _).symm⟩
    cases hb : r.bad with
    | false => rfl
    | true => exact absurd (.inl hb) hn
end Go.Proofs.YtccaiippoephbaaGreatDoor.Wds
/- Rows of elements of k cells each with a meaning, opened out of an argument's reading; what they weigh is borne along. -/
set_option linter.unusedVariables false
set_option linter.unusedSimpArgs false
namespace Go.Proofs.YtccaiippoephbaaGreatDoor.Rk
open Go.RowKit

section
open Go.ChangeShapes Go.WideShapes Go.Deep
variable {H : Type} {enc : TypeId × Value → H} {P : Program}
theorem weights_all {P : Program} {e : TypeId} : ∀ {l : List (DataW H)} {x : DataW H}, x ∈ l → ∀ n ∈ x.weights P e, n ∈ DataW.weightsAll P e l
  | y :: l, x, hx, n, hn => by
    simp only [DataW.weightsAll, List.mem_append]
    rcases List.mem_cons.1 hx with rfl | hx
    · exact .inl hn
    · exact .inr (weights_all hx n hn)
/-- .. of a cell that is read as a slice. -/
theorem rows_atw {α : Type} {R : World → List Value → α → Prop} {W : World} {c : Value} {x : DataW H × List MemPlace} {tS e : TypeId} {k fuel : Nat} (ht : P.underlying tS = some (.slice e)) (hk : P.cellsOf e = k) (hk0 : 0 < k)
    (hf : DataW.trod enc P W 0 (fun _ => true) true fuel tS [c] = some x)
    (B : Nat) (hw : ∀ n ∈ x.1.weights P tS, n ≤ B)
    (hR : ∀ m cs x, cs.length = k → DataW.trod enc P W 0 (fun _ => true) true m e cs = some x → (∀ n ∈ x.1.weights P e, n ≤ B) → ∃ y : α, R W cs y) : ∃ A : List α, Rows k R W c A := by
  rcases open_slice ht hf with ⟨hcs, _⟩ | ⟨a, len, cap, m, n, D, Pl, hcs, _, hl, hm, hmm, hd, hel⟩
  · simp at hcs
    subst hcs
    exact ⟨[], Rows.nil_ _ _ _⟩
  · simp at hcs
    subst hcs
    simp only [if_true] at hmm
    have hd1 : x.1 = .slice ((List.range len).map D) ((List.range (m - len)).map fun j => D (len + j)) := congrArg Prod.fst hd
    have hall : ∀ i, i < len → (a.add (i * k)).spot = none ∧ ∃ (x : List Value) (y : α), x.length = k ∧ R W x y ∧ (∃ u, W.cell? ⟨(a.add (i * k)).block, (a.add (i * k)).off, none⟩ = some u) ∧ ∀ q u, x[q]? = some u → W.cell? ⟨(a.add (i * k)).block, (a.add (i * k)).off + q, none⟩ = some u := by
      intro i hi
      obtain ⟨cs', hc, ht'⟩ := hel i (by omega)
      rw [hk] at hc
      obtain ⟨_, hl5, hat⟩ := World.cells?_some hc
      obtain ⟨y, hy⟩ := hR _ _ _ hl5 ht' (fun q hq => hw q (by
        rw [hd1]
        simp only [DataW.weights, ht]
        exact List.mem_cons_of_mem _ (List.mem_append_left _ (weights_all (x := D i) (List.mem_map_of_mem (List.mem_range.2 hi)) _ hq))))
      clear hc ht'
      generalize a.add (i * k) = ad at *
      obtain ⟨b, o, sp⟩ := ad
      have h0 := hat 0 hk0
      rw [List.getElem?_eq_getElem (show 0 < cs'.length by omega)] at h0
      have hsp : sp = none := by simpa [Addr.add] using World.cell?_spot h0
      subst hsp
      refine ⟨rfl, cs', y, hl5, hy, ⟨_, by simpa [Addr.add] using h0⟩, fun q u hq => ?_⟩
      have hq5 : q < k := by
        rcases Nat.lt_or_ge q k with z | z
        · exact z
        · rw [List.getElem?_eq_none (by omega)] at hq; cases hq
      have h1 := hat q hq5
      rw [kadd] at h1
      rw [h1, hq]
    by_cases h0 : len = 0
    · subst h0
      exact ⟨[], [], rfl, ⟨fun _ h => by simp at h, some a, cap, rfl, Nat.zero_le _, hm, .inl rfl⟩, fun _ h => by simp at h⟩
    · obtain ⟨b, o, sp⟩ := a
      have hsp : sp = none := by
        have h1 := (hall 0 (by omega)).1
        simpa [Addr.add] using h1
      subst hsp
      have hall' : ∀ i, i < len → ∃ z : List Value × α, z.1.length = k ∧ R W z.1 z.2 ∧ (∃ u, W.cell? ⟨b, o + i * k, none⟩ = some u) ∧ ∀ q u, z.1[q]? = some u → W.cell? ⟨b, o + i * k + q, none⟩ = some u := by
        intro i hi
        obtain ⟨_, x, g, hx, hg, c0, cq⟩ := hall i hi
        rw [kadd] at c0 cq
        exact ⟨(x, g), hx, hg, c0, cq⟩
      have hch := fun i : Fin len => hall' i.1 i.2
      let A : List (List Value × α) := List.ofFn fun i : Fin len => (hch i).choose
      have hA : A.length = len := List.length_ofFn
      have hAi : ∀ i (hi : i < A.length), A[i] = (hch ⟨i, by omega⟩).choose := fun i hi => by simp [A]
      obtain ⟨y0, _, _, ⟨u0, hc0⟩, _⟩ := hall' 0 (by omega)
      rw [Nat.zero_mul, Nat.add_zero] at hc0
      refine ⟨A.map Prod.snd, A, rfl, ⟨fun x hx => ?_, some ⟨b, o, none⟩, cap, by rw [List.length_map, hA], by rw [List.length_map]; omega, hm, .inr ⟨b, o, rfl, World.block_lt_of_cell? _ _ hc0, fun j hj q u hu => ?_⟩⟩, fun x hx => ?_⟩
      · obtain ⟨y, hy, rfl⟩ := List.mem_map.1 hx
        obtain ⟨j, hj, rfl⟩ := List.getElem_of_mem hy
        rw [hAi j hj]
        exact (hch ⟨j, by omega⟩).choose_spec.1
      · rw [List.length_map] at hj
        rw [List.getElem_map, hAi j hj] at hu
        exact (hch ⟨j, by omega⟩).choose_spec.2.2.2 q u hu
      · obtain ⟨j, hj, rfl⟩ := List.getElem_of_mem hx
        rw [hAi j hj]
        exact (hch ⟨j, by omega⟩).choose_spec.2.1
end
end Go.Proofs.YtccaiippoephbaaGreatDoor.Rk
/- Words: what is read is written as just these bytes. No program is spoken of here. -/
set_option linter.unusedVariables false
set_option linter.unusedSimpArgs false
namespace Go.Proofs.YtccaiippoephbaaGreatDoor.Wds
open Go.Lib Go.Proofs.YtccaiippoephbaaGreatDoor.Frm

theorem two_bytes {t : List UInt8} (h : t.length = 2) : t = [UInt8.ofNat (hd t / 256), UInt8.ofNat (hd t % 256)] := by
  match t, h with
  | [x, y], _ =>
    have hx := x.toNat_lt
    have hy := y.toNat_lt
    have e : hd [x, y] = x.toNat * 256 + y.toNat := rfl
    rw [e, show (x.toNat * 256 + y.toNat) / 256 = x.toNat by omega, show (x.toNat * 256 + y.toNat) % 256 = y.toNat by omega, UInt8.ofNat_toNat, UInt8.ofNat_toNat]
theorem text_took (r : Rd) : Took r (textL (textR r).1) (textR r).2 := by
  have h := take_took r 2
  have e1 := two_bytes (take_len r 2)
  unfold Took at h ⊢
  unfold textR
  obtain ⟨t, ht⟩ : ∃ t, t = (takeR r 2).1 := ⟨_, rfl⟩
  obtain ⟨r1, hr1⟩ : ∃ r1, r1 = (takeR r 2).2 := ⟨_, rfl⟩
  rw [← ht, ← hr1] at h
  rw [← ht] at e1
  rw [← ht, ← hr1]
  intro hb
  by_cases hc : r1.bad = true ∨ r1.s.length < hd t
  · rw [if_pos hc] at hb
    cases hb
  · rw [if_neg hc] at hb ⊢
    obtain ⟨g1, g2⟩ := take_took r1 (hd t) hb
    obtain ⟨g3, g4⟩ := h g1
    refine ⟨g3, ?_⟩
    rw [g4, g2]
    have hl := take_len r1 (hd t)
    unfold textL
    rw [hl]
    generalize (takeR r1 (hd t)).1 = x at *
    generalize (takeR r1 (hd t)).2 = r2 at *
    rw [show UInt8.ofNat (hd t / 256) :: UInt8.ofNat (hd t % 256) :: x = [UInt8.ofNat (hd t / 256), UInt8.ofNat (hd t % 256)] ++ x from rfl, ← e1, List.append_assoc]
end Go.Proofs.YtccaiippoephbaaGreatDoor.Wds
