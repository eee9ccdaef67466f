/- Rows of elements of k cells each, whatever the cells are: read (RowK), the call's own (OwnK); one element more, another row behind. -/
import Derived.Test.YtffejfpbeimngaaDoorChecked
import Derived.WalkKit
import Derived.Below
import Derived.OwnWalk
import Derived.Laws.AppendOwn
import Derived.Laws.AppendOwnNone
import Derived.Maps.AppendAt
set_option linter.unusedVariables false
set_option maxRecDepth 100000
namespace Go.Proofs.YtffejfpbeimngaaDoor.Rk
open Go.RowKit

/-- A slice that is read: its elements' cells. -/
def RowK (k : Nat) (w : World) (v : Value) (xs : List (List Value)) : Prop :=
  (∀ x ∈ xs, x.length = k) ∧ ∃ a cap, v = .slice a xs.length cap ∧ xs.length ≤ cap ∧ cap ≤ maxLen ∧
    (xs = [] ∨ ∃ b off, a = some ⟨b, off, none⟩ ∧ b < w.heap.size ∧ ∀ j (h : j < xs.length) i u, xs[j][i]? = some u → w.cell? ⟨b, off + j * k + i, none⟩ = some u)
theorem RowK.below {k : Nat} {w w' : World} {v : Value} {xs : List (List Value)} (h : RowK k w v xs) {B : Nat} (hb : Below B w w') (hB : w.heap.size ≤ B) : RowK k w' v xs := by
  obtain ⟨h0, a, cap, rfl, h1, h2, h3⟩ := h
  refine ⟨h0, a, cap, rfl, h1, h2, ?_⟩
  rcases h3 with rfl | ⟨b, off, rfl, hlt, hc⟩
  · exact .inl rfl
  · refine .inr ⟨b, off, rfl, Nat.lt_of_lt_of_le hlt hb.size, fun j hj i u hu => ?_⟩
    rw [hb.cell (p := ⟨b, off + j * k + i, none⟩) (Nat.lt_of_lt_of_le hlt hB)]
    exact hc j hj i u hu
theorem RowK.is_slice {k : Nat} {w : World} {v : Value} {xs : List (List Value)} (h : RowK k w v xs) : ∃ a cap, v = .slice a xs.length cap := by
  obtain ⟨_, a, cap, rfl, _⟩ := h
  exact ⟨a, cap, rfl⟩
theorem RowK.nil_ (k : Nat) (w : World) : RowK k w (.slice none 0 0) [] := ⟨fun _ h => by simp at h, none, 0, rfl, Nat.le_refl _, Nat.zero_le _, .inl rfl⟩
theorem flat_get {k : Nat} : ∀ {xs : List (List Value)}, (∀ x ∈ xs, x.length = k) → ∀ j (h : j < xs.length) i, i < k → xs.flatten[j * k + i]? = xs[j][i]?
  | [], _, j, h, _, _ => absurd h (Nat.not_lt_zero _)
  | x :: xs, hk, j, h, i, hi => by
    have hx : x.length = k := hk x List.mem_cons_self
    rw [List.flatten_cons]
    cases j with
    | zero =>
      rw [Nat.zero_mul, Nat.zero_add, List.getElem?_append_left (by omega)]
      rfl
    | succ j =>
      rw [List.getElem?_append_right (by rw [hx, Nat.succ_mul]; omega), hx, show (j + 1) * k + i - k = j * k + i by rw [Nat.succ_mul]; omega]
      exact flat_get (fun y hy => hk y (List.mem_cons_of_mem _ hy)) j (by simpa using h) i hi
theorem flat_len {k : Nat} : ∀ {xs : List (List Value)}, (∀ x ∈ xs, x.length = k) → xs.flatten.length = xs.length * k
  | [], _ => by simp
  | x :: xs, hk => by
    rw [List.flatten_cons, List.length_append, hk x List.mem_cons_self, flat_len (fun y hy => hk y (List.mem_cons_of_mem _ hy)), List.length_cons, Nat.succ_mul]
    omega

/-- A row of the call's own. -/
def OwnK (e : TypeId) (k base : Nat) (w : World) (v : Value) (xs : List (List Value)) : Prop :=
  (∀ x ∈ xs, x.length = k ∧ ∀ u ∈ x, u.oneCell' = true) ∧ w.ownsRow base e k v xs.length xs.flatten
theorem OwnK.row {e : TypeId} {k base : Nat} {w : World} {v : Value} {xs : List (List Value)} (h : OwnK e k base w v xs) : RowK k w v xs := by
  obtain ⟨h0, h⟩ := h
  refine ⟨fun x hx => (h0 x hx).1, ?_⟩
  rcases h.2 with ⟨rfl, h1⟩ | ⟨g, cap, cur, rfl, hb, hg, hle, hm, hsz, htake⟩
  · have : xs = [] := List.eq_nil_of_length_eq_zero h1
    subst this
    exact ⟨none, 0, rfl, Nat.le_refl _, Nat.zero_le _, .inl rfl⟩
  · refine ⟨some ⟨g, 0, none⟩, cap, rfl, hle, hm, ?_⟩
    by_cases hx : xs = []
    · exact .inl hx
    · refine .inr ⟨g, 0, rfl, (Array.getElem?_eq_some_iff.1 hg).1, fun j hj i u hu => ?_⟩
      have hk := (h0 xs[j] (List.getElem_mem hj)).1
      have hi : i < k := by
        rcases Nat.lt_or_ge i k with q | q
        · exact q
        · rw [List.getElem?_eq_none (by omega)] at hu; cases hu
      have hc := World.ownsRow.cells h (g := g) rfl (j * k + i) u (by rw [flat_get (fun x hx => (h0 x hx).1) j hj i hi]; exact hu)
      have hadd : (⟨g, 0, none⟩ : Addr).add (j * k + i) = ⟨g, j * k + i, none⟩ := by unfold Addr.add; split <;> simp_all
      rw [hadd] at hc
      rw [Nat.zero_add]
      exact hc
theorem OwnK.nil_ (e : TypeId) (k base : Nat) (w : World) : OwnK e k base w (.slice none 0 0) [] := ⟨fun _ h => by simp at h, World.ownsRow_nil _ _ _ _⟩
theorem OwnK.kept {e : TypeId} {k base : Nat} {w w' : World} {v : Value} {xs : List (List Value)} {row : Option Nat} (h : OwnK e k base w v xs) (hg : w.grownBy w' row) (hne : v.ownBlock = none ∨ v.ownBlock ≠ row) : OwnK e k base w' v xs :=
  ⟨h.1, h.2.kept hg hne⟩
theorem grown_of_below {w w' : World} (hb : Below w.heap.size w w') (row : Option Nat) : w.grownBy w' row := ⟨hb.os, hb.tape, hb.output, hb.size, fun k hk _ => hb.block k hk⟩
theorem OwnK.below {e : TypeId} {k base : Nat} {w w' : World} {v : Value} {xs : List (List Value)} (h : OwnK e k base w v xs) (hb : Below w.heap.size w w') : OwnK e k base w' v xs :=
  h.kept (grown_of_below hb none) (by cases hv : v.ownBlock <;> simp)
theorem OwnK.block {e : TypeId} {k base : Nat} {w : World} {v : Value} {xs : List (List Value)} (h : OwnK e k base w v xs) : ∀ g, v.ownBlock = some g → base ≤ g ∧ g < w.heap.size := h.2.lt
theorem OwnK.is_slice {e : TypeId} {k base : Nat} {w : World} {v : Value} {xs : List (List Value)} (h : OwnK e k base w v xs) : ∃ a cap, v = .slice a xs.length cap := h.row.is_slice
theorem OwnK.low {e : TypeId} {k base : Nat} {w : World} {v : Value} {xs : List (List Value)} (h : OwnK e k base w v xs) {b : Nat} (hb : b < base) : v.ownBlock ≠ some b := fun e1 => by
  have := (h.block b e1).1
  omega
/-- The world behind an append: what lay there stays, but for the row's own block. -/
theorem OwnK.belowOf {e : TypeId} {k base B : Nat} {w0 w w' : World} {v : Value} {xs : List (List Value)} (h : OwnK e k base w v xs) (hb : Below B w0 w) (hB : B ≤ base) (hs : base ≤ w.heap.size) (hg : w.grownBy w' v.ownBlock) : Below B w0 w' :=
  hb.grown hg (Nat.le_trans hB hs) (fun g e1 => Nat.le_trans hB (h.block g e1).1)

theorem kparts {P : Program} {e : TypeId} {z : Value} {k bytes : Nat} (h : (P.info? e).map (fun i => (i.zero, i.size, i.bytes)) = some (some z, k, bytes)) : ∃ i, P.info? e = some i ∧ i.zero = some z ∧ i.size = k ∧ i.bytes = bytes := by
  cases hi : P.info? e with
  | none => rw [hi] at h; cases h
  | some i =>
    rw [hi] at h
    simp only [Option.map_some, Option.some.injEq, Prod.mk.injEq] at h
    exact ⟨i, rfl, h.1, h.2.1, h.2.2⟩
theorem kadd (b o j : Nat) : (⟨b, o, none⟩ : Addr).add j = ⟨b, o + j, none⟩ := by
  unfold Addr.add
  by_cases h : j = 0
  · rw [if_pos h, h, Nat.add_zero]
  · rw [if_neg h]
theorem nil_append_run {P : Program} (w : World) (base : Nat) (t ty e : TypeId) (i : TypeInfo) (size : Nat) (ht : P.underlying t = some (.slice e)) (hi : P.info? e = some i)
    (v : Value) (n : Nat) (xs : List Value) (hown : w.ownsRow base e size v n xs) (c : Nat) : (Builtin.append_ #[t, t] ty #[v, .slice none 0 c]).run P w = .ok v w := by
  rcases hown.2 with ⟨rfl, rfl⟩ | ⟨g, cap, cur, rfl, _, _, hnc, _⟩
  · simp [Builtin.append_, run_underlying ht, sizeOf, typeInfo, hi, Builtin.lenOf, Builtin.firstCells]
  · simp [Builtin.append_, run_underlying ht, sizeOf, typeInfo, hi, Builtin.lenOf, Builtin.firstCells, hnc, storeCells]

/-- A row that is read, appended to a row of the call's own. -/
theorem run_append_rowk {P : Program} (w : World) (base : Nat) (tS ty e : TypeId) (k bytes : Nat) (z : Value) (ht : P.underlying tS = some (.slice e)) (hinfo : (P.info? e).map (fun i => (i.zero, i.size, i.bytes)) = some (some z, k, bytes)) (hzs : z.cells.size = k) (hk : 0 < k) (hby : bytes ≤ 1000)
    (v u : Value) (xs ys : List (List Value)) (hown : OwnK e k base w v xs) (hy : RowK k w u ys) (hyo : ∀ y ∈ ys, ∀ q ∈ y, q.oneCell' = true) (hn : xs.length + ys.length ≤ 100000) (hbase : base ≤ w.heap.size) :
    ∃ v' w', (Builtin.append_ #[tS, tS] ty #[v, u]).run P w = .ok v' w' ∧ OwnK e k base w' v' (xs ++ ys) ∧ w.grownBy w' v.ownBlock ∧ (v'.ownBlock = v.ownBlock ∨ v'.ownBlock = some w.heap.size) := by
  obtain ⟨i0, hi, hz0, hz1, hz2⟩ := kparts hinfo
  have hbig : (xs.length + ys.length) * bytes ≤ 140737488355328 := Nat.le_trans (Nat.mul_le_mul (show xs.length + ys.length ≤ 100000 from hn) hby) (by decide)
  obtain ⟨hyl, a, cap, rfl, h1, h2, h3⟩ := hy
  cases a with
  | none =>
    have he : ys = [] := by
      rcases h3 with h3 | ⟨b, off, h3, _⟩
      · exact h3
      · cases h3
    subst he
    exact ⟨v, w, nil_append_run w base tS ty e i0 k ht hi v xs.length xs.flatten hown.2 cap, by rw [List.append_nil]; exact hown, ⟨rfl, rfl, rfl, Nat.le_refl _, fun _ _ _ => rfl⟩, .inl rfl⟩
  | some ad =>
    have hfl : ys.flatten.length = ys.length * k := flat_len hyl
    obtain ⟨v', w', hr, q2, q3, q4, q5⟩ := run_append_own_at (P := P) w base tS ty e i0 z k bytes ht hi hz0 hz1 hz2 hzs hk v xs.length xs.flatten hown.2 ad ys.length cap ys.flatten hfl (by
        intro j q hj
        have hjl : j < ys.length * k := by
          rcases Nat.lt_or_ge j ys.flatten.length with g | g
          · omega
          · rw [List.getElem?_eq_none g] at hj; cases hj
        rcases h3 with h3 | ⟨b, off, h3, hb, hc⟩
        · subst h3; simp at hj
        · injection h3 with h3
          subst h3
          have hm : j % k < k := Nat.mod_lt _ hk
          have hd : j / k < ys.length := Nat.div_lt_of_lt_mul (by rw [Nat.mul_comm]; exact hjl)
          have hj2 : j / k * k + j % k = j := by rw [Nat.mul_comm]; exact Nat.div_add_mod j k
          have := hc (j / k) hd (j % k) q (by rw [← flat_get hyl (j / k) hd (j % k) hm, hj2]; exact hj)
          rw [kadd, ← this, show off + j / k * k + j % k = off + j by omega])
      (fun q hq => by
        obtain ⟨y, hy1, hy2⟩ := List.mem_flatten.1 hq
        exact hyo y hy1 q hy2) (by unfold maxLen; omega) hbig hbase
    refine ⟨v', w', hr, ⟨fun x hx => ?_, ?_⟩, q3, q5⟩
    · rcases List.mem_append.1 hx with hx | hx
      · exact hown.1 x hx
      · exact ⟨hyl x hx, hyo x hx⟩
    · rw [List.length_append, List.flatten_append]
      exact q2
section
variable {P : Program}
/-- .. as a step of a walk. -/
theorem wpList_append_rowk {w : World} {ops : Array Oper} {rest : List Oper} {o : Oper} {a : Act} {Q : Exit → Act → World → Prop} (hgd : o.guard = none) (s x : Operand) (tS e : TypeId) (k bytes : Nat) (z : Value)
    (ht : P.underlying tS = some (.slice e)) (hinfo : (P.info? e).map (fun i => (i.zero, i.size, i.bytes)) = some (some z, k, bytes)) (hzs : z.cells.size = k) (hk : 0 < k) (hby : bytes ≤ 1000)
    (ho : o.op = .call { callee := .builtin .append, args := #[s, x], argTypes := #[tS, tS] }) (base : Nat) (v u : Value) (xs ys : List (List Value)) (hs : a.eval s = v) (hx : a.eval x = u) (hown : OwnK e k base w v xs) (hy : RowK k w u ys) (hyo : ∀ y ∈ ys, ∀ q ∈ y, q.oneCell' = true) (hn : xs.length + ys.length ≤ 100000) (hbase : base ≤ w.heap.size)
    (h : ∀ v' w', OwnK e k base w' v' (xs ++ ys) → w.grownBy w' v.ownBlock → (v'.ownBlock = v.ownBlock ∨ v'.ownBlock = some w.heap.size) → wpList P ops Q rest (a.put o.dst v') w') : wpList P ops Q (o :: rest) a w := by
  refine wpList_plain hgd fun K hK => ?_
  obtain ⟨v', w', hr, h2, h3, h5⟩ := run_append_rowk (P := P) w base tS o.type e k bytes z ht hinfo hzs hk hby v u xs ys hown hy hyo hn hbase
  unfold Oper.wp execOp
  simp only [ho, resolve, invoke, builtin, Sem.run_bind, Sem.run_pure, Result.andThen_ok, List.map_toArray, List.map_cons, List.map_nil, hs, hx, hr]
  exact hK _ _ (h v' w' h2 h3 h5)
/-- One element more, which lies in a block of its own. -/
theorem row_one {e : TypeId} {k b : Nat} {w : World} {y : List Value} (hb : w.heap[b]? = some (.cells y.toArray e (0, 0))) (hyl : y.length = k) : RowK k w (.slice (some ⟨b, 0, none⟩) 1 1) [y] := by
  refine ⟨fun x hx => by simp at hx; rw [hx]; exact hyl, some ⟨b, 0, none⟩, 1, rfl, Nat.le_refl _, by unfold maxLen; omega, .inr ⟨b, 0, rfl, (Array.getElem?_eq_some_iff.1 hb).1, fun j hj i u hu => ?_⟩⟩
  have hj0 : j = 0 := by simpa using hj
  subst hj0
  simp only [List.getElem_cons_zero] at hu
  rw [Nat.zero_mul, Nat.zero_add, cell_of_row w b i _ _ (0, 0) hb]
  simpa using hu
end

/-- Elements with a meaning: of each a relation holds between its cells and what it means. -/
def Rows {α : Type} (k : Nat) (R : World → List Value → α → Prop) (w : World) (v : Value) (A : List α) : Prop :=
  ∃ p : List (List Value × α), p.map Prod.snd = A ∧ RowK k w v (p.map Prod.fst) ∧ ∀ x ∈ p, R w x.1 x.2
theorem Rows.below {α : Type} {k : Nat} {R : World → List Value → α → Prop} (hR : ∀ {w w' : World} {x : List Value} {y : α}, R w x y → Below w.heap.size w w' → R w' x y) {w w' : World} {v : Value} {A : List α} (h : Rows k R w v A) (hb : Below w.heap.size w w') : Rows k R w' v A := by
  obtain ⟨p, h1, h2, h3⟩ := h
  exact ⟨p, h1, h2.below hb (Nat.le_refl _), fun x hx => hR (h3 x hx) hb⟩
/-- The same, of the call's own. -/
def OwnR {α : Type} (e : TypeId) (k : Nat) (R : World → List Value → α → Prop) (base : Nat) (w : World) (v : Value) (A : List α) : Prop :=
  ∃ p : List (List Value × α), p.map Prod.snd = A ∧ OwnK e k base w v (p.map Prod.fst) ∧ ∀ x ∈ p, R w x.1 x.2
theorem OwnR.rows {α : Type} {e : TypeId} {k base : Nat} {R : World → List Value → α → Prop} {w : World} {v : Value} {A : List α} (h : OwnR e k R base w v A) : Rows k R w v A := by
  obtain ⟨p, h1, h2, h3⟩ := h
  exact ⟨p, h1, h2.row, h3⟩
theorem OwnR.nil_ {α : Type} (e : TypeId) (k : Nat) (R : World → List Value → α → Prop) (base : Nat) (w : World) : OwnR e k R base w (.slice none 0 0) [] := ⟨[], rfl, OwnK.nil_ _ _ _ _, fun _ h => by simp at h⟩
theorem OwnR.below {α : Type} {e : TypeId} {k base : Nat} {R : World → List Value → α → Prop} (hR : ∀ {w w' : World} {x : List Value} {y : α}, R w x y → Below w.heap.size w w' → R w' x y) {w w' : World} {v : Value} {A : List α} (h : OwnR e k R base w v A) (hb : Below w.heap.size w w') : OwnR e k R base w' v A := by
  obtain ⟨p, h1, h2, h3⟩ := h
  exact ⟨p, h1, h2.below hb, fun x hx => hR (h3 x hx) hb⟩
theorem OwnR.is_slice {α : Type} {e : TypeId} {k base : Nat} {R : World → List Value → α → Prop} {w : World} {v : Value} {A : List α} (h : OwnR e k R base w v A) : ∃ a cap, v = .slice a A.length cap := by
  obtain ⟨p, h1, h2, _⟩ := h
  obtain ⟨a, cap, e⟩ := h2.is_slice
  exact ⟨a, cap, by rw [e, ← h1, List.length_map, List.length_map]⟩
theorem Rows.is_slice {α : Type} {k : Nat} {R : World → List Value → α → Prop} {w : World} {v : Value} {A : List α} (h : Rows k R w v A) : ∃ a cap, v = .slice a A.length cap := by
  obtain ⟨p, h1, h2, _⟩ := h
  obtain ⟨a, cap, e⟩ := h2.is_slice
  exact ⟨a, cap, by rw [e, ← h1, List.length_map, List.length_map]⟩
theorem Rows.nil_ {α : Type} (k : Nat) (R : World → List Value → α → Prop) (w : World) : Rows k R w (.slice none 0 0) [] := ⟨[], rfl, RowK.nil_ _ _, fun _ h => by simp at h⟩
/-- An element: its cells. -/
theorem Rows.get {α : Type} {k : Nat} {R : World → List Value → α → Prop} {w : World} {a : Option Addr} {n cap : Nat} {A : List α} (h : Rows k R w (.slice a n cap) A) {j : Nat} (hj : j < A.length) :
    ∃ b off x, a = some ⟨b, off, none⟩ ∧ b < w.heap.size ∧ x.length = k ∧ R w x A[j] ∧ ∀ i u, x[i]? = some u → w.cell? ⟨b, off + j * k + i, none⟩ = some u := by
  obtain ⟨p, h1, ⟨h0, a', cap', e, h2, h3, h4⟩, h5⟩ := h
  injection e with e1 e2 e3
  subst e1
  have hl : p.length = A.length := by rw [← h1, List.length_map]
  have hjp : j < p.length := by omega
  rcases h4 with h4 | ⟨b, off, rfl, hb, hc⟩
  · have : p.length = 0 := by rw [← List.length_map (f := Prod.fst), h4]; rfl
    omega
  · refine ⟨b, off, p[j].1, rfl, hb, h0 _ (List.mem_map_of_mem (List.getElem_mem hjp)), ?_, fun i u hu => hc j (by rw [List.length_map]; exact hjp) i u (by rw [List.getElem_map]; exact hu)⟩
    have : A[j] = p[j].2 := by
      subst h1
      rw [List.getElem_map]
    rw [this]
    exact h5 _ (List.getElem_mem hjp)
/-- What a slice of another one's elements means. -/
theorem Rows.len {α : Type} {k : Nat} {R : World → List Value → α → Prop} {w : World} {a : Option Addr} {n cap : Nat} {A : List α} (h : Rows k R w (.slice a n cap) A) : n = A.length ∧ A.length ≤ cap ∧ cap ≤ maxLen := by
  obtain ⟨p, h1, ⟨h0, a', cap', e, h2, h3, h4⟩, h5⟩ := h
  injection e with e1 e2 e3
  subst e1 e3
  have hl : p.length = A.length := by rw [← h1, List.length_map]
  rw [List.length_map] at e2 h2
  omega
/-- One element more. -/
theorem OwnR.put {α : Type} {e : TypeId} {k base : Nat} {R : World → List Value → α → Prop} {w w' : World} {v v' : Value} {A : List α} {y : List Value} {x : α} (h : OwnR e k R base w v A) (h' : ∀ p : List (List Value × α), p.map Prod.snd = A → OwnK e k base w v (p.map Prod.fst) → (∀ x ∈ p, R w x.1 x.2) → OwnK e k base w' v' (p.map Prod.fst ++ [y])) (hR : ∀ {x : List Value} {y : α}, R w x y → R w' x y) (hx : R w' y x) : OwnR e k R base w' v' (A ++ [x]) := by
  obtain ⟨p, h1, h2, h3⟩ := h
  refine ⟨p ++ [(y, x)], by rw [List.map_append, h1]; rfl, by rw [List.map_append]; exact h' p h1 h2 h3, fun q hq => ?_⟩
  rcases List.mem_append.1 hq with hq | hq
  · exact hR (h3 q hq)
  · simp at hq
    subst hq
    exact hx
end Go.Proofs.YtffejfpbeimngaaDoor.Rk
