/- What RopeRuns keeps: the ropes so far, and the texts that they should be. -/
import Derived.Test.YtjcohjolhdiegaaDoorRope
import Derived.OneCell
import Derived.Deep.Slices
import Derived.Deep.Fields
set_option linter.unusedVariables false
namespace Go.Proofs.YtjcohjolhdiegaaDoor.Con
open Go.RowKit Go.Lib Go.Proofs.YtjcohjolhdiegaaDoor.Let Go.Proofs.YtjcohjolhdiegaaDoor.Tree

/-- One act. -/
structure Ac where
  q : Int
  f : Int
  t : Int
  s : ByteArray
def Ac.good (x : Ac) : Prop := (-9223372036854775808 ≤ x.q ∧ x.q ≤ 9223372036854775807) ∧ (-9223372036854775808 ≤ x.f ∧ x.f ≤ 9223372036854775807) ∧ (-9223372036854775808 ≤ x.t ∧ x.t ≤ 9223372036854775807) ∧ x.s.size ≤ maxLen
/-- The cells of the acts. -/
def ActsAt (w : World) (b off : Nat) (A : List Ac) : Prop := ∀ i (h : i < A.length), A[i].good ∧
  w.cell? ⟨b, off + i * 4, none⟩ = some (.int .i64 A[i].q) ∧ w.cell? ⟨b, off + i * 4 + 1, none⟩ = some (.int .i64 A[i].f) ∧ w.cell? ⟨b, off + i * 4 + 2, none⟩ = some (.int .i64 A[i].t) ∧ w.cell? ⟨b, off + i * 4 + 3, none⟩ = some (.string A[i].s)

section
open Go.ChangeShapes Go.WideShapes Go.Deep
variable {H : Type} {enc : TypeId × Value → H}
theorem cellsOf_act : Tryd.prog.cellsOf 42 = 4 := by kernel_rfl
theorem cellsOf_int : Tryd.prog.cellsOf 3 = 1 := by kernel_rfl
theorem cellsOf_string : Tryd.prog.cellsOf 9 = 1 := by kernel_rfl

theorem int_bounds {n : Int} (h : (Lit.int .i64 n).wf = true) : -9223372036854775808 ≤ n ∧ n ≤ 9223372036854775807 := by
  simpa [Lit.wf, IntKind.min, IntKind.max, IntKind.signed, IntKind.bits] using h

theorem add_block (b o k : Nat) : ((⟨b, o, none⟩ : Addr).add k).block = b := by unfold Addr.add; split <;> rfl
theorem add_off (b o k : Nat) : ((⟨b, o, none⟩ : Addr).add k).off = o + k := by
  unfold Addr.add
  by_cases h : k = 0
  · rw [if_pos h, h, Nat.add_zero]
  · rw [if_neg h]

/-- An element that is read as an act: its four cells. -/
theorem act_cells {W : World} {a : Addr} {n : Nat} {x : DataW H × List MemPlace} {cs : List Value} (hc : W.cells? 0 a 4 = some cs) (ht : DataW.trod enc Tryd.prog W 0 (fun _ => true) true n 42 cs = some x) :
    a.spot = none ∧ ∃ y : Ac, y.good ∧ W.cell? ⟨a.block, a.off, none⟩ = some (.int .i64 y.q) ∧ W.cell? ⟨a.block, a.off + 1, none⟩ = some (.int .i64 y.f) ∧ W.cell? ⟨a.block, a.off + 2, none⟩ = some (.int .i64 y.t) ∧ W.cell? ⟨a.block, a.off + 3, none⟩ = some (.string y.s) := by
  obtain ⟨_, hl, hat⟩ := World.cells?_some hc
  obtain ⟨xs, m, _, _, _, hxl, hf⟩ := DataW.trod_struct Tryd.underlying42 ht
  match cs, hl with
  | [c0, c1, c2, c3], _ =>
    have hxs : xs.length = 4 := hxl
    match xs, hxs with
    | [x0, x1, x2, x3], _ =>
      have g0 : DataW.trod enc Tryd.prog W 0 (fun _ => true) true m 3 (([c0, c1, c2, c3].drop 0).take (Tryd.prog.cellsOf 3)) = some x0 := hf 0 _ rfl
      have g1 : DataW.trod enc Tryd.prog W 0 (fun _ => true) true m 3 (([c0, c1, c2, c3].drop 1).take (Tryd.prog.cellsOf 3)) = some x1 := hf 1 _ rfl
      have g2 : DataW.trod enc Tryd.prog W 0 (fun _ => true) true m 3 (([c0, c1, c2, c3].drop 2).take (Tryd.prog.cellsOf 3)) = some x2 := hf 2 _ rfl
      have g3 : DataW.trod enc Tryd.prog W 0 (fun _ => true) true m 9 (([c0, c1, c2, c3].drop 3).take (Tryd.prog.cellsOf 9)) = some x3 := hf 3 _ rfl
      rw [cellsOf_int] at g0 g1 g2
      rw [cellsOf_string] at g3
      obtain ⟨q, e0, -, w0⟩ := DataW.trod_int Tryd.underlying3 g0
      obtain ⟨f, e1, -, w1⟩ := DataW.trod_int Tryd.underlying3 g1
      obtain ⟨t, e2, -, w2⟩ := DataW.trod_int Tryd.underlying3 g2
      obtain ⟨s, e3, -, w3⟩ := DataW.trod_string Tryd.underlying9 g3
      simp at e0 e1 e2 e3
      subst e0 e1 e2 e3
      have h0 := hat 0 (by omega)
      have h1 := hat 1 (by omega)
      have h2 := hat 2 (by omega)
      have h3 := hat 3 (by omega)
      obtain ⟨b, o, sp⟩ := a
      have hsp : sp = none := by simpa [Addr.add] using World.cell?_spot h0
      subst hsp
      refine ⟨rfl, ⟨q, f, t, s⟩, ⟨int_bounds w0, int_bounds w1, int_bounds w2, w3⟩, ?_, ?_, ?_, ?_⟩
      · simpa [Addr.add] using h0
      · simpa [Addr.add] using h1
      · simpa [Addr.add] using h2
      · simpa [Addr.add] using h3

theorem open_acts {W : World} {v : Value} {d : DataW H} {p : List MemPlace} {base : Nat} (hv : Value.okWide Tryd.prog W .any base 38 v) (h : DataW.Trod enc Tryd.prog W 0 (fun _ => true) true 38 v d p) :
    ∃ (a : Option Addr) (cap : Nat) (A : List Ac), v = .slice a A.length cap ∧ A.length ≤ cap ∧ cap ≤ maxLen ∧ (A = [] ∨ ∃ b off, a = some ⟨b, off, none⟩ ∧ b < W.heap.size ∧ ActsAt W b off A) := by
  obtain ⟨a0, len, cap, rfl⟩ := okWide_slice Tryd.underlying38 hv
  obtain ⟨fuel, hf⟩ := h
  rcases open_slice Tryd.underlying38 hf with ⟨hcs, _⟩ | ⟨a, len', cap', m, n, D, Pl, hcs, _, hl, hm, hmm, _, hel⟩
  · simp [Value.cells] at hcs
    obtain ⟨rfl, rfl, rfl⟩ := hcs
    exact ⟨none, 0, [], rfl, Nat.le_refl _, Nat.zero_le _, .inl rfl⟩
  · simp [Value.cells] at hcs
    obtain ⟨rfl, rfl, rfl⟩ := hcs
    simp only [if_true] at hmm
    have hall : ∀ i, i < len → ∃ y : Ac, y.good ∧ (a.add (i * 4)).spot = none ∧ W.cell? ⟨(a.add (i * 4)).block, (a.add (i * 4)).off, none⟩ = some (.int .i64 y.q) ∧ W.cell? ⟨(a.add (i * 4)).block, (a.add (i * 4)).off + 1, none⟩ = some (.int .i64 y.f) ∧ W.cell? ⟨(a.add (i * 4)).block, (a.add (i * 4)).off + 2, none⟩ = some (.int .i64 y.t) ∧ W.cell? ⟨(a.add (i * 4)).block, (a.add (i * 4)).off + 3, none⟩ = some (.string y.s) := fun i hi => by
      obtain ⟨cs', hc, ht⟩ := hel i (by omega)
      rw [cellsOf_act] at hc
      obtain ⟨h1, y, h2, h3⟩ := act_cells hc ht
      exact ⟨y, h2, h1, h3⟩
    by_cases h0 : len = 0
    · subst h0
      exact ⟨some a, cap, [], rfl, Nat.zero_le _, hm, .inl rfl⟩
    · obtain ⟨b, o, sp⟩ := a
      have hsp : sp = none := by
        obtain ⟨y, _, h1, _⟩ := hall 0 (by omega)
        simpa [Addr.add] using h1
      subst hsp
      have hall' : ∀ i, i < len → ∃ y : Ac, y.good ∧ W.cell? ⟨b, o + i * 4, none⟩ = some (.int .i64 y.q) ∧ W.cell? ⟨b, o + i * 4 + 1, none⟩ = some (.int .i64 y.f) ∧ W.cell? ⟨b, o + i * 4 + 2, none⟩ = some (.int .i64 y.t) ∧ W.cell? ⟨b, o + i * 4 + 3, none⟩ = some (.string y.s) := fun i hi => by
        obtain ⟨y, g, _, c0, c1, c2, c3⟩ := hall i hi
        rw [add_block, add_off] at c0 c1 c2 c3
        exact ⟨y, g, c0, c1, c2, c3⟩
      have hch := fun i : Fin len => hall' i.1 i.2
      let A : List Ac := List.ofFn fun i : Fin len => (hch i).choose
      have hA : A.length = len := List.length_ofFn
      have hcell0 : W.cell? ⟨b, o, none⟩ ≠ none := by
        obtain ⟨y, _, h1, _⟩ := hall' 0 (by omega)
        rw [show o + 0 * 4 = o by omega] at h1
        rw [h1]
        simp
      refine ⟨_, cap, A, by rw [hA], by omega, hm, .inr ⟨b, o, rfl, ?_, ?_⟩⟩
      · rcases Nat.lt_or_ge b W.heap.size with h | h
        · exact h
        · exact absurd (by simp [World.cell?, Array.getElem?_eq_none h]) hcell0
      · intro i hi
        have hi' : i < len := by omega
        have hAi : A[i] = (hch ⟨i, hi'⟩).choose := by simp [A]
        rw [hAi]
        exact (hch ⟨i, hi'⟩).choose_spec
end

theorem owns_below {w w' : World} {base : Nat} {e : TypeId} {size : Nat} {v : Value} {n : Nat} {xs : List Value} (h : w.ownsRow base e size v n xs) (hb : Below w.heap.size w w') : w'.ownsRow base e size v n xs :=
  h.kept (row := none) ⟨hb.os, hb.tape, hb.output, hb.size, fun k hk _ => hb.block k hk⟩ (by cases hv : v.ownBlock <;> simp)

/-- A row of something else is no rope's node. -/
theorem own_ty {w : World} {base : Nat} {e : TypeId} {u : Value} {n : Nat} {xs : List Value} (hown : w.ownsRow base e 1 u n xs) (he : e ≠ 81) {b : Nat} (hb : Ty w b) : u.ownBlock ≠ some b := by
  obtain ⟨cs, hc⟩ := hb
  intro h
  rcases hown.2 with ⟨rfl, _⟩ | ⟨g, cap, cur, rfl, hbg, hg, _⟩
  · cases h
  · have : g = b := by simpa [Value.ownBlock] using h
    subst this
    rw [hg] at hc
    simp at hc
    exact he hc.2
/-- Two rows of unlike elements are two. -/
theorem own_two {w : World} {B1 B2 : Nat} {e1 e2 : TypeId} {u v : Value} {n m : Nat} {xs ys : List Value} (h1 : w.ownsRow B1 e1 1 u n xs) (h2 : w.ownsRow B2 e2 1 v m ys) (he : e1 ≠ e2) : u.ownBlock = none ∨ u.ownBlock ≠ v.ownBlock := by
  rcases h1.2 with ⟨rfl, _⟩ | ⟨g, cap, cur, rfl, hbg, hg, _⟩
  · exact .inl rfl
  · right
    intro h
    rcases h2.2 with ⟨rfl, _⟩ | ⟨g', cap', cur', rfl, hbg', hg', _⟩
    · cases h
    · have : g = g' := by simpa [Value.ownBlock] using h
      subst this
      rw [hg] at hg'
      simp at hg'
      exact he hg'.2
theorem is_grown {w w' : World} {base : Nat} {e : TypeId} {u : Value} {n : Nat} {xs : List Value} {L : List UInt8} {v : Value} {o : Obj} (h : IsRope w L v) (hown : w.ownsRow base e 1 u n xs) (he : e ≠ 81) (hg : (w.alloc o).grownBy w' u.ownBlock) : IsRope w' L v := by
  obtain ⟨t, h1, h2, h3⟩ := h
  refine ⟨t, Rp.same (fun b hb => ?_) ?_ h1, h2, h3⟩
  · have hlt : b < w.heap.size := by
      obtain ⟨cs, hc⟩ := hb
      exact lt_of_block hc
    rw [hg.block b (by simp; omega) (fun e' => own_ty hown he hb e'.symm), Below.heap_alloc w o b hlt]
  · have := hg.size
    simp at this
    omega

/-- What RopeRuns keeps: the ropes so far (vs, in the slice vr), and the texts that they should be (Ls, in the slice vt). -/
structure Runs (w wr : World) (vr vt : Value) (vs : List Value) (Ls : List (List UInt8)) : Prop where
  len : vs.length = Ls.length
  pos : 1 ≤ Ls.length
  own1 : wr.ownsRow w.heap.size 24 1 vr Ls.length vs
  own2 : wr.ownsRow w.heap.size 9 1 vt Ls.length (strs Ls)
  is : ∀ j (h1 : j < vs.length) (h2 : j < Ls.length), IsRope wr Ls[j] vs[j]
  lens : ∀ l ∈ Ls, l.length ≤ 4000
  below : Below w.heap.size w wr

theorem Runs.calls {w wr w2 : World} {vr vt : Value} {vs : List Value} {Ls : List (List UInt8)} (h : Runs w wr vr vt vs Ls) (hb : Below wr.heap.size wr w2) : Runs w w2 vr vt vs Ls :=
  ⟨h.len, h.pos, owns_below h.own1 hb, owns_below h.own2 hb, fun j h1 h2 => (h.is j h1 h2).below hb (Nat.le_refl _), h.lens, below_more h.below hb⟩

theorem IsRope.one {w : World} {L : List UInt8} {v : Value} (h : IsRope w L v) : v.oneCell' = true := by
  obtain ⟨t, h1, h2, _⟩ := h
  rcases h2 with rfl | h2
  · obtain rfl : v = .pointer none := h1
    rfl
  · obtain ⟨b, _, _, rfl, _⟩ := h1.unfold (ok_not_nil h2)
    rfl

theorem IsRope.ptr {w : World} {L : List UInt8} {v : Value} (h : IsRope w L v) : ∃ p, v = .pointer p := by
  obtain ⟨t, h1, h2, _⟩ := h
  rcases h2 with rfl | h2
  · exact ⟨_, h1⟩
  · obtain ⟨b, _, _, rfl, _⟩ := h1.unfold (ok_not_nil h2)
    exact ⟨_, rfl⟩
theorem news_one (w : World) (v : Value) (t : TypeId) : ∀ k u, [v][k]? = some u → (w.alloc (.cells #[v] t)).cell? ((⟨w.heap.size, 0, none⟩ : Addr).add k) = some u := by
  intro k u hk
  match k, hk with
  | 0, hk => simp at hk; subst hk; simp [Addr.add]

theorem Runs.put {w wr w2 w3 : World} {vr vt vr' vt' v : Value} {vs : List Value} {Ls : List (List UInt8)} {L : List UInt8} {o1 o2 : Obj} (h : Runs w wr vr vt vs Ls) (hv : IsRope wr L v) (hL : L.length ≤ 4000)
    (g1 : (wr.alloc o1).grownBy w2 vr.ownBlock) (k1 : w2.ownsRow w.heap.size 24 1 vr' (Ls.length + 1) (vs ++ [v]))
    (g2 : (w2.alloc o2).grownBy w3 vt.ownBlock) (k2 : w3.ownsRow w.heap.size 9 1 vt' (Ls.length + 1) (strs Ls ++ [.string (Let.mk L)])) :
    Runs w w3 vr' vt' (vs ++ [v]) (Ls ++ [L]) := by
  have own2a : w2.ownsRow w.heap.size 9 1 vt Ls.length (strs Ls) := (h.own2.alloc o1).kept g1 (own_two (h.own2.alloc o1) (h.own1.alloc o1) (by decide))
  have own1a : w3.ownsRow w.heap.size 24 1 vr' (Ls.length + 1) (vs ++ [v]) := (k1.alloc o2).kept g2 (own_two (k1.alloc o2) (own2a.alloc o2) (by decide))
  have step : ∀ {L : List UInt8} {v : Value}, IsRope wr L v → IsRope w3 L v := fun hr => is_grown (is_grown hr h.own1 (by decide) g1) own2a (by decide) g2
  have s1 := h.below.size
  have s2 := g1.size
  simp at s2
  have b1 : Below w.heap.size w w2 := (h.below.alloc s1 _).grown g1 (by simp; omega) (fun k hk => (h.own1.lt k hk).1)
  have b2 : Below w.heap.size w w3 := (b1.alloc b1.size _).grown g2 (by have := b1.size; simp; omega) (fun k hk => (own2a.lt k hk).1)
  refine ⟨by simp [h.len], by simp, ?_, ?_, ?_, ?_, b2⟩
  · rw [List.length_append]
    exact own1a
  · rw [List.length_append, strs_app]
    exact k2
  · intro j h1 h2
    by_cases hj : j < Ls.length
    · have hj1 : j < vs.length := by rw [h.len]; exact hj
      rw [List.getElem_append_left hj, List.getElem_append_left hj1]
      exact step (h.is j hj1 hj)
    · have e1 : j = Ls.length := by rw [List.length_append] at h2; simp at h2; omega
      subst e1
      rw [List.getElem_append_right (Nat.le_refl _), List.getElem_append_right (by rw [h.len]; exact Nat.le_refl _)]
      simp only [h.len, Nat.sub_self, List.getElem_singleton]
      exact step hv
  · intro l hl
    rw [List.mem_append, List.mem_singleton] at hl
    rcases hl with hl | rfl
    · exact h.lens l hl
    · exact hL

/-- The two slices, and what their cells hold. -/
theorem Runs.form {w wr : World} {vr vt : Value} {vs : List Value} {Ls : List (List UInt8)} (h : Runs w wr vr vt vs Ls) :
    ∃ g1 c1 g2 c2, vr = .slice (some ⟨g1, 0, none⟩) Ls.length c1 ∧ vt = .slice (some ⟨g2, 0, none⟩) Ls.length c2 ∧ Ls.length ≤ c1 ∧ Ls.length ≤ c2 ∧
      (∀ j (h1 : j < vs.length), wr.cell? ⟨g1, j, none⟩ = some vs[j]) ∧ (∀ j (h1 : j < Ls.length), wr.cell? ⟨g2, j, none⟩ = some (.string (Let.mk Ls[j]))) := by
  have hp := h.pos
  have add : ∀ g j, (⟨g, 0, none⟩ : Addr).add j = ⟨g, j, none⟩ := fun g j => by unfold Addr.add; split <;> simp_all
  rcases h.own1.2 with ⟨_, h0⟩ | ⟨g1, c1, cur1, e1, _, _, l1, _, _, _⟩
  · omega
  rcases h.own2.2 with ⟨_, h0⟩ | ⟨g2, c2, cur2, e2, _, _, l2, _, _, _⟩
  · omega
  refine ⟨g1, c1, g2, c2, e1, e2, l1, l2, ?_, ?_⟩
  · intro j h1
    rw [← add, h.own1.cells (g := g1) (by rw [e1]; rfl) j vs[j] (List.getElem?_eq_getElem h1)]
  · intro j h1
    rw [← add, h.own2.cells (g := g2) (by rw [e2]; rfl) j (.string (Let.mk Ls[j])) (by rw [List.getElem?_eq_getElem (by rw [strs_len]; exact h1), strs_get Ls j h1])]
end Go.Proofs.YtjcohjolhdiegaaDoor.Con
