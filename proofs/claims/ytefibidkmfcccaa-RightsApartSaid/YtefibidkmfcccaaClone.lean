/- Labels in memory that a call owns; contracts: slices.Clone of both, clone. -/
import Derived.Test.YtefibidkmfcccaaSetB
import Derived.Deep.LoopGhost
set_option linter.unusedVariables false
namespace Go.Proofs.Ytefibidkmfcccaa.Rig
open Go.RowKit Go.Lib Go.Proofs.Ytefibidkmfcccaa.Rt

def cellAt (L : List Lb) (z : Nat → Value) (i : Nat) : Value :=
  if i % 4 = 0 then .int .i64 (lb L (i / 4)).p else if i % 4 = 1 then .int .i64 (lb L (i / 4)).o else if i % 4 = 2 then z (2 * (i / 4)) else z (2 * (i / 4) + 1)
def cellsL (L : List Lb) (z : Nat → Value) : List Value := (List.range (L.length * 4)).map (cellAt L z)
theorem cellsL_len (L : List Lb) (z : Nat → Value) : (cellsL L z).length = L.length * 4 := by simp [cellsL]
theorem cellsL_get {L : List Lb} {z : Nat → Value} {i : Nat} (h : i < L.length * 4) : (cellsL L z)[i]? = some (cellAt L z i) := by
  unfold cellsL
  rw [List.getElem?_map, List.getElem?_range h]
  rfl
/-- The lists of all labels, one behind the other. -/
def listOf (L : List Lb) (m : Nat) : List Int := if m % 2 = 0 then (lb L (m / 2)).r else (lb L (m / 2)).s
theorem listOf_r (L : List Lb) (k : Nat) : listOf L (2 * k) = (lb L k).r := by
  unfold listOf
  rw [if_pos (by omega), show 2 * k / 2 = k by omega]
theorem listOf_s (L : List Lb) (k : Nat) : listOf L (2 * k + 1) = (lb L k).s := by
  unfold listOf
  rw [if_neg (by omega), show (2 * k + 1) / 2 = k by omega]
def posOf (m : Nat) : Nat := 4 * (m / 2) + 2 + m % 2
def upd (z : Nat → Value) (m : Nat) (u : Value) : Nat → Value := fun i => if i = m then u else z i
theorem cells_upd (L : List Lb) (z : Nat → Value) (m : Nat) (u : Value) (hm : m < 2 * L.length) : (cellsL L z).set (posOf m) u = cellsL L (upd z m u) := by
  apply List.ext_getElem?
  intro i
  by_cases hi : i < L.length * 4
  · rw [List.getElem?_set, cellsL_get hi]
    rw [cellsL_get hi, cellsL_len]
    unfold posOf
    by_cases e : 4 * (m / 2) + 2 + m % 2 = i
    · rw [if_pos e, if_pos (by omega)]
      unfold cellAt upd
      rw [if_neg (by omega), if_neg (by omega)]
      by_cases h2 : i % 4 = 2
      · rw [if_pos h2, if_pos (by omega)]
      · rw [if_neg h2, if_pos (by omega)]
    · rw [if_neg e]
      unfold cellAt upd
      by_cases h0 : i % 4 = 0
      · rw [if_pos h0, if_pos h0]
      by_cases h1 : i % 4 = 1
      · rw [if_neg h0, if_pos h1, if_neg h0, if_pos h1]
      by_cases h2 : i % 4 = 2
      · rw [if_neg h0, if_neg h1, if_pos h2, if_neg h0, if_neg h1, if_pos h2, if_neg (by omega)]
      · rw [if_neg h0, if_neg h1, if_neg h2, if_neg h0, if_neg h1, if_neg h2, if_neg (by omega)]
  · rw [List.getElem?_eq_none (by rw [List.length_set, cellsL_len]; omega), List.getElem?_eq_none (by rw [cellsL_len]; omega)]

def OwnL (base : Nat) (w : World) (g cap : Nat) (L : List Lb) (z : Nat → Value) : Prop := w.ownsRow base 37 4 (.slice (some ⟨g, 0, none⟩) L.length cap) L.length (cellsL L z)
theorem OwnL.cell {base : Nat} {w : World} {g cap : Nat} {L : List Lb} {z : Nat → Value} (h : OwnL base w g cap L z) {i : Nat} (hi : i < L.length * 4) : w.cell? ⟨g, i, none⟩ = some (cellAt L z i) := by
  rw [World.ownsRow.cellAt h i hi, cellsL_get hi]
theorem cellAt_p (L : List Lb) (z : Nat → Value) (k : Nat) : cellAt L z (k * 4) = .int .i64 (lb L k).p := by
  unfold cellAt
  rw [if_pos (by omega), show k * 4 / 4 = k by omega]
theorem cellAt_o (L : List Lb) (z : Nat → Value) (k : Nat) : cellAt L z (k * 4 + 1) = .int .i64 (lb L k).o := by
  unfold cellAt
  rw [if_neg (by omega), if_pos (by omega), show (k * 4 + 1) / 4 = k by omega]
theorem cellAt_r (L : List Lb) (z : Nat → Value) (k : Nat) : cellAt L z (k * 4 + 2) = z (2 * k) := by
  unfold cellAt
  rw [if_neg (by omega), if_neg (by omega), if_pos (by omega), show (k * 4 + 2) / 4 = k by omega]
theorem cellAt_s (L : List Lb) (z : Nat → Value) (k : Nat) : cellAt L z (k * 4 + 3) = z (2 * k + 1) := by
  unfold cellAt
  rw [if_neg (by omega), if_neg (by omega), if_neg (by omega), show (k * 4 + 3) / 4 = k by omega]
theorem owns_below {w w' : World} {base k : Nat} {e : TypeId} {v : Value} {n : Nat} {xs : List Value} (h : w.ownsRow base e k v n xs) (hb : Below w.heap.size w w') : w'.ownsRow base e k v n xs :=
  h.kept (grown_below hb none) (by cases hv : v.ownBlock <;> simp)
theorem OwnL.below {base : Nat} {w w' : World} {g cap : Nat} {L : List Lb} {z : Nat → Value} (h : OwnL base w g cap L z) (hb : Below w.heap.size w w') : OwnL base w' g cap L z := owns_below h hb
theorem OwnL.frozen {base : Nat} {w : World} {g cap : Nat} {L : List Lb} {z : Nat → Value} (h : OwnL base w g cap L z) (i : Nat) : w.frozen? ⟨g, i, none⟩ = false := World.ownsRow.frozenAt h i
theorem OwnL.lt {base : Nat} {w : World} {g cap : Nat} {L : List Lb} {z : Nat → Value} (h : OwnL base w g cap L z) : base ≤ g ∧ g < w.heap.size := World.ownsRow.lt h g rfl
/-- A slice of ints lies in another block than labels. -/
theorem own_apart {base B : Nat} {w : World} {g cap : Nat} {L : List Lb} {z : Nat → Value} {v : Value} {xs : List Int} (h : OwnL base w g cap L z) (hv : OwnI B w v xs) : v.ownBlock ≠ some g := by
  intro e
  rcases hv.1.2 with ⟨rfl, _⟩ | ⟨g', cap', cur', rfl, _, hg', _⟩
  · cases e
  · obtain rfl : g' = g := by simpa [Value.ownBlock] using e
    rcases h.2 with ⟨h', _⟩ | ⟨g2, cap2, cur2, h', _, hg2, _⟩
    · cases h'
    · simp only [Value.slice.injEq, Option.some.injEq, Addr.mk.injEq, and_true, true_and] at h'
      obtain ⟨rfl, rfl⟩ := h'
      rw [hg'] at hg2
      simp at hg2

def Cl (base g cap : Nat) (L : List Lb) (z0 : Nat → Value) (t : Nat) (W : World) : Prop := ∃ z, OwnL base W g cap L z ∧ (∀ m, m < t → OwnI base W (z m) (listOf L m)) ∧ (∀ m, t ≤ m → z m = z0 m) ∧ (∀ i j, i < j → j < t → (z i).ownBlock = none ∨ (z i).ownBlock ≠ (z j).ownBlock)
theorem Cl.below {base g cap : Nat} {L : List Lb} {z0 : Nat → Value} {t : Nat} {W W' : World} (h : Cl base g cap L z0 t W) (hb : Below W.heap.size W W') : Cl base g cap L z0 t W' := by
  obtain ⟨z, h1, h2, h3, h4⟩ := h
  exact ⟨z, h1.below hb, fun m hm => (h2 m hm).below hb, h3, h4⟩
theorem Cl.step {base g cap : Nat} {L : List Lb} {z0 : Nat → Value} {t : Nat} {W W1 : World} {v : Value} (h : Cl base g cap L z0 t W) (ht : t < 2 * L.length) (hb : Below W.heap.size W W1) (hbase : base ≤ W.heap.size) (hv : OwnI W.heap.size W1 v (listOf L t)) :
    Cl base g cap L z0 (t + 1) (W1.setCell ⟨g, posOf t, none⟩ v) := by
  obtain ⟨z, h1, h2, h3, h4⟩ := h
  have o1 := h1.below hb
  obtain ⟨s1, s2⟩ := World.ownsRow.stored o1 (posOf t) v
  rw [cells_upd L z t v ht] at s1
  refine ⟨upd z t v, s1, fun m hm => ?_, fun m hm => ?_, fun i j hij hj => ?_⟩
  · unfold upd
    by_cases e : m = t
    · subst e
      rw [if_pos rfl]
      exact (hv.mono hbase).kept s2 (.inr (own_apart o1 hv))
    · rw [if_neg e]
      have := (h2 m (by omega)).below hb
      exact this.kept s2 (.inr (own_apart o1 this))
  · unfold upd
    rw [if_neg (by omega)]
    exact h3 m (by omega)
  · unfold upd
    by_cases e : j = t
    · subst e
      rw [if_neg (by omega), if_pos rfl]
      cases hz : (z i).ownBlock with
      | none => exact .inl rfl
      | some a =>
        right
        intro hc
        have l1 := ((h2 i hij).block a hz).2
        have l2 := (hv.block a hc.symm).1
        omega
    · rw [if_neg (by omega), if_neg e]
      exact h4 i j hij (by omega)

/-- The labels' numbers are ints. -/
def GoodL (L : List Lb) : Prop := ∀ j, j < L.length → i64 (lb L j).p ∧ i64 (lb L j).o
theorem Labs.good {w : World} {v : Value} {L : List Lb} (h : Labs w v L) : GoodL L := by
  obtain ⟨a, cap, rfl, h1, h2, h3⟩ := h
  intro j hj
  rcases h3 with rfl | ⟨b, off, rfl, hlt, hc⟩
  · exact absurd hj (by simp)
  · obtain ⟨rv, sv, p, o, _⟩ := hc j hj
    exact ⟨p, o⟩
theorem OwnL.labs {base : Nat} {w : World} {g cap : Nat} {L : List Lb} {z : Nat → Value} (h : OwnL base w g cap L z) (hL : GoodL L) (hz : ∀ m, m < 2 * L.length → Ints w (z m) (listOf L m)) : Labs w (.slice (some ⟨g, 0, none⟩) L.length cap) L := by
  have hlt := h.lt.2
  have hcap : L.length ≤ cap ∧ cap ≤ maxLen := by
    rcases h.2 with ⟨h', _⟩ | ⟨g2, cap2, cur2, h', _, _, hle, hm, _⟩
    · cases h'
    · simp only [Value.slice.injEq, Option.some.injEq, Addr.mk.injEq, and_true, true_and] at h'
      obtain ⟨rfl, rfl⟩ := h'
      exact ⟨hle, hm⟩
  refine ⟨_, cap, rfl, hcap.1, hcap.2, .inr ⟨g, 0, rfl, hlt, fun j hj => ?_⟩⟩
  obtain ⟨hp, ho⟩ := hL j hj
  have hr := hz (2 * j) (by omega)
  have hs := hz (2 * j + 1) (by omega)
  rw [listOf_r] at hr
  rw [listOf_s] at hs
  refine ⟨_, _, hp, ho, ?_, ?_, ?_, ?_, hr, hs⟩
  · rw [Nat.zero_add, h.cell (by omega), cellAt_p]
  · rw [Nat.zero_add, h.cell (by omega), cellAt_o]
  · rw [Nat.zero_add, h.cell (by omega), cellAt_r]
  · rw [Nat.zero_add, h.cell (by omega), cellAt_s]

/-- It hands ints back that it owns; nothing old has turned. -/
def NewI (w : World) (ys : List Int) (e : Ending) (w' : World) : Prop := ∃ v', e = .returned v' ∧ OwnI w.heap.size w' v' ys ∧ Below w.heap.size w w'
theorem cints_any {v : Value} {xs : List Int} (w : World) (h : Ints w v xs) (hn : xs.length ≤ 1000) : Calls Try.prog 30 #[v] w (NewI w xs) := by
  obtain ⟨h0, a, cap, rfl, h1, h2, h3⟩ := h
  rcases h3 with rfl | ⟨b, off, rfl, hlt, hc⟩
  · cases a with
    | none =>
      refine (Try.slices_Clone_int_nil 0 cap w).mono ?_
      rintro e w' ⟨rfl, rfl⟩
      exact ⟨_, rfl, OwnI.nil_ _ _, Below.refl _ _⟩
    | some ad =>
      refine (Try.slices_Clone_int_zero ad cap w).mono ?_
      rintro e w' ⟨v', rfl, ho, _, hb⟩
      exact ⟨v', rfl, ⟨ho, h0⟩, hb⟩
  · refine (Try.slices_Clone_int b off xs.length cap xs w (Nat.le_refl _) (by omega) hc).mono ?_
    rintro e w' ⟨v', rfl, ho, _, hb⟩
    rw [List.take_length] at ho
    exact ⟨v', rfl, ⟨ho, h0⟩, hb⟩
theorem infoL : (Try.prog.info? 37).map (fun i => (i.zero, i.size, i.bytes)) = some (some (.agg #[.int .i64 0, .int .i64 0, .slice none 0 0, .slice none 0 0]), 4, 64) := by kernel_rfl
/-- It hands the labels' row back, which it owns; the lists are the old ones. -/
def NewL (w : World) (L : List Lb) (z : Nat → Value) (e : Ending) (w' : World) : Prop := ∃ g cap, e = .returned (.slice (some ⟨g, 0, none⟩) L.length cap) ∧ OwnL w.heap.size w' g cap L z ∧ Below w.heap.size w w'
theorem clabs_any {v : Value} {L : List Lb} (w : World) (h : Labs w v L) (h1 : 1 ≤ L.length) (h12 : L.length ≤ 12) :
    ∃ z, (∀ m, m < 2 * L.length → Ints w (z m) (listOf L m)) ∧ Calls Try.prog 29 #[v] w (NewL w L z) := by
  obtain ⟨a, cap, rfl, hl, hm, h3⟩ := h
  rcases h3 with rfl | ⟨b, off, rfl, hlt, hc⟩
  · exact absurd h1 (by simp)
  have hrv : ∀ j, ∃ rv, j < L.length → w.cell? ⟨b, off + j * 4 + 2, none⟩ = some rv ∧ Ints w rv (lb L j).r := fun j => by
    by_cases hj : j < L.length
    · obtain ⟨rv, sv, p, o, c0, c1, c2, c3, hr, hs⟩ := hc j hj
      exact ⟨rv, fun _ => ⟨c2, hr⟩⟩
    · exact ⟨.slice none 0 0, fun h => absurd h hj⟩
  have hsv : ∀ j, ∃ sv, j < L.length → w.cell? ⟨b, off + j * 4 + 3, none⟩ = some sv ∧ Ints w sv (lb L j).s := fun j => by
    by_cases hj : j < L.length
    · obtain ⟨rv, sv, p, o, c0, c1, c2, c3, hr, hs⟩ := hc j hj
      exact ⟨sv, fun _ => ⟨c3, hs⟩⟩
    · exact ⟨.slice none 0 0, fun h => absurd h hj⟩
  let z : Nat → Value := fun m => if m % 2 = 0 then (hrv (m / 2)).choose else (hsv (m / 2)).choose
  have hzr : ∀ j, j < L.length → w.cell? ⟨b, off + j * 4 + 2, none⟩ = some (z (2 * j)) ∧ Ints w (z (2 * j)) (lb L j).r := fun j hj => by
    have e : z (2 * j) = (hrv j).choose := by
      show (if 2 * j % 2 = 0 then (hrv (2 * j / 2)).choose else _) = _
      rw [if_pos (by omega)]
      congr 1
      rw [show 2 * j / 2 = j by omega]
    rw [e]
    exact (hrv j).choose_spec hj
  have hzs : ∀ j, j < L.length → w.cell? ⟨b, off + j * 4 + 3, none⟩ = some (z (2 * j + 1)) ∧ Ints w (z (2 * j + 1)) (lb L j).s := fun j hj => by
    have e : z (2 * j + 1) = (hsv j).choose := by
      show (if (2 * j + 1) % 2 = 0 then _ else (hsv ((2 * j + 1) / 2)).choose) = _
      rw [if_neg (by omega)]
      congr 1
      rw [show (2 * j + 1) / 2 = j by omega]
    rw [e]
    exact (hsv j).choose_spec hj
  have hzi : ∀ m, m < 2 * L.length → Ints w (z m) (listOf L m) := fun m hm => by
    by_cases he : m % 2 = 0
    · obtain ⟨j, rfl⟩ : ∃ j, m = 2 * j := ⟨m / 2, by omega⟩
      rw [listOf_r]
      exact (hzr j (by omega)).2
    · obtain ⟨j, rfl⟩ : ∃ j, m = 2 * j + 1 := ⟨m / 2, by omega⟩
      rw [listOf_s]
      exact (hzs j (by omega)).2
  refine ⟨z, hzi, ?_⟩
  have hcell : ∀ i, i < L.length * 4 → w.cell? ⟨b, off + i, none⟩ = some (cellAt L z i) := fun i hi => by
    obtain ⟨rv, sv, p, o, c0, c1, _⟩ := hc (i / 4) (by omega)
    have d := Nat.div_add_mod i 4
    unfold cellAt
    by_cases e0 : i % 4 = 0
    · rw [if_pos e0, show off + i = off + i / 4 * 4 by omega]; exact c0
    by_cases e1 : i % 4 = 1
    · rw [if_neg e0, if_pos e1, show off + i = off + i / 4 * 4 + 1 by omega]; exact c1
    by_cases e2 : i % 4 = 2
    · rw [if_neg e0, if_neg e1, if_pos e2, show off + i = off + i / 4 * 4 + 2 by omega]; exact (hzr (i / 4) (by omega)).1
    · rw [if_neg e0, if_neg e1, if_neg e2, show off + i = off + i / 4 * 4 + 3 by omega]; exact (hzs (i / 4) (by omega)).1
  have hone : ∀ u ∈ cellsL L z, u.oneCell' = true := fun u hu => by
    unfold cellsL at hu
    rw [List.mem_map] at hu
    obtain ⟨i, hi, rfl⟩ := hu
    rw [List.mem_range] at hi
    unfold cellAt
    by_cases e0 : i % 4 = 0
    · rw [if_pos e0]; rfl
    by_cases e1 : i % 4 = 1
    · rw [if_neg e0, if_pos e1]; rfl
    by_cases e2 : i % 4 = 2
    · rw [if_neg e0, if_neg e1, if_pos e2]
      obtain ⟨a, c, e⟩ := (hzr (i / 4) (by omega)).2.is_slice
      rw [e]; rfl
    · rw [if_neg e0, if_neg e1, if_neg e2]
      obtain ⟨a, c, e⟩ := (hzs (i / 4) (by omega)).2.is_slice
      rw [e]; rfl
  obtain ⟨i0, hi, hz0, hz1, hz2⟩ := info_parts infoL
  have C := AnyE.slices_Clone Try.laysSlE041_f29 i0 _ 4 64 hi hz0 hz1 hz2 rfl (by omega) Try.sizeOf37 b off L.length cap (cellsL L z) w (cellsL_len L z) (by omega) (by omega)
    (fun j u hj => by
      have hj' : j < L.length * 4 := by rw [← cellsL_len L z]; exact (List.getElem?_eq_some_iff.1 hj).1
      rw [cellsL_get hj'] at hj
      rw [hcell j hj']
      exact hj) hone
  refine Calls.mono (f := 29) C ?_
  rintro e w' ⟨v', rfl, ho, hn, hb⟩
  rcases ho.2 with ⟨_, h0⟩ | ⟨g, cap', _, rfl, _⟩
  · omega
  · exact ⟨g, cap', rfl, ho, hb⟩

/-- It hands labels back that it owns, each list apart from the others. -/
def OwnLabs (base : Nat) (w : World) (v : Value) (L : List Lb) : Prop := ∃ g cap z, v = .slice (some ⟨g, 0, none⟩) L.length cap ∧ OwnL base w g cap L z ∧ (∀ m, m < 2 * L.length → OwnI base w (z m) (listOf L m)) ∧ (∀ i j, i < j → j < 2 * L.length → (z i).ownBlock = none ∨ (z i).ownBlock ≠ (z j).ownBlock)
def Cloned (w : World) (L : List Lb) (e : Ending) (w' : World) : Prop := ∃ v, e = .returned v ∧ OwnLabs w.heap.size w' v L ∧ Below w.heap.size w w'

set_option maxRecDepth 100000 in
set_option maxHeartbeats 1600000 in
theorem clone_any {v : Value} {L : List Lb} (w : World) (h : Labs w v L) (h1 : 1 ≤ L.length) (h12 : L.length ≤ 12) (hlen : ∀ m, m < 2 * L.length → (listOf L m).length ≤ 1000) :
    Calls Try.prog 24 #[v] w (Cloned w L) := by
  have hgood := h.good
  obtain ⟨z0, hz0, C1⟩ := clabs_any w h h1 h12
  replace C1 := Lib.hid C1
  obtain ⟨n, hn⟩ : ∃ n, n = L.length := ⟨_, rfl⟩
  obtain ⟨a, ca, rfl, _⟩ := h
  rw [← hn] at C1 h1 h12 hz0 hlen ⊢
  have CI : Hid (∀ m, m < 2 * n → ∀ w', Below w.heap.size w w' → Calls Try.prog 30 #[z0 m] w' (NewI w' (listOf L m))) := fun m hm w' hb => cints_any w' ((hz0 m hm).below hb (Nat.le_refl _)) (hlen m hm)
  have HZ := Lib.hid hz0
  have HN := Lib.hid hn
  have HG := Lib.hid hgood
  clear hz0 hlen hn hgood
  go_enter Try.func24, Try.ntmps24
  go_wp2_with fail
  refine C1.out.mono ?_
  rintro e w1 ⟨g, cap, rfl, ho, hb1⟩
  rw [← HN.out]
  have hlt1 := ho.lt
  have hS : Hid (Cl w.heap.size g cap L z0 0 w1) := ⟨z0, ho, fun m hm => absurd hm (by omega), fun m _ => rfl, fun i j _ hj => absurd hj (by omega)⟩
  have HB1 := Lib.hid hb1
  clear C1 ho hb1
  obtain ⟨hg1, hg2⟩ := hlt1
  go_wp2_with fail
  go_loopw [10] (fun t wr => ∃ k : Nat, k ≤ n ∧ t = .int .i64 k ∧ Hid (Cl w.heap.size g cap L z0 (2 * k) wr) ∧ Below w.heap.size w wr) (fun t _ => n - (RowKit.intOf t).toNat)
  case atStart => exact ⟨0, Nat.zero_le _, rfl, hS.out, HB1.out⟩
  case round =>
    obtain ⟨k, hk, rfl, OK, hbel⟩ := hrel
    clear hS
    by_cases hlt : k < n
    · have hkl : k < L.length := by rw [← HN.out]; exact hlt
      obtain ⟨⟨p1, p2⟩, ⟨o1, o2⟩⟩ := HG.out k hkl
      have CR := Lib.hid (CI.out (2 * k) (by omega))
      have CS := Lib.hid (CI.out (2 * k + 1) (by omega))
      obtain ⟨ra, rc, hra⟩ := (HZ.out (2 * k) (by omega)).is_slice
      obtain ⟨sa, sc, hsa⟩ := (HZ.out (2 * k + 1) (by omega)).is_slice
      have hgw : g < wr.heap.size := by
        obtain ⟨z, q, _⟩ := OK.out
        exact q.lt.2
      -- the four cells
      have c0 : wr.cell? ⟨g, k * 4, none⟩ = some (.int .i64 (lb L k).p) := by
        obtain ⟨z, q, _⟩ := OK.out
        rw [q.cell (by omega), cellAt_p]
      have c1 : wr.cell? ⟨g, k * 4 + 1, none⟩ = some (.int .i64 (lb L k).o) := by
        obtain ⟨z, q, _⟩ := OK.out
        rw [q.cell (by omega), cellAt_o]
      have c2 : wr.cell? ⟨g, k * 4 + 2, none⟩ = some (z0 (2 * k)) := by
        obtain ⟨z, q, _, q3, _⟩ := OK.out
        rw [q.cell (by omega), cellAt_r, q3 _ (Nat.le_refl _)]
      have c3 : wr.cell? ⟨g, k * 4 + 3, none⟩ = some (z0 (2 * k + 1)) := by
        obtain ⟨z, q, _, q3, _⟩ := OK.out
        rw [q.cell (by omega), cellAt_s, q3 _ (by omega)]
      rw [hra] at c2 CR
      rw [hsa] at c3 CS
      generalize lb L k = x at *
      obtain ⟨p, o, r, s⟩ := x
      simp only at p1 p2 o1 o2 c0 c1
      obtain ⟨l1, hl1⟩ : ∃ l1, l1 = (listOf L (2 * k)).length := ⟨_, rfl⟩
      obtain ⟨l2, hl2⟩ : ∃ l2, l2 = (listOf L (2 * k + 1)).length := ⟨_, rfl⟩
      rw [← hl1] at c2 CR
      rw [← hl2] at c3 CS
      obtain ⟨W1, hW1⟩ : ∃ W1, W1 = wr.alloc (.cells #[.int .i64 p, .int .i64 o, .slice ra l1 rc, .slice sa l2 sc] 37) := ⟨_, rfl⟩
      have bW1 : Below wr.heap.size wr W1 := by rw [hW1]; exact (Below.refl _ _).alloc (Nat.le_refl _) _
      have hnew : W1.heap[wr.heap.size]? = some (.cells #[.int .i64 p, .int .i64 o, .slice ra l1 rc, .slice sa l2 sc] 37 (0, 0)) := by rw [hW1]; exact heap_alloc_new _ _
      have HW := Lib.hid hW1
      have x3 : W1.cell? ⟨wr.heap.size, 3, none⟩ = some (.slice sa l2 sc) := by rw [cell_of_row _ _ _ _ _ _ hnew]; rfl
      have xl : wr.heap.size < W1.heap.size := by rw [hW1]; simp
      have d2 := below_cell bW1 hgw c2
      have d3 := below_cell bW1 hgw c3
      have gl : g < W1.heap.size := by omega
      have OK1 := Lib.hid (OK.out.below bW1)
      have HBW := Lib.hid (below_more hbel bW1)
      have hne : ¬ g = wr.heap.size := by omega
      have hne2 : ¬ wr.heap.size = g := by omega
      have e2 : Hid (k * 4 + 2 = posOf (2 * k)) := by show _ = _; unfold posOf; omega
      have e3 : Hid (k * 4 + 3 = posOf (2 * k + 1)) := by show _ = _; unfold posOf; omega
      have HL2 : Hid (2 * k + 1 < 2 * L.length) := by show _ < _; omega
      clear hnew hra hsa OK bW1 HZ CI HG HB1 hW1 hl1 hl2 hbel
      go_wp2_with fail
      rw [← HW.out]
      refine (CR.out _ HBW.out).mono ?_
      rintro e w5 ⟨v5, rfl, hv5, hb5⟩
      have S5 := Lib.hid (OK1.out.step (by have := HL2.out; omega) hb5 (by have := HBW.out.size; exact this) hv5)
      have B5 := Lib.hid (below_more HBW.out hb5)
      have y3 := below_cell hb5 xl x3
      have y2 := below_cell hb5 gl d2
      have z3 := below_cell hb5 gl d3
      have f2 : w5.frozen? ⟨g, k * 4 + 2, none⟩ = false := by
        obtain ⟨z, q, _⟩ := OK1.out
        exact (q.below hb5).frozen _
      have f3 : w5.frozen? ⟨g, k * 4 + 3, none⟩ = false := by
        obtain ⟨z, q, _⟩ := OK1.out
        exact (q.below hb5).frozen _
      have gl5 := Nat.lt_of_lt_of_le gl hb5.size
      obtain ⟨a5, n5, rfl⟩ := hv5.is_slice
      generalize (listOf L (2 * k)).length = l5 at *
      rw [← e2.out] at S5
      have SB := Lib.hid ((B5.out.setCell (p := ⟨g, k * 4 + 2, none⟩) hg1 (.slice a5 l5 n5)))
      clear hv5 hb5 OK1 CR x3 d2 d3 HW B5
      go_wp2_with fail
      refine (CS.out _ SB.out).mono ?_
      rintro e w6 ⟨v6, rfl, hv6, hb6⟩
      have hk2 : 2 * (k + 1) = 2 * k + 1 + 1 := by omega
      have S6 := Lib.hid (S5.out.step HL2.out hb6 (by have := SB.out.size; exact this) hv6)
      have B6 := Lib.hid (below_more SB.out hb6)
      obtain ⟨u6, y6⟩ : ∃ u, w6.cell? ⟨g, k * 4 + 3, none⟩ = some u := by
        obtain ⟨z, q, _⟩ := S5.out
        exact ⟨_, (q.below hb6).cell (by have := HL2.out; omega)⟩
      have f6 : w6.frozen? ⟨g, k * 4 + 3, none⟩ = false := by
        obtain ⟨z, q, _⟩ := S5.out
        exact (q.below hb6).frozen _
      obtain ⟨a6, n6, rfl⟩ := hv6.is_slice
      generalize (listOf L (2 * k + 1)).length = l6 at *
      rw [← e3.out, ← hk2] at S6
      have SB6 := Lib.hid ((B6.out.setCell (p := ⟨g, k * 4 + 3, none⟩) hg1 (.slice a6 l6 n6)))
      clear hv6 hb6 CS S5 SB B6 hk2
      go_wp2_with fail
      go_roundw
      case rel => exact ⟨k + 1, by omega, by go_num, S6.out, SB6.out⟩
      case measure => simp [RowKit.intOf]; omega
    · obtain rfl : k = n := by omega
      have HB := Lib.hid hbel
      clear HZ CI HG HB1 hbel
      go_wp2_with fail
      go_ret
      obtain ⟨z, q1, q2, q3, q4⟩ := OK.out
      rw [HN.out] at q2 q4
      refine ⟨_, rfl, ⟨g, cap, z, ?_, q1, q2, q4⟩, HB.out⟩
      rw [HN.out]
      rfl
end Go.Proofs.Ytefibidkmfcccaa.Rig
