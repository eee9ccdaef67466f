/- Contract: Right of the program. -/
import Derived.Test.YtkbadhkjhkmlfaaPord
set_option linter.unusedVariables false
namespace Go.Proofs.Ytkbadhkjhkmlfaa.Rig
open Go.RowKit Go.Lib Go.Proofs.Ytkbadhkjhkmlfaa.Rt Go.Sort

def pvS (S : List Sp) (k : Nat) : Sp := if k = 0 then Sp.z else sp S (k - 1)
def pvT (T : List St) (k : Nat) : St := if k = 0 then St.z else st T (k - 1)
theorem pvS_succ (S : List Sp) (k : Nat) : pvS S (k + 1) = sp S k := by unfold pvS; rw [if_neg (by omega)]; rfl
theorem pvT_succ (T : List St) (k : Nat) : pvT T (k + 1) = st T k := by unfold pvT; rw [if_neg (by omega)]; rfl
theorem spOk_pv {S : List Sp} {n : Int} {k : Nat} (h : ∀ j, j < k → spOk S n j) : spOk S n k ↔ CS n (pvS S k) (sp S k) := by
  unfold pvS
  by_cases q : k = 0
  · rw [if_pos q]
    subst q
    unfold spOk CS Sp.z
    constructor
    · rintro ⟨a, b, c, d, _⟩
      exact ⟨a, b, c, d, fun _ => by show _ ≠ (0 : Int); omega⟩
    · rintro ⟨a, b, c, d, _⟩
      exact ⟨a, b, c, d, fun hc => absurd hc (by omega)⟩
  · rw [if_neg q]
    obtain ⟨p1, p2, p3, p4, _⟩ := h (k - 1) (by omega)
    unfold spOk CS
    constructor
    · rintro ⟨a, b, c, d, e⟩
      exact ⟨a, (e (by omega)).1, c, d, (e (by omega)).2⟩
    · rintro ⟨a, b, c, d, e⟩
      exact ⟨a, by omega, c, d, fun _ => ⟨b, e⟩⟩
theorem stOk_pv {T : List St} {n : Int} {k : Nat} (h : ∀ j, j < k → stOk T n j) : stOk T n k ↔ 0 < (st T k).m ∧ (st T k).a ≤ n ∧ ltS (pvT T k) (st T k) := by
  unfold pvT
  by_cases q : k = 0
  · rw [if_pos q]
    subst q
    unfold stOk ltS gtS St.z
    simp only
    constructor
    · rintro ⟨a, b, c, _⟩
      exact ⟨a, c, by omega⟩
    · rintro ⟨a, b, c⟩
      exact ⟨a, by omega, b, fun hc => absurd hc (by omega)⟩
  · rw [if_neg q]
    obtain ⟨p1, p2, p3, _⟩ := h (k - 1) (by omega)
    unfold stOk ltS gtS
    constructor
    · rintro ⟨a, b, c, d⟩
      obtain ⟨d1, d2⟩ := d (by omega)
      exact ⟨a, c, by omega⟩
    · rintro ⟨a, b, c⟩
      exact ⟨a, by omega, b, fun _ => by omega⟩
def spsB (S : List Sp) (n : Int) : Bool := decide (∀ j, j < S.length → spOk S n j)
def stsB (T : List St) (n : Int) : Bool := decide (∀ j, j < T.length → stOk T n j)
theorem spsB_false {S : List Sp} {n : Int} {k : Nat} (hk : k < S.length) (h : ¬ spOk S n k) : spsB S n = false := decide_eq_false fun hc => h (hc k hk)
theorem stsB_false {T : List St} {n : Int} {k : Nat} (hk : k < T.length) (h : ¬ stOk T n k) : stsB T n = false := decide_eq_false fun hc => h (hc k hk)
theorem both_right (S : List Sp) (T : List St) (n : Int) : mrightB S T n = (spsB S n && stsB T n) := by
  have e : mrightB S T n = true ↔ (spsB S n && stsB T n) = true := by
    unfold mrightB spsB stsB
    rw [decide_eq_true_iff, Bool.and_eq_true, decide_eq_true_iff, decide_eq_true_iff]
    exact Iff.rfl
  cases h1 : mrightB S T n <;> cases h2 : (spsB S n && stsB T n) <;> simp_all
theorem set_block0 {B i : Nat} {w : World} {u : Value} {cs : Array Value} {ty : TypeId} (hB : w.heap[B]? = some (.cells cs ty (0, 0))) : (w.setCell ⟨B, i, none⟩ u).heap[B]? = some (.cells (cs.setIfInBounds i u) ty (0, 0)) := by
  rw [heap_setCell_same _ _ _ _ _ _ hB]
theorem set3 {w : World} {b : Nat} {a0 a1 a2 m f t : Value} {ty : TypeId} (h : w.heap[b]? = some (.cells #[a0, a1, a2] ty (0, 0))) : (((w.setCell ⟨b, 0, none⟩ m).setCell ⟨b, 1, none⟩ f).setCell ⟨b, 2, none⟩ t).heap[b]? = some (.cells #[m, f, t] ty (0, 0)) := by
  have s1 := set_block0 (i := 0) (u := m) h
  have s2 := set_block0 (i := 1) (u := f) s1
  have s3 := set_block0 (i := 2) (u := t) s2
  simpa using s3
theorem set2 {w : World} {b : Nat} {a0 a1 m f : Value} {ty : TypeId} (h : w.heap[b]? = some (.cells #[a0, a1] ty (0, 0))) : ((w.setCell ⟨b, 0, none⟩ m).setCell ⟨b, 1, none⟩ f).heap[b]? = some (.cells #[m, f] ty (0, 0)) := by
  have s1 := set_block0 (i := 0) (u := m) h
  have s2 := set_block0 (i := 1) (u := f) s1
  simpa using s2
theorem below_grow (W : World) (q : Nat) (os : Array Obj) : Below W.heap.size W (grow (W.drewN q) os) :=
  ⟨rfl, rfl, rfl, by simp [grow, World.drewN], fun k hk => by show (W.heap ++ os)[k]? = _; rw [Array.getElem?_append_left hk]⟩

set_option maxRecDepth 100000 in
set_option maxHeartbeats 8000000 in
theorem rightSpans_any {sv : Value} {S : List Sp} (n : Int) (w : World) (hS : Spans w sv S) (hn : i64 n) :
    Calls Try.prog 27 #[sv, .int .i64 n] w fun e w' => e = .returned (.bool (spsB S n)) ∧ Below w.heap.size w w' := by
  obtain ⟨sa, sc, rfl, hls, hcs, hS1⟩ := hS.open_
  have HS := Lib.hid hS1
  obtain ⟨ns, hns⟩ : ∃ ns, ns = S.length := ⟨_, rfl⟩
  rw [← hns] at hls ⊢
  replace hns := Lib.hid hns
  obtain ⟨n1, n2⟩ := hn
  obtain ⟨W0, hW0⟩ : ∃ W0, W0 = w.alloc (.cells #[.int .i64 0, .int .i64 0, .int .i64 0] 26) := ⟨_, rfl⟩
  have b0 : Below w.heap.size w W0 := by rw [hW0]; exact (Below.refl _ _).alloc (Nat.le_refl _) _
  have H0 : Hid (W0.heap[w.heap.size]? = some (.cells #[.int .i64 0, .int .i64 0, .int .i64 0] 26 (0, 0))) := by show _ = _; rw [hW0]; exact heap_alloc_new _ _
  have HW0 := Lib.hid hW0
  have B0 := Lib.hid b0
  clear hS1 hS hW0 b0
  go_enter Try.func27, Try.ntmps27
  go_wp2_with fail
  rw [← HW0.out]
  go_loopg [11] ns (fun g i wr => ∃ (k : Nat) (e : Sp), k ≤ ns ∧ ns - k ≤ g ∧ i = .int .i64 k ∧ Hid (∀ j, j < k → spOk S n j) ∧ Hid (e = pvS S k) ∧ Hid (wr.heap[w.heap.size]? = some (.cells #[.int .i64 e.m, .int .i64 e.f, .int .i64 e.t] 26 (0, 0))) ∧ Below w.heap.size w wr)
  case atStart => exact ⟨0, Sp.z, Nat.zero_le _, by omega, rfl, fun j hj => absurd hj (by omega), rfl, H0.out, B0.out⟩
  case round =>
    clear H0 HW0 B0
    obtain ⟨k, ⟨lm, lf, lt⟩, hk, hg, rfl, OK, PV, HL, hbel⟩ := hrel
    have l0 : w.heap.size < wr.heap.size := (Array.getElem?_eq_some_iff.1 HL.out).1
    by_cases hltk : k < ns
    · have hkl : k < S.length := by rw [← hns.out]; exact hltk
      obtain ⟨b, off, rfl, hb, ⟨⟨m1, m2⟩, ⟨f1, f2⟩, ⟨t1, t2⟩⟩, c0, c1, c2⟩ := HS.out k hkl
      have IFF := Lib.hid (spOk_pv OK.out)
      rw [← PV.out] at IFF
      have NO : ¬ spOk S n k → Hid (spsB S n = false) := fun hno => spsB_false hkl hno
      have YES : spOk S n k → Hid (∀ j, j < k + 1 → spOk S n j) := fun hy j hj => by
        by_cases e : j = k
        · subst e; exact hy
        · exact OK.out j (by omega)
      have PS := Lib.hid (pvS_succ S k)
      obtain ⟨e, he⟩ : ∃ e, e = sp S k := ⟨_, rfl⟩
      rw [← he] at m1 m2 f1 f2 t1 t2 c0 c1 c2 IFF PS
      obtain ⟨m, f, t⟩ := e
      simp only at m1 m2 f1 f2 t1 t2 c0 c1 c2
      replace c0 := below_cell hbel hb c0
      replace c1 := below_cell hbel hb c1
      replace c2 := below_cell hbel hb c2
      have d0 : wr.cell? ⟨w.heap.size, 0, none⟩ = some (.int .i64 lm) := by rw [cell_of_row _ _ _ _ _ _ HL.out]; rfl
      have d1 : wr.cell? ⟨w.heap.size, 1, none⟩ = some (.int .i64 lf) := by rw [cell_of_row _ _ _ _ _ _ HL.out]; rfl
      have d2 : wr.cell? ⟨w.heap.size, 2, none⟩ = some (.int .i64 lt) := by rw [cell_of_row _ _ _ _ _ _ HL.out]; rfl
      have f0 : wr.frozen? ⟨w.heap.size, 0, none⟩ = false := block_frozen HL.out
      have f3 : wr.frozen? ⟨w.heap.size, 1, none⟩ = false := block_frozen HL.out
      have f4 : wr.frozen? ⟨w.heap.size, 2, none⟩ = false := block_frozen HL.out
      have HZ : Hid (((((wr.setCell ⟨w.heap.size, 0, none⟩ (.int .i64 m)).setCell ⟨w.heap.size, 1, none⟩ (.int .i64 f)).setCell ⟨w.heap.size, 2, none⟩ (.int .i64 t)).alloc (.cells #[.int .i64 m, .int .i64 f, .int .i64 t] 26)).heap[w.heap.size]? = some (.cells #[.int .i64 m, .int .i64 f, .int .i64 t] 26 (0, 0))) := by
        show _ = _
        rw [Below.heap_alloc _ _ _ (by simpa using l0)]
        exact set3 HL.out
      have HB1 : Hid (Below w.heap.size w (wr.alloc (.cells #[.int .i64 m, .int .i64 f, .int .i64 t] 26))) := hbel.alloc (by omega) _
      have HB2 : Hid (Below w.heap.size w ((((wr.setCell ⟨w.heap.size, 0, none⟩ (.int .i64 m)).setCell ⟨w.heap.size, 1, none⟩ (.int .i64 f)).setCell ⟨w.heap.size, 2, none⟩ (.int .i64 t)).alloc (.cells #[.int .i64 m, .int .i64 f, .int .i64 t] 26))) := (((hbel.setCell (p := ⟨w.heap.size, 0, none⟩) (Nat.le_refl _) _).setCell (p := ⟨w.heap.size, 1, none⟩) (Nat.le_refl _) _).setCell (p := ⟨w.heap.size, 2, none⟩) (Nat.le_refl _) _).alloc (by simp; omega) _
      have lne : ¬ w.heap.size = wr.heap.size := by omega
      clear hbel HS OK PV HL he
      by_cases a1 : m ≤ 0
      · have E1 := NO (fun hc => by have : 0 < m := (IFF.out.1 hc).1; omega)
        clear NO YES IFF
        go_wp2_with fail
        go_ret
        exact ⟨by rw [E1.out]; rfl, HB1.out⟩
      · by_cases a2 : f < lt
        · have E1 := NO (fun hc => by have : lt ≤ f := (IFF.out.1 hc).2.1; omega)
          clear NO YES IFF
          go_wp2_with fail
          go_ret
          exact ⟨by rw [E1.out]; rfl, HB1.out⟩
        · by_cases a3 : t ≤ f
          · have E1 := NO (fun hc => by have : f < t := (IFF.out.1 hc).2.2.1; omega)
            clear NO YES IFF
            go_wp2_with fail
            go_ret
            exact ⟨by rw [E1.out]; rfl, HB1.out⟩
          · by_cases a4 : n < t
            · have E1 := NO (fun hc => by have : t ≤ n := (IFF.out.1 hc).2.2.2.1; omega)
              clear NO YES IFF
              go_wp2_with fail
              go_ret
              exact ⟨by rw [E1.out]; rfl, HB1.out⟩
            · by_cases a5 : f = lt
              · have q5 : (f == lt) = true := by simpa using a5
                by_cases a6 : m = lm
                · have q6 : (m == lm) = true := by simpa using a6
                  have E1 := NO (fun hc => (IFF.out.1 hc).2.2.2.2 a5 a6)
                  clear NO YES IFF a5 a6
                  go_wp2_with fail
                  go_ret
                  exact ⟨by rw [E1.out]; rfl, HB1.out⟩
                · have q6 : (m == lm) = false := by simpa using a6
                  have E1 := YES (IFF.out.2 ⟨by show 0 < m; omega, by show lt ≤ f; omega, by show f < t; omega, by show t ≤ n; omega, fun _ => a6⟩)
                  clear NO YES IFF a5 a6
                  go_wp2_with fail
                  go_roundg (ns - (k + 1))
                  case measure => omega
                  case rel => exact ⟨k + 1, ⟨m, f, t⟩, by omega, Nat.le_refl _, by go_num, E1.out, PS.out.symm, HZ.out, HB2.out⟩
              · have q5 : (f == lt) = false := by simpa using a5
                have E1 := YES (IFF.out.2 ⟨by show 0 < m; omega, by show lt ≤ f; omega, by show f < t; omega, by show t ≤ n; omega, fun hc => absurd hc a5⟩)
                clear NO YES IFF a5
                go_wp2_with fail
                go_roundg (ns - (k + 1))
                case measure => omega
                case rel => exact ⟨k + 1, ⟨m, f, t⟩, by omega, Nat.le_refl _, by go_num, E1.out, PS.out.symm, HZ.out, HB2.out⟩
    · obtain rfl : k = ns := by omega
      have E1 : Hid (spsB S n = true) := decide_eq_true (by rw [← hns.out]; exact OK.out)
      have HB1 := Lib.hid hbel
      clear hbel OK PV HL
      go_wp2_with fail
      go_ret
      exact ⟨by rw [E1.out]; rfl, HB1.out⟩

set_option maxRecDepth 100000 in
set_option maxHeartbeats 8000000 in
theorem rightSites_any {tv : Value} {T : List St} (n : Int) (w : World) (hT : Sites w tv T) (hn : i64 n) :
    Calls Try.prog 28 #[tv, .int .i64 n] w fun e w' => e = .returned (.bool (stsB T n)) ∧ Below w.heap.size w w' := by
  obtain ⟨sa, sc, rfl, hls, hcs, hS1⟩ := hT.open_
  have HS := Lib.hid hS1
  obtain ⟨ns, hns⟩ : ∃ ns, ns = T.length := ⟨_, rfl⟩
  rw [← hns] at hls ⊢
  replace hns := Lib.hid hns
  obtain ⟨n1, n2⟩ := hn
  obtain ⟨W0, hW0⟩ : ∃ W0, W0 = w.alloc (.cells #[.int .i64 0, .int .i64 0] 41) := ⟨_, rfl⟩
  have b0 : Below w.heap.size w W0 := by rw [hW0]; exact (Below.refl _ _).alloc (Nat.le_refl _) _
  have H0 : Hid (W0.heap[w.heap.size]? = some (.cells #[.int .i64 0, .int .i64 0] 41 (0, 0))) := by show _ = _; rw [hW0]; exact heap_alloc_new _ _
  have HW0 := Lib.hid hW0
  have B0 := Lib.hid b0
  clear hS1 hT hW0 b0
  go_enter Try.func28, Try.ntmps28
  go_wp2_with fail
  rw [← HW0.out]
  go_loopg [11] ns (fun g i wr => ∃ (k : Nat) (e : St), k ≤ ns ∧ ns - k ≤ g ∧ i = .int .i64 k ∧ Hid (∀ j, j < k → stOk T n j) ∧ Hid (e = pvT T k) ∧ Hid (wr.heap[w.heap.size]? = some (.cells #[.int .i64 e.m, .int .i64 e.a] 41 (0, 0))) ∧ Below w.heap.size w wr)
  case atStart => exact ⟨0, St.z, Nat.zero_le _, by omega, rfl, fun j hj => absurd hj (by omega), rfl, H0.out, B0.out⟩
  case round =>
    clear H0 HW0 B0
    obtain ⟨k, ⟨lm, lf⟩, hk, hg, rfl, OK, PV, HL, hbel⟩ := hrel
    have l0 : w.heap.size < wr.heap.size := (Array.getElem?_eq_some_iff.1 HL.out).1
    by_cases hltk : k < ns
    · have hkl : k < T.length := by rw [← hns.out]; exact hltk
      obtain ⟨b, off, rfl, hb, ⟨⟨m1, m2⟩, ⟨f1, f2⟩⟩, c0, c1⟩ := HS.out k hkl
      have IFF := Lib.hid (stOk_pv OK.out)
      rw [← PV.out] at IFF
      have NO : ¬ stOk T n k → Hid (stsB T n = false) := fun hno => stsB_false hkl hno
      have YES : stOk T n k → Hid (∀ j, j < k + 1 → stOk T n j) := fun hy j hj => by
        by_cases e : j = k
        · subst e; exact hy
        · exact OK.out j (by omega)
      have PS := Lib.hid (pvT_succ T k)
      obtain ⟨e, he⟩ : ∃ e, e = st T k := ⟨_, rfl⟩
      rw [← he] at m1 m2 f1 f2 c0 c1 IFF PS
      obtain ⟨m, f⟩ := e
      simp only at m1 m2 f1 f2 c0 c1
      replace c0 := below_cell hbel hb c0
      replace c1 := below_cell hbel hb c1
      have d0 : wr.cell? ⟨w.heap.size, 0, none⟩ = some (.int .i64 lm) := by rw [cell_of_row _ _ _ _ _ _ HL.out]; rfl
      have d1 : wr.cell? ⟨w.heap.size, 1, none⟩ = some (.int .i64 lf) := by rw [cell_of_row _ _ _ _ _ _ HL.out]; rfl
      have hA : (wr.alloc (.cells #[.int .i64 m, .int .i64 f] 41)).heap[w.heap.size]? = some (.cells #[.int .i64 lm, .int .i64 lf] 41 (0, 0)) := by rw [Below.heap_alloc _ _ _ l0]; exact HL.out
      have HA := Lib.hid hA
      have HB1 : Hid (Below w.heap.size w (wr.alloc (.cells #[.int .i64 m, .int .i64 f] 41))) := hbel.alloc (by omega) _
      have lne : ¬ w.heap.size = wr.heap.size := by omega
      have OC := Lib.hid (order_any ⟨lm, lf⟩ ⟨m, f⟩ (wr.alloc (.cells #[.int .i64 m, .int .i64 f] 41)))
      have OI : Hid (ordI ⟨lm, lf⟩ ⟨m, f⟩ < 0 ↔ ltS ⟨lm, lf⟩ ⟨m, f⟩) := ordI_neg _ _
      have OR : Hid (-1 ≤ ordI ⟨lm, lf⟩ ⟨m, f⟩ ∧ ordI ⟨lm, lf⟩ ⟨m, f⟩ ≤ 1) := ordI_range _ _
      generalize ordI ⟨lm, lf⟩ ⟨m, f⟩ = o at *
      obtain ⟨o1, o2⟩ := OR.out
      have XB : Hid ((wr.alloc (.cells #[.int .i64 m, .int .i64 f] 41)).heap[wr.heap.size]? = some (.cells #[.int .i64 m, .int .i64 f] 41)) := heap_alloc_new wr (.cells #[.int .i64 m, .int .i64 f] 41)
      have AFT : Hid (∀ w', (∃ q os', w' = grow ((wr.alloc (.cells #[.int .i64 m, .int .i64 f] 41)).drewN q) os') → w'.cell? ⟨wr.heap.size, 0, none⟩ = some (.int .i64 m) ∧ w'.cell? ⟨wr.heap.size, 1, none⟩ = some (.int .i64 f) ∧ w'.cell? ⟨w.heap.size, 0, none⟩ = some (.int .i64 lm) ∧ w'.cell? ⟨w.heap.size, 1, none⟩ = some (.int .i64 lf) ∧ w'.frozen? ⟨w.heap.size, 0, none⟩ = false ∧ w'.frozen? ⟨w.heap.size, 1, none⟩ = false ∧
          Hid (((w'.setCell ⟨w.heap.size, 0, none⟩ (.int .i64 m)).setCell ⟨w.heap.size, 1, none⟩ (.int .i64 f)).heap[w.heap.size]? = some (.cells #[.int .i64 m, .int .i64 f] 41 (0, 0))) ∧ Hid (Below w.heap.size w w') ∧ Hid (Below w.heap.size w ((w'.setCell ⟨w.heap.size, 0, none⟩ (.int .i64 m)).setCell ⟨w.heap.size, 1, none⟩ (.int .i64 f)))) := fun w' hw' => by
        obtain ⟨q, os', rfl⟩ := hw'
        have bg := below_grow (wr.alloc (.cells #[.int .i64 m, .int .i64 f] 41)) q os'
        have hx : (grow ((wr.alloc (.cells #[.int .i64 m, .int .i64 f] 41)).drewN q) os').heap[wr.heap.size]? = some (.cells #[.int .i64 m, .int .i64 f] 41) := by rw [bg.block _ (by simp)]; exact XB.out
        have hl : (grow ((wr.alloc (.cells #[.int .i64 m, .int .i64 f] 41)).drewN q) os').heap[w.heap.size]? = some (.cells #[.int .i64 lm, .int .i64 lf] 41 (0, 0)) := by rw [bg.block _ (by simp; omega)]; exact HA.out
        have bb := HB1.out.trans (bg.mono (show w.heap.size ≤ (wr.alloc (.cells #[.int .i64 m, .int .i64 f] 41)).heap.size by simp; omega))
        refine ⟨by rw [cell_of_row _ _ _ _ _ _ hx]; rfl, by rw [cell_of_row _ _ _ _ _ _ hx]; rfl, by rw [cell_of_row _ _ _ _ _ _ hl]; rfl, by rw [cell_of_row _ _ _ _ _ _ hl]; rfl, block_frozen hl, block_frozen hl, set2 hl, bb, ?_⟩
        exact (bb.setCell (p := ⟨w.heap.size, 0, none⟩) (Nat.le_refl _) _).setCell (p := ⟨w.heap.size, 1, none⟩) (Nat.le_refl _) _
      clear hbel HS OK PV HL he hA OR
      by_cases a1 : m ≤ 0
      · have E1 := NO (fun hc => by have : 0 < m := (IFF.out.1 hc).1; omega)
        clear NO YES IFF AFT OC OI
        go_wp2_with fail
        go_ret
        exact ⟨by rw [E1.out]; rfl, HB1.out⟩
      · by_cases a4 : n < f
        · have E1 := NO (fun hc => by have : f ≤ n := (IFF.out.1 hc).2.1; omega)
          clear NO YES IFF AFT OC OI
          go_wp2_with fail
          go_ret
          exact ⟨by rw [E1.out]; rfl, HB1.out⟩
        · by_cases a5 : 0 ≤ o
          · have E1 := NO (fun hc => by have := OI.out.2 (IFF.out.1 hc).2.2; omega)
            clear NO YES IFF OI
            go_wp2_with fail
            refine OC.out.mono ?_
            rintro e w' ⟨rfl, hw'⟩
            have HB3 := (AFT.out w' hw').2.2.2.2.2.2.2.1
            clear hw' AFT OC
            go_wp2_with fail
            go_ret
            exact ⟨by rw [E1.out]; rfl, HB3.out⟩
          · have E1 := YES (IFF.out.2 ⟨by show 0 < m; omega, by show f ≤ n; omega, OI.out.1 (by omega)⟩)
            clear NO YES IFF OI
            go_wp2_with fail
            refine OC.out.mono ?_
            rintro e w' ⟨rfl, hw'⟩
            obtain ⟨v0, v1, v2, v3, v4, v5, HZ, HB3, HB4⟩ := AFT.out w' hw'
            clear hw' AFT OC
            go_wp2_with fail
            go_roundg (ns - (k + 1))
            case measure => omega
            case rel => exact ⟨k + 1, ⟨m, f⟩, by omega, Nat.le_refl _, by go_num, E1.out, PS.out.symm, HZ.out, HB4.out⟩
    · obtain rfl : k = ns := by omega
      have E1 : Hid (stsB T n = true) := decide_eq_true (by rw [← hns.out]; exact OK.out)
      have HB1 := Lib.hid hbel
      clear hbel OK PV HL
      go_wp2_with fail
      go_ret
      exact ⟨by rw [E1.out]; rfl, HB1.out⟩

set_option maxRecDepth 100000 in
set_option maxHeartbeats 4000000 in
theorem right_any {sv tv : Value} {S : List Sp} {T : List St} (n : Int) (w : World) (hS : Spans w sv S) (hT : Sites w tv T) (hn : i64 n) :
    Calls Try.prog 10 #[.agg #[sv, tv], .int .i64 n] w fun e w' => e = .returned (.bool (mrightB S T n)) ∧ Below w.heap.size w w' := by
  obtain ⟨W0, hW0⟩ : ∃ W0, W0 = w.alloc (.cells #[sv, tv] 28) := ⟨_, rfl⟩
  have b0 : Below w.heap.size w W0 := by rw [hW0]; exact (Below.refl _ _).alloc (Nat.le_refl _) _
  have h0 : W0.heap[w.heap.size]? = some (.cells #[sv, tv] 28 (0, 0)) := by rw [hW0]; exact heap_alloc_new _ _
  have l0 : w.heap.size < W0.heap.size := by rw [hW0]; simp
  have C1 := Lib.hid (rightSpans_any n W0 (hS.below b0 (Nat.le_refl _)) hn)
  have C2 : Hid (∀ w', Below W0.heap.size W0 w' → Calls Try.prog 28 #[tv, .int .i64 n] w' fun e w'' => e = .returned (.bool (stsB T n)) ∧ Below w'.heap.size w' w'') := fun w' hb => rightSites_any n w' ((hT.below b0 (Nat.le_refl _)).below hb (Nat.le_refl _)) hn
  obtain ⟨sa, sc, rfl⟩ := hS.is_slice
  obtain ⟨ta, tc, rfl⟩ := hT.is_slice
  have X0 : W0.cell? ⟨w.heap.size, 0, none⟩ = some (.slice sa S.length sc) := by rw [cell_of_row _ _ _ _ _ _ h0]; rfl
  have X1 : W0.cell? ⟨w.heap.size, 1, none⟩ = some (.slice ta T.length tc) := by rw [cell_of_row _ _ _ _ _ _ h0]; rfl
  have BR := Lib.hid (both_right S T n)
  have HW0 := Lib.hid hW0
  have B0 := Lib.hid b0
  obtain ⟨n1, n2⟩ := hn
  generalize S.length = ls at *
  generalize T.length = lt at *
  clear hS hT h0 hW0 b0
  cases h1 : spsB S n with
  | false =>
    rw [h1] at C1 BR
    have E := Lib.hid (BR.out.trans (Bool.false_and _))
    clear h1 BR
    go_enter Try.func10, Try.ntmps10
    go_wp2_with fail
    rw [← HW0.out]
    go_wp2_with fail
    refine C1.out.mono ?_
    rintro e w' ⟨rfl, hb⟩
    have HB := Lib.hid (below_more B0.out hb)
    obtain ⟨hc, hf⟩ := bcell hb
    clear hb C1 C2
    go_wp2_with fail
    go_ret
    exact ⟨by rw [E.out]; rfl, HB.out⟩
  | true =>
    rw [h1] at C1 BR
    have E := Lib.hid (BR.out.trans (Bool.true_and _))
    clear h1 BR
    go_enter Try.func10, Try.ntmps10
    go_wp2_with fail
    rw [← HW0.out]
    go_wp2_with fail
    refine C1.out.mono ?_
    rintro e w' ⟨rfl, hb⟩
    have HB := Lib.hid hb
    have x1 := below_cell hb l0 X1
    have x0 := below_cell hb l0 X0
    clear hb C1
    go_wp2_with fail
    refine (C2.out w' HB.out).mono ?_
    rintro e w2 ⟨rfl, hb⟩
    have HB2 := Lib.hid (below_more B0.out (below_more HB.out hb))
    clear hb C2 x0 x1 X0 X1
    generalize stsB T n = r at *
    go_wp2_with fail
    go_ret
    exact ⟨by rw [E.out]; rfl, HB2.out⟩
end Go.Proofs.Ytkbadhkjhkmlfaa.Rig
