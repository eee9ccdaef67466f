/- Contracts: order of the program, and what it calls. -/
import Derived.Test.YtccaiippoephbaaGreatDoorWr
import Derived.Test.YtccaiippoephbaaGreatDoorPk
import Derived.Test.YtccaiippoephbaaGreatDoorShelfM
import Derived.StillTailTactics
import Derived.Deep.DeepCutAuto
import Derived.RegionTactic
import Derived.ChangeAlike
import Derived.BigRegion
import Derived.Deep.RegionHeld3
import Derived.Lib.SlicesCompact
import Derived.Deep.LoopGhost
import Derived.Lib.SliceRun
import Derived.IntWalk
set_option maxRecDepth 100000
set_option linter.unusedVariables false
namespace Go.Proofs.YtccaiippoephbaaGreatDoor.Rig
open Go.RowKit Go.Lib Go.Proofs.YtccaiippoephbaaGreatDoor.Rt Go.Sort

theorem cmp_any (x y : Int) (W : World) : Calls Tryz.prog 145 #[.int .i64 x, .int .i64 y] W fun e w' => e = .returned (.int .i64 (Lib.compareInt x y)) ∧ w' = W :=
  AnyG.cmp_Compare_int Tryz.cmpInt x y W
def orI (x y : Int) : Int := if x = 0 then y else x
theorem orI_some {x y : Int} (h : x ≠ 0) : orI x y = x := if_neg h
set_option maxHeartbeats 1000000 in
theorem or_any (b : Nat) (x y : Int) (W : World) (h0 : W.cell? ⟨b, 0, none⟩ = some (.int .i64 x)) (h1 : W.cell? ⟨b, 1, none⟩ = some (.int .i64 y)) :
    Calls Tryz.prog 144 #[.slice (some ⟨b, 0, none⟩) 2 2] W fun e w' => e = .returned (.int .i64 (orI x y)) ∧ W = w' := by
  go_enter Tryz.func144, Tryz.ntmps144
  go_wp2
  go_loop [5, 8] (fun v i => ∃ k : Nat, k ≤ 2 ∧ i = .int .i64 k ∧ Hid (0 < k → x = 0) ∧ Hid (1 < k → y = 0)) (fun _ i => 2 - (RowKit.intOf i).toNat)
  case atStart => exact ⟨0, by omega, rfl, fun h => absurd h (by omega), fun h => absurd h (by omega)⟩
  case round =>
    obtain ⟨k, hk, rfl, X0, Y0⟩ := hrel
    by_cases e0 : k = 0
    · subst e0
      by_cases q : x = 0
      · subst q
        have d : ((0 : Int) != 0) = false := rfl
        clear X0 Y0
        go_wp2
        go_round
        case rel => exact ⟨1, by omega, rfl, fun _ => by trivial, fun h => absurd h (by omega)⟩
        case measure => simp [RowKit.intOf]
      · have d : (x != 0) = true := by simpa using q
        have EN : Hid (orI x y = x) := orI_some q
        clear X0 Y0
        go_wp2
        go_ret
        exact ⟨congrArg Ending.returned (congrArg (Value.int .i64) EN.out.symm), rfl⟩
    · by_cases e1 : k = 1
      · subst e1
        have hx := X0.out (by omega)
        have EN : Hid (orI x y = y) := by show _ = _; rw [hx]; rfl
        clear hx e0
        by_cases q : y = 0
        · subst q
          have HX := Lib.hid (X0.out (by omega))
          clear X0 Y0
          go_wp2
          go_round
          case rel => exact ⟨2, by omega, rfl, fun _ => HX.out, fun _ => by trivial⟩
          case measure => simp [RowKit.intOf]
        · have d : (y != 0) = true := by simpa using q
          clear X0 Y0
          go_wp2
          go_ret
          exact ⟨congrArg Ending.returned (congrArg (Value.int .i64) EN.out.symm), rfl⟩
      · have e2 : k = 2 := by omega
        subst e2
        have EN : Hid (orI x y = 0) := by show _ = _; rw [X0.out (by omega), Y0.out (by omega)]; rfl
        clear X0 Y0 e0 e1
        go_wp2
        go_ret
        exact ⟨congrArg Ending.returned (congrArg (Value.int .i64) EN.out.symm), rfl⟩

theorem still_tail {P : Program} {id : Nat} {Q : Exit → Act → World → Prop} {a : Act} {w : World} {l : List Oper} (n : Nat) (hm : P.follows .mixedOrders = true) (hB : Region.lexTailB .any l.toArray n = true)
    (h : wpStill P l.toArray w.drew (fun a' => wpList P l.toArray Q (l.drop n) a' w.drew) (l.take n) a) : (Code.region id l.toArray true).wp P Q a w := wp_region_still_tail n hm hB h

theorem three_grow (W : World) (o1 o2 o3 : Obj) : (((W.alloc o1).alloc o2).drew).alloc o3 = grow (W.drewN 1) #[o1, o2, o3] := by
  rw [alloc_eq_grow (((W.alloc o1).alloc o2).drew), alloc_eq_grow (W.alloc o1), alloc_eq_grow W, drew_grow, drew_grow, grow_grow, grow_grow]
  rfl

def ordI (x y : St) : Int := orI (Lib.compareInt x.a y.a) (Lib.compareInt x.m y.m)
theorem ordI_neg (x y : St) : ordI x y < 0 ↔ ltS x y := by
  unfold ordI orI Lib.compareInt ltS gtS
  repeat' split
  all_goals (simp at * <;> omega)
theorem ordI_range (x y : St) : -1 ≤ ordI x y ∧ ordI x y ≤ 1 := by
  unfold ordI orI Lib.compareInt
  repeat' split
  all_goals omega
set_option maxRecDepth 100000 in
set_option maxHeartbeats 2000000 in
theorem order_any (x y : St) (W : World) :
    Calls Tryz.prog 118 #[.agg #[.int .i64 x.m, .int .i64 x.a], .agg #[.int .i64 y.m, .int .i64 y.a]] W fun e w' => e = .returned (.int .i64 (ordI x y)) ∧ ∃ q os', w' = grow (W.drewN q) os' := by
  have hc := fun a b W' => cmp_any a b W'
  have ho := Lib.hid or_any
  have E : Hid (ordI x y = orI (Lib.compareInt x.a y.a) (Lib.compareInt x.m y.m)) := rfl
  have C1 := Lib.hid (fun W' => cmp_any x.a y.a W')
  have C2 := Lib.hid (fun W' => cmp_any x.m y.m W')
  clear hc
  generalize Lib.compareInt x.a y.a = r at *
  generalize Lib.compareInt x.m y.m = s at *
  obtain ⟨xm, xa⟩ := x
  obtain ⟨ym, ya⟩ := y
  simp only at C1 C2 ⊢
  go_enter Tryz.func118, Tryz.ntmps118
  go_wp2_with fail
  refine still_tail 10 (by kernel_rfl) (by kernel_rfl) ?_
  simp only [List.take_succ_cons, List.take_zero, List.drop_succ_cons, List.drop_zero]
  obtain ⟨W2, hW2⟩ : ∃ W2, W2 = ((W.alloc (.cells #[.int .i64 xm, .int .i64 xa] 112)).alloc (.cells #[.int .i64 ym, .int .i64 ya] 112)).drew := ⟨_, rfl⟩
  rw [← hW2]
  have b0 : W2.heap[W.heap.size]? = some (.cells #[.int .i64 xm, .int .i64 xa] 112 (0, 0)) := by
    rw [hW2]
    show ((W.alloc _).alloc _).heap[W.heap.size]? = _
    rw [Below.heap_alloc _ _ _ (by simp)]
    exact heap_alloc_new _ _
  have b1 : W2.heap[W.heap.size + 1]? = some (.cells #[.int .i64 ym, .int .i64 ya] 112 (0, 0)) := by
    rw [hW2]
    have := heap_alloc_new (W.alloc (.cells #[.int .i64 xm, .int .i64 xa] 112)) (.cells #[.int .i64 ym, .int .i64 ya] 112)
    rw [World.size_alloc] at this
    exact this
  have c0 : W2.cell? ⟨W.heap.size, 0, none⟩ = some (.int .i64 xm) := by rw [cell_of_row _ _ _ _ _ _ b0]; rfl
  have c1 : W2.cell? ⟨W.heap.size, 1, none⟩ = some (.int .i64 xa) := by rw [cell_of_row _ _ _ _ _ _ b0]; rfl
  have c2 : W2.cell? ⟨W.heap.size + 1, 0, none⟩ = some (.int .i64 ym) := by rw [cell_of_row _ _ _ _ _ _ b1]; rfl
  have c3 : W2.cell? ⟨W.heap.size + 1, 1, none⟩ = some (.int .i64 ya) := by rw [cell_of_row _ _ _ _ _ _ b1]; rfl
  clear b0 b1
  repeat still_step
  still_call (C1.out _)
  repeat still_step
  still_call (C2.out _)
  refine wpStill_nil ?_
  have HW2 := Lib.hid hW2
  clear hW2 C1 C2
  have D0 : (W2.alloc (.cells #[.int .i64 r, .int .i64 s] 3)).cell? ⟨W2.heap.size, 0, none⟩ = some (.int .i64 r) := by rw [cell_of_row _ _ _ _ _ _ (heap_alloc_new _ _)]; rfl
  have D1 : (W2.alloc (.cells #[.int .i64 r, .int .i64 s] 3)).cell? ⟨W2.heap.size, 1, none⟩ = some (.int .i64 s) := by rw [cell_of_row _ _ _ _ _ _ (heap_alloc_new _ _)]; rfl
  have CO := Lib.hid (ho.out W2.heap.size r s _ D0 D1)
  clear D0 D1 ho
  go_wp2_with fail
  refine CO.out.mono ?_
  rintro e w' ⟨rfl, rfl⟩
  go_wp2_with fail
  go_ret
  exact ⟨congrArg Ending.returned (congrArg (Value.int .i64) E.out.symm), 1, _, by rw [HW2.out]; exact three_grow W _ _ _⟩
end Go.Proofs.YtccaiippoephbaaGreatDoor.Rig
/- Contract: Right of the program. -/
set_option maxRecDepth 100000
set_option linter.unusedVariables false
namespace Go.Proofs.YtccaiippoephbaaGreatDoor.Rig
open Go.RowKit Go.Lib Go.Proofs.YtccaiippoephbaaGreatDoor.Rt Go.Sort

def pvS (S : List Sp) (k : Nat) : Sp := if k = 0 then Sp.z else sp S (k - 1)
def pvT (T : List St) (k : Nat) : St := if k = 0 then St.z else st T (k - 1)
theorem pvS_succ (S : List Sp) (k : Nat) : pvS S (k + 1) = sp S k := by unfold pvS; rw [if_neg (by omega)]; rfl
theorem pvT_succ (T : List St) (k : Nat) : pvT T (k + 1) = st T k := by unfold pvT; rw [if_neg (by omega)]; rfl
theorem spOk_pv {S : List Sp} {n : Int} {k : Nat} (h : ∀ j, j < k → spOk S n j) : spOk S n k ↔ CS n (pvS S k) (sp S k) := by
  unfold pvS
  by_cases q : k = 0
  · rw [if_pos q]
    subst q
    unfold spOk CS Sp.z
    constructor
    · rintro ⟨a, b, c, d, _⟩
      exact ⟨a, b, c, d, fun _ => by show _ ≠ (0 : Int); omega⟩
    · rintro ⟨a, b, c, d, _⟩
      exact ⟨a, b, c, d, fun hc => absurd hc (by omega)⟩
  · rw [if_neg q]
    obtain ⟨p1, p2, p3, p4, _⟩ := h (k - 1) (by omega)
    unfold spOk CS
    constructor
    · rintro ⟨a, b, c, d, e⟩
      exact ⟨a, (e (by omega)).1, c, d, (e (by omega)).2⟩
    · rintro ⟨a, b, c, d, e⟩
      exact ⟨a, by omega, c, d, fun _ => ⟨b, e⟩⟩
theorem stOk_pv {T : List St} {n : Int} {k : Nat} (h : ∀ j, j < k → stOk T n j) : stOk T n k ↔ 0 < (st T k).m ∧ (st T k).a ≤ n ∧ ltS (pvT T k) (st T k) := by
  unfold pvT
  by_cases q : k = 0
  · rw [if_pos q]
    subst q
    unfold stOk ltS gtS St.z
    simp only
    constructor
    · rintro ⟨a, b, c, _⟩
      exact ⟨a, c, by omega⟩
    · rintro ⟨a, b, c⟩
      exact ⟨a, by omega, b, fun hc => absurd hc (by omega)⟩
  · rw [if_neg q]
    obtain ⟨p1, p2, p3, _⟩ := h (k - 1) (by omega)
    unfold stOk ltS gtS
    constructor
    · rintro ⟨a, b, c, d⟩
      obtain ⟨d1, d2⟩ := d (by omega)
      exact ⟨a, c, by omega⟩
    · rintro ⟨a, b, c⟩
      exact ⟨a, by omega, b, fun _ => by omega⟩
def spsB (S : List Sp) (n : Int) : Bool := decide (∀ j, j < S.length → spOk S n j)
def stsB (T : List St) (n : Int) : Bool := decide (∀ j, j < T.length → stOk T n j)
theorem spsB_false {S : List Sp} {n : Int} {k : Nat} (hk : k < S.length) (h : ¬ spOk S n k) : spsB S n = false := decide_eq_false fun hc => h (hc k hk)
theorem stsB_false {T : List St} {n : Int} {k : Nat} (hk : k < T.length) (h : ¬ stOk T n k) : stsB T n = false := decide_eq_false fun hc => h (hc k hk)
theorem both_right (S : List Sp) (T : List St) (n : Int) : mrightB S T n = (spsB S n && stsB T n) := by
  have e : mrightB S T n = true ↔ (spsB S n && stsB T n) = true := by
    unfold mrightB spsB stsB
    rw [decide_eq_true_iff, Bool.and_eq_true, decide_eq_true_iff, decide_eq_true_iff]
    exact Iff.rfl
  cases h1 : mrightB S T n <;> cases h2 : (spsB S n && stsB T n) <;> simp_all
theorem set_block0 {B i : Nat} {w : World} {u : Value} {cs : Array Value} {ty : TypeId} (hB : w.heap[B]? = some (.cells cs ty (0, 0))) : (w.setCell ⟨B, i, none⟩ u).heap[B]? = some (.cells (cs.setIfInBounds i u) ty (0, 0)) := by
  rw [heap_setCell_same _ _ _ _ _ _ hB]
theorem set3 {w : World} {b : Nat} {a0 a1 a2 m f t : Value} {ty : TypeId} (h : w.heap[b]? = some (.cells #[a0, a1, a2] ty (0, 0))) : (((w.setCell ⟨b, 0, none⟩ m).setCell ⟨b, 1, none⟩ f).setCell ⟨b, 2, none⟩ t).heap[b]? = some (.cells #[m, f, t] ty (0, 0)) := by
  have s1 := set_block0 (i := 0) (u := m) h
  have s2 := set_block0 (i := 1) (u := f) s1
  have s3 := set_block0 (i := 2) (u := t) s2
  simpa using s3
theorem set2 {w : World} {b : Nat} {a0 a1 m f : Value} {ty : TypeId} (h : w.heap[b]? = some (.cells #[a0, a1] ty (0, 0))) : ((w.setCell ⟨b, 0, none⟩ m).setCell ⟨b, 1, none⟩ f).heap[b]? = some (.cells #[m, f] ty (0, 0)) := by
  have s1 := set_block0 (i := 0) (u := m) h
  have s2 := set_block0 (i := 1) (u := f) s1
  simpa using s2
theorem below_grow (W : World) (q : Nat) (os : Array Obj) : Below W.heap.size W (grow (W.drewN q) os) :=
  ⟨rfl, rfl, rfl, by simp [grow, World.drewN], fun k hk => by show (W.heap ++ os)[k]? = _; rw [Array.getElem?_append_left hk]⟩

set_option maxRecDepth 100000 in
set_option maxHeartbeats 8000000 in
theorem rightSpans_any {sv : Value} {S : List Sp} (n : Int) (w : World) (hS : Spans w sv S) (hn : i64 n) :
    Calls Tryz.prog 101 #[sv, .int .i64 n] w fun e w' => e = .returned (.bool (spsB S n)) ∧ Below w.heap.size w w' := by
  obtain ⟨sa, sc, rfl, hls, hcs, hS1⟩ := hS.open_
  have HS := Lib.hid hS1
  obtain ⟨ns, hns⟩ : ∃ ns, ns = S.length := ⟨_, rfl⟩
  rw [← hns] at hls ⊢
  replace hns := Lib.hid hns
  obtain ⟨n1, n2⟩ := hn
  obtain ⟨W0, hW0⟩ : ∃ W0, W0 = w.alloc (.cells #[.int .i64 0, .int .i64 0, .int .i64 0] 108) := ⟨_, rfl⟩
  have b0 : Below w.heap.size w W0 := by rw [hW0]; exact (Below.refl _ _).alloc (Nat.le_refl _) _
  have H0 : Hid (W0.heap[w.heap.size]? = some (.cells #[.int .i64 0, .int .i64 0, .int .i64 0] 108 (0, 0))) := by show _ = _; rw [hW0]; exact heap_alloc_new _ _
  have HW0 := Lib.hid hW0
  have B0 := Lib.hid b0
  clear hS1 hS hW0 b0
  go_enter Tryz.func101, Tryz.ntmps101
  go_wp2_with fail
  rw [← HW0.out]
  go_loopg [11] ns (fun g i wr => ∃ (k : Nat) (e : Sp), k ≤ ns ∧ ns - k ≤ g ∧ i = .int .i64 k ∧ Hid (∀ j, j < k → spOk S n j) ∧ Hid (e = pvS S k) ∧ Hid (wr.heap[w.heap.size]? = some (.cells #[.int .i64 e.m, .int .i64 e.f, .int .i64 e.t] 108 (0, 0))) ∧ Below w.heap.size w wr)
  case atStart => exact ⟨0, Sp.z, Nat.zero_le _, by omega, rfl, fun j hj => absurd hj (by omega), rfl, H0.out, B0.out⟩
  case round =>
    clear H0 HW0 B0
    obtain ⟨k, ⟨lm, lf, lt⟩, hk, hg, rfl, OK, PV, HL, hbel⟩ := hrel
    have l0 : w.heap.size < wr.heap.size := (Array.getElem?_eq_some_iff.1 HL.out).1
    by_cases hltk : k < ns
    · have hkl : k < S.length := by rw [← hns.out]; exact hltk
      obtain ⟨b, off, rfl, hb, ⟨⟨m1, m2⟩, ⟨f1, f2⟩, ⟨t1, t2⟩⟩, c0, c1, c2⟩ := HS.out k hkl
      have IFF := Lib.hid (spOk_pv OK.out)
      rw [← PV.out] at IFF
      have NO : ¬ spOk S n k → Hid (spsB S n = false) := fun hno => spsB_false hkl hno
      have YES : spOk S n k → Hid (∀ j, j < k + 1 → spOk S n j) := fun hy j hj => by
        by_cases e : j = k
        · subst e; exact hy
        · exact OK.out j (by omega)
      have PS := Lib.hid (pvS_succ S k)
      obtain ⟨e, he⟩ : ∃ e, e = sp S k := ⟨_, rfl⟩
      rw [← he] at m1 m2 f1 f2 t1 t2 c0 c1 c2 IFF PS
      obtain ⟨m, f, t⟩ := e
      simp only at m1 m2 f1 f2 t1 t2 c0 c1 c2
      replace c0 := below_cell hbel hb c0
      replace c1 := below_cell hbel hb c1
      replace c2 := below_cell hbel hb c2
      have d0 : wr.cell? ⟨w.heap.size, 0, none⟩ = some (.int .i64 lm) := by rw [cell_of_row _ _ _ _ _ _ HL.out]; rfl
      have d1 : wr.cell? ⟨w.heap.size, 1, none⟩ = some (.int .i64 lf) := by rw [cell_of_row _ _ _ _ _ _ HL.out]; rfl
      have d2 : wr.cell? ⟨w.heap.size, 2, none⟩ = some (.int .i64 lt) := by rw [cell_of_row _ _ _ _ _ _ HL.out]; rfl
      have f0 : wr.frozen? ⟨w.heap.size, 0, none⟩ = false := block_frozen HL.out
      have f3 : wr.frozen? ⟨w.heap.size, 1, none⟩ = false := block_frozen HL.out
      have f4 : wr.frozen? ⟨w.heap.size, 2, none⟩ = false := block_frozen HL.out
      have HZ : Hid (((((wr.setCell ⟨w.heap.size, 0, none⟩ (.int .i64 m)).setCell ⟨w.heap.size, 1, none⟩ (.int .i64 f)).setCell ⟨w.heap.size, 2, none⟩ (.int .i64 t)).alloc (.cells #[.int .i64 m, .int .i64 f, .int .i64 t] 108)).heap[w.heap.size]? = some (.cells #[.int .i64 m, .int .i64 f, .int .i64 t] 108 (0, 0))) := by
        show _ = _
        rw [Below.heap_alloc _ _ _ (by simpa using l0)]
        exact set3 HL.out
      have HB1 : Hid (Below w.heap.size w (wr.alloc (.cells #[.int .i64 m, .int .i64 f, .int .i64 t] 108))) := hbel.alloc (by omega) _
      have HB2 : Hid (Below w.heap.size w ((((wr.setCell ⟨w.heap.size, 0, none⟩ (.int .i64 m)).setCell ⟨w.heap.size, 1, none⟩ (.int .i64 f)).setCell ⟨w.heap.size, 2, none⟩ (.int .i64 t)).alloc (.cells #[.int .i64 m, .int .i64 f, .int .i64 t] 108))) := (((hbel.setCell (p := ⟨w.heap.size, 0, none⟩) (Nat.le_refl _) _).setCell (p := ⟨w.heap.size, 1, none⟩) (Nat.le_refl _) _).setCell (p := ⟨w.heap.size, 2, none⟩) (Nat.le_refl _) _).alloc (by simp; omega) _
      have lne : ¬ w.heap.size = wr.heap.size := by omega
      clear hbel HS OK PV HL he
      by_cases a1 : m ≤ 0
      · have E1 := NO (fun hc => by have : 0 < m := (IFF.out.1 hc).1; omega)
        clear NO YES IFF
        go_wp2_with fail
        go_ret
        exact ⟨by rw [E1.out]; rfl, HB1.out⟩
      · by_cases a2 : f < lt
        · have E1 := NO (fun hc => by have : lt ≤ f := (IFF.out.1 hc).2.1; omega)
          clear NO YES IFF
          go_wp2_with fail
          go_ret
          exact ⟨by rw [E1.out]; rfl, HB1.out⟩
        · by_cases a3 : t ≤ f
          · have E1 := NO (fun hc => by have : f < t := (IFF.out.1 hc).2.2.1; omega)
            clear NO YES IFF
            go_wp2_with fail
            go_ret
            exact ⟨by rw [E1.out]; rfl, HB1.out⟩
          · by_cases a4 : n < t
            · have E1 := NO (fun hc => by have : t ≤ n := (IFF.out.1 hc).2.2.2.1; omega)
              clear NO YES IFF
              go_wp2_with fail
              go_ret
              exact ⟨by rw [E1.out]; rfl, HB1.out⟩
            · by_cases a5 : f = lt
              · have q5 : (f == lt) = true := by simpa using a5
                by_cases a6 : m = lm
                · have q6 : (m == lm) = true := by simpa using a6
                  have E1 := NO (fun hc => (IFF.out.1 hc).2.2.2.2 a5 a6)
                  clear NO YES IFF a5 a6
                  go_wp2_with fail
                  go_ret
                  exact ⟨by rw [E1.out]; rfl, HB1.out⟩
                · have q6 : (m == lm) = false := by simpa using a6
                  have E1 := YES (IFF.out.2 ⟨by show 0 < m; omega, by show lt ≤ f; omega, by show f < t; omega, by show t ≤ n; omega, fun _ => a6⟩)
                  clear NO YES IFF a5 a6
                  go_wp2_with fail
                  go_roundg (ns - (k + 1))
                  case measure => omega
                  case rel => exact ⟨k + 1, ⟨m, f, t⟩, by omega, Nat.le_refl _, by go_num, E1.out, PS.out.symm, HZ.out, HB2.out⟩
              · have q5 : (f == lt) = false := by simpa using a5
                have E1 := YES (IFF.out.2 ⟨by show 0 < m; omega, by show lt ≤ f; omega, by show f < t; omega, by show t ≤ n; omega, fun hc => absurd hc a5⟩)
                clear NO YES IFF a5
                go_wp2_with fail
                go_roundg (ns - (k + 1))
                case measure => omega
                case rel => exact ⟨k + 1, ⟨m, f, t⟩, by omega, Nat.le_refl _, by go_num, E1.out, PS.out.symm, HZ.out, HB2.out⟩
    · obtain rfl : k = ns := by omega
      have E1 : Hid (spsB S n = true) := decide_eq_true (by rw [← hns.out]; exact OK.out)
      have HB1 := Lib.hid hbel
      clear hbel OK PV HL
      go_wp2_with fail
      go_ret
      exact ⟨by rw [E1.out]; rfl, HB1.out⟩

set_option maxRecDepth 100000 in
set_option maxHeartbeats 8000000 in
theorem rightSites_any {tv : Value} {T : List St} (n : Int) (w : World) (hT : Sites w tv T) (hn : i64 n) :
    Calls Tryz.prog 102 #[tv, .int .i64 n] w fun e w' => e = .returned (.bool (stsB T n)) ∧ Below w.heap.size w w' := by
  obtain ⟨sa, sc, rfl, hls, hcs, hS1⟩ := hT.open_
  have HS := Lib.hid hS1
  obtain ⟨ns, hns⟩ : ∃ ns, ns = T.length := ⟨_, rfl⟩
  rw [← hns] at hls ⊢
  replace hns := Lib.hid hns
  obtain ⟨n1, n2⟩ := hn
  obtain ⟨W0, hW0⟩ : ∃ W0, W0 = w.alloc (.cells #[.int .i64 0, .int .i64 0] 112) := ⟨_, rfl⟩
  have b0 : Below w.heap.size w W0 := by rw [hW0]; exact (Below.refl _ _).alloc (Nat.le_refl _) _
  have H0 : Hid (W0.heap[w.heap.size]? = some (.cells #[.int .i64 0, .int .i64 0] 112 (0, 0))) := by show _ = _; rw [hW0]; exact heap_alloc_new _ _
  have HW0 := Lib.hid hW0
  have B0 := Lib.hid b0
  clear hS1 hT hW0 b0
  go_enter Tryz.func102, Tryz.ntmps102
  go_wp2_with fail
  rw [← HW0.out]
  go_loopg [11] ns (fun g i wr => ∃ (k : Nat) (e : St), k ≤ ns ∧ ns - k ≤ g ∧ i = .int .i64 k ∧ Hid (∀ j, j < k → stOk T n j) ∧ Hid (e = pvT T k) ∧ Hid (wr.heap[w.heap.size]? = some (.cells #[.int .i64 e.m, .int .i64 e.a] 112 (0, 0))) ∧ Below w.heap.size w wr)
  case atStart => exact ⟨0, St.z, Nat.zero_le _, by omega, rfl, fun j hj => absurd hj (by omega), rfl, H0.out, B0.out⟩
  case round =>
    clear H0 HW0 B0
    obtain ⟨k, ⟨lm, lf⟩, hk, hg, rfl, OK, PV, HL, hbel⟩ := hrel
    have l0 : w.heap.size < wr.heap.size := (Array.getElem?_eq_some_iff.1 HL.out).1
    by_cases hltk : k < ns
    · have hkl : k < T.length := by rw [← hns.out]; exact hltk
      obtain ⟨b, off, rfl, hb, ⟨⟨m1, m2⟩, ⟨f1, f2⟩⟩, c0, c1⟩ := HS.out k hkl
      have IFF := Lib.hid (stOk_pv OK.out)
      rw [← PV.out] at IFF
      have NO : ¬ stOk T n k → Hid (stsB T n = false) := fun hno => stsB_false hkl hno
      have YES : stOk T n k → Hid (∀ j, j < k + 1 → stOk T n j) := fun hy j hj => by
        by_cases e : j = k
        · subst e; exact hy
        · exact OK.out j (by omega)
      have PS := Lib.hid (pvT_succ T k)
      obtain ⟨e, he⟩ : ∃ e, e = st T k := ⟨_, rfl⟩
      rw [← he] at m1 m2 f1 f2 c0 c1 IFF PS
      obtain ⟨m, f⟩ := e
      simp only at m1 m2 f1 f2 c0 c1
      replace c0 := below_cell hbel hb c0
      replace c1 := below_cell hbel hb c1
      have d0 : wr.cell? ⟨w.heap.size, 0, none⟩ = some (.int .i64 lm) := by rw [cell_of_row _ _ _ _ _ _ HL.out]; rfl
      have d1 : wr.cell? ⟨w.heap.size, 1, none⟩ = some (.int .i64 lf) := by rw [cell_of_row _ _ _ _ _ _ HL.out]; rfl
      have hA : (wr.alloc (.cells #[.int .i64 m, .int .i64 f] 112)).heap[w.heap.size]? = some (.cells #[.int .i64 lm, .int .i64 lf] 112 (0, 0)) := by rw [Below.heap_alloc _ _ _ l0]; exact HL.out
      have HA := Lib.hid hA
      have HB1 : Hid (Below w.heap.size w (wr.alloc (.cells #[.int .i64 m, .int .i64 f] 112))) := hbel.alloc (by omega) _
      have lne : ¬ w.heap.size = wr.heap.size := by omega
      have OC := Lib.hid (order_any ⟨lm, lf⟩ ⟨m, f⟩ (wr.alloc (.cells #[.int .i64 m, .int .i64 f] 112)))
      have OI : Hid (ordI ⟨lm, lf⟩ ⟨m, f⟩ < 0 ↔ ltS ⟨lm, lf⟩ ⟨m, f⟩) := ordI_neg _ _
      have OR : Hid (-1 ≤ ordI ⟨lm, lf⟩ ⟨m, f⟩ ∧ ordI ⟨lm, lf⟩ ⟨m, f⟩ ≤ 1) := ordI_range _ _
      generalize ordI ⟨lm, lf⟩ ⟨m, f⟩ = o at *
      obtain ⟨o1, o2⟩ := OR.out
      have XB : Hid ((wr.alloc (.cells #[.int .i64 m, .int .i64 f] 112)).heap[wr.heap.size]? = some (.cells #[.int .i64 m, .int .i64 f] 112)) := heap_alloc_new wr (.cells #[.int .i64 m, .int .i64 f] 112)
      have AFT : Hid (∀ w', (∃ q os', w' = grow ((wr.alloc (.cells #[.int .i64 m, .int .i64 f] 112)).drewN q) os') → w'.cell? ⟨wr.heap.size, 0, none⟩ = some (.int .i64 m) ∧ w'.cell? ⟨wr.heap.size, 1, none⟩ = some (.int .i64 f) ∧ w'.cell? ⟨w.heap.size, 0, none⟩ = some (.int .i64 lm) ∧ w'.cell? ⟨w.heap.size, 1, none⟩ = some (.int .i64 lf) ∧ w'.frozen? ⟨w.heap.size, 0, none⟩ = false ∧ w'.frozen? ⟨w.heap.size, 1, none⟩ = false ∧
          Hid (((w'.setCell ⟨w.heap.size, 0, none⟩ (.int .i64 m)).setCell ⟨w.heap.size, 1, none⟩ (.int .i64 f)).heap[w.heap.size]? = some (.cells #[.int .i64 m, .int .i64 f] 112 (0, 0))) ∧ Hid (Below w.heap.size w w') ∧ Hid (Below w.heap.size w ((w'.setCell ⟨w.heap.size, 0, none⟩ (.int .i64 m)).setCell ⟨w.heap.size, 1, none⟩ (.int .i64 f)))) := fun w' hw' => by
        obtain ⟨q, os', rfl⟩ := hw'
        have bg := below_grow (wr.alloc (.cells #[.int .i64 m, .int .i64 f] 112)) q os'
        have hx : (grow ((wr.alloc (.cells #[.int .i64 m, .int .i64 f] 112)).drewN q) os').heap[wr.heap.size]? = some (.cells #[.int .i64 m, .int .i64 f] 112) := by rw [bg.block _ (by simp)]; exact XB.out
        have hl : (grow ((wr.alloc (.cells #[.int .i64 m, .int .i64 f] 112)).drewN q) os').heap[w.heap.size]? = some (.cells #[.int .i64 lm, .int .i64 lf] 112 (0, 0)) := by rw [bg.block _ (by simp; omega)]; exact HA.out
        have bb := HB1.out.trans (bg.mono (show w.heap.size ≤ (wr.alloc (.cells #[.int .i64 m, .int .i64 f] 112)).heap.size by simp; omega))
        refine ⟨by rw [cell_of_row _ _ _ _ _ _ hx]; rfl, by rw [cell_of_row _ _ _ _ _ _ hx]; rfl, by rw [cell_of_row _ _ _ _ _ _ hl]; rfl, by rw [cell_of_row _ _ _ _ _ _ hl]; rfl, block_frozen hl, block_frozen hl, set2 hl, bb, ?_⟩
        exact (bb.setCell (p := ⟨w.heap.size, 0, none⟩) (Nat.le_refl _) _).setCell (p := ⟨w.heap.size, 1, none⟩) (Nat.le_refl _) _
      clear hbel HS OK PV HL he hA OR
      by_cases a1 : m ≤ 0
      · have E1 := NO (fun hc => by have : 0 < m := (IFF.out.1 hc).1; omega)
        clear NO YES IFF AFT OC OI
        go_wp2_with fail
        go_ret
        exact ⟨by rw [E1.out]; rfl, HB1.out⟩
      · by_cases a4 : n < f
        · have E1 := NO (fun hc => by have : f ≤ n := (IFF.out.1 hc).2.1; omega)
          clear NO YES IFF AFT OC OI
          go_wp2_with fail
          go_ret
          exact ⟨by rw [E1.out]; rfl, HB1.out⟩
        · by_cases a5 : 0 ≤ o
          · have E1 := NO (fun hc => by have := OI.out.2 (IFF.out.1 hc).2.2; omega)
            clear NO YES IFF OI
            go_wp2_with fail
            refine OC.out.mono ?_
            rintro e w' ⟨rfl, hw'⟩
            have HB3 := (AFT.out w' hw').2.2.2.2.2.2.2.1
            clear hw' AFT OC
            go_wp2_with fail
            go_ret
            exact ⟨by rw [E1.out]; rfl, HB3.out⟩
          · have E1 := YES (IFF.out.2 ⟨by show 0 < m; omega, by show f ≤ n; omega, OI.out.1 (by omega)⟩)
            clear NO YES IFF OI
            go_wp2_with fail
            refine OC.out.mono ?_
            rintro e w' ⟨rfl, hw'⟩
            obtain ⟨v0, v1, v2, v3, v4, v5, HZ, HB3, HB4⟩ := AFT.out w' hw'
            clear hw' AFT OC
            go_wp2_with fail
            go_roundg (ns - (k + 1))
            case measure => omega
            case rel => exact ⟨k + 1, ⟨m, f⟩, by omega, Nat.le_refl _, by go_num, E1.out, PS.out.symm, HZ.out, HB4.out⟩
    · obtain rfl : k = ns := by omega
      have E1 : Hid (stsB T n = true) := decide_eq_true (by rw [← hns.out]; exact OK.out)
      have HB1 := Lib.hid hbel
      clear hbel OK PV HL
      go_wp2_with fail
      go_ret
      exact ⟨by rw [E1.out]; rfl, HB1.out⟩

set_option maxRecDepth 100000 in
set_option maxHeartbeats 4000000 in
theorem mkright_any {sv tv : Value} {S : List Sp} {T : List St} (n : Int) (w : World) (hS : Spans w sv S) (hT : Sites w tv T) (hn : i64 n) :
    Calls Tryz.prog 84 #[.agg #[sv, tv], .int .i64 n] w fun e w' => e = .returned (.bool (mrightB S T n)) ∧ Below w.heap.size w w' := by
  obtain ⟨W0, hW0⟩ : ∃ W0, W0 = w.alloc (.cells #[sv, tv] 117) := ⟨_, rfl⟩
  have b0 : Below w.heap.size w W0 := by rw [hW0]; exact (Below.refl _ _).alloc (Nat.le_refl _) _
  have h0 : W0.heap[w.heap.size]? = some (.cells #[sv, tv] 117 (0, 0)) := by rw [hW0]; exact heap_alloc_new _ _
  have l0 : w.heap.size < W0.heap.size := by rw [hW0]; simp
  have C1 := Lib.hid (rightSpans_any n W0 (hS.below b0 (Nat.le_refl _)) hn)
  have C2 : Hid (∀ w', Below W0.heap.size W0 w' → Calls Tryz.prog 102 #[tv, .int .i64 n] w' fun e w'' => e = .returned (.bool (stsB T n)) ∧ Below w'.heap.size w' w'') := fun w' hb => rightSites_any n w' ((hT.below b0 (Nat.le_refl _)).below hb (Nat.le_refl _)) hn
  obtain ⟨sa, sc, rfl⟩ := hS.is_slice
  obtain ⟨ta, tc, rfl⟩ := hT.is_slice
  have X0 : W0.cell? ⟨w.heap.size, 0, none⟩ = some (.slice sa S.length sc) := by rw [cell_of_row _ _ _ _ _ _ h0]; rfl
  have X1 : W0.cell? ⟨w.heap.size, 1, none⟩ = some (.slice ta T.length tc) := by rw [cell_of_row _ _ _ _ _ _ h0]; rfl
  have BR := Lib.hid (both_right S T n)
  have HW0 := Lib.hid hW0
  have B0 := Lib.hid b0
  obtain ⟨n1, n2⟩ := hn
  generalize S.length = ls at *
  generalize T.length = lt at *
  clear hS hT h0 hW0 b0
  cases h1 : spsB S n with
  | false =>
    rw [h1] at C1 BR
    have E := Lib.hid (BR.out.trans (Bool.false_and _))
    clear h1 BR
    go_enter Tryz.func84, Tryz.ntmps84
    go_wp2_with fail
    rw [← HW0.out]
    go_wp2_with fail
    refine C1.out.mono ?_
    rintro e w' ⟨rfl, hb⟩
    have HB := Lib.hid (below_more B0.out hb)
    obtain ⟨hc, hf⟩ := bcell hb
    clear hb C1 C2
    go_wp2_with fail
    go_ret
    exact ⟨by rw [E.out]; rfl, HB.out⟩
  | true =>
    rw [h1] at C1 BR
    have E := Lib.hid (BR.out.trans (Bool.true_and _))
    clear h1 BR
    go_enter Tryz.func84, Tryz.ntmps84
    go_wp2_with fail
    rw [← HW0.out]
    go_wp2_with fail
    refine C1.out.mono ?_
    rintro e w' ⟨rfl, hb⟩
    have HB := Lib.hid hb
    have x1 := below_cell hb l0 X1
    have x0 := below_cell hb l0 X0
    clear hb C1
    go_wp2_with fail
    refine (C2.out w' HB.out).mono ?_
    rintro e w2 ⟨rfl, hb⟩
    have HB2 := Lib.hid (below_more B0.out (below_more HB.out hb))
    clear hb C2 x0 x1 X0 X1
    generalize stsB T n = r at *
    go_wp2_with fail
    go_ret
    exact ⟨by rw [E.out]; rfl, HB2.out⟩
end Go.Proofs.YtccaiippoephbaaGreatDoor.Rig
/- Contract: Part of the program. -/
set_option maxRecDepth 100000
set_option linter.unusedVariables false
namespace Go.Proofs.YtccaiippoephbaaGreatDoor.Rig
open Go.RowKit Go.Lib Go.Proofs.YtccaiippoephbaaGreatDoor.Rt

theorem OwnF.mono {T : TypeId} {base base' : Nat} {w : World} {v : Value} {n k : Nat} {zs : List Int} (h : OwnF T base w v n k zs) (hb : base' ≤ base) : OwnF T base' w v n k zs := ⟨owns_mono h.1 hb, h.2⟩
theorem own_set {T ty : TypeId} {base B i : Nat} {w : World} {v u : Value} {n k : Nat} {zs : List Int} {cs : Array Value} (h : OwnF T base w v n k zs) (hB : w.heap[B]? = some (.cells cs ty (0, 0))) (hT : T ≠ ty) : OwnF T base (w.setCell ⟨B, i, none⟩ u) v n k zs :=
  OwnF.kept h (grown_setCell _ _ _) (.inr (own_ne_block h hB hT))
theorem set_block {B i : Nat} {w : World} {u : Value} {cs : Array Value} {ty : TypeId} (hB : w.heap[B]? = some (.cells cs ty (0, 0))) : (w.setCell ⟨B, i, none⟩ u).heap[B]? = some (.cells (cs.setIfInBounds i u) ty (0, 0)) := by
  rw [heap_setCell_same _ _ _ _ _ _ hB]
theorem alloc_at (w : World) (o : Obj) (i : Nat) : (w.alloc o).heap[i]? = if i = w.heap.size then some o else w.heap[i]? := by
  show (w.heap.push o)[i]? = _
  rw [Array.getElem?_push]

end Go.Proofs.YtccaiippoephbaaGreatDoor.Rig
/- What the laws of marks have in common: arguments opened; what may be asked; the same marks. -/
set_option maxRecDepth 100000
set_option linter.unusedVariables false
namespace Go.Proofs.YtccaiippoephbaaGreatDoor.Rig
open Go.RowKit Go.Lib Go.Proofs.YtccaiippoephbaaGreatDoor.Rt

section
open Go.ChangeShapes Go.WideShapes Go.Deep
variable {H : Type} {enc : TypeId × Value → H}
theorem cellsOf_span : Tryz.prog.cellsOf 108 = 3 := by kernel_rfl
theorem cellsOf_site : Tryz.prog.cellsOf 112 = 2 := by kernel_rfl
def SpAt (W : World) (b off : Nat) (y : Sp) : Prop := Sp.good y ∧ W.cell? ⟨b, off, none⟩ = some (.int .i64 y.m) ∧ W.cell? ⟨b, off + 1, none⟩ = some (.int .i64 y.f) ∧ W.cell? ⟨b, off + 2, none⟩ = some (.int .i64 y.t)
def StAt (W : World) (b off : Nat) (y : St) : Prop := St.good y ∧ W.cell? ⟨b, off, none⟩ = some (.int .i64 y.m) ∧ W.cell? ⟨b, off + 1, none⟩ = some (.int .i64 y.a)
theorem span_cells {W : World} {a : Addr} {n : Nat} {x : DataW H × List MemPlace} {cs : List Value} (hc : W.cells? 0 a 3 = some cs) (ht : DataW.trod enc Tryz.prog W 0 (fun _ => true) true n 108 cs = some x) :
    a.spot = none ∧ ∃ y : Sp, SpAt W a.block a.off y := by
  obtain ⟨_, hl, hat⟩ := World.cells?_some hc
  obtain ⟨xs, m, _, _, _, hxl, hf⟩ := DataW.trod_struct Tryz.underlying108 ht
  match cs, hl with
  | [c0, c1, c2], _ =>
    have hxs : xs.length = 3 := hxl
    match xs, hxs with
    | [x0, x1, x2], _ =>
      have g0 : DataW.trod enc Tryz.prog W 0 (fun _ => true) true m 3 (([c0, c1, c2].drop 0).take (Tryz.prog.cellsOf 3)) = some x0 := hf 0 _ rfl
      have g1 : DataW.trod enc Tryz.prog W 0 (fun _ => true) true m 3 (([c0, c1, c2].drop 1).take (Tryz.prog.cellsOf 3)) = some x1 := hf 1 _ rfl
      have g2 : DataW.trod enc Tryz.prog W 0 (fun _ => true) true m 3 (([c0, c1, c2].drop 2).take (Tryz.prog.cellsOf 3)) = some x2 := hf 2 _ rfl
      rw [cellsOf_int] at g0 g1 g2
      obtain ⟨q, e0, -, w0⟩ := DataW.trod_int Tryz.underlying3 g0
      obtain ⟨f, e1, -, w1⟩ := DataW.trod_int Tryz.underlying3 g1
      obtain ⟨t, e2, -, w2⟩ := DataW.trod_int Tryz.underlying3 g2
      simp at e0 e1 e2
      subst e0 e1 e2
      have h0 := hat 0 (by omega)
      have h1 := hat 1 (by omega)
      have h2 := hat 2 (by omega)
      obtain ⟨b, o, sp⟩ := a
      have hsp : sp = none := by simpa [Addr.add] using World.cell?_spot h0
      subst hsp
      refine ⟨rfl, ⟨q, f, t⟩, ⟨int_bounds w0, int_bounds w1, int_bounds w2⟩, ?_, ?_, ?_⟩
      · simpa [Addr.add] using h0
      · simpa [Addr.add] using h1
      · simpa [Addr.add] using h2
theorem site_cells {W : World} {a : Addr} {n : Nat} {x : DataW H × List MemPlace} {cs : List Value} (hc : W.cells? 0 a 2 = some cs) (ht : DataW.trod enc Tryz.prog W 0 (fun _ => true) true n 112 cs = some x) :
    a.spot = none ∧ ∃ y : St, StAt W a.block a.off y := by
  obtain ⟨_, hl, hat⟩ := World.cells?_some hc
  obtain ⟨xs, m, _, _, _, hxl, hf⟩ := DataW.trod_struct Tryz.underlying112 ht
  match cs, hl with
  | [c0, c1], _ =>
    have hxs : xs.length = 2 := hxl
    match xs, hxs with
    | [x0, x1], _ =>
      have g0 : DataW.trod enc Tryz.prog W 0 (fun _ => true) true m 3 (([c0, c1].drop 0).take (Tryz.prog.cellsOf 3)) = some x0 := hf 0 _ rfl
      have g1 : DataW.trod enc Tryz.prog W 0 (fun _ => true) true m 3 (([c0, c1].drop 1).take (Tryz.prog.cellsOf 3)) = some x1 := hf 1 _ rfl
      rw [cellsOf_int] at g0 g1
      obtain ⟨q, e0, -, w0⟩ := DataW.trod_int Tryz.underlying3 g0
      obtain ⟨f, e1, -, w1⟩ := DataW.trod_int Tryz.underlying3 g1
      simp at e0 e1
      subst e0 e1
      have h0 := hat 0 (by omega)
      have h1 := hat 1 (by omega)
      obtain ⟨b, o, sp⟩ := a
      have hsp : sp = none := by simpa [Addr.add] using World.cell?_spot h0
      subst hsp
      refine ⟨rfl, ⟨q, f⟩, ⟨int_bounds w0, int_bounds w1⟩, ?_, ?_⟩
      · simpa [Addr.add] using h0
      · simpa [Addr.add] using h1
theorem at_fl3 (S : List Sp) {j : Nat} (h : j < S.length * 3) : ∃ i r, i < S.length ∧ r < 3 ∧ j = i * 3 + r ∧ at_ (fl3 S) j = (match r with | 0 => (sp S i).m | 1 => (sp S i).f | _ => (sp S i).t) := by
  refine ⟨j / 3, j % 3, by omega, Nat.mod_lt _ (by omega), by omega, ?_⟩
  obtain ⟨h0, h1, h2⟩ := fl3_at S (j / 3) (by omega)
  rcases (show j % 3 = 0 ∨ j % 3 = 1 ∨ j % 3 = 2 by omega) with e | e | e <;> rw [e]
  · show _ = (sp S (j / 3)).m
    rw [← h0]; congr 1; omega
  · show _ = (sp S (j / 3)).f
    rw [← h1]; congr 1; omega
  · show _ = (sp S (j / 3)).t
    rw [← h2]; congr 1; omega
theorem at_fl2 (S : List St) {j : Nat} (h : j < S.length * 2) : ∃ i r, i < S.length ∧ r < 2 ∧ j = i * 2 + r ∧ at_ (fl2 S) j = (match r with | 0 => (st S i).m | _ => (st S i).a) := by
  refine ⟨j / 2, j % 2, by omega, Nat.mod_lt _ (by omega), by omega, ?_⟩
  obtain ⟨h0, h1⟩ := fl2_at S (j / 2) (by omega)
  rcases (show j % 2 = 0 ∨ j % 2 = 1 by omega) with e | e <;> rw [e]
  · show _ = (st S (j / 2)).m
    rw [← h0]; congr 1; omega
  · show _ = (st S (j / 2)).a
    rw [← h1]; congr 1; omega
theorem spans_mk {W : World} {b o len cap : Nat} {S : List Sp} (hA : S.length = len) (hl : len ≤ cap) (hm : cap ≤ maxLen) (h : ∀ i, i < len → SpAt W b (o + i * 3) (sp S i)) (hb : 0 < len → b < W.heap.size) : Spans W (.slice (some ⟨b, o, none⟩) len cap) S := by
  subst hA
  refine ⟨fl3_len S, fun x hx => ?_, _, cap, rfl, hl, hm, ?_⟩
  · obtain ⟨j, hj, rfl⟩ := List.getElem_of_mem hx
    have hj' : j < S.length * 3 := by rwa [fl3_len] at hj
    obtain ⟨i, r, hi, hr, _, e⟩ := at_fl3 S hj'
    rw [at_get hj] at e
    rw [e]
    obtain ⟨⟨g1, g2, g3⟩, _⟩ := h i hi
    split <;> assumption
  · by_cases h0 : S.length = 0
    · exact .inl h0
    · refine .inr ⟨b, o, rfl, hb (by omega), fun j hj => ?_⟩
      obtain ⟨i, r, hi, hr, rfl, e⟩ := at_fl3 S hj
      rw [e]
      obtain ⟨_, c0, c1, c2⟩ := h i hi
      rcases (show r = 0 ∨ r = 1 ∨ r = 2 by omega) with rfl | rfl | rfl
      · exact c0
      · rw [← Nat.add_assoc]; exact c1
      · rw [← Nat.add_assoc]; exact c2
theorem sites_mk {W : World} {b o len cap : Nat} {S : List St} (hA : S.length = len) (hl : len ≤ cap) (hm : cap ≤ maxLen) (h : ∀ i, i < len → StAt W b (o + i * 2) (st S i)) (hb : 0 < len → b < W.heap.size) : Sites W (.slice (some ⟨b, o, none⟩) len cap) S := by
  subst hA
  refine ⟨fl2_len S, fun x hx => ?_, _, cap, rfl, hl, hm, ?_⟩
  · obtain ⟨j, hj, rfl⟩ := List.getElem_of_mem hx
    have hj' : j < S.length * 2 := by rwa [fl2_len] at hj
    obtain ⟨i, r, hi, hr, _, e⟩ := at_fl2 S hj'
    rw [at_get hj] at e
    rw [e]
    obtain ⟨⟨g1, g2⟩, _⟩ := h i hi
    split <;> assumption
  · by_cases h0 : S.length = 0
    · exact .inl h0
    · refine .inr ⟨b, o, rfl, hb (by omega), fun j hj => ?_⟩
      obtain ⟨i, r, hi, hr, rfl, e⟩ := at_fl2 S hj
      rw [e]
      obtain ⟨_, c0, c1⟩ := h i hi
      rcases (show r = 0 ∨ r = 1 by omega) with rfl | rfl
      · exact c0
      · rw [← Nat.add_assoc]; exact c1
theorem spans_of {W : World} {n : Nat} {x : DataW H × List MemPlace} {c : Value} (h : DataW.trod enc Tryz.prog W 0 (fun _ => true) true n 64 [c] = some x) : ∃ S, Spans W c S := by
  rcases open_slice Tryz.underlying64 h with ⟨hcs, _⟩ | ⟨a, len, cap, m, n', D, Pl, hcs, _, hl, hm, hmm, _, hel⟩
  · simp at hcs
    subst hcs
    exact ⟨[], Spans.nil_ _⟩
  · simp at hcs
    subst hcs
    simp only [if_true] at hmm
    have hall : ∀ i, i < len → ∃ y : Sp, (a.add (i * 3)).spot = none ∧ SpAt W (a.add (i * 3)).block (a.add (i * 3)).off y := fun i hi => by
      obtain ⟨cs', hc, ht⟩ := hel i (by omega)
      rw [cellsOf_span] at hc
      obtain ⟨h1, y, h2⟩ := span_cells hc ht
      exact ⟨y, h1, h2⟩
    by_cases h0 : len = 0
    · subst h0
      exact ⟨[], rfl, fun _ h => by simp [fl3] at h, _, cap, rfl, Nat.zero_le _, hm, .inl rfl⟩
    · obtain ⟨b, o, sp'⟩ := a
      have hsp : sp' = none := by
        obtain ⟨y, h1, _⟩ := hall 0 (by omega)
        simpa [Addr.add] using h1
      subst hsp
      have hall' : ∀ i, i < len → ∃ y : Sp, SpAt W b (o + i * 3) y := fun i hi => by
        obtain ⟨y, _, c⟩ := hall i hi
        rw [add_block, add_off] at c
        exact ⟨y, c⟩
      have hch := fun i : Fin len => hall' i.1 i.2
      let A : List Sp := List.ofFn fun i : Fin len => (hch i).choose
      have hA : A.length = len := List.length_ofFn
      refine ⟨A, spans_mk hA (by omega) hm (fun i hi => ?_) (fun _ => ?_)⟩
      · have hAi : sp A i = (hch ⟨i, hi⟩).choose := by
          unfold sp
          rw [List.getD_eq_getElem?_getD, List.getElem?_eq_getElem (by omega)]
          simp [A]
        rw [hAi]
        exact (hch ⟨i, hi⟩).choose_spec
      · obtain ⟨y, _, h1, _⟩ := hall' 0 (by omega)
        exact lt_of_cell h1
theorem sites_of {W : World} {n : Nat} {x : DataW H × List MemPlace} {c : Value} (h : DataW.trod enc Tryz.prog W 0 (fun _ => true) true n 65 [c] = some x) : ∃ S, Sites W c S := by
  rcases open_slice Tryz.underlying65 h with ⟨hcs, _⟩ | ⟨a, len, cap, m, n', D, Pl, hcs, _, hl, hm, hmm, _, hel⟩
  · simp at hcs
    subst hcs
    exact ⟨[], Sites.nil_ _⟩
  · simp at hcs
    subst hcs
    simp only [if_true] at hmm
    have hall : ∀ i, i < len → ∃ y : St, (a.add (i * 2)).spot = none ∧ StAt W (a.add (i * 2)).block (a.add (i * 2)).off y := fun i hi => by
      obtain ⟨cs', hc, ht⟩ := hel i (by omega)
      rw [cellsOf_site] at hc
      obtain ⟨h1, y, h2⟩ := site_cells hc ht
      exact ⟨y, h1, h2⟩
    by_cases h0 : len = 0
    · subst h0
      exact ⟨[], rfl, fun _ h => by simp [fl2] at h, _, cap, rfl, Nat.zero_le _, hm, .inl rfl⟩
    · obtain ⟨b, o, sp'⟩ := a
      have hsp : sp' = none := by
        obtain ⟨y, h1, _⟩ := hall 0 (by omega)
        simpa [Addr.add] using h1
      subst hsp
      have hall' : ∀ i, i < len → ∃ y : St, StAt W b (o + i * 2) y := fun i hi => by
        obtain ⟨y, _, c⟩ := hall i hi
        rw [add_block, add_off] at c
        exact ⟨y, c⟩
      have hch := fun i : Fin len => hall' i.1 i.2
      let A : List St := List.ofFn fun i : Fin len => (hch i).choose
      have hA : A.length = len := List.length_ofFn
      refine ⟨A, sites_mk hA (by omega) hm (fun i hi => ?_) (fun _ => ?_)⟩
      · have hAi : st A i = (hch ⟨i, hi⟩).choose := by
          unfold st
          rw [List.getD_eq_getElem?_getD, List.getElem?_eq_getElem (by omega)]
          simp [A]
        rw [hAi]
        exact (hch ⟨i, hi⟩).choose_spec
      · obtain ⟨y, _, h1, _⟩ := hall' 0 (by omega)
        exact lt_of_cell h1
end
end Go.Proofs.YtccaiippoephbaaGreatDoor.Rig
/- Contract: slices.SortFunc over sites by order, for a row of the call's own. -/
set_option maxRecDepth 100000
set_option linter.unusedVariables false
namespace Go.Proofs.YtccaiippoephbaaGreatDoor.Rig
open Go.RowKit Go.Lib Go.Proofs.YtccaiippoephbaaGreatDoor.Rt
open Go.Sort (HoldsK putRowK flatK SWO PermIn SortedIn grow onCells mapBlock putRow)

def encS (x : St) : List Value := [.int .i64 x.m, .int .i64 x.a]
instance : Inhabited St := ⟨St.z⟩
theorem arr_get (L : List St) {i : Nat} (h : i < L.length) : L.toArray[i]! = st L i := by
  rw [st_get h, getElem!_pos _ i (by simpa using h)]
  simp
theorem flat_get (L : List St) {t : Nat} (h : t < L.length * 2) : (flatK encS 2 L.toArray)[t]! = .int .i64 (at_ (fl2 L) t) := by
  rw [Go.Sort.get_flatK _ _ _ _ (by simpa using h)]
  obtain ⟨i, r, hi, hr, rfl, e⟩ := at_fl2 L h
  rw [e, show (i * 2 + r) / 2 = i by omega, show (i * 2 + r) % 2 = r by omega, arr_get L hi]
  rcases (show r = 0 ∨ r = 1 by omega) with rfl | rfl <;> rfl
instance (x y : St) : Decidable (ltS x y) := by unfold ltS; infer_instance
end Go.Proofs.YtccaiippoephbaaGreatDoor.Rig
/- What Put and Take of the program have in common: a row that is joined to while another one is read. -/
set_option maxRecDepth 100000
set_option linter.unusedVariables false
namespace Go.Proofs.YtccaiippoephbaaGreatDoor.Rig
open Go.RowKit Go.Lib Go.Proofs.YtccaiippoephbaaGreatDoor.Rt

theorem row_lt {w : World} {b : Nat} {o : Obj} (h : w.heap[b]? = some o) : b < w.heap.size := (Array.getElem?_eq_some_iff.1 h).1
end Go.Proofs.YtccaiippoephbaaGreatDoor.Rig
/- Contract: takeSites of the program. -/
set_option maxRecDepth 100000
set_option linter.unusedVariables false
namespace Go.Proofs.YtccaiippoephbaaGreatDoor.Rig
open Go.RowKit Go.Lib Go.Proofs.YtccaiippoephbaaGreatDoor.Rt

def cutL (T : List St) (a b : Int) : List St := T.map (cutS a b)
end Go.Proofs.YtccaiippoephbaaGreatDoor.Rig
/- Contracts: what may be asked; the same marks (of the laws of marks). -/
set_option maxRecDepth 100000
set_option linter.unusedVariables false
namespace Go.Proofs.YtccaiippoephbaaGreatDoor.Rig
open Go.RowKit Go.Lib Go.Proofs.YtccaiippoephbaaGreatDoor.Rt

def okP (ls lt : Nat) (n a b : Int) : Prop := 0 ≤ n ∧ n ≤ 2000 ∧ 0 ≤ a ∧ a ≤ b ∧ b ≤ n ∧ ls ≤ 2000 ∧ lt ≤ 300
instance (ls lt : Nat) (n a b : Int) : Decidable (okP ls lt n a b) := by unfold okP; infer_instance
end Go.Proofs.YtccaiippoephbaaGreatDoor.Rig
