/- Undo: Push. -/
import Derived.Test.YtoejjicgnhndfaaDoorUh
import Derived.Test.YtoejjicgnhndfaaDoorCa
import Derived.Deep.QuietTactic
import Derived.BigQuiet
set_option linter.unusedVariables false
set_option maxRecDepth 100000
namespace Go.Proofs.YtoejjicgnhndfaaDoor.Und
open Go.RowKit Go.Lib Go.Proofs.YtoejjicgnhndfaaDoor.Rk Go.Proofs.YtoejjicgnhndfaaDoor.Rig

theorem ThV.iface {w : World} {v : Value} {y : U} (h : ThV w v y) : ∃ t u, v = .iface t u := by
  rcases h.form with rfl | ⟨q, rfl⟩
  · exact ⟨_, _, rfl⟩
  · exact ⟨_, _, rfl⟩
/-- Without the first. -/
theorem RowK.tail {k : Nat} {w : World} {b off n cap : Nat} {xs : List (List Value)} (h : RowK k w (.slice (some ⟨b, off, none⟩) n cap) xs) (hn : 0 < n) : RowK k w (.slice (some ⟨b, off + k, none⟩) (n - 1) (cap - 1)) xs.tail := by
  obtain ⟨h0, a, c, e, h1, h2, h3⟩ := h
  injection e with e1 e2 e3
  subst e1 e3
  have hl : xs.tail.length = n - 1 := by rw [List.length_tail, e2]
  refine ⟨fun x hx => h0 x (List.mem_of_mem_tail hx), _, _, by rw [hl], by rw [hl]; omega, by omega, ?_⟩
  rcases h3 with h3 | ⟨b', off', e, hb, hc⟩
  · rw [h3] at e2; simp at e2; omega
  · injection e with e
    injection e with e1 e4 _
    subst e1 e4
    refine .inr ⟨b, off + k, rfl, hb, fun j hj i u hu => ?_⟩
    have := hc (j + 1) (by rw [hl] at hj; omega) i u (by rw [List.getElem_tail] at hu; exact hu)
    rw [show off + k + j * k + i = off + (j + 1) * k + i by rw [Nat.succ_mul]; omega]
    exact this
theorem RowK.tail1 {w : World} {b off n cap : Nat} {xs : List (List Value)} (h : RowK 1 w (.slice (some ⟨b, off, none⟩) n cap) xs) (hn : 0 < n) : RowK 1 w (.slice (if cap = 1 then some ⟨b, off, none⟩ else some ⟨b, off + 1, none⟩) (n - 1) (cap - 1)) xs.tail := by
  by_cases hc : cap = 1
  · rw [if_pos hc]
    have h' := RowK.tail h hn
    obtain ⟨h0, a, c, e, h1, h2, h3⟩ := h'
    injection e with e1 e2 e3
    subst e1 e3
    have hx : xs.tail = [] := List.eq_nil_of_length_eq_zero (by omega)
    exact ⟨h0, _, _, by rw [← e2], h1, h2, .inl hx⟩
  · rw [if_neg hc]
    exact RowK.tail h hn
/-- What is put on, what falls out. -/
def pushA (A : List U) (y : U) (depth : Int) : List U := if max depth 1 ≤ (A.length : Int) then A.tail ++ [y] else A ++ [y]
def pushO (A : List U) (depth : Int) : Option U := if max depth 1 ≤ (A.length : Int) then A.head? else none
def OutV (w : World) (o : Value) : Option U → Prop
  | none => o = .nilIface
  | some u => ThV w o u
/-- The world behind Concat: a stack of the call's own. -/
theorem ostk_of {base : Nat} {w : World} {s v : Value} {y : U} (p : List (List Value × U)) (h : OwnK 20 1 base w s (p.map Prod.fst ++ [[v]])) (hp : ∀ x ∈ p, Th w x.1 x.2) (hv : ThV w v y) : OStk base w s (p.map Prod.snd ++ [y]) := by
  refine ⟨p ++ [([v], y)], by rw [List.map_append]; rfl, by rw [List.map_append]; exact h, fun x hx => ?_⟩
  rcases List.mem_append.1 hx with hx | hx
  · exact hp x hx
  · simp at hx
    subst hx
    exact ⟨v, rfl, hv⟩
theorem rows_one {w : World} {p : List (List Value × U)} (hp : ∀ x ∈ p, Th w x.1 x.2) : ∀ x ∈ p.map Prod.fst, ∀ q ∈ x, q.oneCell' = true := fun x hx => by
  obtain ⟨z, hz, rfl⟩ := List.mem_map.1 hx
  obtain ⟨v, e, hv⟩ := hp z hz
  rw [e]
  exact thing_one hv _ (by simp)
theorem u1cell {w : World} {B : Nat} {x : Value} {ty : TypeId} (z : w.heap[B]? = some (.cells #[x] ty (0, 0))) : w.cell? ⟨B, 0, none⟩ = some x := by rw [cell_of_row _ _ _ _ _ _ z]; rfl

set_option maxHeartbeats 4000000 in
/-- What is no thing isn't put on. -/
theorem push_no {v : Value} {a : Option Addr} {n cap : Nat} (depth : Int) (w : World) (h : Nums v 0 0 0 false) : Calls Tryd.prog 55 #[.agg #[.slice a n cap], v, .int .i64 depth] w fun e w' => e = .returned (.tuple #[.agg #[.slice a n cap], .nilIface]) ∧ Below w.heap.size w w' := by
  obtain ⟨W0, hW0⟩ : ∃ W0, W0 = (w.alloc (.cells #[.slice a n cap] 84)).alloc (.cells #[.slice none 0 0] 84) := ⟨_, rfl⟩
  have B0 : Below w.heap.size w W0 := by rw [hW0]; exact ((Below.refl _ _).alloc (Nat.le_refl _) _).alloc (by simp) _
  have R0 : W0.heap[w.heap.size]? = some (.cells #[.slice a n cap] 84 (0, 0)) := by rw [hW0, Below.heap_alloc _ _ _ (by simp)]; exact heap_alloc_new _ _
  have R1 : W0.heap[w.heap.size + 1]? = some (.cells #[.slice none 0 0] 84 (0, 0)) := by
    have e := heap_alloc_new (w.alloc (.cells #[.slice a n cap] 84)) (.cells #[.slice none 0 0] 84)
    rw [World.size_alloc] at e
    rw [hW0]
    exact e
  have HW0 := Lib.hid hW0
  have HB := Lib.hid B0
  have HR0 := Lib.hid R0
  have HR1 := Lib.hid R1
  clear hW0 B0 R0 R1
  go_enter Tryd.func55, Tryd.ntmps55
  go_upto_region 1 with fail
  rw [← HW0.out]
  go_wp2_with fail
  refine (h.c _).mono ?_
  rintro e w1 ⟨rfl, b1⟩
  obtain ⟨W2, hW2⟩ : ∃ W2, W2 = w1.alloc (.cells #[.int .i64 0, .int .i64 0, .int .i64 0] 95) := ⟨_, rfl⟩
  have b2 : Below W0.heap.size W0 W2 := by rw [hW2]; exact b1.alloc b1.size _
  have Z0 := ukeep b2 (urow_lt HR0.out) HR0.out
  have Z1 := ukeep b2 (urow_lt HR1.out) HR1.out
  have c0 := u1cell Z0
  have k0 := u1cell Z1
  have f0 : W2.frozen? ⟨w.heap.size + 1, 0, none⟩ = false := ublock_frozen Z1
  have y0 := u1cell (uset_block (i := 0) (u := .slice a n cap) Z1)
  have FIN : Hid (Below w.heap.size w (W2.setCell ⟨w.heap.size + 1, 0, none⟩ (.slice a n cap))) := (below_more HB.out b2).setCell (p := ⟨w.heap.size + 1, 0, none⟩) (Nat.le_succ _) _
  have HW2 := Lib.hid hW2
  clear hW2 b1 b2 Z0 Z1
  go_upto_region 3 with fail
  rw [← HW2.out]
  go_wp2_with fail
  exact bodyPost_ret (v := .tuple #[.agg #[.slice a n cap], .nilIface]) (by simp [results, Tryd.results55, go_sem, y0]) rfl ⟨rfl, FIN.out⟩

theorem row_two {e : TypeId} {b : Nat} {w : World} {x y : Value} (hb : w.heap[b]? = some (.cells #[x, y] e (0, 0))) : RowK 1 w (.slice (some ⟨b, 0, none⟩) 2 2) [[x], [y]] := by
  refine ⟨fun z hz => by simp at hz; rcases hz with rfl | rfl <;> rfl, some ⟨b, 0, none⟩, 2, rfl, Nat.le_refl _, by unfold maxLen; omega, .inr ⟨b, 0, rfl, (Array.getElem?_eq_some_iff.1 hb).1, fun j hj i u hu => ?_⟩⟩
  rw [Nat.mul_one, Nat.zero_add, cell_of_row w b _ _ _ (0, 0) hb]
  rcases j with _ | _ | j
  · rcases i with _ | i
    · exact hu
    · simp at hu
  · rcases i with _ | i
    · exact hu
    · simp at hu
  · simp at hj
    omega
/-- A stack with one more behind: Concat. -/
theorem cat_any {W : World} {s v : Value} {y : U} {p : List (List Value × U)} (hs : RowK 1 W s (p.map Prod.fst)) (hpt : ∀ x ∈ p, Th W x.1 x.2) (hv : ThV W v y) (hl : p.length ≤ 20000) :
    Calls Tryd.prog 97 #[.slice (some ⟨W.heap.size + 1, 0, none⟩) 2 2] ((W.alloc (.cells #[v] 20)).alloc (.cells #[s, .slice (some ⟨W.heap.size, 0, none⟩) 1 1] 82)) fun e w' => ∃ s', e = .returned s' ∧ OStk (W.heap.size + 2) w' s' (p.map Prod.snd ++ [y]) ∧ Below W.heap.size W w' := by
  obtain ⟨WB, hWB⟩ : ∃ WB, WB = (W.alloc (.cells #[v] 20)).alloc (.cells #[s, .slice (some ⟨W.heap.size, 0, none⟩) 1 1] 82) := ⟨_, rfl⟩
  have bB : Below W.heap.size W WB := by rw [hWB]; exact ((Below.refl _ _).alloc (Nat.le_refl _) _).alloc (by simp) _
  have lB : WB.heap.size = W.heap.size + 2 := by rw [hWB]; simp
  have r1 : WB.heap[W.heap.size]? = some (.cells #[v] 20 (0, 0)) := by rw [hWB, Below.heap_alloc _ _ _ (by simp)]; exact heap_alloc_new _ _
  have r2 : WB.heap[W.heap.size + 1]? = some (.cells #[s, .slice (some ⟨W.heap.size, 0, none⟩) 1 1] 82 (0, 0)) := by
    have e := heap_alloc_new (W.alloc (.cells #[v] 20)) (.cells #[s, .slice (some ⟨W.heap.size, 0, none⟩) 1 1] 82)
    rw [World.size_alloc] at e
    rw [hWB]
    exact e
  rw [← hWB]
  refine (Ca.concat_any [(s, p.map Prod.fst), (.slice (some ⟨W.heap.size, 0, none⟩) 1 1, [[v]])] WB (row_two r2) (fun r hr => ?_) (fun r hr => ?_) ?_).mono ?_
  · simp at hr
    rcases hr with rfl | rfl
    · exact hs.below bB (Nat.le_refl _)
    · exact row_one (y := [v]) r1 rfl
  · simp at hr
    rcases hr with rfl | rfl
    · exact rows_one hpt
    · exact thing_one hv
  · simp
    omega
  · rintro e w' ⟨s', rfl, h1, h2⟩
    have b2 := below_more bB h2
    refine ⟨s', rfl, ?_, b2⟩
    have := ostk_of (v := v) (y := y) p (s := s') (base := WB.heap.size) (w := w') (by simpa using h1) (fun x hx => (hpt x hx).below b2) (hv.below b2 (Nat.le_refl _))
    rwa [lB] at this

set_option maxHeartbeats 8000000 in
theorem push_any {s v : Value} {A : List U} {y : U} (depth : Int) (w : World) (h : Stk w s A) (hv : ThV w v y) (hn : A.length ≤ 10000) (d1 : -9223372036854775808 ≤ depth) (d2 : depth ≤ 9223372036854775807) : Calls Tryd.prog 55 #[.agg #[s], v, .int .i64 depth] w fun e w' => ∃ s' o, e = .returned (.tuple #[.agg #[s'], o]) ∧ Stk w' s' (pushA A y depth) ∧ OutV w' o (pushO A depth) ∧ Below w.heap.size w w' := by
  obtain ⟨p, hpA, hpr, hpt⟩ := h
  have hpl : (p.map Prod.fst).length = A.length := by rw [← hpA, List.length_map, List.length_map]
  obtain ⟨a, cap, rfl⟩ := hpr.is_slice
  obtain ⟨n, hnA⟩ : ∃ n, n = (p.map Prod.fst).length := ⟨_, rfl⟩
  obtain ⟨tv, uv, rfl⟩ := hv.iface
  rw [← hnA] at hpr ⊢
  obtain ⟨W0, hW0⟩ : ∃ W0, W0 = (w.alloc (.cells #[.slice a n cap] 84)).alloc (.cells #[.slice none 0 0] 84) := ⟨_, rfl⟩
  have B0 : Below w.heap.size w W0 := by rw [hW0]; exact ((Below.refl _ _).alloc (Nat.le_refl _) _).alloc (by simp) _
  have R0 : W0.heap[w.heap.size]? = some (.cells #[.slice a n cap] 84 (0, 0)) := by rw [hW0, Below.heap_alloc _ _ _ (by simp)]; exact heap_alloc_new _ _
  have R1 : W0.heap[w.heap.size + 1]? = some (.cells #[.slice none 0 0] 84 (0, 0)) := by
    have e := heap_alloc_new (w.alloc (.cells #[.slice a n cap] 84)) (.cells #[.slice none 0 0] 84)
    rw [World.size_alloc] at e
    rw [hW0]
    exact e
  have HW0 := Lib.hid hW0
  have HB := Lib.hid B0
  have HR0 := Lib.hid R0
  have HR1 := Lib.hid R1
  have HP := Lib.hid (And.intro hpA (And.intro hpr hpt))
  have HV := Lib.hid hv
  have CN : Hid (∀ w', Calls Tryd.prog 96 #[.iface tv uv] w' fun e w'' => e = .returned (.tuple #[.agg #[.int .i64 y.d, .int .i64 y.m, .int .i64 y.l], .bool true]) ∧ Below w'.heap.size w' w'') := hv.nums.c
  have HN : Hid (n = A.length) := hnA.trans hpl
  have hn3 : n ≤ 10000 := by rw [HN.out]; exact hn
  clear hnA hn hW0 B0 R0 R1 hpA hpr hpt hv hpl
  go_enter Tryd.func55, Tryd.ntmps55
  go_upto_region 1 with fail
  rw [← HW0.out]
  go_wp2_with fail
  refine (CN.out _).mono ?_
  rintro e w1 ⟨rfl, b1⟩
  obtain ⟨W2, hW2⟩ : ∃ W2, W2 = w1.alloc (.cells #[.int .i64 y.d, .int .i64 y.m, .int .i64 y.l] 95) := ⟨_, rfl⟩
  have b2 : Below W0.heap.size W0 W2 := by rw [hW2]; exact b1.alloc b1.size _
  have B2 := Lib.hid b2
  have HW2 := Lib.hid hW2
  have c0 := u1cell (ukeep b2 (urow_lt HR0.out) HR0.out)
  clear hW2 b1 b2 CN
  go_upto_region 4 with fail
  rw [← HW2.out]
  have KB2 := Lib.hid (below_more HB.out B2.out)
  have Z1 := Lib.hid (ukeep B2.out (urow_lt HR1.out) HR1.out)
  have HS2 : Hid (w.heap.size + 1 < W2.heap.size) := Nat.lt_of_lt_of_le (urow_lt HR1.out) B2.out.size
  have HL : Hid (p.length ≤ 20000) := by
    have := HP.out.2.1.is_slice
    obtain ⟨_, _, e⟩ := this
    injection e with _ e _
    rw [List.length_map] at e
    show _ ≤ _
    omega
  by_cases hd : max depth 1 ≤ (n : Int)
  · have e1 : decide (max depth 1 ≤ (n : Int)) = true := decide_eq_true hd
    have hn1 : 0 < n := by omega
    obtain ⟨b, off, x, rfl, hb, hx1, ⟨v0, rfl, hv0⟩, hc⟩ := Rk.Rows.get (j := 0) (⟨p, HP.out.1, HP.out.2.1, HP.out.2.2⟩ : Rk.Rows 1 Th w (.slice a n cap) A) (by rw [← HN.out]; exact hn1)
    have q0 : W2.cell? ⟨b, off, none⟩ = some v0 := below_cell KB2.out hb (by have := hc 0 v0 rfl; simpa using this)
    have hcap : n ≤ cap := (Rk.Rows.len (⟨p, HP.out.1, HP.out.2.1, HP.out.2.2⟩ : Rk.Rows 1 Th w (.slice (some ⟨b, off, none⟩) n cap) A)).2.1 |> fun h => by rw [HN.out]; exact h
    have i0 : (0 : Int) < (n : Int) := by omega
    have i1 : (1 : Int) ≤ (n : Int) := by omega
    have i2 : (n : Int) ≤ (cap : Int) := by omega
    have HV0 := Lib.hid hv0
    have HT0 := Lib.hid (RowK.tail1 HP.out.2.1 hn1)
    clear hc hv0 hb
    go_upto_region 7 with fail
    go_quiet (fail)
    obtain ⟨W5, hW5⟩ : ∃ W5, W5 = W2.drewN nq := ⟨_, rfl⟩
    rw [← hW5]
    have b5 : Below W2.heap.size W2 W5 := by rw [hW5]; exact below_drews (Below.refl _ _) _
    have l5 : W5.heap.size = W2.heap.size := by rw [hW5]; rfl
    have KB5 := Lib.hid (below_more KB2.out b5)
    have Z5 := Lib.hid (ukeep b5 (by have := HS2.out; omega) Z1.out)
    have EA : Hid (pushA A y depth = p.tail.map Prod.snd ++ [y] ∧ ∃ u, pushO A depth = some u ∧ ThV w v0 u) := by
      refine ⟨?_, ?_⟩
      · unfold pushA
        rw [← HN.out, if_pos hd, ← HP.out.1, List.map_tail]
      · unfold pushO
        rw [← HN.out, if_pos hd]
        have hlA : 0 < A.length := by rw [← HN.out]; exact hn1
        refine ⟨A[0], ?_, HV0.out⟩
        cases A with
        | nil => simp at hlA
        | cons z zs => rfl
    obtain ⟨T, hT⟩ : ∃ T, T = Value.slice (if cap = 1 then some ⟨b, off, none⟩ else some ⟨b, off + 1, none⟩) (n - 1) (cap - 1) := ⟨_, rfl⟩
    have HTW : Hid (RowK 1 W5 T (p.tail.map Prod.fst)) := by
      show RowK _ _ _ _
      rw [hT, List.map_tail]
      exact HT0.out.below KB5.out (Nat.le_refl _)
    have hTs : ∃ a c, T = .slice a (n - 1) c := ⟨_, _, hT⟩
    rw [← hT]
    have HTE := Lib.hid hT
    clear hT
    have CC := Lib.hid (cat_any (W := W5) (s := T) (v := .iface tv uv) (y := y) (p := p.tail) HTW.out (fun x hx => (HP.out.2.2 x (List.mem_of_mem_tail hx)).below KB5.out) (HV.out.below KB5.out (Nat.le_refl _)) (by have := HL.out; rw [List.length_tail]; omega))
    have HV5 := Lib.hid (HV0.out.below KB5.out (Nat.le_refl _))
    have HS5 : Hid (w.heap.size + 1 < W5.heap.size) := by show _ < _; rw [l5]; exact HS2.out
    obtain ⟨aT, cT, hTe⟩ := hTs
    subst hTe
    clear hW5 b5 l5 q0 c0 HTE
    go_wp2_with fail
    refine CC.out.mono ?_
    rintro e w3 ⟨s3, rfl, o3, b3⟩
    obtain ⟨a3, c3, rfl⟩ := o3.is_slice
    obtain ⟨m3, hm3⟩ : ∃ z, z = (p.tail.map Prod.snd ++ [y]).length := ⟨_, rfl⟩
    rw [← hm3] at o3 ⊢
    have Z3 := ukeep b3 (urow_lt Z5.out) Z5.out
    have k0 := u1cell Z3
    have f0 : w3.frozen? ⟨w.heap.size + 1, 0, none⟩ = false := ublock_frozen Z3
    have y0 := u1cell (uset_block (i := 0) (u := .slice a3 m3 c3) Z3)
    have FS := Lib.hid (o3.put (u := .slice a3 m3 c3) (j := 0) (show w.heap.size + 1 < W5.heap.size + 2 by have := HS5.out; omega) Z3 (by decide)).stk
    have FIN : Hid (Below w.heap.size w (w3.setCell ⟨w.heap.size + 1, 0, none⟩ (.slice a3 m3 c3))) := (below_more KB5.out b3).setCell (p := ⟨w.heap.size + 1, 0, none⟩) (Nat.le_succ _) _
    have FO : Hid (∃ u, pushO A depth = some u ∧ ThV (w3.setCell ⟨w.heap.size + 1, 0, none⟩ (.slice a3 m3 c3)) v0 u) := by
      obtain ⟨u, h1, h2⟩ := EA.out.2
      exact ⟨u, h1, h2.below FIN.out (Nat.le_refl _)⟩
    clear o3 b3 Z3 hm3 CC
    go_wp2_with fail
    refine bodyPost_ret (v := .tuple #[.agg #[.slice a3 m3 c3], v0]) (by simp [results, Tryd.results55, go_sem, y0]) rfl ⟨_, _, rfl, by rw [EA.out.1]; exact FS.out, ?_, FIN.out⟩
    obtain ⟨u, h1, h2⟩ := FO.out
    rw [h1]
    exact h2
  · have e1 : decide (max depth 1 ≤ (n : Int)) = false := decide_eq_false hd
    have CC := Lib.hid (cat_any (v := .iface tv uv) (y := y) (p := p) (HP.out.2.1.below KB2.out (Nat.le_refl _)) (fun x hx => (HP.out.2.2 x hx).below KB2.out) (HV.out.below KB2.out (Nat.le_refl _)) HL.out)
    have EA : Hid (pushA A y depth = p.map Prod.snd ++ [y] ∧ pushO A depth = none) := by
      refine ⟨?_, ?_⟩
      · unfold pushA
        rw [← HN.out, if_neg hd, HP.out.1]
      · unfold pushO
        rw [← HN.out, if_neg hd]
    go_wp2_with fail
    refine CC.out.mono ?_
    rintro e w3 ⟨s3, rfl, o3, b3⟩
    obtain ⟨a3, c3, rfl⟩ := o3.is_slice
    obtain ⟨m3, hm3⟩ : ∃ z, z = (p.map Prod.snd ++ [y]).length := ⟨_, rfl⟩
    rw [← hm3] at o3 ⊢
    have Z3 := ukeep b3 (Nat.lt_of_lt_of_le (urow_lt Z1.out) (Nat.le_refl _)) Z1.out
    have k0 := u1cell Z3
    have f0 : w3.frozen? ⟨w.heap.size + 1, 0, none⟩ = false := ublock_frozen Z3
    have y0 := u1cell (uset_block (i := 0) (u := .slice a3 m3 c3) Z3)
    have FS := Lib.hid (o3.put (u := .slice a3 m3 c3) (j := 0) (show w.heap.size + 1 < W2.heap.size + 2 by have := HS2.out; omega) Z3 (by decide)).stk
    have FIN : Hid (Below w.heap.size w (w3.setCell ⟨w.heap.size + 1, 0, none⟩ (.slice a3 m3 c3))) := (below_more KB2.out b3).setCell (p := ⟨w.heap.size + 1, 0, none⟩) (Nat.le_succ _) _
    clear o3 b3 Z3 hm3 CC
    go_wp2_with fail
    exact bodyPost_ret (v := .tuple #[.agg #[.slice a3 m3 c3], .nilIface]) (by simp [results, Tryd.results55, go_sem, y0]) rfl ⟨_, _, rfl, by rw [EA.out.1]; exact FS.out, by rw [EA.out.2]; rfl, FIN.out⟩
end Go.Proofs.YtoejjicgnhndfaaDoor.Und
