/- Contracts: with, Copy and Grant of the plain text. -/
import Derived.Test.YtefibidkmfcccaaGrant
import Derived.Laws.AppendOwnNone
set_option linter.unusedVariables false
namespace Go.Proofs.Ytefibidkmfcccaa.Rig
open Go.RowKit Go.Lib Go.Proofs.Ytefibidkmfcccaa.Rt

theorem infoI : (Try.prog.info? 3).map (fun i => (i.zero, i.size, i.bytes)) = some (some (.int .i64 0), 1, 8) := by kernel_rfl

/-- Nothing is appended of a nil slice, whatever its capacity reads as. -/
theorem run_append_nil {P : Program} (w : World) (base : Nat) (t ty e : TypeId) (i : TypeInfo) (size : Nat) (ht : P.underlying t = some (.slice e)) (hi : P.info? e = some i)
    (v : Value) (n : Nat) (xs : List Value) (hown : w.ownsRow base e size v n xs) (c : Nat) : (Builtin.append_ #[t, t] ty #[v, .slice none 0 c]).run P w = .ok v w := by
  rcases hown.2 with ⟨rfl, rfl⟩ | ⟨g, cap, cur, rfl, _, _, hnc, _⟩
  · simp [Builtin.append_, run_underlying ht, sizeOf, typeInfo, hi, Builtin.lenOf, Builtin.firstCells]
  · simp [Builtin.append_, run_underlying ht, sizeOf, typeInfo, hi, Builtin.lenOf, Builtin.firstCells, hnc, storeCells]

/-- An append of ints, whatever slice they come from, onto a row of the call's own. -/
theorem wpList_append_ints {w : World} {ops : Array Oper} {rest : List Oper} {o : Oper} {a : Act} {Q : Exit → Act → World → Prop} (hgd : o.guard = none) (s x : Operand)
    (ho : o.op = .call { callee := .builtin .append, args := #[s, x], argTypes := #[35, 35] }) (base : Nat) (v : Value) (n : Nat) (ys : List Value) (hs : a.eval s = v) (hown : w.ownsRow base 3 1 v n ys)
    (u : Value) (xs : List Int) (hx : a.eval x = u) (hI : Ints w u xs) (hlen : n + xs.length ≤ 100000) (hbase : base ≤ w.heap.size)
    (h : ∀ v' w', w'.ownsRow base 3 1 v' (n + xs.length) (ys ++ ints xs) → w.grownBy w' v.ownBlock → wpList Try.prog ops Q rest (a.put o.dst v') w') : wpList Try.prog ops Q (o :: rest) a w := by
  obtain ⟨i0, hi, hz0, hz1, hz2⟩ := info_parts infoI
  obtain ⟨_, ad, cap, rfl, h1, h2, h3⟩ := hI
  cases ad with
  | none =>
    have he : xs = [] := by
      rcases h3 with rfl | ⟨b, off, e, _⟩
      · rfl
      · cases e
    subst he
    refine wpList_plain hgd fun K hK => ?_
    have hrun := run_append_nil (P := Try.prog) w base 35 o.type 3 i0 1 Try.underlying35 hi v n ys hown cap
    unfold Oper.wp
    have hx' : a.eval x = .slice none 0 cap := hx
    simp [execOp, ho, resolve, invoke, builtin, hs, hx', hrun, Result.andThen]
    refine hK _ _ (h v w ?_ (World.grownBy.refl w _))
    rw [show ys ++ ints [] = ys from List.append_nil _]
    exact hown
  | some ad =>
    refine wpList_append_own w hgd s x 35 ho base 3 i0 (.int .i64 0) 1 8 Try.underlying35 hi hz0 hz1 hz2 rfl (by decide) v n ys hs hown ad xs.length cap (ints xs) hx (by rw [ints_len, Nat.mul_one]) ?_ ints_one (by unfold maxLen; omega) (by omega) hbase ?_
    · intro j z hj
      rcases h3 with rfl | ⟨b, off, e, _, hc⟩
      · simp [ints] at hj
      · injection e with e
        subst e
        have hj' : j < xs.length := by rw [← ints_len xs]; exact (List.getElem?_eq_some_iff.1 hj).1
        rw [ints_get hj'] at hj
        have hadd : (⟨b, off, none⟩ : Addr).add j = ⟨b, off + j, none⟩ := by unfold Addr.add; split <;> simp_all
        rw [hadd, hc j hj']
        exact hj
    · intro v' w' h1 h2 _
      exact h v' w' h1 h2

/-- An append of one int that lies in a block of its own. -/
theorem wpList_append_one {w : World} {ops : Array Oper} {rest : List Oper} {o : Oper} {a : Act} {Q : Exit → Act → World → Prop} (hgd : o.guard = none) (s x : Operand)
    (ho : o.op = .call { callee := .builtin .append, args := #[s, x], argTypes := #[35, 35] }) (base : Nat) (v : Value) (ys : List Int) (hs : a.eval s = v) (hown : OwnI base w v ys)
    (b : Nat) (y : Int) (hx : a.eval x = .slice (some ⟨b, 0, none⟩) 1 1) (hb : w.heap[b]? = some (.cells #[.int .i64 y] 3 (0, 0))) (hy : i64 y) (hlen : ys.length ≤ 10000) (hbase : base ≤ w.heap.size)
    (h : ∀ v' w', OwnI base w' v' (ys ++ [y]) → w.grownBy w' v.ownBlock → wpList Try.prog ops Q rest (a.put o.dst v') w') : wpList Try.prog ops Q (o :: rest) a w := by
  have hI : Ints w (.slice (some ⟨b, 0, none⟩) 1 1) [y] := by
    refine ⟨fun x hx => by simp at hx; subst hx; exact hy, _, 1, rfl, Nat.le_refl _, by unfold maxLen; omega, .inr ⟨b, 0, rfl, ?_, fun j hj => ?_⟩⟩
    · rcases Nat.lt_or_ge b w.heap.size with h | h
      · exact h
      · rw [Array.getElem?_eq_none h] at hb; cases hb
    · obtain rfl : j = 0 := by simp at hj; omega
      rw [cell_of_row w b _ _ _ (0, 0) hb]
      rfl
  refine wpList_append_ints hgd s x ho base v ys.length (ints ys) hs hown.1 _ [y] hx hI (by simp; omega) hbase ?_
  intro v' w' h1 h2
  refine h v' w' ⟨?_, fun z hz => ?_⟩ h2
  · rw [ints_app, List.length_append]
    exact h1
  · rw [List.mem_append, List.mem_singleton] at hz
    rcases hz with hz | rfl
    · exact hown.2 z hz
    · exact hy

theorem below_own {w w0 w' : World} {base : Nat} {v : Value} {ys : List Int} {o : Obj} {B : Nat} (hb : Below B w0 w) (hB : B ≤ base) (hbase : base ≤ w.heap.size) (hown : OwnI base w v ys) (hg : (w.alloc o).grownBy w' v.ownBlock) : Below B w0 w' :=
  (hb.alloc (by omega) o).grown hg (by simp; omega) (fun k hk => by have := (hown.block k hk).1; omega)
theorem outN_in {xs : List Int} {u : Int} {on : Bool} {k : Nat} (h : inK xs u on k) : outN xs u on (k + 1) = (outN xs u on k ++ [u]) ++ [at_ xs k] := by
  have ho : on = true := h.1
  conv => lhs; unfold outN
  rw [if_pos h, if_pos (.inl ho), List.append_assoc]
theorem outN_at {xs : List Int} {u : Int} {on : Bool} {k : Nat} (h : ¬ inK xs u on k) (h2 : on = true ∨ at_ xs k ≠ u) : outN xs u on (k + 1) = outN xs u on k ++ [at_ xs k] := by
  conv => lhs; unfold outN
  rw [if_neg h, if_pos h2, List.nil_append]
theorem outN_no {xs : List Int} {u : Int} {on : Bool} {k : Nat} (h : ¬ inK xs u on k) (h2 : ¬ (on = true ∨ at_ xs k ≠ u)) : outN xs u on (k + 1) = outN xs u on k := by
  conv => lhs; unfold outN
  rw [if_neg h, if_neg h2, List.nil_append, List.append_nil]

set_option maxRecDepth 100000 in
set_option maxHeartbeats 4000000 in
theorem with_any {v : Value} {xs : List Int} (u : Int) (on : Bool) (w : World) (h : Ints w v xs) (hn : xs.length ≤ 100) (hu : i64 u) :
    Calls Try.prog 26 #[v, .int .i64 u, .bool on] w (NewI w (withL xs u on)) := by
  obtain ⟨a, cap, rfl, hlc, hcap, hc⟩ := h.open_
  have H := Lib.hid hc
  have HU := Lib.hid hu
  obtain ⟨n, hnn⟩ : ∃ n, n = xs.length := ⟨_, rfl⟩
  have HL := Lib.hid (outN_len xs u on)
  have HW : Hid (withL xs u on = outN xs u on n ++ (if endK xs u on then [u] else [])) := by show _ = _; rw [hnn]; rfl
  have HE : Hid (endK xs u on ↔ on = true ∧ (n = 0 ∨ at_ xs (n - 1) < u)) := by show _ ↔ _; rw [hnn]; exact Iff.rfl
  rw [← hnn] at hlc hn ⊢
  replace hnn := Lib.hid hnn
  obtain ⟨hu1, hu2⟩ := hu
  generalize withL xs u on = res at *
  clear hc h
  go_enter Try.func26, Try.ntmps26
  go_wp2_with fail
  go_loopw [7, 8] (fun t i wr => ∃ k : Nat, k ≤ n ∧ i = .int .i64 k ∧ Hid (OwnI w.heap.size wr t (outN xs u on k)) ∧ Below w.heap.size w wr) (fun _ i _ => n - (RowKit.intOf i).toNat)
  case atStart => exact ⟨0, Nat.zero_le _, rfl, OwnI.nil_ _ _, Below.refl _ _⟩
  case round =>
    obtain ⟨k, hk, rfl, HO, hbel⟩ := hrel
    obtain ⟨at0, ac0, rfl⟩ := HO.out.is_slice
    have hol : (outN xs u on k).length ≤ 200 := by have := HL.out k; omega
    have hbs := hbel.size
    have HB := Lib.hid hbel
    by_cases hlt : k < n
    · have hkl : k < xs.length := by rw [← hnn.out]; exact hlt
      obtain ⟨b, off, rfl, hb, ⟨hx1, hx2⟩, hcell⟩ := H.out k hkl
      have EQ1 := Lib.hid (outN_in (xs := xs) (u := u) (on := on) (k := k))
      have EQ2 := Lib.hid (outN_at (xs := xs) (u := u) (on := on) (k := k))
      have EQ3 := Lib.hid (outN_no (xs := xs) (u := u) (on := on) (k := k))
      obtain ⟨x, hX⟩ : ∃ x, x = at_ xs k := ⟨_, rfl⟩
      have IN : Hid (inK xs u on k ↔ on = true ∧ u < x ∧ (k = 0 ∨ at_ xs (k - 1) < u)) := by show _ ↔ _; rw [hX]; exact Iff.rfl
      rw [← hX] at hcell hx1 hx2
      have HX := Lib.hid hX
      clear hX
      have hcw := below_cell hbel hb hcell
      have wrB := HB
      have wrS := Lib.hid hbs
      obtain ⟨ys, hy⟩ : ∃ ys, ys = outN xs u on k := ⟨_, rfl⟩
      have wrO := HO
      rw [← hy] at wrO hol ⊢
      have HY := Lib.hid hy
      clear hbel hy HO
      cases on with
      | true =>
        by_cases h1 : u < x
        · by_cases hk0 : k = 0
          · have HK0 := Lib.hid hk0
            have dk : ((k : Int) == 0) = true := by rw [hk0]; rfl
            have dkn : (k == 0) = true := by rw [hk0]; rfl
            have dkd : decide (k = 0) = true := by rw [hk0]; rfl
            clear hk0
            have E := Lib.hid (EQ1.out (IN.out.2 ⟨rfl, by omega, .inl HK0.out⟩))
            clear EQ1 EQ2 EQ3 IN H HW HE
            have A1 := Lib.hid (OwnI.below wrO.out ((Below.refl _ wr).alloc (Nat.le_refl _) (.cells #[.int .i64 u] 3)))
            have A2 := Lib.hid (heap_alloc_new wr (.cells #[.int .i64 u] 3))
            have A3 : Hid (ys.length ≤ 10000) := by show _ ≤ _; omega
            have A4 : Hid (w.heap.size ≤ (wr.alloc (.cells #[.int .i64 u] 3)).heap.size) := by show _ ≤ _; have := wrS.out; simp; omega
            go_wp2_with (at_builtin; refine wpList_append_one rfl _ _ rfl w.heap.size _ _ rfl A1.out wr.heap.size u rfl A2.out HU.out A3.out A4.out ?_)
            intro v5 w5 hO hG
            have w5B := Lib.hid (below_own wrB.out (Nat.le_refl _) wrS.out wrO.out hG)
            have w5S : Hid (w.heap.size ≤ w5.heap.size) := w5B.out.size
            obtain ⟨ys5, hys5⟩ : ∃ ys', ys' = ys ++ [u] := ⟨_, rfl⟩
            rw [← hys5] at hO
            have lys5 : ys5.length ≤ ys.length + 1 := by rw [hys5]; simp
            have w5O := Lib.hid hO
            have Hys5 := Lib.hid hys5
            obtain ⟨av5, cv5, rfl⟩ := hO.is_slice
            clear A1 A2 A3 A4 hG hO hys5
            have w5C := below_cell w5B.out hb hcell
            have A1 := Lib.hid (OwnI.below w5O.out ((Below.refl _ w5).alloc (Nat.le_refl _) (.cells #[.int .i64 x] 3)))
            have A2 := Lib.hid (heap_alloc_new w5 (.cells #[.int .i64 x] 3))
            have A3 : Hid (ys5.length ≤ 10000) := by show _ ≤ _; omega
            have A4 : Hid (w.heap.size ≤ (w5.alloc (.cells #[.int .i64 x] 3)).heap.size) := by show _ ≤ _; have := w5S.out; simp; omega
            go_wp2_with (at_builtin; refine wpList_append_one rfl _ _ rfl w.heap.size _ _ rfl A1.out w5.heap.size x rfl A2.out ⟨hx1, hx2⟩ A3.out A4.out ?_)
            intro v6 w6 hO hG
            have w6B := Lib.hid (below_own w5B.out (Nat.le_refl _) w5S.out w5O.out hG)
            have w6S : Hid (w.heap.size ≤ w6.heap.size) := w6B.out.size
            obtain ⟨ys6, hys6⟩ : ∃ ys', ys' = ys5 ++ [x] := ⟨_, rfl⟩
            rw [← hys6] at hO
            have lys6 : ys6.length ≤ ys5.length + 1 := by rw [hys6]; simp
            have w6O := Lib.hid hO
            have Hys6 := Lib.hid hys6
            obtain ⟨av6, cv6, rfl⟩ := hO.is_slice
            clear A1 A2 A3 A4 hG hO hys6
            clear w5O w5C
            have KO : Hid (OwnI w.heap.size w6 (.slice av6 ys6.length cv6) (outN xs u true (k + 1))) := by
              have q := w6O.out
              have e : ys6 = outN xs u true (k + 1) := by rw [E.out, Hys6.out, Hys5.out, HY.out, HX.out]
              rw [← e]
              exact q
            clear w6O E Hys6
            go_wp2_with fail
            go_roundw
            case rel => exact ⟨k + 1, by omega, by go_num, KO.out, w6B.out⟩
            case measure => simp [RowKit.intOf]; omega
          · obtain ⟨b', off', e', hb', ⟨hy1, hy2⟩, hcy⟩ := H.out (k - 1) (by omega)
            injection e' with e'
            injection e' with e1 e2
            subst e1 e2
            replace hcy := below_cell wrB.out hb' hcy
            generalize at_ xs (k - 1) = y at *
            have dk : ((k : Int) == 0) = false := by rw [beq_eq_false_iff_ne]; omega
            have dkn : (k == 0) = false := by rw [beq_eq_false_iff_ne]; omega
            have dkd : ¬ k = 0 := hk0
            have z2 : (1 : Int) ≤ (k : Int) := by omega
            by_cases h2 : y < u
            · have E := Lib.hid (EQ1.out (IN.out.2 ⟨rfl, by omega, .inr h2⟩))
              clear EQ1 EQ2 EQ3 IN H HW HE
              have A1 := Lib.hid (OwnI.below wrO.out ((Below.refl _ wr).alloc (Nat.le_refl _) (.cells #[.int .i64 u] 3)))
              have A2 := Lib.hid (heap_alloc_new wr (.cells #[.int .i64 u] 3))
              have A3 : Hid (ys.length ≤ 10000) := by show _ ≤ _; omega
              have A4 : Hid (w.heap.size ≤ (wr.alloc (.cells #[.int .i64 u] 3)).heap.size) := by show _ ≤ _; have := wrS.out; simp; omega
              go_wp2_with (at_builtin; refine wpList_append_one rfl _ _ rfl w.heap.size _ _ rfl A1.out wr.heap.size u rfl A2.out HU.out A3.out A4.out ?_)
              intro v5 w5 hO hG
              have w5B := Lib.hid (below_own wrB.out (Nat.le_refl _) wrS.out wrO.out hG)
              have w5S : Hid (w.heap.size ≤ w5.heap.size) := w5B.out.size
              obtain ⟨ys5, hys5⟩ : ∃ ys', ys' = ys ++ [u] := ⟨_, rfl⟩
              rw [← hys5] at hO
              have lys5 : ys5.length ≤ ys.length + 1 := by rw [hys5]; simp
              have w5O := Lib.hid hO
              have Hys5 := Lib.hid hys5
              obtain ⟨av5, cv5, rfl⟩ := hO.is_slice
              clear A1 A2 A3 A4 hG hO hys5
              have w5C := below_cell w5B.out hb hcell
              have A1 := Lib.hid (OwnI.below w5O.out ((Below.refl _ w5).alloc (Nat.le_refl _) (.cells #[.int .i64 x] 3)))
              have A2 := Lib.hid (heap_alloc_new w5 (.cells #[.int .i64 x] 3))
              have A3 : Hid (ys5.length ≤ 10000) := by show _ ≤ _; omega
              have A4 : Hid (w.heap.size ≤ (w5.alloc (.cells #[.int .i64 x] 3)).heap.size) := by show _ ≤ _; have := w5S.out; simp; omega
              go_wp2_with (at_builtin; refine wpList_append_one rfl _ _ rfl w.heap.size _ _ rfl A1.out w5.heap.size x rfl A2.out ⟨hx1, hx2⟩ A3.out A4.out ?_)
              intro v6 w6 hO hG
              have w6B := Lib.hid (below_own w5B.out (Nat.le_refl _) w5S.out w5O.out hG)
              have w6S : Hid (w.heap.size ≤ w6.heap.size) := w6B.out.size
              obtain ⟨ys6, hys6⟩ : ∃ ys', ys' = ys5 ++ [x] := ⟨_, rfl⟩
              rw [← hys6] at hO
              have lys6 : ys6.length ≤ ys5.length + 1 := by rw [hys6]; simp
              have w6O := Lib.hid hO
              have Hys6 := Lib.hid hys6
              obtain ⟨av6, cv6, rfl⟩ := hO.is_slice
              clear A1 A2 A3 A4 hG hO hys6
              clear w5O w5C
              have KO : Hid (OwnI w.heap.size w6 (.slice av6 ys6.length cv6) (outN xs u true (k + 1))) := by
                have q := w6O.out
                have e : ys6 = outN xs u true (k + 1) := by rw [E.out, Hys6.out, Hys5.out, HY.out, HX.out]
                rw [← e]
                exact q
              clear w6O E Hys6
              go_wp2_with fail
              go_roundw
              case rel => exact ⟨k + 1, by omega, by go_num, KO.out, w6B.out⟩
              case measure => simp [RowKit.intOf]; omega
            · have h2' : u ≤ y := by omega
              have E := Lib.hid (EQ2.out (fun hc => by have := IN.out.1 hc; omega) (.inl rfl))
              clear EQ1 EQ2 EQ3 IN H HW HE 
              have A1 := Lib.hid (OwnI.below wrO.out ((Below.refl _ wr).alloc (Nat.le_refl _) (.cells #[.int .i64 x] 3)))
              have A2 := Lib.hid (heap_alloc_new wr (.cells #[.int .i64 x] 3))
              have A3 : Hid (ys.length ≤ 10000) := by show _ ≤ _; omega
              have A4 : Hid (w.heap.size ≤ (wr.alloc (.cells #[.int .i64 x] 3)).heap.size) := by show _ ≤ _; have := wrS.out; simp; omega
              go_wp2_with (at_builtin; refine wpList_append_one rfl _ _ rfl w.heap.size _ _ rfl A1.out wr.heap.size x rfl A2.out ⟨hx1, hx2⟩ A3.out A4.out ?_)
              intro v6 w6 hO hG
              have w6B := Lib.hid (below_own wrB.out (Nat.le_refl _) wrS.out wrO.out hG)
              have w6S : Hid (w.heap.size ≤ w6.heap.size) := w6B.out.size
              obtain ⟨ys6, hys6⟩ : ∃ ys', ys' = ys ++ [x] := ⟨_, rfl⟩
              rw [← hys6] at hO
              have lys6 : ys6.length ≤ ys.length + 1 := by rw [hys6]; simp
              have w6O := Lib.hid hO
              have Hys6 := Lib.hid hys6
              obtain ⟨av6, cv6, rfl⟩ := hO.is_slice
              clear A1 A2 A3 A4 hG hO hys6
              have KO : Hid (OwnI w.heap.size w6 (.slice av6 ys6.length cv6) (outN xs u true (k + 1))) := by
                have q := w6O.out
                have e : ys6 = outN xs u true (k + 1) := by rw [E.out, Hys6.out, HY.out, HX.out]
                rw [← e]
                exact q
              clear w6O E Hys6
              go_wp2_with fail
              go_roundw
              case rel => exact ⟨k + 1, by omega, by go_num, KO.out, w6B.out⟩
              case measure => simp [RowKit.intOf]; omega
        · have h1' : x ≤ u := by omega
          have E := Lib.hid (EQ2.out (fun hc => by have := IN.out.1 hc; omega) (.inl rfl))
          clear EQ1 EQ2 EQ3 IN H HW HE 
          have A1 := Lib.hid (OwnI.below wrO.out ((Below.refl _ wr).alloc (Nat.le_refl _) (.cells #[.int .i64 x] 3)))
          have A2 := Lib.hid (heap_alloc_new wr (.cells #[.int .i64 x] 3))
          have A3 : Hid (ys.length ≤ 10000) := by show _ ≤ _; omega
          have A4 : Hid (w.heap.size ≤ (wr.alloc (.cells #[.int .i64 x] 3)).heap.size) := by show _ ≤ _; have := wrS.out; simp; omega
          go_wp2_with (at_builtin; refine wpList_append_one rfl _ _ rfl w.heap.size _ _ rfl A1.out wr.heap.size x rfl A2.out ⟨hx1, hx2⟩ A3.out A4.out ?_)
          intro v6 w6 hO hG
          have w6B := Lib.hid (below_own wrB.out (Nat.le_refl _) wrS.out wrO.out hG)
          have w6S : Hid (w.heap.size ≤ w6.heap.size) := w6B.out.size
          obtain ⟨ys6, hys6⟩ : ∃ ys', ys' = ys ++ [x] := ⟨_, rfl⟩
          rw [← hys6] at hO
          have lys6 : ys6.length ≤ ys.length + 1 := by rw [hys6]; simp
          have w6O := Lib.hid hO
          have Hys6 := Lib.hid hys6
          obtain ⟨av6, cv6, rfl⟩ := hO.is_slice
          clear A1 A2 A3 A4 hG hO hys6
          have KO : Hid (OwnI w.heap.size w6 (.slice av6 ys6.length cv6) (outN xs u true (k + 1))) := by
            have q := w6O.out
            have e : ys6 = outN xs u true (k + 1) := by rw [E.out, Hys6.out, HY.out, HX.out]
            rw [← e]
            exact q
          clear w6O E Hys6
          go_wp2_with fail
          go_roundw
          case rel => exact ⟨k + 1, by omega, by go_num, KO.out, w6B.out⟩
          case measure => simp [RowKit.intOf]; omega
      | false =>
        by_cases hxu : x ≠ u
        · have d : (x != u) = true := by simpa using hxu
          have E := Lib.hid (EQ2.out (fun hc => by have := IN.out.1 hc; cases this.1) (.inr (by rw [← HX.out]; exact hxu)))
          clear EQ1 EQ2 EQ3 IN H HW HE hxu
          have A1 := Lib.hid (OwnI.below wrO.out ((Below.refl _ wr).alloc (Nat.le_refl _) (.cells #[.int .i64 x] 3)))
          have A2 := Lib.hid (heap_alloc_new wr (.cells #[.int .i64 x] 3))
          have A3 : Hid (ys.length ≤ 10000) := by show _ ≤ _; omega
          have A4 : Hid (w.heap.size ≤ (wr.alloc (.cells #[.int .i64 x] 3)).heap.size) := by show _ ≤ _; have := wrS.out; simp; omega
          go_wp2_with (at_builtin; refine wpList_append_one rfl _ _ rfl w.heap.size _ _ rfl A1.out wr.heap.size x rfl A2.out ⟨hx1, hx2⟩ A3.out A4.out ?_)
          intro v6 w6 hO hG
          have w6B := Lib.hid (below_own wrB.out (Nat.le_refl _) wrS.out wrO.out hG)
          have w6S : Hid (w.heap.size ≤ w6.heap.size) := w6B.out.size
          obtain ⟨ys6, hys6⟩ : ∃ ys', ys' = ys ++ [x] := ⟨_, rfl⟩
          rw [← hys6] at hO
          have lys6 : ys6.length ≤ ys.length + 1 := by rw [hys6]; simp
          have w6O := Lib.hid hO
          have Hys6 := Lib.hid hys6
          obtain ⟨av6, cv6, rfl⟩ := hO.is_slice
          clear A1 A2 A3 A4 hG hO hys6
          have KO : Hid (OwnI w.heap.size w6 (.slice av6 ys6.length cv6) (outN xs u false (k + 1))) := by
            have q := w6O.out
            have e : ys6 = outN xs u false (k + 1) := by rw [E.out, Hys6.out, HY.out, HX.out]
            rw [← e]
            exact q
          clear w6O E Hys6
          go_wp2_with fail
          go_roundw
          case rel => exact ⟨k + 1, by omega, by go_num, KO.out, w6B.out⟩
          case measure => simp [RowKit.intOf]; omega
        · have d : (x != u) = false := by simpa using hxu
          have E := Lib.hid (EQ3.out (fun hc => by have := IN.out.1 hc; cases this.1) (fun hc => by rcases hc with hc | hc; cases hc; exact hxu (by rw [HX.out]; exact hc)))
          have KO : Hid (OwnI w.heap.size wr (.slice at0 ys.length ac0) (outN xs u false (k + 1))) := by
            have e : ys = outN xs u false (k + 1) := by rw [E.out, HY.out]
            rw [← e]
            exact wrO.out
          clear EQ1 EQ2 EQ3 IN H HW HE E wrO hxu
          go_wp2_with fail
          go_roundw
          case rel => exact ⟨k + 1, by omega, by go_num, KO.out, wrB.out⟩
          case measure => simp [RowKit.intOf]; omega
    · obtain rfl : k = n := by omega
      obtain ⟨ys, hy⟩ : ∃ ys, ys = outN xs u on k := ⟨_, rfl⟩
      have wrO := HO
      rw [← hy] at wrO hol HW ⊢
      have HY := Lib.hid hy
      have wrB := HB
      have wrS := Lib.hid hbs
      clear hbel hy HO HL
      cases on with
      | false =>
        obtain rfl : res = ys := by have := HW.out; rw [if_neg (fun hc => by have := HE.out.1 hc; cases this.1), List.append_nil] at this; exact this
        clear HW HE H
        go_wp2_with fail
        go_ret
        exact ⟨_, rfl, wrO.out, wrB.out⟩
      | true =>
        by_cases hn0 : k = 0
        · have HR : Hid (res = ys ++ [u]) := by
            show _ = _
            have := HW.out
            rwa [if_pos (HE.out.2 ⟨rfl, .inl hn0⟩)] at this
          have dk : ((k : Int) == 0) = true := by rw [hn0]; rfl
          have dkn : (k == 0) = true := by rw [hn0]; rfl
          have dkd : decide (k = 0) = true := by rw [hn0]; rfl
          clear HW HE H hn0
          have A1 := Lib.hid (OwnI.below wrO.out ((Below.refl _ wr).alloc (Nat.le_refl _) (.cells #[.int .i64 u] 3)))
          have A2 := Lib.hid (heap_alloc_new wr (.cells #[.int .i64 u] 3))
          have A3 : Hid (ys.length ≤ 10000) := by show _ ≤ _; omega
          have A4 : Hid (w.heap.size ≤ (wr.alloc (.cells #[.int .i64 u] 3)).heap.size) := by show _ ≤ _; have := wrS.out; simp; omega
          go_wp2_with (at_builtin; refine wpList_append_one rfl _ _ rfl w.heap.size _ _ rfl A1.out wr.heap.size u rfl A2.out HU.out A3.out A4.out ?_)
          intro v6 w6 hO hG
          have w6B := Lib.hid (below_own wrB.out (Nat.le_refl _) wrS.out wrO.out hG)
          have w6S : Hid (w.heap.size ≤ w6.heap.size) := w6B.out.size
          obtain ⟨ys6, hys6⟩ : ∃ ys', ys' = ys ++ [u] := ⟨_, rfl⟩
          rw [← hys6] at hO
          have lys6 : ys6.length ≤ ys.length + 1 := by rw [hys6]; simp
          have w6O := Lib.hid hO
          have Hys6 := Lib.hid hys6
          obtain ⟨av6, cv6, rfl⟩ := hO.is_slice
          clear A1 A2 A3 A4 hG hO hys6
          have KO : Hid (OwnI w.heap.size w6 (.slice av6 ys6.length cv6) res) := by
            have e : ys6 = res := by rw [HR.out, Hys6.out]
            rw [← e]
            exact w6O.out
          clear w6O HR Hys6
          go_wp2_with fail
          go_ret
          exact ⟨_, rfl, KO.out, w6B.out⟩
        · obtain ⟨b', off', rfl, hb', ⟨hy1, hy2⟩, hcy⟩ := H.out (k - 1) (by have := hnn.out; omega)
          replace hcy := below_cell wrB.out hb' hcy
          generalize at_ xs (k - 1) = y at *
          have dk : ((k : Int) == 0) = false := by rw [beq_eq_false_iff_ne]; omega
          have dkn : (k == 0) = false := by rw [beq_eq_false_iff_ne]; omega
          have dkd : ¬ k = 0 := hn0
          have z2 : (1 : Int) ≤ (k : Int) := by omega
          by_cases h2 : y < u
          · have HR : Hid (res = ys ++ [u]) := by
              show _ = _
              have := HW.out
              rwa [if_pos (HE.out.2 ⟨rfl, .inr h2⟩)] at this
            clear HW HE H
            have A1 := Lib.hid (OwnI.below wrO.out ((Below.refl _ wr).alloc (Nat.le_refl _) (.cells #[.int .i64 u] 3)))
            have A2 := Lib.hid (heap_alloc_new wr (.cells #[.int .i64 u] 3))
            have A3 : Hid (ys.length ≤ 10000) := by show _ ≤ _; omega
            have A4 : Hid (w.heap.size ≤ (wr.alloc (.cells #[.int .i64 u] 3)).heap.size) := by show _ ≤ _; have := wrS.out; simp; omega
            go_wp2_with (at_builtin; refine wpList_append_one rfl _ _ rfl w.heap.size _ _ rfl A1.out wr.heap.size u rfl A2.out HU.out A3.out A4.out ?_)
            intro v6 w6 hO hG
            have w6B := Lib.hid (below_own wrB.out (Nat.le_refl _) wrS.out wrO.out hG)
            have w6S : Hid (w.heap.size ≤ w6.heap.size) := w6B.out.size
            obtain ⟨ys6, hys6⟩ : ∃ ys', ys' = ys ++ [u] := ⟨_, rfl⟩
            rw [← hys6] at hO
            have lys6 : ys6.length ≤ ys.length + 1 := by rw [hys6]; simp
            have w6O := Lib.hid hO
            have Hys6 := Lib.hid hys6
            obtain ⟨av6, cv6, rfl⟩ := hO.is_slice
            clear A1 A2 A3 A4 hG hO hys6
            have KO : Hid (OwnI w.heap.size w6 (.slice av6 ys6.length cv6) res) := by
              have e : ys6 = res := by rw [HR.out, Hys6.out]
              rw [← e]
              exact w6O.out
            clear w6O HR Hys6
            go_wp2_with fail
            go_ret
            exact ⟨_, rfl, KO.out, w6B.out⟩
          · have h2' : u ≤ y := by omega
            obtain rfl : res = ys := by
              have := HW.out
              rw [if_neg (fun hc => by have := HE.out.1 hc; omega), List.append_nil] at this
              exact this
            clear HW HE H
            go_wp2_with fail
            go_ret
            exact ⟨_, rfl, wrO.out, wrB.out⟩
end Go.Proofs.Ytefibidkmfcccaa.Rig
