/- Undo: Load of the program. -/
import Derived.Test.YtoejjicgnhndfaaDoorUg
set_option linter.unusedVariables false
set_option maxRecDepth 100000
namespace Go.Proofs.YtoejjicgnhndfaaDoor.Und
open Go.RowKit Go.Lib Go.Proofs.YtoejjicgnhndfaaDoor.Rk Go.Proofs.YtoejjicgnhndfaaDoor.Rig

theorem Th.grown {w w' : World} {x : List Value} {y : U} {row : Option Nat} (h : Th w x y) (hg : w.grownBy w' row) (hr : ∀ b, Con.Ty w b → row ≠ some b) : Th w' x y := by
  obtain ⟨v, h1, h2⟩ := h
  exact ⟨v, h1, h2.grown hg hr⟩
/-- A stack of the call's own. -/
def OStk (base : Nat) (w : World) (s : Value) (A : List U) : Prop := OwnR 20 1 Th base w s A
theorem OStk.stk {base : Nat} {w : World} {s : Value} {A : List U} (h : OStk base w s A) : Stk w s A := OwnR.rows h
theorem OStk.nil_ (base : Nat) (w : World) : OStk base w (.slice none 0 0) [] := OwnR.nil_ _ _ _ _ _
theorem OStk.below {base : Nat} {w w' : World} {s : Value} {A : List U} (h : OStk base w s A) (hb : Below w.heap.size w w') : OStk base w' s A := OwnR.below (R := Th) (fun h hb => Th.below h hb) h hb
theorem OStk.is_slice {base : Nat} {w : World} {s : Value} {A : List U} (h : OStk base w s A) : ∃ a cap, s = .slice a A.length cap := OwnR.is_slice h
theorem ugrown_set (w : World) (B j : Nat) (u : Value) : w.grownBy (w.setCell ⟨B, j, none⟩ u) (some B) :=
  ⟨rfl, rfl, rfl, by simp, fun k _ hk => Below.heap_setCell _ _ _ _ (fun e => hk (by rw [e]))⟩
/-- A store into a block below its own, no rope's. -/
theorem OStk.put {base : Nat} {w : World} {s u : Value} {A : List U} {B j : Nat} {cs : Array Value} {ty : TypeId} (h : OStk base w s A) (hB : B < base) (r : w.heap[B]? = some (.cells cs ty (0, 0))) (hty : ty ≠ 142) : OStk base (w.setCell ⟨B, j, none⟩ u) s A := by
  obtain ⟨p, h1, h2, h3⟩ := h
  refine ⟨p, h1, h2.kept (ugrown_set w B j u) (.inr (h2.low hB)), fun x hx => (h3 x hx).grown (ugrown_set w B j u) (fun b hb e => ?_)⟩
  injection e with e
  subst e
  obtain ⟨cs', hc⟩ := hb
  rw [r] at hc
  injection hc with hc
  injection hc with _ q
  exact hty q
/-- A thing more: what the append asks. -/
theorem OStk.row {base : Nat} {w : World} {s : Value} {A : List U} (h : OStk base w s A) : ∃ xs : List (List Value), xs.length = A.length ∧ OwnK 20 1 base w s xs ∧ ∀ (v s' : Value) (w' : World) (y : U), OwnK 20 1 base w' s' (xs ++ [[v]]) → w.grownBy w' s.ownBlock → ThV w v y → OStk base w' s' (A ++ [y]) := by
  obtain ⟨p, h1, h2, h3⟩ := h
  refine ⟨p.map Prod.fst, by rw [← h1, List.length_map, List.length_map], h2, fun v s' w' y h5 hg hv => ⟨p ++ [([v], y)], by rw [List.map_append, h1]; rfl, by rw [List.map_append]; exact h5, fun x hx => ?_⟩⟩
  have hr : ∀ b, Con.Ty w b → s.ownBlock ≠ some b := fun b hb => own_noty h2.2 (by decide) hb
  rcases List.mem_append.1 hx with hx | hx
  · exact (h3 x hx).grown hg hr
  · simp at hx
    subst hx
    exact ⟨v, rfl, hv.grown hg hr⟩
theorem thing_one {w : World} {v : Value} {y : U} (h : ThV w v y) : ∀ x ∈ [[v]], ∀ q ∈ x, q.oneCell' = true := fun x hx q hq => by
  simp at hx
  subst hx
  simp at hq
  subst hq
  rcases h.form with rfl | ⟨q, rfl⟩ <;> rfl
theorem rightU_at {A : List U} (h : rightU A = true) {k : Nat} (hk : k < A.length) : ok1 A[k] = true := List.all_eq_true.1 h _ (List.getElem_mem hk)

set_option maxHeartbeats 4000000 in
theorem uload_yes {v : Value} {A : List U} (w : World) (h : Us w v A) (hr : rightU A = true) (hl : ∀ y ∈ A, y.t.length ≤ 1073741824) (hn : A.length ≤ 10000) (hT : Tabs w) : Calls Tryd.prog 50 #[v] w fun e w' => ∃ s, e = .returned (.tuple #[.agg #[s], .bool true]) ∧ Stk w' s A ∧ Below w.heap.size w w' := by
  obtain ⟨a, cap, rfl, hcap, hmax, hel⟩ := h.open_
  obtain ⟨n, hnA⟩ : ∃ n, n = A.length := ⟨_, rfl⟩
  rw [← hnA] at hcap hn ⊢
  unfold maxLen at hmax
  have HN := Lib.hid hnA
  have HL := Lib.hid hl
  have HE := Lib.hid hel
  have HRU := Lib.hid hr
  have HT : Hid (∀ w', Below w.heap.size w w' → Tabs w') := fun w' hb => hT.below hb
  obtain ⟨W0, hW0⟩ : ∃ W0, W0 = w.alloc (.cells #[.slice none 0 0] 84) := ⟨_, rfl⟩
  obtain ⟨B0, R0, L0⟩ := ubox w #[.slice none 0 0] 84
  rw [← hW0] at B0 R0 L0
  have HB0 := Lib.hid B0
  have HW0 := Lib.hid hW0
  have HR0 := Lib.hid R0
  have HL0 := Lib.hid L0
  clear h hl hnA hW0 B0 R0 L0 hel hr hT
  go_enter Tryd.func50, Tryd.ntmps50
  go_upto_region 1 with fail
  rw [← HW0.out]
  go_wp2_with fail
  go_loopg [4, 11] n (fun g t i wr => ∃ k : Nat, k ≤ n ∧ n - k ≤ g ∧ i = .int .i64 k ∧ Hid (OStk W0.heap.size wr t (A.take k)) ∧ Below W0.heap.size W0 wr)
  case atStart => exact ⟨0, Nat.zero_le _, by omega, rfl, OStk.nil_ _ _, Below.refl _ _⟩
  case round =>
    obtain ⟨k, hk, hg, rfl, HO, hbel⟩ := hrel
    have HB := Lib.hid hbel
    have HBw := Lib.hid (below_more HB0.out hbel)
    obtain ⟨ao, co, rfl⟩ := HO.out.is_slice
    have hlk : (A.take k).length = k := by rw [List.length_take, ← HN.out]; omega
    rw [hlk] at HO ⊢
    clear hlk
    by_cases hlt : k < n
    · have hkl : k < A.length := by rw [← HN.out]; exact hlt
      obtain ⟨b, off, rfl, hb, ⟨g1, g2, g3, g4, g5⟩, c0, c1, c2, c3, c4⟩ := HE.out k hkl
      have EQ : Hid (A.take (k + 1) = A.take k ++ [A[k]]) := List.take_succ_eq_append_getElem hkl
      have hyl := HL.out _ (List.getElem_mem hkl)
      have hok := rightU_at HRU.out hkl
      generalize A[k] = y at *
      generalize A.take k = R at *
      have CP : Hid (∀ w', Below w.heap.size w w' → Calls Tryd.prog 94 #[y.val] w' fun e w'' => ∃ v, e = .returned (.tuple #[v, .bool true]) ∧ ThV w'' v y ∧ Below w'.heap.size w' w'') := fun w' hb => load_thing y w' hok hyl (HT.out w' hb)
      obtain ⟨yk, yd, ym, yl, yt⟩ := y
      unfold U.val at CP
      simp only at CP c0 c1 c2 c3 c4
      replace c0 := below_cell HBw.out hb c0
      replace c1 := below_cell HBw.out hb c1
      replace c2 := below_cell HBw.out hb c2
      replace c3 := below_cell HBw.out hb c3
      replace c4 := below_cell HBw.out hb c4
      have i1 : (k : Int) < (n : Int) := by omega
      obtain ⟨B1, R1, L1⟩ := ubox wr #[.int .i64 yk, .int .i64 yd, .int .i64 ym, .int .i64 yl, .string (Let.mk yt)] 88
      obtain ⟨W1, hW1⟩ : ∃ W1, W1 = wr.alloc (.cells #[.int .i64 yk, .int .i64 yd, .int .i64 ym, .int .i64 yl, .string (Let.mk yt)] 88) := ⟨_, rfl⟩
      rw [← hW1] at B1 R1 L1
      have HW1 := Lib.hid hW1
      have HB1 := Lib.hid (below_more HBw.out B1)
      have HC1 := Lib.hid (below_more HB.out B1)
      have HO1 := Lib.hid (HO.out.below B1)
      obtain ⟨d0, d1, d2, d3, d4⟩ := u5cells R1
      clear hbel HL HE hW1 B1 R1 L1 HO hyl hok g1 g2 g3 g4 g5 HRU
      go_upto_region 5 with fail
      rw [← HW1.out]
      go_wp2_with fail
      refine (CP.out _ HB1.out).mono ?_
      rintro e w1 ⟨v, rfl, hv, b1⟩
      clear c0 c1 c2 c3 c4 d0 d1 d2 d3 d4
      have HV := Lib.hid (hv.below ((Below.refl _ _).alloc (Nat.le_refl _) (.cells #[v] 20)) (Nat.le_refl _))
      have HBY : Hid (Below W0.heap.size W0 (w1.alloc (.cells #[v] 20))) := (below_more HC1.out b1).alloc (Nat.le_trans HC1.out.size b1.size) _
      have A4 : Hid (W0.heap.size ≤ (w1.alloc (.cells #[v] 20)).heap.size) := HBY.out.size
      have A2 : Hid (RowK 1 (w1.alloc (.cells #[v] 20)) (.slice (some ⟨w1.heap.size, 0, none⟩) 1 1) [[v]]) := row_one (e := 20) (heap_alloc_new _ _) rfl
      have HYO : Hid (∀ x ∈ [[v]], ∀ q ∈ x, q.oneCell' = true) := thing_one hv
      obtain ⟨xs, hxl, A1, K0⟩ := ((HO1.out.below b1).below ((Below.refl _ _).alloc (Nat.le_refl _) (.cells #[v] 20))).row
      replace A1 := Lib.hid A1
      have K := Lib.hid K0
      clear K0
      have hxk : xs.length = k := by
        have e1 := HO1.out.is_slice
        obtain ⟨a', c', e1⟩ := e1
        injection e1 with _ e1 _
        rw [hxl, ← e1]
      have A3 : Hid (xs.length + 1 ≤ 100000) := by show _ ≤ _; rw [hxk]; omega
      have hfm := hv.form
      clear hv b1 HO1 hxl hxk
      rcases hfm with rfl | ⟨q, rfl⟩
      all_goals (
        unfold putV at *
        first | unfold tookV at * | skip
        go_wp2_with (at_builtin; refine wpList_append_rowk rfl _ _ 82 20 1 16 _ Tryd.underlying82 infoAny rfl (by decide) (by decide) rfl W0.heap.size _ _ xs _ rfl rfl A1.out A2.out HYO.out A3.out A4.out ?_)
        intro v6 w6 h5 g5 _
        have K6 : Hid (OStk W0.heap.size w6 v6 (A.take (k + 1))) := by show OStk _ _ _ _; rw [EQ.out]; exact K.out _ _ _ _ h5 g5 HV.out
        obtain ⟨a6, c6, rfl⟩ := K6.out.is_slice
        have HB6 := Lib.hid (A1.out.belowOf HBY.out (Nat.le_refl _) A4.out g5)
        clear h5 g5 A1 A2 A3 A4 HBY EQ K HV
        go_wp2_with fail
        go_roundg (n - (k + 1))
        case measure => omega
        case rel => exact ⟨k + 1, by omega, Nat.le_refl _, by go_num, K6.out, HB6.out⟩)
    · obtain rfl : k = n := by omega
      have i1 : ¬ ((k : Int) < (k : Int)) := by omega
      have Z := ukeep HB.out (by have := HL0.out; omega) HR0.out
      have HU : Hid (Stk (wr.setCell ⟨w.heap.size, 0, none⟩ (.slice ao k co)) (.slice ao k co) A) := by
        have := (HO.out.put (u := .slice ao k co) (j := 0) (by have := HL0.out; omega) Z (by decide)).stk
        rwa [show A.take k = A by rw [HN.out, List.take_length]] at this
      have c0 : wr.cell? ⟨w.heap.size, 0, none⟩ = some (.slice none 0 0) := by rw [cell_of_row _ _ _ _ _ _ Z]; rfl
      have f0 : wr.frozen? ⟨w.heap.size, 0, none⟩ = false := ublock_frozen Z
      have y0 : (wr.setCell ⟨w.heap.size, 0, none⟩ (.slice ao k co)).cell? ⟨w.heap.size, 0, none⟩ = some (.slice ao k co) := by rw [cell_of_row _ _ _ _ _ _ (uset_block (i := 0) (u := .slice ao k co) Z)]; rfl
      have FIN : Hid (Below w.heap.size w (wr.setCell ⟨w.heap.size, 0, none⟩ (.slice ao k co))) := HBw.out.setCell (p := ⟨w.heap.size, 0, none⟩) (Nat.le_refl _) _
      clear hbel HO Z
      go_wp2_with fail
      exact bodyPost_ret (v := .tuple #[.agg #[.slice ao k co], .bool true]) (by simp [results, Tryd.results50, go_sem, y0]) rfl ⟨_, rfl, HU.out, FIN.out⟩

set_option maxHeartbeats 4000000 in
theorem uload_no {v : Value} {A : List U} (w : World) (h : Us w v A) (hr : rightU A = false) (hl : ∀ y ∈ A, y.t.length ≤ 1073741824) (hn : A.length ≤ 10000) (hT : Tabs w) : Calls Tryd.prog 50 #[v] w fun e w' => e = .returned (.tuple #[.agg #[.slice none 0 0], .bool false]) ∧ Below w.heap.size w w' := by
  obtain ⟨a, cap, rfl, hcap, hmax, hel⟩ := h.open_
  obtain ⟨n, hnA⟩ : ∃ n, n = A.length := ⟨_, rfl⟩
  rw [← hnA] at hcap hn ⊢
  unfold maxLen at hmax
  have HN := Lib.hid hnA
  have HL := Lib.hid hl
  have HE := Lib.hid hel
  have HRU := Lib.hid hr
  have HT : Hid (∀ w', Below w.heap.size w w' → Tabs w') := fun w' hb => hT.below hb
  obtain ⟨W0, hW0⟩ : ∃ W0, W0 = w.alloc (.cells #[.slice none 0 0] 84) := ⟨_, rfl⟩
  obtain ⟨B0, R0, L0⟩ := ubox w #[.slice none 0 0] 84
  rw [← hW0] at B0 R0 L0
  have HB0 := Lib.hid B0
  have HW0 := Lib.hid hW0
  have HR0 := Lib.hid R0
  have HL0 := Lib.hid L0
  clear h hl hnA hW0 B0 R0 L0 hel hr hT
  go_enter Tryd.func50, Tryd.ntmps50
  go_upto_region 1 with fail
  rw [← HW0.out]
  go_wp2_with fail
  go_loopg [4, 11] n (fun g t i wr => ∃ k : Nat, k ≤ n ∧ n - k ≤ g ∧ i = .int .i64 k ∧ Hid (OStk W0.heap.size wr t (A.take k)) ∧ Below W0.heap.size W0 wr)
  case atStart => exact ⟨0, Nat.zero_le _, by omega, rfl, OStk.nil_ _ _, Below.refl _ _⟩
  case round =>
    obtain ⟨k, hk, hg, rfl, HO, hbel⟩ := hrel
    have HB := Lib.hid hbel
    have HBw := Lib.hid (below_more HB0.out hbel)
    obtain ⟨ao, co, rfl⟩ := HO.out.is_slice
    have hlk : (A.take k).length = k := by rw [List.length_take, ← HN.out]; omega
    rw [hlk] at HO ⊢
    clear hlk
    by_cases hlt : k < n
    · have hkl : k < A.length := by rw [← HN.out]; exact hlt
      obtain ⟨b, off, rfl, hb, ⟨g1, g2, g3, g4, g5⟩, c0, c1, c2, c3, c4⟩ := HE.out k hkl
      have EQ : Hid (A.take (k + 1) = A.take k ++ [A[k]]) := List.take_succ_eq_append_getElem hkl
      have hyl := HL.out _ (List.getElem_mem hkl)
      generalize A[k] = y at *
      generalize A.take k = R at *
      have CP : Hid (ok1 y = true → ∀ w', Below w.heap.size w w' → Calls Tryd.prog 94 #[y.val] w' fun e w'' => ∃ v, e = .returned (.tuple #[v, .bool true]) ∧ ThV w'' v y ∧ Below w'.heap.size w' w'') := fun hok w' hb => load_thing y w' hok hyl (HT.out w' hb)
      have CQ : Hid (ok1 y = false → ∀ w', Below w.heap.size w w' → Calls Tryd.prog 94 #[y.val] w' fun e w'' => ∃ v, e = .returned (.tuple #[v, .bool false]) ∧ (v = .nilIface ∨ ∃ u, v = .iface 161 (.agg u)) ∧ Below w'.heap.size w' w'') := fun hok w' hb => load_none y w' hok hyl (HT.out w' hb)
      have HOK : Hid (∃ b, ok1 y = b) := ⟨_, rfl⟩
      obtain ⟨yk, yd, ym, yl, yt⟩ := y
      unfold U.val at CP CQ
      simp only at CP CQ c0 c1 c2 c3 c4
      replace c0 := below_cell HBw.out hb c0
      replace c1 := below_cell HBw.out hb c1
      replace c2 := below_cell HBw.out hb c2
      replace c3 := below_cell HBw.out hb c3
      replace c4 := below_cell HBw.out hb c4
      have i1 : (k : Int) < (n : Int) := by omega
      obtain ⟨B1, R1, L1⟩ := ubox wr #[.int .i64 yk, .int .i64 yd, .int .i64 ym, .int .i64 yl, .string (Let.mk yt)] 88
      obtain ⟨W1, hW1⟩ : ∃ W1, W1 = wr.alloc (.cells #[.int .i64 yk, .int .i64 yd, .int .i64 ym, .int .i64 yl, .string (Let.mk yt)] 88) := ⟨_, rfl⟩
      rw [← hW1] at B1 R1 L1
      have HW1 := Lib.hid hW1
      have HB1 := Lib.hid (below_more HBw.out B1)
      have HC1 := Lib.hid (below_more HB.out B1)
      have HO1 := Lib.hid (HO.out.below B1)
      obtain ⟨d0, d1, d2, d3, d4⟩ := u5cells R1
      clear hbel HL HE hW1 B1 R1 L1 HO hyl g1 g2 g3 g4 g5 HRU
      go_upto_region 5 with fail
      rw [← HW1.out]
      obtain ⟨ob, hob⟩ := HOK.out
      cases ob with
      | false =>
        go_wp2_with fail
        refine (CQ.out hob _ HB1.out).mono ?_
        rintro e w1 ⟨v, rfl, hv, b1⟩
        clear c0 c1 c2 c3 c4 d0 d1 d2 d3 d4
        have Z := ukeep (below_more HC1.out b1) (by have := HL0.out; omega) HR0.out
        have k0 : w1.cell? ⟨w.heap.size, 0, none⟩ = some (.slice none 0 0) := by rw [cell_of_row _ _ _ _ _ _ Z]; rfl
        have f0 : w1.frozen? ⟨w.heap.size, 0, none⟩ = false := ublock_frozen Z
        have y0 : (w1.setCell ⟨w.heap.size, 0, none⟩ (.slice none 0 0)).cell? ⟨w.heap.size, 0, none⟩ = some (.slice none 0 0) := by rw [cell_of_row _ _ _ _ _ _ (uset_block (i := 0) (u := .slice none 0 0) Z)]; rfl
        have FIN : Hid (Below w.heap.size w (w1.setCell ⟨w.heap.size, 0, none⟩ (.slice none 0 0))) := (below_more HB1.out b1).setCell (p := ⟨w.heap.size, 0, none⟩) (Nat.le_refl _) _
        clear b1 Z
        rcases hv with rfl | ⟨u, rfl⟩
        all_goals (
          go_wp2_with fail
          exact bodyPost_ret (v := .tuple #[.agg #[.slice none 0 0], .bool false]) (by simp [results, Tryd.results50, go_sem, y0]) rfl ⟨rfl, FIN.out⟩)
      | true =>
      go_wp2_with fail
      refine (CP.out hob _ HB1.out).mono ?_
      rintro e w1 ⟨v, rfl, hv, b1⟩
      clear c0 c1 c2 c3 c4 d0 d1 d2 d3 d4
      have HV := Lib.hid (hv.below ((Below.refl _ _).alloc (Nat.le_refl _) (.cells #[v] 20)) (Nat.le_refl _))
      have HBY : Hid (Below W0.heap.size W0 (w1.alloc (.cells #[v] 20))) := (below_more HC1.out b1).alloc (Nat.le_trans HC1.out.size b1.size) _
      have A4 : Hid (W0.heap.size ≤ (w1.alloc (.cells #[v] 20)).heap.size) := HBY.out.size
      have A2 : Hid (RowK 1 (w1.alloc (.cells #[v] 20)) (.slice (some ⟨w1.heap.size, 0, none⟩) 1 1) [[v]]) := row_one (e := 20) (heap_alloc_new _ _) rfl
      have HYO : Hid (∀ x ∈ [[v]], ∀ q ∈ x, q.oneCell' = true) := thing_one hv
      obtain ⟨xs, hxl, A1, K0⟩ := ((HO1.out.below b1).below ((Below.refl _ _).alloc (Nat.le_refl _) (.cells #[v] 20))).row
      replace A1 := Lib.hid A1
      have K := Lib.hid K0
      clear K0
      have hxk : xs.length = k := by
        have e1 := HO1.out.is_slice
        obtain ⟨a', c', e1⟩ := e1
        injection e1 with _ e1 _
        rw [hxl, ← e1]
      have A3 : Hid (xs.length + 1 ≤ 100000) := by show _ ≤ _; rw [hxk]; omega
      have hfm := hv.form
      clear hv b1 HO1 hxl hxk
      rcases hfm with rfl | ⟨q, rfl⟩
      all_goals (
        unfold putV at *
        first | unfold tookV at * | skip
        go_wp2_with (at_builtin; refine wpList_append_rowk rfl _ _ 82 20 1 16 _ Tryd.underlying82 infoAny rfl (by decide) (by decide) rfl W0.heap.size _ _ xs _ rfl rfl A1.out A2.out HYO.out A3.out A4.out ?_)
        intro v6 w6 h5 g5 _
        have K6 : Hid (OStk W0.heap.size w6 v6 (A.take (k + 1))) := by show OStk _ _ _ _; rw [EQ.out]; exact K.out _ _ _ _ h5 g5 HV.out
        obtain ⟨a6, c6, rfl⟩ := K6.out.is_slice
        have HB6 := Lib.hid (A1.out.belowOf HBY.out (Nat.le_refl _) A4.out g5)
        clear h5 g5 A1 A2 A3 A4 HBY EQ K HV
        go_wp2_with fail
        go_roundg (n - (k + 1))
        case measure => omega
        case rel => exact ⟨k + 1, by omega, Nat.le_refl _, by go_num, K6.out, HB6.out⟩)
    · exfalso
      have hall := HO.out.stk.all
      rw [show A.take k = A by rw [List.take_of_length_le (by rw [← HN.out]; omega)]] at hall
      have := HRU.out
      unfold rightU at this
      rw [List.all_eq_true.2 hall] at this
      cases this
end Go.Proofs.YtoejjicgnhndfaaDoor.Und
