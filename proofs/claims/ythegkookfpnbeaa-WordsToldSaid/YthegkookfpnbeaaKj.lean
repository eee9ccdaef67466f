/- Words: the program's Answer: an answer's bytes. -/
import Derived.Test.YthegkookfpnbeaaKi
set_option linter.unusedVariables false
set_option linter.unusedSimpArgs false
set_option maxRecDepth 100000
namespace Go.Proofs.Ythegkookfpnbeaa.Wds
open Go.RowKit Go.Lib Go.Proofs.Ythegkookfpnbeaa.Bx Go.Proofs.Ythegkookfpnbeaa.Frm

theorem fold_fit {α : Type} {f : α → List UInt8 × Bool → List UInt8 × Bool} {g : α → List UInt8} : ∀ (xs : List α) (l : List UInt8), (∀ x ∈ xs, ∀ l, f x (l, false) = (l ++ g x, false)) → foldW f xs (l, false) = (l ++ xs.flatMap g, false)
  | [], l, _ => by simp [foldW]
  | x :: xs, l, h => by
    unfold foldW
    rw [if_neg (by simp), h x List.mem_cons_self, fold_fit xs _ (fun y hy => h y (List.mem_cons_of_mem _ hy))]
    simp
theorem fold_bad {α : Type} {f : α → List UInt8 × Bool → List UInt8 × Bool} {P : α → Prop} (hf : ∀ x q, ¬ P x → (f x q).2 = true) : ∀ (xs : List α) (q : List UInt8 × Bool), (∃ x ∈ xs, ¬ P x) → (foldW f xs q).2 = true
  | [], q, h => by obtain ⟨x, h, _⟩ := h; cases h
  | x :: xs, q, h => by
    unfold foldW
    split
    · rename_i h1; exact h1
    · by_cases hx : P x
      · obtain ⟨y, hy, hn⟩ := h
        rcases List.mem_cons.1 hy with rfl | hy
        · exact absurd hx hn
        · exact fold_bad hf xs _ ⟨y, hy, hn⟩
      · have h1 := hf x q hx
        rw [fold_stays xs h1]
        exact h1
theorem list_stays {α : Type} {f : α → List UInt8 × Bool → List UInt8 × Bool} (xs : List α) {q : List UInt8 × Bool} (h : q.2 = true) : (listW f xs q).2 = true := by
  have h1 : (byteW xs.length q).2 = true := by
    unfold byteW
    split
    · exact h
    · rfl
  unfold listW
  rw [fold_stays xs h1]
  exact h1
theorem list_fit {α : Type} {f : α → List UInt8 × Bool → List UInt8 × Bool} {g : α → List UInt8} (xs : List α) (l : List UInt8) (hl : xs.length ≤ 255) (h : ∀ x ∈ xs, ∀ l, f x (l, false) = (l ++ g x, false)) : listW f xs (l, false) = (l ++ rowL g xs, false) := by
  unfold listW byteW
  rw [if_pos ⟨by omega, by omega⟩, fold_fit xs _ h]
  unfold rowL
  simp
theorem list_long {α : Type} {f : α → List UInt8 × Bool → List UInt8 × Bool} (xs : List α) (q : List UInt8 × Bool) (hl : 255 < xs.length) : (listW f xs q).2 = true := by
  have h1 : (byteW xs.length q).2 = true := by unfold byteW; rw [if_neg (by omega)]
  unfold listW
  rw [fold_stays xs h1]
  exact h1
theorem list_bad {α : Type} {f : α → List UInt8 × Bool → List UInt8 × Bool} {P : α → Prop} (hf : ∀ x q, ¬ P x → (f x q).2 = true) (xs : List α) (q : List UInt8 × Bool) (h : ∃ x ∈ xs, ¬ P x) : (listW f xs q).2 = true := fold_bad hf xs _ h
theorem runW_fit {x : Run} (h : x.t.length ≤ 65535) (l : List UInt8) : runW x (l, false) = (l ++ runL x, false) := by
  unfold runW tw runL
  rw [if_pos h]
  simp [textX]
theorem runW_bad (x : Run) (q : List UInt8 × Bool) (h : ¬ x.t.length ≤ 65535) : (runW x q).2 = true := by
  unfold runW tw
  rw [if_neg h]
theorem nums_fit (xs : List Int) (l : List UInt8) (h : xs.length ≤ 255) : listW numW xs (l, false) = (l ++ rowL numL xs, false) := list_fit xs l h fun _ _ _ => rfl
theorem entW_fit {x : Ent} (h : x.S.length ≤ 255 ∧ x.L.length ≤ 255) (l : List UInt8) : entW x (l, false) = (l ++ entL x, false) := by
  unfold entW
  simp only
  rw [nums_fit _ _ h.1, nums_fit _ _ h.2]
  unfold entL
  simp
theorem entW_bad (x : Ent) (q : List UInt8 × Bool) (h : ¬ (x.S.length ≤ 255 ∧ x.L.length ≤ 255)) : (entW x q).2 = true := by
  unfold entW
  by_cases h1 : x.L.length ≤ 255
  · exact list_stays _ (list_long _ _ (by omega))
  · exact list_long _ _ (by omega)
/-- An answer, put. -/
def answerW (a : An) : List UInt8 × Bool := listW entW a.E (listW runW a.R ((tw a.tok (byteW a.st ([], false))).1 ++ [a.num, a.at'].flatMap numL, (tw a.tok (byteW a.st ([], false))).2))
theorem out_bad {q : List UInt8 × Bool} (h : q.2 = true) : outV q = ([], false) := if_pos h
theorem out_answer (a : An) : outV (answerW a) = answerE a := by
  unfold answerE
  by_cases hf : fitA a
  · rw [if_pos hf]
    obtain ⟨h1, h2, h3, h4, h5, h6⟩ := hf
    unfold answerW byteW
    rw [if_pos h1]
    unfold tw textX
    rw [if_pos h2]
    simp only
    rw [list_fit a.R _ h3 (fun x hx l => runW_fit (h5 x hx) l), list_fit a.E _ h4 (fun x hx l => entW_fit (h6 x hx) l)]
    unfold outV
    rw [if_neg (by simp)]
    unfold ansL
    simp
  · rw [if_neg hf]
    refine out_bad ?_
    unfold answerW
    by_cases h1 : 0 ≤ a.st ∧ a.st ≤ 255
    · by_cases h2 : a.tok.length ≤ 65535
      · by_cases h3 : a.R.length ≤ 255
        · by_cases h4 : a.E.length ≤ 255
          · by_cases h5 : ∀ x ∈ a.R, x.t.length ≤ 65535
            · by_cases h6 : ∀ x ∈ a.E, x.S.length ≤ 255 ∧ x.L.length ≤ 255
              · exact absurd ⟨h1, h2, h3, h4, h5, h6⟩ hf
              · exact list_bad (P := fun x : Ent => x.S.length ≤ 255 ∧ x.L.length ≤ 255) entW_bad _ _ (by
                  rw [Classical.not_forall] at h6
                  obtain ⟨x, hx⟩ := h6
                  rw [Classical.not_imp] at hx
                  exact ⟨x, hx.1, hx.2⟩)
            · exact list_stays _ (list_bad (P := fun x : Run => x.t.length ≤ 65535) runW_bad _ _ (by
                rw [Classical.not_forall] at h5
                obtain ⟨x, hx⟩ := h5
                rw [Classical.not_imp] at hx
                exact ⟨x, hx.1, hx.2⟩))
          · exact list_long _ _ (by omega)
        · exact list_stays _ (list_long _ _ (by omega))
      · exact list_stays _ (list_stays _ (by unfold tw; rw [if_neg h2]))
    · exact list_stays _ (list_stays _ (tw_bad _ _ (by unfold byteW; rw [if_neg h1])))
theorem rstays_of {base B : Nat} {w W : World} {v : Value} {l : List UInt8} {bad : Bool} {a : Option Addr} {n c : Nat} {R : List Run} (q : Wr base W B v l bad) (hb : Below w.heap.size w W) (hB : w.heap.size ≤ B) (hr : Rns w (.slice a n c) R) (ht : ∀ x ∈ R, x.t.length ≤ 9223372036854775807) : RStays W B v a R := fun w' v' s j hj => by
  obtain ⟨a', c', e, _, _, hc⟩ := hr.open_
  injection e with e1 e2 e3
  subst e1
  obtain ⟨b, off, rfl, hlt, c0, c1, c2, c3⟩ := hc j hj
  have k : Below w.heap.size w w' := hb.trans ((s.low q).mono hB)
  exact ⟨b, off, rfl, vcell k hlt c0, vcell k hlt c1, vcell k hlt c2, vcell k hlt c3, ht _ (List.getElem_mem hj)⟩
theorem stays_of {B : Nat} {w w' : World} {v' : Value} {a : Option Addr} {n c : Nat} {xs : List Int} (h : Rig.Ints w (.slice a n c) xs) (hk : ∀ w'' v'', Stp w' B v' w'' v'' → Below w.heap.size w w'') : Stays w' B v' a xs := fun w'' v'' s j hj => by
  obtain ⟨a', c', e, _, _, hc⟩ := h.open_
  injection e with e1 e2 e3
  subst e1
  obtain ⟨b, off, rfl, hlt, _, c0⟩ := hc j hj
  exact ⟨b, off, rfl, vcell (hk w'' v'' s) hlt c0⟩
theorem estays_of {base B : Nat} {w W : World} {v : Value} {l : List UInt8} {bad : Bool} {a : Option Addr} {n c : Nat} {E : List Ent} (q : Wr base W B v l bad) (hb : Below w.heap.size w W) (hB : w.heap.size ≤ B) (hr : Aud.EnsP (fun _ => True) w (.slice a n c) E) : EStays W B v a E := fun w' v' s j hj => by
  obtain ⟨b, off, sa, sn, sc, la, ln, lc, rfl, hlt, hE, c0, c1, c2, c3, c4, rfl, rfl⟩ := Aud.EnsP.get hr hj
  have k : Below w.heap.size w w' := hb.trans ((s.low q).mono hB)
  have kk : ∀ w'' v'', Stp w' B v' w'' v'' → Below w.heap.size w w'' := fun w'' v'' s2 => hb.trans (((s.trans s2).low q).mono hB)
  obtain ⟨sv, lv, e, _, hS, hL⟩ := hE
  simp at e
  obtain ⟨rfl, rfl⟩ := e
  exact ⟨b, off, sa, sc, la, lc, rfl, vcell k hlt c0, vcell k hlt c1, vcell k hlt c2, vcell k hlt c3, vcell k hlt c4, stays_of (B := B) hS.1 kk, stays_of (B := B) hL.1 kk, hS.1.lt, hL.1.lt⟩
theorem sum_bound {α : Type} {g : α → Nat} {c : Nat} (h : ∀ x, g x ≤ c) (xs : List α) : (xs.map g).sum ≤ c * xs.length := by
  induction xs with
  | nil => exact Nat.zero_le _
  | cons x xs ih => rw [List.map_cons, List.sum_cons, List.length_cons, Nat.mul_succ]; have := h x; omega
theorem sR_le (x : Run) : sR x ≤ 65599 := by unfold sR; omega
theorem sE_le (x : Ent) : sE x ≤ 4144 := by unfold sE; omega
theorem listW_len {α : Type} {f : α → List UInt8 × Bool → List UInt8 × Bool} {g : α → Nat} {c : Nat} (h : ∀ x q, (f x q).1.length ≤ q.1.length + g x) (hc : ∀ x, g x ≤ c) (xs : List α) (q : List UInt8 × Bool) : (listW f xs q).1.length ≤ q.1.length + 1 + c * 255 := by
  have h1 := foldW_len h xs (byteW xs.length q)
  have h2 := byteW_len xs.length q
  have h3 := sum_bound hc xs
  unfold listW
  by_cases h9 : xs.length ≤ 255
  · have h4 : c * xs.length ≤ c * 255 := Nat.mul_le_mul_left _ h9
    omega
  · have h4 : (byteW xs.length q).2 = true := by unfold byteW; rw [if_neg (by omega)]
    rw [fold_stays xs h4]
    omega
/-- Texts and lists as long as a machine holds. -/
def bigA (a : An) : Prop := a.tok.length ≤ 9223372036854775807 ∧ (∀ x ∈ a.R, x.t.length ≤ 9223372036854775807)
def AnswerOk : Prop := ∀ (a : An) (v : Value) (w : World), AnV w v a → bigA a → Calls Try.prog 17 #[v] w fun e w' => e = .returned (.tuple #[.string (mkB (answerE a).1), .bool (answerE a).2]) ∧ Below w.heap.size w w'
theorem fold_pre {α : Type} {f : α → List UInt8 × Bool → List UInt8 × Bool} (h : ∀ x q, q.1 ≠ [] → (f x q).1 ≠ []) : ∀ (xs : List α) (q : List UInt8 × Bool), q.1 ≠ [] → (foldW f xs q).1 ≠ []
  | [], q, hq => hq
  | x :: xs, q, hq => by
    unfold foldW
    split
    · exact hq
    · exact fold_pre h xs _ (h x q hq)
theorem listW_pre {α : Type} {f : α → List UInt8 × Bool → List UInt8 × Bool} (h : ∀ x q, q.1 ≠ [] → (f x q).1 ≠ []) (xs : List α) (q : List UInt8 × Bool) (hq : q.1 ≠ []) : (listW f xs q).1 ≠ [] := by
  unfold listW
  refine fold_pre h xs _ ?_
  unfold byteW
  split
  · exact List.append_ne_nil_of_left_ne_nil hq _
  · exact hq
theorem runW_pre (x : Run) (q : List UInt8 × Bool) (h : q.1 ≠ []) : (runW x q).1 ≠ [] := tw_pre _ _ (List.append_ne_nil_of_left_ne_nil (List.append_ne_nil_of_left_ne_nil h _) _)
theorem numW_pre (x : Int) (q : List UInt8 × Bool) (h : q.1 ≠ []) : (numW x q).1 ≠ [] := List.append_ne_nil_of_left_ne_nil h _
theorem entW_pre (x : Ent) (q : List UInt8 × Bool) (h : q.1 ≠ []) : (entW x q).1 ≠ [] := listW_pre numW_pre _ _ (listW_pre numW_pre _ _ (List.append_ne_nil_of_left_ne_nil h _))
set_option maxHeartbeats 8000000 in
theorem answer_ok : AnswerOk := fun a v w h ht => by
  obtain ⟨rv, ev, rfl, hr, he⟩ := h
  obtain ⟨ra, rc, rfl⟩ := Rk.RowK.is_slice hr
  obtain ⟨ea, ec, rfl, hel, hec⟩ := he.is_slice
  have hrl := Rk.RowK.is_slice hr
  have hRn : a.R.length ≤ 9223372036854775807 := by
    obtain ⟨_, a', c', e, h1, h2, _⟩ := hr
    rw [List.length_map] at h1
    unfold maxLen at h2
    omega
  rw [List.length_map] at hr ⊢
  have hRl := ht.2
  have hEn : a.E.length ≤ 9223372036854775807 := by unfold maxLen at hec; omega
  clear hrl hel hec
  obtain ⟨R0, hR0⟩ : ∃ R0, R0 = w.heap.size := ⟨_, rfl⟩
  obtain ⟨nr, hnr⟩ : ∃ nr, nr = a.R.length := ⟨_, rfl⟩
  obtain ⟨ne, hne⟩ : ∃ ne, ne = a.E.length := ⟨_, rfl⟩
  rw [← hnr] at hr
  rw [← hne] at he
  rw [← hnr, ← hne]
  obtain ⟨B0, P0, L0⟩ := box1 w #[.int .i64 a.st, .string (mkB a.tok), .int .i64 a.num, .int .i64 a.at', .slice ra nr rc, .slice ea ne ec] 46
  obtain ⟨W0, hW0⟩ : ∃ W0, W0 = w.alloc (.cells #[.int .i64 a.st, .string (mkB a.tok), .int .i64 a.num, .int .i64 a.at', .slice ra nr rc, .slice ea ne ec] 46) := ⟨_, rfl⟩
  rw [← hW0] at B0 P0 L0
  obtain ⟨B1, P1, L1⟩ := box1 W0 #[.slice none 0 0, .bool false] 58
  obtain ⟨W1, hW1⟩ : ∃ W1, W1 = W0.alloc (.cells #[.slice none 0 0, .bool false] 58) := ⟨_, rfl⟩
  rw [← hW1] at B1 P1 L1
  rw [← hR0] at L0 P0
  rw [L0] at P1 L1
  have hW : Wr (R0 + 1 + 1) W1 (R0 + 1) (.slice none 0 0) [] false := ⟨by omega, by omega, P1, Rk.OwnK.nil_ _ _ _ _⟩
  have q0 : W1.heap[R0]? = some (.cells #[.int .i64 a.st, .string (mkB a.tok), .int .i64 a.num, .int .i64 a.at', .slice ra nr rc, .slice ea ne ec] 46 (0, 0)) := (B1.block R0 (by omega)).trans P0
  have HC : Hid (∀ w', Below (R0 + 1) W1 w' → w'.heap[R0]? = some (.cells #[.int .i64 a.st, .string (mkB a.tok), .int .i64 a.num, .int .i64 a.at', .slice ra nr rc, .slice ea ne ec] 46 (0, 0))) := fun w' hb => (hb.block R0 (by omega)).trans q0
  have B01 := below_on B0 B1
  have HRS : Hid (RStays W1 (R0 + 1) (.slice none 0 0) ra a.R) := rstays_of hW B01 (by omega) hr hRl
  have HES : Hid (EStays W1 (R0 + 1) (.slice none 0 0) ea a.E) := estays_of hW B01 (by omega) he
  have HW := Lib.hid hW
  have HB1 : Hid (Below R0 w W1) := by rw [hR0]; exact B01
  have HL1 : Hid (W1.heap.size = R0 + 1 + 1) := L1
  have HW1 : Hid (W1 = (w.alloc (.cells #[.int .i64 a.st, .string (mkB a.tok), .int .i64 a.num, .int .i64 a.at', .slice ra nr rc, .slice ea ne ec] 46)).alloc (.cells #[.slice none 0 0, .bool false] 58)) := by show _ = _; rw [hW1, hW0]
  have HL0 : Hid (w.heap.size = R0) := hR0.symm
  have HE := Lib.hid (out_answer a)
  have HT := Lib.hid ht
  have HNR := Lib.hid (And.intro hnr (And.intro hne (And.intro hRn hEn)))
  have hmf : ∀ (fn : Fn) (first cap : Array Value) (w : World), (Instr.makeFunc fn first cap).run Try.prog w = .ok (.func fn first cap) w := fun _ _ _ _ => rfl
  have C1 := Lib.hid ((pbyteW_any hW.drew a.st (by decide)).mono fun _ _ => Put.undrew)
  obtain ⟨q1, hq1⟩ : ∃ q1, q1 = byteW a.st ([], false) := ⟨_, rfl⟩
  rw [← hq1] at C1
  have H1 : Hid (q1 = byteW a.st ([], false) ∧ q1.1.length ≤ 1) := ⟨hq1, by rw [hq1]; exact byteW_len _ _⟩
  obtain ⟨c0, c1, c2, c3, c4, c5⟩ := six_cells q0
  clear hR0 B0 P0 L0 B1 P1 L1 hW0 hW1 q0 hW B01 hr he hRl ht hnr hne hq1 hRn hEn
  go_enter Try.func17, Try.ntmps17
  go_upto_region 2 with fail
  rw [← HW1.out, HL0.out]
  refine still_tailW 5 (by kernel_rfl) (by kernel_rfl) ?_
  simp only [List.take_succ_cons, List.take_zero, List.drop_succ_cons, List.drop_zero]
  have dc0 := drew_cell c0
  generalize W1.drew = Wd1 at *
  repeat still_step
  refine wpStill_nil ?_
  clear dc0
  go_wp2_with fail
  refine C1.out.mono ?_
  rintro e w1 ⟨rfl, v1, K1, S1⟩
  have T1 := Lib.hid S1
  have D1 : Hid (Below (R0 + 1) W1 w1) := S1.low HW.out
  have z1 := HC.out w1 D1.out
  clear c0 c1 c2 c3 c4 c5
  obtain ⟨c0, c1, c2, c3, c4, c5⟩ := six_cells z1
  have C2 := Lib.hid ((ptext_any K1.drew a.tok (by have := H1.out.2; omega) HT.out.1).mono fun _ _ => Put.undrew)
  obtain ⟨q2, hq2⟩ : ∃ q2, q2 = tw a.tok q1 := ⟨_, rfl⟩
  have H2 : Hid (q2 = tw a.tok q1 ∧ q2.1.length ≤ 65538) := ⟨hq2, by rw [hq2]; have := tw_len a.tok q1; have := H1.out.2; omega⟩
  have C2' : Hid (Calls Try.prog 24 #[.pointer (some ⟨R0 + 1, 0, none⟩), .string (mkB a.tok)] w1.drew (Put (R0 + 1 + 1) w1 (R0 + 1) v1 q2.1 q2.2)) := by rw [hq2]; exact C2.out
  clear C1 C2 K1 S1 z1 hq2
  go_upto_region 3 with fail
  refine still_tailW 5 (by kernel_rfl) (by kernel_rfl) ?_
  simp only [List.take_succ_cons, List.take_zero, List.drop_succ_cons, List.drop_zero]
  have dc1 := drew_cell c1
  generalize w1.drew = Wd2 at *
  repeat still_step
  refine wpStill_nil ?_
  clear dc1
  go_wp2_with fail
  refine C2'.out.mono ?_
  rintro e w2 ⟨rfl, v2, K2, S2⟩
  have T2 := Lib.hid (T1.out.trans S2)
  have D2 : Hid (Below (R0 + 1) W1 w2) := T2.out.low HW.out
  have z2 := HC.out w2 D2.out
  clear c0 c1 c2 c3 c4 c5
  obtain ⟨c0, c1, c2, c3, c4, c5⟩ := six_cells z2
  obtain ⟨B3, P3, L3⟩ := box1 w2 #[.int .i64 a.num, .int .i64 a.at'] 3
  obtain ⟨W3, hW3⟩ : ∃ W3, W3 = (w2.alloc (.cells #[.int .i64 a.num, .int .i64 a.at'] 3)).drew := ⟨_, rfl⟩
  have ST := stays_drew (stays_new K2 (Below.refl _ _) #[.int .i64 a.num, .int .i64 a.at'] [a.num, a.at'] rfl)
  replace B3 := Below.drew B3
  rw [← hW3] at B3 ST
  have C3 := Lib.hid (pnums_any (K2.below B3) _ 2 [a.num, a.at'] ST (by have := H2.out.2; show q2.1.length + 8 * 2 ≤ 300000000; omega))
  obtain ⟨q3, hq3⟩ : ∃ q3 : List UInt8 × Bool, q3 = (q2.1 ++ [a.num, a.at'].flatMap numL, q2.2) := ⟨_, rfl⟩
  have H3 : Hid (q3 = (q2.1 ++ [a.num, a.at'].flatMap numL, q2.2) ∧ q3.1.length ≤ 65554 ∧ q3.1 ≠ []) := ⟨hq3, by rw [hq3]; simp only [List.length_append, pnums_len, List.length_cons, List.length_nil]; have := H2.out.2; omega, by
    rw [hq3]
    intro e
    have h9 := congrArg List.length e
    simp only [List.length_append, pnums_len, List.length_cons, List.length_nil] at h9
    omega⟩
  have C3' : Hid (Calls Try.prog 40 #[.pointer (some ⟨R0 + 1, 0, none⟩), .slice (some ⟨w2.heap.size, 0, none⟩) 2 2] W3 (Put (R0 + 1 + 1) W3 (R0 + 1) v2 q3.1 q3.2)) := by rw [hq3]; exact C3.out
  have HW3 := Lib.hid hW3
  have T3 : Hid (Stp W1 (R0 + 1) (.slice none 0 0) W3 v2) := T2.out.trans (K2.first B3 (Stp.refl _ _ _))
  have HLD : Hid (R0 + 1 ≤ w2.heap.size) := by show _ ≤ _; have := D2.out.size; have := HL1.out; omega
  clear C2' C3 K2 S2 z2 hq3 B3 P3 L3 ST hW3
  go_upto_region 4 with fail
  have KR : Hid (Below w2.heap.size w2 w2) := Below.refl _ _
  have BX : Hid (∀ w', Below w2.heap.size w2 w' → w'.cell? ⟨R0, 2, none⟩ = some (.int .i64 a.num) ∧ w'.cell? ⟨R0, 3, none⟩ = some (.int .i64 a.at')) := fun w' hb => by
    have zz : w'.heap[R0]? = some (.cells #[.int .i64 a.st, .string (mkB a.tok), .int .i64 a.num, .int .i64 a.at', .slice ra nr rc, .slice ea ne ec] 46 (0, 0)) := HC.out w' (D2.out.trans (hb.mono HLD.out))
    exact ⟨by rw [cell_of_row _ _ _ _ _ _ zz]; rfl, by rw [cell_of_row _ _ _ _ _ _ zz]; rfl⟩
  go_region_held3 (fun w' => w'.cell? ⟨R0, 2, none⟩ = some (.int .i64 a.num) ∧ w'.cell? ⟨R0, 3, none⟩ = some (.int .i64 a.at'))
    (first
      | exact k5.out
      | (refine BX.out _ ?_; focus ((repeat first | assumption | exact KR.out | apply Below.drew | apply below_drews | refine Below.alloc ?_ (Nat.le_refl _) _); done)))
    (first
      | (go_at_call 40; rw [← HW3.out]; (refine C3'.out.mono ?_); rintro e w4 ⟨rfl, v4, K4, S4⟩; have T4 := Lib.hid (T3.out.trans S4); have Z5 := HC.out w4 (T4.out.low HW.out); have k5 : Hid (w4.cell? ⟨R0, 2, none⟩ = some (.int .i64 a.num) ∧ w4.cell? ⟨R0, 3, none⟩ = some (.int .i64 a.at')) := ⟨by rw [cell_of_row _ _ _ _ _ _ Z5]; rfl, by rw [cell_of_row _ _ _ _ _ _ Z5]; rfl⟩))
  have D4 : Hid (Below (R0 + 1) W1 w4) := T4.out.low HW.out
  have z4 := HC.out w4 D4.out
  clear k5 BX KR Z5
  clear c0 c1 c2 c3 c4 c5
  obtain ⟨c0, c1, c2, c3, c4, c5⟩ := six_cells z4
  have C4 := Lib.hid (prunsW K4 ra rc a.R (fun w' v' s => HRS.out w' v' (T4.out.trans s)) HNR.out.2.2.1 (by have := H3.out.2.1; omega) (fun h9 => by have := H3.out.2.1; have := sum_bound sR_le a.R; have : 65599 * a.R.length ≤ 65599 * 255 := Nat.mul_le_mul_left _ h9; omega))
  obtain ⟨q4, hq4⟩ : ∃ q4, q4 = listW runW a.R q3 := ⟨_, rfl⟩
  have H4 : Hid (q4 = listW runW a.R q3 ∧ q4.1.length ≤ 16800000 ∧ q4.1 ≠ []) := ⟨hq4, by rw [hq4]; have := listW_len runW_len sR_le a.R q3; have := H3.out.2.1; omega, by rw [hq4]; exact listW_pre runW_pre _ _ H3.out.2.2⟩
  rw [← HNR.out.1] at C4
  have C4' : Hid (Calls Try.prog 41 #[.pointer (some ⟨R0 + 1, 0, none⟩), .slice ra nr rc, .func (.func 42) #[.pointer (some ⟨R0 + 1, 0, none⟩)] #[]] w4 (Put (R0 + 1 + 1) w4 (R0 + 1) v4 q4.1 q4.2)) := by rw [hq4]; exact C4.out
  clear C3' C4 K4 S4 z4 hq4
  go_wp2_with fail
  refine C4'.out.mono ?_
  rintro e w5 ⟨rfl, v5, K5, S5⟩
  have T5 := Lib.hid (T4.out.trans S5)
  have D5 : Hid (Below (R0 + 1) W1 w5) := T5.out.low HW.out
  have z5 := HC.out w5 D5.out
  clear c0 c1 c2 c3 c4 c5
  obtain ⟨c0, c1, c2, c3, c4, c5⟩ := six_cells z5
  have C5 := Lib.hid (pentsW K5 ea ec a.E (fun w' v' s => HES.out w' v' (T5.out.trans s)) HNR.out.2.2.2 (by have := H4.out.2.1; omega) (fun h9 => by have := H4.out.2.1; have := sum_bound sE_le a.E; have : 4144 * a.E.length ≤ 4144 * 255 := Nat.mul_le_mul_left _ h9; omega))
  obtain ⟨q5, hq5⟩ : ∃ q5, q5 = listW entW a.E q4 := ⟨_, rfl⟩
  have H5 : Hid (q5 = listW entW a.E q4 ∧ q5.1 ≠ []) := ⟨hq5, by rw [hq5]; exact listW_pre entW_pre _ _ H4.out.2.2⟩
  rw [← HNR.out.2.1] at C5
  have C5' : Hid (Calls Try.prog 43 #[.pointer (some ⟨R0 + 1, 0, none⟩), .slice ea ne ec, .func (.func 44) #[.pointer (some ⟨R0 + 1, 0, none⟩)] #[]] w5 (Put (R0 + 1 + 1) w5 (R0 + 1) v5 q5.1 q5.2)) := by rw [hq5]; exact C5.out
  clear C4' C5 K5 S5 z5 hq5
  go_wp2_with fail
  refine C5'.out.mono ?_
  rintro e w6 ⟨rfl, v6, K6, S6⟩
  have D6 : Hid (Below (R0 + 1) W1 w6) := (T5.out.trans S6).low HW.out
  have C6 := Lib.hid (written_any K6 H5.out.2)
  have HF : Hid (outV (q5.1, q5.2) = answerE a) := by
    show _ = _
    rw [← HE.out]
    unfold answerW
    rw [← H1.out.1, ← H2.out.1, ← H3.out.1, ← H4.out.1, ← H5.out.1]
  rw [HF.out] at C6
  have HL6 : Hid (R0 + 1 + 1 ≤ w6.heap.size) := K6.2.1
  clear C5' K6 S6 HF c0 c1 c2 c3 c4 c5
  go_wp2_with fail
  refine C6.out.mono ?_
  rintro e w7 ⟨rfl, b7⟩
  have FE : Hid (Below w.heap.size w w7) := by
    show Below _ _ _
    rw [HL0.out]
    exact HB1.out.trans ((D6.out.trans (b7.mono (by have := HL6.out; omega))).mono (Nat.le_succ _))
  clear b7 C6
  go_wp2_with fail
  exact bodyPost_ret (v := .tuple #[.string (mkB (answerE a).1), .bool (answerE a).2]) (by simp [results, Try.results17, go_sem]) rfl ⟨rfl, FE.out⟩
end Go.Proofs.Ythegkookfpnbeaa.Wds
