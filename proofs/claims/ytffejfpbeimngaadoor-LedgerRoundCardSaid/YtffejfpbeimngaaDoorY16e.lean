/- Plate: the program's Lay. -/
import Derived.Test.YtffejfpbeimngaaDoorY16x
set_option linter.unusedVariables false
set_option linter.unusedSimpArgs false
set_option maxRecDepth 100000
namespace Go.Proofs.YtffejfpbeimngaaDoor.Plt
open Go.RowKit Go.Lib Go.Proofs.YtffejfpbeimngaaDoor.Bx

section
variable {base B G : Nat} {w : World} {v : Value} {u : Nat → Value} {L : List Nat} {D : DK}
theorem nodup_len : ∀ (n : Nat) (L : List Nat), L.Nodup → (∀ x ∈ L, x < n) → L.length ≤ n
  | 0, L, _, h => by
    cases L with
    | nil => exact Nat.le_refl _
    | cons x L => exact absurd (h x List.mem_cons_self) (Nat.not_lt_zero _)
  | n + 1, L, hn, h => by
    by_cases hm : n ∈ L
    · have h1 := nodup_len n (L.erase n) (hn.erase n) (fun x hx => by
        have h2 := (List.Nodup.mem_erase_iff hn).1 hx
        have := h x h2.2
        have := h2.1
        omega)
      rw [List.length_erase_of_mem hm] at h1
      omega
    · have h1 := nodup_len n L hn (fun x hx => by
        have := h x hx
        have : x ≠ n := fun e => hm (e ▸ hx)
        omega)
      omega
theorem infoInt : (Tryd.prog.info? 3).map (fun i => (i.zero, i.size, i.bytes)) = some (some (.int .i64 0), 1, 8) := by kernel_rfl
theorem infoStr : (Tryd.prog.info? 9).map (fun i => (i.zero, i.size, i.bytes)) = some (some (.string ByteArray.empty), 1, 16) := by kernel_rfl
theorem canLay_is (D : DK) (i : Int) (s : ByteArray) : canLay D i s = (!D.off && inB i D.n && decide (s.size ≤ 128)) := rfl
set_option maxHeartbeats 2000000 in
theorem lay_no (i : Int) (s : ByteArray) (hs : s.size ≤ 9223372036854775807) (hd : Dm base w B G v u L D) (hc : canLay D i s = false) : Calls Tryd.prog 7 #[.pointer (some ⟨B, 0, none⟩), .int .i64 i, .string s] w fun e w' => e = .returned (.bool false) ∧ w = w' := by
  obtain ⟨c0, c1, c2, c3, _⟩ := Dx.cells hd
  have CO := Lib.hid (on_any w c2)
  have CI := Lib.hid (has_any i w c0 hd.n2)
  rw [canLay_is] at hc
  cases ho : D.off with
  | true =>
    rw [ho, Bool.not_true] at CO
    clear hd c0 c1 c2 c3 ho CI hc
    go_enter Tryd.func7, Tryd.ntmps7
    go_wp2_with (refine CO.out.mono ?_; rintro e w1 ⟨rfl, rfl⟩)
    go_ret
    exact ⟨rfl, rfl⟩
  | false =>
    rw [ho, Bool.not_false] at CO
    rw [ho, Bool.not_false, Bool.true_and] at hc
    cases hin : inB i D.n with
    | false =>
      rw [hin] at CI
      clear hd c0 c1 c2 c3 ho hin hc
      go_enter Tryd.func7, Tryd.ntmps7
      go_wp2_with (first | (refine CO.out.mono ?_; rintro e w1 ⟨rfl, rfl⟩) | (refine CI.out.mono ?_; rintro e w1 ⟨rfl, rfl⟩))
      go_ret
      exact ⟨rfl, rfl⟩
    | true =>
      rw [hin] at CI hc
      have h1 : ¬ s.size ≤ 128 := by simpa using hc
      have h2 : (128 : Int) < (s.size : Nat) := by omega
      have h3 : 128 < s.size := by omega
      clear hd c0 c1 c2 c3 ho hin hc h1
      go_enter Tryd.func7, Tryd.ntmps7
      go_wp2_with (first | (refine CO.out.mono ?_; rintro e w1 ⟨rfl, rfl⟩) | (refine CI.out.mono ?_; rintro e w1 ⟨rfl, rfl⟩))
      go_ret
      exact ⟨rfl, rfl⟩
theorem lay_nil (i : Int) (s : ByteArray) (w : World) : Calls Tryd.prog 7 #[.pointer none, .int .i64 i, .string s] w fun e w' => e = .returned (.bool false) ∧ w = w' := by
  have CO := Lib.hid (on_nil w)
  go_enter Tryd.func7, Tryd.ntmps7
  go_wp2_with (refine CO.out.mono ?_; rintro e w1 ⟨rfl, rfl⟩)
  go_ret
  exact ⟨rfl, rfl⟩
theorem canLay_yes {i : Int} {s : ByteArray} (h : canLay D i s = true) : D.off = false ∧ inB i D.n = true ∧ s.size ≤ 128 := by
  rw [canLay_is] at h
  simp only [Bool.and_eq_true, Bool.not_eq_true', decide_eq_true_eq] at h
  exact ⟨h.1.1, h.1.2, h.2⟩
set_option maxHeartbeats 2000000 in
theorem lay_off (i : Int) (s : ByteArray) (hd : Dm base w B G v u L D) (hc : canLay D i s = true) (h0 : D.left = 0) : Calls Tryd.prog 7 #[.pointer (some ⟨B, 0, none⟩), .int .i64 i, .string s] w (Stepped base w B G v u L ⟨D.n, D.P, true, D.left⟩ false) := by
  obtain ⟨c0, c1, c2, c3, _⟩ := Dx.cells hd
  have CO := Lib.hid (on_any w c2)
  have CI := Lib.hid (has_any i w c0 hd.n2)
  obtain ⟨ho, hin, hs⟩ := canLay_yes hc
  have CS := Lib.hid (step_ko hd h0)
  rw [ho, Bool.not_false] at CO
  rw [hin] at CI
  have h2 : ¬ (128 : Int) < (s.size : Nat) := by omega
  have h3 : ¬ 128 < s.size := by omega
  clear hd c0 c1 c2 c3 ho hin hc h0
  go_enter Tryd.func7, Tryd.ntmps7
  go_wp2_with (first | (refine CO.out.mono ?_; rintro e w1 ⟨rfl, rfl⟩) | (refine CI.out.mono ?_; rintro e w1 ⟨rfl, rfl⟩) | (refine CS.out.mono ?_; rintro e w1 ⟨rfl, d1, g1⟩; have D1 := Lib.hid d1; have G1 := Lib.hid g1; clear d1 g1 CS CO CI))
  go_ret
  exact ⟨rfl, D1.out, G1.out⟩
def Laid (base : Nat) (w : World) (B G : Nat) (v : Value) (u : Nat → Value) (D D' : DK) : Ending → World → Prop := fun e w' =>
  e = .returned (.bool true) ∧ ∃ v' u' L', Dm base w' B G v' u' L' D' ∧ Chg (Ft B G v u D.n) w w' ∧ ∀ g, Ft B G v' u' D.n g → Ft B G v u D.n g ∨ w.heap.size ≤ g
set_option maxHeartbeats 8000000 in
theorem lay_yes (i : Int) (s : ByteArray) (hd : Dm base w B G v u L D) (hc : canLay D i s = true) (h0 : D.left ≠ 0) (hl : ∀ j, j < D.n → (D.P j).l.length ≤ 90000) : Calls Tryd.prog 7 #[.pointer (some ⟨B, 0, none⟩), .int .i64 i, .string s] w (Laid base w B G v u D ⟨D.n, laidP D i.toNat s, D.off, dec D.left⟩) := by
  obtain ⟨n, P, off, left⟩ := D
  obtain ⟨c0, c1, c2, c3, _⟩ := Dx.cells hd
  have CO := Lib.hid (on_any w c2)
  have CI := Lib.hid (has_any i w c0 hd.n2)
  obtain ⟨ho, hin, hs⟩ := canLay_yes hc
  have CS := Lib.hid (step_ok hd h0)
  simp only at c0 c1 c2 c3 CO CI CS ho hin h0 hl ⊢
  rw [ho, Bool.not_false] at CO
  rw [hin] at CI
  obtain ⟨k, rfl, hk⟩ := inB_nat hin
  have h2 : ¬ (128 : Int) < (s.size : Nat) := by omega
  have h3 : ¬ 128 < s.size := by omega
  have n1 : (k : Int) < (n : Nat) := by omega
  have n0 : (0 : Int) ≤ (k : Nat) := by omega
  have HL := Lib.hid (hl k hk)
  have HK := Lib.hid hk
  have HS := Lib.hid hs
  clear hd c0 c1 c2 c3 ho hin hc h0 hl hk hs
  go_enter Tryd.func7, Tryd.ntmps7
  go_upto_region 3 with (first | (refine CO.out.mono ?_; rintro e w1 ⟨rfl, rfl⟩) | (refine CI.out.mono ?_; rintro e w1 ⟨rfl, rfl⟩) | (refine CS.out.mono ?_; rintro e w1 ⟨rfl, d1, g1⟩; have D1 := Lib.hid d1; have G1 := Lib.hid g1; clear d1 g1 CS CO CI))
  obtain ⟨e0, e1, e2, e3, f0, f1, f2, f3⟩ := Dx.cells D1.out
  obtain ⟨g0, g1, _, _⟩ := D1.out.pl.cells HK.out
  obtain ⟨a, c, hu, hlc, hcm, _⟩ := row_at (D1.out.row k HK.out)
  simp only at e0 e1 g0 g1 hu hlc
  rw [hu] at g1
  obtain ⟨m, hm⟩ : ∃ m, m = (P k).l.length := ⟨_, rfl⟩
  have HU : Hid (u k = .slice a m c) := by show _ = _; rw [hu, hm]
  have HM : Hid (m = (P k).l.length) := hm
  rw [← hm] at g1 hlc
  clear hm hu e2 e3 f0 f2 f3
  obtain ⟨q, hq⟩ : ∃ q : Bool, ((m : Int) == 0) = q := ⟨_, rfl⟩
  have HQ : Hid (q = decide (m = 0)) := by show _ = _; rw [← hq]; by_cases h : m = 0 <;> simp [h] <;> omega
  go_upto_if 38 with fail
  go_cut [] from 39 to 48 (fun wx => ∃ v4 L4 M4, Hid (Dx base wx B G v4 u L4 ⟨n, P, off, dec left⟩ M4) ∧ Hid (∀ i, M4 i ↔ Loo ⟨n, P, off, dec left⟩ i ∨ i = k) ∧ Hid (Chg (Ft B G v u n) w1 wx) ∧ Hid (∀ g, Ft B G v4 u n g → Ft B G v u n g ∨ w1.heap.size ≤ g))
  case first =>
    cases q with
    | true =>
      have hm0 : m = 0 := by simpa using HQ.out.symm
      subst hm0
      clear hq
      have hnil : (P k).l = [] := List.eq_nil_of_length_eq_zero HM.out.symm
      have hnot : k ∉ L := fun h => ((D1.out.mem k).1 h).2 hnil
      obtain ⟨va, vc, rfl⟩ := D1.out.own.is_slice
      rw [cellsN_len] at e1
      obtain ⟨W2, hW2⟩ : ∃ W2, W2 = w1.alloc (.cells #[.int .i64 (k : Nat)] 3) := ⟨_, rfl⟩
      obtain ⟨bx, rx, lx⟩ := box1 w1 #[.int .i64 (k : Nat)] 3
      rw [← hW2] at bx rx lx
      have A1 : Hid (Rk.OwnK 3 1 base W2 (.slice va L.length vc) (cellsN L)) := by
        have := D1.out.own.below bx
        rw [cellsN_len] at this
        exact this
      have A2 : Hid (Rk.RowK 1 W2 (.slice (some ⟨w1.heap.size, 0, none⟩) 1 1) [[.int .i64 (k : Nat)]]) := Rk.row_one (e := 3) rx rfl
      have A3 : Hid (∀ y ∈ [[Value.int .i64 (k : Nat)]], ∀ q ∈ y, q.oneCell' = true) := by
        intro y hy q hq
        simp at hy
        subst hy
        simp at hq
        subst hq
        rfl
      have A4 : Hid ((cellsN L).length + [[Value.int .i64 (k : Nat)]].length ≤ 100000) := by
        show _ ≤ _
        rw [cellsN_len]
        have h1 := D1.out.n2
        have h2 : L.length ≤ n := nodup_len n L D1.out.nod (fun x hx => ((D1.out.mem x).1 hx).1)
        simp only at h1
        simp
        omega
      have A5 : Hid (base ≤ W2.heap.size) := by show _ ≤ _; have h1 := (Dx.lt D1.out B (.inl rfl)).2; have h2 := D1.out.hB; omega
      have hg1 : w1.cell? ⟨B, 1, none⟩ = some (.slice va L.length vc) := e1
      obtain ⟨x9, hx9⟩ : ∃ x9, x9 = L.length + 1 := ⟨_, rfl⟩
      have FN : Hid (∀ (v9 : Value) (w9 : World), Rk.OwnK 3 1 base w9 v9 (cellsN L ++ [[.int .i64 (k : Nat)]]) → W2.grownBy w9 (Value.slice va L.length vc).ownBlock → (v9.ownBlock = (Value.slice va L.length vc).ownBlock ∨ v9.ownBlock = some (w1.heap.size + 1)) → (∃ a9 c9, v9 = .slice a9 x9 c9) ∧ w9.cell? ⟨B, 0, none⟩ = some (.slice (some ⟨G, 0, none⟩) n n) ∧ w9.cell? ⟨B, 1, none⟩ = some (.slice va L.length vc) ∧ w9.frozen? ⟨B, 1, none⟩ = false ∧ Hid (Dx base (w9.setCell ⟨B, 1, none⟩ v9) B G v9 u (L ++ [k]) ⟨n, P, off, dec left⟩ (fun i => Loo ⟨n, P, off, dec left⟩ i ∨ i = k) ∧ Chg (Ft B G (.slice va (cellsN L).length vc) u n) w1 (w9.setCell ⟨B, 1, none⟩ v9) ∧ ∀ g, Ft B G v9 u n g → Ft B G (.slice va (cellsN L).length vc) u n g ∨ w1.heap.size ≤ g)) := fun v9 w9 o9 g9 k9 => by
        have o9' := o9
        rw [← lx] at k9
        rw [← cellsN_len L] at g9 k9
        obtain ⟨q0, q1, q2, q3⟩ := Dx.more D1.out HK.out hnot bx g9 k9 o9
        obtain ⟨a9, c9, q⟩ := o9'.is_slice
        rw [cellsN_len] at q1
        refine ⟨⟨a9, c9, ?_⟩, q0, q1, q2, q3⟩
        rw [q, hx9, List.length_append, cellsN_len]
        rfl
      clear bx rx lx hx9 hnot hnil hg1
      subst hW2
      go_wp2_with (at_builtin; refine Rk.wpList_append_rowk rfl _ _ 42 3 1 8 _ Tryd.underlying42 infoInt rfl (by decide) (by decide) rfl base _ _ (cellsN L) [[.int .i64 (k : Nat)]] rfl rfl A1.out A2.out A3.out A4.out A5.out ?_)
      intro v9 w9 o9 g9 k9
      obtain ⟨⟨a9, c9, rfl⟩, q0, q1, q2, QX⟩ := FN.out v9 w9 o9 g9 k9
      clear o9 g9 k9 FN A1 A2 A3 A4 A5
      go_wp2_with fail
      go_meet
      exact ⟨_, _, _, QX.out.1, fun i => Iff.rfl, QX.out.2.1, QX.out.2.2⟩
    | false =>
      have hm0 : ¬ m = 0 := by simpa using HQ.out.symm
      have hne : (P k).l ≠ [] := fun e => hm0 (by rw [HM.out, e]; rfl)
      have HI : Hid (∀ i, Loo ⟨n, P, off, dec left⟩ i ↔ Loo ⟨n, P, off, dec left⟩ i ∨ i = k) := fun i => ⟨.inl, fun h => h.elim id (fun e => by rw [e]; exact hne)⟩
      clear hm0 hne
      go_wp2_with fail
      go_meet
      exact ⟨_, _, _, D1.out, HI.out, Chg.refl _ _, fun g h => .inl h⟩
  case rest =>
    obtain ⟨w4, hw4⟩ : ∃ w4 : World, w4 = wc := ⟨_, rfl⟩
    subst hw4
    obtain ⟨v4, L4, M4, DX, HI, HC, HN⟩ := hcut
    obtain ⟨e0, e1, _⟩ := Dx.cells DX.out
    obtain ⟨z0, z1, y0, y1⟩ := DX.out.pl.cells HK.out
    simp only at e0 z0 z1
    rw [HU.out] at z1
    have GL : Hid (G < w4.heap.size) := (Dx.lt DX.out G (.inr (.inl rfl))).2
    have HF := fun w5 => filled_any s w5 HS.out
    have HFB := Lib.hid HF
    have Z5 : Hid (∀ w5, Below w4.heap.size w4 w5 → w5.cell? ⟨G, k * 2 + 1, none⟩ = some (.slice a m c) ∧ w5.cell? ⟨G, k * 2, none⟩ = some (.string (P k).f)) := fun w5 hb => ⟨vcell hb GL.out z1, vcell hb GL.out z0⟩
    have O5 : Hid (∀ w5, Below w4.heap.size w4 w5 → Rk.OwnK 9 1 base w5 (.slice a m c) (cellsT (P k).l)) := fun w5 hb => by rw [← HU.out]; exact (DX.out.row k HK.out).below hb
    have H1 : Hid (∀ y ∈ [[Value.string (fullB s)]], ∀ q ∈ y, q.oneCell' = true) := by
      intro y hy q hq
      simp at hy
      subst hy
      simp at hq
      subst hq
      rfl
    have H2 : Hid ((cellsT (P k).l).length + [[Value.string (fullB s)]].length ≤ 100000) := by
      show _ ≤ _
      rw [cellsT_len]
      have := HL.out
      simp
      omega
    have H3 : Hid (base ≤ w4.heap.size) := by show _ ≤ _; have h1 := (Dx.lt DX.out B (.inl rfl)).2; have h2 := DX.out.hB; omega
    obtain ⟨x9, hx9⟩ : ∃ x9, x9 = (P k).l.length + 1 := ⟨_, rfl⟩
    have FP : Hid (∀ (w5 : World) (v9 : Value) (w9 : World), Below w4.heap.size w4 w5 → Rk.OwnK 9 1 base w9 v9 (cellsT (P k).l ++ [[.string (fullB s)]]) → w5.grownBy w9 (Value.slice a m c).ownBlock → (v9.ownBlock = (Value.slice a m c).ownBlock ∨ v9.ownBlock = some w5.heap.size) → (∃ a9 c9, v9 = .slice a9 x9 c9) ∧ w9.cell? ⟨G, k * 2, none⟩ = some (.string (P k).f) ∧ w9.cell? ⟨G, k * 2 + 1, none⟩ = some (.slice a m c) ∧ w9.frozen? ⟨G, k * 2 + 1, none⟩ = false ∧ Hid (Laid base w B G v u ⟨n, P, off, left⟩ ⟨n, laidP ⟨n, P, off, left⟩ (k : Int).toNat s, off, dec left⟩ (.returned (.bool true)) (w9.setCell ⟨G, k * 2 + 1, none⟩ v9))) := fun w5 v9 w9 b5 o9 g9 k9 => by
      have o9' := o9
      rw [← HU.out] at g9 k9
      obtain ⟨q0, q1, q2, q3, q4, q5⟩ := Dx.put DX.out HK.out HI.out (fullB s) b5 g9 k9 o9
      obtain ⟨a9, c9, q⟩ := o9'.is_slice
      rw [HU.out] at q1
      refine ⟨⟨a9, c9, ?_⟩, q0, q1, q2, rfl, v4, upd u k v9, L4, q3, ?_, ?_⟩
      · rw [q, hx9, List.length_append, cellsT_len]
        rfl
      · refine (G1.out.mono Ft_one).trans (HC.out.trans q4 HN.out) (fun g h => .inl h)
      · intro g h
        rcases q5 g h with h | h
        · rcases HN.out g h with h | h
          · exact .inl h
          · exact .inr (Nat.le_trans G1.out.size h)
        · exact .inr (Nat.le_trans G1.out.size (Nat.le_trans HC.out.size h))
    generalize (P k).f = fk at *
    generalize cellsT (P k).l = ck at *
    clear hx9 e1 y0 y1 HF
    obtain ⟨zz0, zz1⟩ := Z5.out w4 (Below.refl _ _)
    go_upto_region 6 with fail
    go_region_law (first
      | (refine step_append_rowk rfl _ _ 22 9 1 16 _ Tryd.underlying22 infoStr rfl (by decide) (by decide) rfl base _ _ ck [[.string (fullB s)]] rfl rfl ?_ ?_ H1.out H2.out ?_ ?_; (focus (refine O5.out _ ?_; (repeat first | with_reducible exact C5.out | with_reducible apply Below.drew | with_reducible apply below_al); done)); (focus (refine Rk.row_one (e := 9) ?_ rfl; first | exact heap_alloc_new _ _ | (simp; done))); (focus (refine Nat.le_trans H3.out (Below.size (B := w4.heap.size) ?_); (repeat first | with_reducible exact C5.out | with_reducible apply Below.drew | with_reducible apply below_al); done)); intro v9 w9 o9 g9 k9; obtain ⟨⟨a9, c9, rfl⟩, q0, q1, q2, QX⟩ := FP.out _ v9 w9 (below_al C5.out _) o9 g9 k9; clear o9 g9 k9)
      | (refine step_call rfl 17 _ _ rfl (enters_of Tryd.func17 (by kernel_rfl) rfl) [.string s] rfl _ (HFB.out _) ?_; rintro e w5 ⟨rfl, b5⟩; refine ⟨_, rfl, ?_⟩; have c5 : Below w4.heap.size w4 w5 := below_on (by first | exact Below.refl _ _ | exact Below.drew (Below.refl _ _)) b5; obtain ⟨zz2, zz3⟩ := Z5.out w5 c5; obtain ⟨zz4, zz5⟩ := Z5.out (w5.alloc (.cells #[.string (fullB s)] 9)) (below_al c5 _); have C5 := Lib.hid c5; clear b5 c5))
    all_goals go_wp2_with fail
    all_goals go_ret
    all_goals exact QX.out
end
end Go.Proofs.YtffejfpbeimngaaDoor.Plt
