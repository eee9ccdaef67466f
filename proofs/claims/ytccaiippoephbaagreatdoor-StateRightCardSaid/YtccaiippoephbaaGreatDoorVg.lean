/- Words: the program's reader: a list of numbers. -/
import Derived.Test.YtccaiippoephbaaGreatDoorVd
import Derived.Test.YtccaiippoephbaaGreatDoorVf
set_option linter.unusedVariables false
set_option linter.unusedSimpArgs false
set_option maxRecDepth 100000
namespace Go.Proofs.YtccaiippoephbaaGreatDoor.Wds
open Go.RowKit Go.Lib Go.Proofs.YtccaiippoephbaaGreatDoor.Bx Go.Proofs.YtccaiippoephbaaGreatDoor.Frm

/-- What a step of reading owes: something of which Pr holds, or a panic. -/
def GotP (w : World) (B : Nat) (Pr : World → Value → Prop) (r : Rd) : Ending → World → Prop := fun e w' => w.grownBy w' (some B) ∧ ((r.bad = false ∧ ∃ v, e = .returned v ∧ Pr w' v ∧ At1 w' B r.s) ∨ (r.bad = true ∧ e = .panicked [{ v := unr, recovered := false }]))
theorem own_base {e : TypeId} {k base base' : Nat} {w : World} {v : Value} {xs : List (List Value)} (h : Rk.OwnK e k base w v xs) (hb : base' ≤ base) : Rk.OwnK e k base' w v xs := by
  obtain ⟨h1, h2, h3⟩ := h
  refine ⟨h1, h2, ?_⟩
  rcases h3 with h3 | ⟨g, cap, cur, e1, hg, rest⟩
  · exact .inl h3
  · exact .inr ⟨g, cap, cur, e1, Nat.le_trans hb hg, rest⟩
set_option maxHeartbeats 8000000 in
theorem plist_rd0 {B : Nat} {w : World} (r0 : Rd) (n : Nat) (n256 : n < 65536) (hb : r0.bad = false) (hl : r0.s.length ≤ 9223372036854775807) (h : At1 w B r0.s) : Calls Tryz.prog 159 #[.int .i64 (n : Nat), .func (.func 134) #[.pointer (some ⟨B, 0, none⟩)] #[]] w (GotP w B (fun w' v => Rk.OwnK 3 1 w.heap.size w' v (cellsI (manyR numR n r0).1)) (manyR numR n r0).2) := by
  have HBW : Hid (B < w.heap.size) := h.cell.2.1
  obtain ⟨XS, hXS⟩ : ∃ XS, XS = (manyR numR n r0).1 := ⟨_, rfl⟩
  obtain ⟨RF, hRF⟩ : ∃ RF, RF = (manyR numR n r0).2 := ⟨_, rfl⟩
  have HR : Hid (manyR numR n r0 = (XS, RF) ∧ n < 65536) := ⟨by rw [hXS, hRF], n256⟩
  have HLE : Hid (r0.s.length ≤ 9223372036854775807) := hl
  have HK1 : Hid (r0.bad = false ∧ At1 w B r0.s ∧ w.grownBy w (some B)) := ⟨hb, h, grown_refl _ _⟩
  rw [← hXS, ← hRF]
  clear h hl hXS hRF hb
  go_enter Tryz.func159, Tryz.ntmps159
  go_wp2_with fail
  go_loopg [5, 7] n (fun g v_ i_ wr => ∃ (i : Nat) (X : List Int) (rr : Rd), i ≤ n ∧ n - i ≤ g ∧ i_ = .int .i64 i ∧ (∃ a c, v_ = .slice a i c) ∧ X.length = i ∧ Hid (manyR numR n r0 = (X ++ (manyR numR (n - i) rr).1, (manyR numR (n - i) rr).2)) ∧ Hid (Rk.OwnK 3 1 w.heap.size wr v_ (cellsI X)) ∧ Hid (rr.bad = false ∧ At1 wr B rr.s ∧ w.grownBy wr (some B)) ∧ Hid (rr.s.length ≤ 9223372036854775807))
  case atStart => exact ⟨0, [], r0, by omega, by omega, rfl, ⟨_, _, rfl⟩, rfl, rfl, Rk.OwnK.nil_ _ _ _ _, HK1, HLE⟩
  case round =>
    obtain ⟨i, X, rr, hi, hg, rfl, ⟨oa, oc, rfl⟩, hX, HQ, HO, HK, HLR⟩ := hrel
    by_cases hin : i < n
    · have iw : ((i : Nat) : Int) < (n : Int) := by omega
      have d1 : decide (((i : Nat) : Int) < (n : Int)) = true := decide_eq_true iw
      obtain ⟨z, hz⟩ : ∃ z, z = (numR rr).1 := ⟨_, rfl⟩
      obtain ⟨r2, hr2⟩ : ∃ r2, r2 = (numR rr).2 := ⟨_, rfl⟩
      have HQ2 : Hid (manyR numR n r0 = ((X ++ [z]) ++ (manyR numR (n - (i + 1)) r2).1, (manyR numR (n - (i + 1)) r2).2)) := by
        show _ = _
        rw [HQ.out, show n - i = n - (i + 1) + 1 by omega, many_next HK.out.1, hz, hr2]
        simp
      have HLE2 : Hid (r2.s.length ≤ 9223372036854775807) := by rw [hr2]; exact Nat.le_trans (numR_le _) HLR.out
      have HBAD : Hid (r2.bad = true → RF.bad = true) := fun hb => by
        have h := HQ2.out
        rw [HR.out.1, many_bad hb] at h
        injection h with _ h
        rw [h]
        exact hb
      have HXL : Hid (X.length = i) := hX
      have C2 := Lib.hid (num_step (w := wr) (r := rr) (x := z) (r' := r2) (by rw [hz, hr2]) HK.out.1 HLR.out HK.out.2.1)
      clear hz hr2 HQ hX
      go_wp2_with fail
      refine C2.out.mono ?_
      rintro e w5 ⟨G5, (⟨hb5, rfl, K5⟩ | ⟨hb5, rfl⟩)⟩
      rotate_left
      · have FE : Hid (GotP w B (fun w' v => Rk.OwnK 3 1 w.heap.size w' v (cellsI XS)) RF (.panicked [{ v := unr, recovered := false }]) w5) := ⟨grown_trans HK.out.2.2 G5, .inr ⟨HBAD.out hb5, rfl⟩⟩
        clear G5 hb5 C2
        go_wp2_with fail
        exact ⟨rfl, FE.out⟩
      have HKO : Hid (Rk.OwnK 3 1 w.heap.size w5 (.slice oa i oc) (cellsI X)) := HO.out.kept G5 (.inr (HO.out.low HBW.out))
      have HG5 : Hid (w.grownBy w5 (some B)) := grown_trans HK.out.2.2 G5
      have HB5 := Lib.hid hb5
      have HK5 := Lib.hid K5
      have A1 : Hid (Rk.OwnK 3 1 w.heap.size (w5.alloc (.cells #[.int .i64 z] 3)) (.slice oa i oc) (cellsI X)) := HKO.out.below (below_al (Below.refl _ _) _)
      have A2 : Hid (Rk.RowK 1 (w5.alloc (.cells #[.int .i64 z] 3)) (.slice (some ⟨w5.heap.size, 0, none⟩) 1 1) (cellsI [z])) := Rk.row_one (e := 3) (heap_alloc_new _ _) rfl
      have A3 : Hid ((cellsI X).length + (cellsI [z]).length ≤ 100000) := by show _ ≤ _; rw [cellsI_len, cellsI_len, HXL.out, List.length_singleton]; have := HR.out.2; omega
      have A4 : Hid (w.heap.size ≤ (w5.alloc (.cells #[.int .i64 z] 3)).heap.size) := Nat.le_trans HG5.out.size (by exact (below_al (Below.refl w5.heap.size w5) _).size)
      have HK6 : Hid (At1 (w5.alloc (.cells #[.int .i64 z] 3)) B r2.s) := K5.below (below_al (Below.refl _ _) _)
      have HG6 : Hid (w.grownBy (w5.alloc (.cells #[.int .i64 z] 3)) (some B)) := grown_below HG5.out (below_al (Below.refl _ _) _)
      clear K5 G5 C2 HKO HK HO HG5 hb5 HK5
      go_wp2_with (at_builtin; refine Rk.wpList_append_rowk rfl _ _ 43 3 1 8 _ Tryz.underlying43 infoI rfl (by decide) (by decide) rfl w.heap.size _ _ (cellsI X) (cellsI [z]) rfl rfl A1.out A2.out (cellsI_one _) A3.out A4.out ?_)
      intro v6 w9 h5 g5 k5
      rw [← cellsI_app] at h5
      have HO9 := Lib.hid h5
      obtain ⟨a6, c6, rfl⟩ := h5.is_slice
      have hl1 : (cellsI (X ++ [z])).length = i + 1 := by rw [cellsI_len, List.length_append, HXL.out]; rfl
      have hlow : (Value.slice oa i oc).ownBlock ≠ some B := A1.out.low HBW.out
      have K9 : Hid (r2.bad = false ∧ At1 w9 B r2.s ∧ w.grownBy w9 (some B)) := ⟨HB5.out, (g5.block B HK6.out.cell.2.1 (fun e => hlow e.symm)).trans HK6.out, g5.os.trans HG6.out.os, g5.tape.trans HG6.out.tape, g5.output.trans HG6.out.output, Nat.le_trans HG6.out.size g5.size, fun k hk hne => (g5.block k (Nat.lt_of_lt_of_le hk HG6.out.size) (fun e => A1.out.low hk e.symm)).trans (HG6.out.block k hk hne)⟩
      rw [hl1] at HO9 ⊢
      clear h5 g5 k5 A1 A2 A3 A4 hlow hl1 HK6 HG6
      go_wp2_with fail
      go_roundg (n - (i + 1))
      case measure => omega
      case rel => exact ⟨i + 1, X ++ [z], r2, by omega, Nat.le_refl _, by go_num, ⟨_, _, rfl⟩, by rw [List.length_append, HXL.out]; rfl, HQ2, HO9, K9, HLE2⟩
    · obtain rfl : i = n := by omega
      have iw : ¬ ((i : Int) < (i : Int)) := by omega
      have d1 : decide (((i : Nat) : Int) < (i : Int)) = false := decide_eq_false iw
      have HF : Hid (X = XS ∧ rr = RF) := by
        have h := HQ.out
        rw [HR.out.1, Nat.sub_self] at h
        have h1 := congrArg Prod.fst h
        have h2 := congrArg Prod.snd h
        exact ⟨by simpa [manyR] using h1.symm, h2.symm⟩
      have FE : Hid (GotP w B (fun w' v => Rk.OwnK 3 1 w.heap.size w' v (cellsI XS)) RF (.returned (.slice oa i oc)) wr) := by
        show GotP _ _ _ _ _ _
        rw [← HF.out.1, ← HF.out.2]
        exact ⟨HK.out.2.2, .inl ⟨HK.out.1, _, rfl, HO.out, HK.out.2.1⟩⟩
      clear HQ HK HO HF
      go_wp2_with fail
      go_ret
      exact FE.out
set_option maxHeartbeats 4000000 in
theorem plist_rd {l : List UInt8} {B : Nat} {w : World} (h : At1 w B l) (hl : l.length ≤ 9223372036854775807) : Calls Tryz.prog 157 #[.pointer (some ⟨B, 0, none⟩), .func (.func 134) #[.pointer (some ⟨B, 0, none⟩)] #[]] w (GotP w B (fun w' v => Rk.OwnK 3 1 w.heap.size w' v (cellsI (rowR numR ⟨l, false⟩).1)) (rowR numR ⟨l, false⟩).2) := by
  have C := Lib.hid (pbyte_rd h hl)
  obtain ⟨n, hn⟩ : ∃ n, n = (lenR ⟨l, false⟩).1 := ⟨_, rfl⟩
  obtain ⟨r0, hr0⟩ : ∃ r0, r0 = (lenR ⟨l, false⟩).2 := ⟨_, rfl⟩
  obtain ⟨XS, hXS⟩ : ∃ XS, XS = (rowR numR ⟨l, false⟩).1 := ⟨_, rfl⟩
  obtain ⟨RF, hRF⟩ : ∃ RF, RF = (rowR numR ⟨l, false⟩).2 := ⟨_, rfl⟩
  have HR : Hid (manyR numR n r0 = (XS, RF) ∧ n < 256) := ⟨by rw [hn, hr0, hXS, hRF]; rfl, by rw [hn]; exact UInt8.toNat_lt _⟩
  have HLE : Hid (r0.s.length ≤ 9223372036854775807) := by rw [hr0]; exact Nat.le_trans (lenR_le _) hl
  have CI : Hid (∀ w1, w.grownBy w1 (some B) → r0.bad = false → At1 w1 B r0.s → Calls Tryz.prog 159 #[.int .i64 (n : Nat), .func (.func 134) #[.pointer (some ⟨B, 0, none⟩)] #[]] w1 (GotP w B (fun w' v => Rk.OwnK 3 1 w.heap.size w' v (cellsI XS)) RF)) := fun w1 g hb hk => (plist_rd0 r0 n (by have := HR.out.2; omega) hb HLE.out hk).mono fun e w2 hh => by
    rw [HR.out.1] at hh
    obtain ⟨G, hh⟩ := hh
    refine ⟨grown_trans g G, hh.imp ?_ id⟩
    rintro ⟨h1, v, h2, h3, h4⟩
    exact ⟨h1, v, h2, own_base h3 g.size, h4⟩
  rw [← hn, ← hr0] at C
  rw [← hXS, ← hRF]
  clear hn hr0 h hl hXS hRF
  go_enter Tryz.func157, Tryz.ntmps157
  go_wp2_with fail
  refine C.out.mono ?_
  rintro e w1 ⟨G, (⟨hb, rfl, K⟩ | ⟨hb, rfl⟩)⟩
  rotate_left
  · have FE : Hid (GotP w B (fun w' v => Rk.OwnK 3 1 w.heap.size w' v (cellsI XS)) RF (.panicked [{ v := unr, recovered := false }]) w1) := ⟨G, .inr ⟨by have h := HR.out.1; rw [many_bad hb] at h; injection h with _ h; rw [← h]; exact hb, rfl⟩⟩
    clear G hb C
    go_wp2_with fail
    exact ⟨rfl, FE.out⟩
  have C2 := Lib.hid (CI.out w1 G hb K)
  clear hb K G C CI
  go_wp2_with fail
  refine C2.out.mono ?_
  rintro e w2 ⟨G, (⟨hb, v, rfl, O, K⟩ | ⟨hb, rfl⟩)⟩
  · have FE : Hid (GotP w B (fun w' v => Rk.OwnK 3 1 w.heap.size w' v (cellsI XS)) RF (.returned v) w2) := ⟨G, .inl ⟨hb, v, rfl, O, K⟩⟩
    clear G hb O K C2
    go_wp2_with fail
    go_ret
    exact FE.out
  · have FE : Hid (GotP w B (fun w' v => Rk.OwnK 3 1 w.heap.size w' v (cellsI XS)) RF (.panicked [{ v := unr, recovered := false }]) w2) := ⟨G, .inr ⟨hb, rfl⟩⟩
    clear G hb C2
    go_wp2_with fail
    exact ⟨rfl, FE.out⟩
end Go.Proofs.YtccaiippoephbaaGreatDoor.Wds
/- Words: the program's reader: a run, an entry. -/
set_option linter.unusedVariables false
set_option linter.unusedSimpArgs false
set_option maxRecDepth 100000
namespace Go.Proofs.YtccaiippoephbaaGreatDoor.Wds
open Go.RowKit Go.Lib Go.Proofs.YtccaiippoephbaaGreatDoor.Bx Go.Proofs.YtccaiippoephbaaGreatDoor.Frm

theorem many_stuck {α : Type} {f : Rd → α × Rd} {k : Nat} {r : Rd} (h : r.bad = true) : (manyR f k r).2.bad = true := by rw [many_bad h]; exact h
theorem many_rest {α : Type} {f : Rd → α × Rd} (hf : ∀ r, (f r).2.s.length ≤ r.s.length) : ∀ (k : Nat) (r : Rd), (manyR f k r).2.s.length ≤ r.s.length
  | 0, r => Nat.le_refl _
  | k + 1, r => by
    cases hr : r.bad with
    | true => rw [many_bad hr]; exact Nat.le_refl _
    | false => rw [many_next hr]; exact Nat.le_trans (many_rest hf k _) (hf r)
theorem rowR_stuck {α : Type} {f : Rd → α × Rd} (r : Rd) (h : r.bad = true) : (rowR f r).2.bad = true := many_stuck (lenR_stuck r h)
theorem rowR_le {α : Type} {f : Rd → α × Rd} (hf : ∀ r, (f r).2.s.length ≤ r.s.length) (r : Rd) : (rowR f r).2.s.length ≤ r.s.length := Nat.le_trans (many_rest hf _ _) (lenR_le r)
theorem runR_le (r : Rd) : (runR r).2.s.length ≤ r.s.length := Nat.le_trans (textR_le _) (Nat.le_trans (flagR_le _) (Nat.le_trans (numR_le _) (numR_le r)))
theorem entR_le (r : Rd) : (entR r).2.s.length ≤ r.s.length := Nat.le_trans (rowR_le numR_le _) (Nat.le_trans (rowR_le numR_le _) (Nat.le_trans (numR_le _) (Nat.le_trans (numR_le _) (numR_le r))))
theorem infoRn : (Tryz.prog.info? 138).map (fun i => (i.zero, i.size, i.bytes)) = some (some (.agg #[.int .i64 0, .int .i64 0, .bool false, .string (ByteArray.mk #[])]), 4, 40) := by kernel_rfl
theorem runC_one (z : Run) : ∀ y ∈ [runC z], ∀ q ∈ y, q.oneCell' = true := fun y hy q hq => by
  simp only [List.mem_singleton] at hy
  subst hy
  unfold runC at hq
  simp at hq
  rcases hq with rfl | rfl | rfl | rfl <;> rfl
theorem oen_kept {P : Nat → Prop} {base B : Nat} {w w' : World} {v : Value} {A : List Aud.En} (h : Aud.OEn P base w v A) (hg : w.grownBy w' (some B)) (hP : ∀ b, P b → b ≠ B) (hv : v.ownBlock ≠ some B) : Aud.OEn P base w' v A := by
  obtain ⟨p, h1, h2, h3⟩ := h
  exact ⟨p, h1, h2.kept hg (.inr hv), fun x hx => (h3 x hx).kept hg (fun b hb => by simpa using hP b hb.1) (fun b _ h => h)⟩
/-- Numbers of the call's own, as they are read. -/
theorem ints_own {base : Nat} {w : World} {v : Value} {xs : List Int} (h : Rk.OwnK 3 1 base w v (cellsI xs)) (hx : ∀ x ∈ xs, n64 x) : Aud.IntsP (fun b => base ≤ b) w v xs := by
  have hb := h.block
  obtain ⟨_, a, cap, e, h1, h2, h3⟩ := h.row
  rw [cellsI_len] at e h1
  subst e
  rcases h3 with h3 | ⟨b, off, rfl, hlt, hc⟩
  · have : xs = [] := List.eq_nil_of_length_eq_zero (by rw [← cellsI_len, h3]; rfl)
    subst this
    exact ⟨⟨by simp, a, cap, rfl, h1, h2, .inl rfl⟩, .inl rfl⟩
  · refine ⟨⟨hx, _, cap, rfl, h1, h2, .inr ⟨b, off, rfl, hlt, fun j hj => ?_⟩⟩, ?_⟩
    · have := hc j (by rw [cellsI_len]; exact hj) 0
      unfold cellsI at this
      simp only [List.getElem_map, Nat.mul_one, Nat.add_zero] at this
      rw [this _ rfl]
      unfold Rt.at_
      rw [List.getD_eq_getElem?_getD, List.getElem?_eq_getElem hj]
      rfl
    · rcases Nat.eq_zero_or_pos xs.length with h0 | h0
      · exact .inl (List.eq_nil_of_length_eq_zero h0)
      · exact .inr ⟨b, off, _, cap, rfl, (hb b rfl).1⟩
set_option maxHeartbeats 4000000 in
theorem prun0_rd {B : Nat} {w : World} (r0 r1 r2 r3 r4 : Rd) (x1 x2 : Int) (x3 : Bool) (x4 : List UInt8) (e1 : numR r0 = (x1, r1)) (e2 : numR r1 = (x2, r2)) (e3 : flagR r2 = (x3, r3)) (e4 : textR r3 = (x4, r4)) (hb : r0.bad = false) (hl : r0.s.length ≤ 9223372036854775807) (h : At1 w B r0.s) : Calls Tryz.prog 136 #[.pointer (some ⟨B, 0, none⟩)] w (Got w B (.agg #[.int .i64 x1, .int .i64 x2, .bool x3, .string (mkB x4)]) r4) := by
  obtain ⟨B0, P0, L0⟩ := box1 w #[.int .i64 0, .int .i64 0, .bool false, .string (ByteArray.mk #[])] 138
  obtain ⟨W0, hW0⟩ : ∃ W0, W0 = w.alloc (.cells #[.int .i64 0, .int .i64 0, .bool false, .string (ByteArray.mk #[])] 138) := ⟨_, rfl⟩
  rw [← hW0] at B0 P0 L0
  obtain ⟨R, hR⟩ : ∃ R, R = w.heap.size := ⟨_, rfl⟩
  rw [← hR] at P0 L0
  have hRB : R ≠ B := by have := h.cell.2.1; omega
  have HW0 := Lib.hid hW0
  have HR := Lib.hid hR
  have HRB := Lib.hid hRB
  have l1 := num_le e1 hl
  have l2 := num_le e2 l1
  have l3 := flag_le e3 l2
  have S4 : Hid (r4.bad = true → r4.bad = true) := fun h => h
  have S3 : Hid (r3.bad = true → r4.bad = true) := fun h => text_stuck e4 h
  have S2 : Hid (r2.bad = true → r4.bad = true) := fun h => S3.out (flag_stuck e3 h)
  have S1 : Hid (r1.bad = true → r4.bad = true) := fun h => S2.out (num_stuck e2 h)
  have C1 : Hid (∀ w', r0.bad = false → At1 w' B r0.s → Calls Tryz.prog 134 #[.pointer (some ⟨B, 0, none⟩)] w' (Got w' B (.int .i64 x1) r1)) := fun w' hb k => num_step e1 hb hl k
  have C2 : Hid (∀ w', r1.bad = false → At1 w' B r1.s → Calls Tryz.prog 134 #[.pointer (some ⟨B, 0, none⟩)] w' (Got w' B (.int .i64 x2) r2)) := fun w' hb k => num_step e2 hb l1 k
  have C3 : Hid (∀ w', r2.bad = false → At1 w' B r2.s → Calls Tryz.prog 155 #[.pointer (some ⟨B, 0, none⟩)] w' (Got w' B (.bool x3) r3)) := fun w' hb k => flag_step e3 hb l2 k
  have C4 : Hid (∀ w', r3.bad = false → At1 w' B r3.s → Calls Tryz.prog 133 #[.pointer (some ⟨B, 0, none⟩)] w' (Got w' B (.string (mkB x4)) r4)) := fun w' hb k => text_step e4 hb l3 k
  have Q0 : Hid (r0.bad = false ∧ At1 W0 B r0.s ∧ W0.grownBy W0 (some B)) := ⟨hb, h.below B0, grown_refl _ _⟩
  have HG : Hid (∀ w', W0.grownBy w' (some B) → w.grownBy w' (some B) ∧ w'.heap[R]? = some (.cells #[.int .i64 0, .int .i64 0, .bool false, .string (ByteArray.mk #[])] 138 (0, 0))) := fun w' g => ⟨grown_trans (grown_of _ _ B0 _) g, (g.block R (by omega) (by simpa using hRB)).trans P0⟩
  generalize mkB x4 = y at *
  clear hb h hl hR hW0 B0 P0 L0 l1 l2 l3 e1 e2 e3 e4 hRB
  go_enter Tryz.func136, Tryz.ntmps136
  go_upto_region 1 with fail
  rw [← HW0.out, ← HR.out]
  refine region_pure [0, 1, 2, 4, 5, 6, 8, 9, 10, 12, 13, 14] [3, 7, 11, 15, 16, 17] (by kernel_rfl) (by kernel_rfl) (fun d _ _ _ _ h => by cases d <;> exact h) (fun wd hwd => ?_)
  simp only [List.filterMap_cons, List.filterMap_nil, List.getElem?_cons_zero, List.getElem?_cons_succ]
  have QD := Lib.hid (And.intro Q0.out.1 (And.intro (at1_drew Q0.out.2.1 hwd.out) (grown_drew1 Q0.out.2.2 hwd.out)))
  clear Q0 hwd
  repeat (refine Zo.wpPure_step (fun K hK => ?_); go_simp; refine hK _ ?_; clear hK K)
  refine Zo.wpPure_nil ?_
  have Q0 := Lib.hid QD.out
  clear QD
  go_wp2_with fail
  refine (C1.out _ Q0.out.1 Q0.out.2.1).mono ?_
  rintro e w1 ⟨G, (⟨hb, rfl, K⟩ | ⟨hb, rfl⟩)⟩
  rotate_left
  · have FE : Hid (Got w B (.agg #[.int .i64 x1, .int .i64 x2, .bool x3, .string y]) r4 (.panicked [{ v := unr, recovered := false }]) w1) := ⟨(HG.out _ (grown_trans Q0.out.2.2 G)).1, .inr ⟨S1.out hb, rfl⟩⟩
    clear G hb
    go_wp2_with fail
    exact ⟨rfl, FE.out⟩
  have Q1 : Hid (r1.bad = false ∧ At1 w1 B r1.s ∧ W0.grownBy w1 (some B)) := ⟨hb, K, grown_trans Q0.out.2.2 G⟩
  clear G hb K C1 Q0
  go_wp2_with fail
  refine (C2.out _ Q1.out.1 Q1.out.2.1).mono ?_
  rintro e w2 ⟨G, (⟨hb, rfl, K⟩ | ⟨hb, rfl⟩)⟩
  rotate_left
  · have FE : Hid (Got w B (.agg #[.int .i64 x1, .int .i64 x2, .bool x3, .string y]) r4 (.panicked [{ v := unr, recovered := false }]) w2) := ⟨(HG.out _ (grown_trans Q1.out.2.2 G)).1, .inr ⟨S2.out hb, rfl⟩⟩
    clear G hb
    go_wp2_with fail
    exact ⟨rfl, FE.out⟩
  have Q2 : Hid (r2.bad = false ∧ At1 w2 B r2.s ∧ W0.grownBy w2 (some B)) := ⟨hb, K, grown_trans Q1.out.2.2 G⟩
  clear G hb K C2 Q1
  go_wp2_with fail
  refine (C3.out _ Q2.out.1 Q2.out.2.1).mono ?_
  rintro e w3 ⟨G, (⟨hb, rfl, K⟩ | ⟨hb, rfl⟩)⟩
  rotate_left
  · have FE : Hid (Got w B (.agg #[.int .i64 x1, .int .i64 x2, .bool x3, .string y]) r4 (.panicked [{ v := unr, recovered := false }]) w3) := ⟨(HG.out _ (grown_trans Q2.out.2.2 G)).1, .inr ⟨S3.out hb, rfl⟩⟩
    clear G hb
    go_wp2_with fail
    exact ⟨rfl, FE.out⟩
  have Q3 : Hid (r3.bad = false ∧ At1 w3 B r3.s ∧ W0.grownBy w3 (some B)) := ⟨hb, K, grown_trans Q2.out.2.2 G⟩
  clear G hb K C3 Q2
  go_wp2_with fail
  refine (C4.out _ Q3.out.1 Q3.out.2.1).mono ?_
  rintro e w4 ⟨G, (⟨hb, rfl, K⟩ | ⟨hb, rfl⟩)⟩
  rotate_left
  · have FE : Hid (Got w B (.agg #[.int .i64 x1, .int .i64 x2, .bool x3, .string y]) r4 (.panicked [{ v := unr, recovered := false }]) w4) := ⟨(HG.out _ (grown_trans Q3.out.2.2 G)).1, .inr ⟨S4.out hb, rfl⟩⟩
    clear G hb
    go_wp2_with fail
    exact ⟨rfl, FE.out⟩
  obtain ⟨g4, z4⟩ := HG.out _ (grown_trans Q3.out.2.2 G)
  obtain ⟨c0, c1, c2, c3⟩ := four_cells z4
  have fr0 := free_at (i := 0) z4
  have fr1 := free_at (i := 1) z4
  have fr2 := free_at (i := 2) z4
  have fr3 := free_at (i := 3) z4
  obtain ⟨WN, hWN⟩ : ∃ WN, WN = (((w4.setCell ⟨R, 0, none⟩ (.int .i64 x1)).setCell ⟨R, 1, none⟩ (.int .i64 x2)).setCell ⟨R, 2, none⟩ (.bool x3)).setCell ⟨R, 3, none⟩ (.string y) := ⟨_, rfl⟩
  have FE : Hid (Got w B (.agg #[.int .i64 x1, .int .i64 x2, .bool x3, .string y]) r4 (.returned (.agg #[.int .i64 x1, .int .i64 x2, .bool x3, .string y])) WN) := by
    rw [hWN]
    have hRs : w.heap.size ≤ R := by rw [← HR.out]; exact Nat.le_refl _
    exact ⟨grown_new (grown_new (grown_new (grown_new g4 hRs _) hRs _) hRs _) hRs _, .inl ⟨hb, rfl, at1_other (at1_other (at1_other (at1_other K HRB.out) HRB.out) HRB.out) HRB.out⟩⟩
  have zz : WN.heap[R]? = some (.cells #[.int .i64 x1, .int .i64 x2, .bool x3, .string y] 138 (0, 0)) := by
    rw [hWN]
    exact set_block (set_block (set_block (set_block z4)))
  obtain ⟨y0, y1, y2, y3⟩ := four_cells zz
  have HWN := Lib.hid hWN
  clear hWN zz z4 g4 G hb K C4 Q3
  go_wp2_with fail
  rw [← HWN.out]
  exact bodyPost_ret (v := (.agg #[.int .i64 x1, .int .i64 x2, .bool x3, .string y])) (by simp [results, Tryz.results136, go_sem, y0, y1, y2, y3, Tryz.isAgg138, Tryz.sizeOf138]) rfl FE.out
theorem prun_rd {B : Nat} {w : World} (r : Rd) {x : Run} {r' : Rd} (hx : runR r = (x, r')) (hb : r.bad = false) (hl : r.s.length ≤ 9223372036854775807) (h : At1 w B r.s) : Calls Tryz.prog 136 #[.pointer (some ⟨B, 0, none⟩)] w (Got w B (.agg #[.int .i64 x.i, .int .i64 x.l, .bool x.o, .string (mkB x.t)]) r') := by
  have c := prun0_rd (w := w) r _ _ _ _ _ _ _ _ rfl rfl rfl rfl hb hl h
  have h1 := congrArg Prod.fst hx
  have h2 := congrArg Prod.snd hx
  simp only at h1 h2
  rw [← h1, ← h2]
  exact c
theorem list_step {B : Nat} {r : Rd} {x : List Int} {r' : Rd} {w : World} (hx : rowR numR r = (x, r')) (hb : r.bad = false) (hl : r.s.length ≤ 9223372036854775807) (k : At1 w B r.s) : Calls Tryz.prog 157 #[.pointer (some ⟨B, 0, none⟩), .func (.func 134) #[.pointer (some ⟨B, 0, none⟩)] #[]] w (GotP w B (fun w' v => Rk.OwnK 3 1 w.heap.size w' v (cellsI x)) r') := by
  have h := plist_rd k hl
  rw [← rd_eta hb, hx] at h
  exact h
theorem list_le {r : Rd} {x : List Int} {r' : Rd} {n : Nat} (hx : rowR numR r = (x, r')) (hl : r.s.length ≤ n) : r'.s.length ≤ n := by have := rowR_le numR_le r; rw [hx] at this; exact Nat.le_trans this hl
theorem list_stuck {r : Rd} {x : List Int} {r' : Rd} (hx : rowR numR r = (x, r')) (h : r.bad = true) : r'.bad = true := by have := rowR_stuck (f := numR) r h; rw [hx] at this; exact this
theorem oen_base {b b' : Nat} {w : World} {v : Value} {X : List Ent} (h : Aud.OEn (fun k => b ≤ k) b w v X) (hb : b' ≤ b) : Aud.OEn (fun k => b' ≤ k) b' w v X := by
  obtain ⟨p, h1, h2, h3⟩ := h
  exact ⟨p, h1, own_base h2 hb, fun x hx => (h3 x hx).mono fun k _ hk => ⟨Nat.le_trans hb hk.1, hk.2⟩⟩
set_option maxHeartbeats 4000000 in
theorem pent0_rd {B : Nat} {w : World} (r0 r1 r2 r3 r4 r5 : Rd) (x1 x2 x3 : Int) (x4 x5 : List Int) (e1 : numR r0 = (x1, r1)) (e2 : numR r1 = (x2, r2)) (e3 : numR r2 = (x3, r3)) (e4 : rowR numR r3 = (x4, r4)) (e5 : rowR numR r4 = (x5, r5)) (hn : (n64 x1 ∧ n64 x2 ∧ n64 x3) ∧ (∀ x ∈ x4, n64 x) ∧ ∀ x ∈ x5, n64 x) (hb : r0.bad = false) (hl : r0.s.length ≤ 9223372036854775807) (h : At1 w B r0.s) : Calls Tryz.prog 138 #[.pointer (some ⟨B, 0, none⟩)] w (GotP w B (fun w' v => ∃ sv lv, v = .agg #[.int .i64 x1, .int .i64 x2, .int .i64 x3, sv, lv] ∧ Aud.EnP (fun b => w.heap.size ≤ b) w' [.int .i64 x1, .int .i64 x2, .int .i64 x3, sv, lv] ⟨x1, x2, x3, x4, x5⟩) r5) := by
  obtain ⟨B0, P0, L0⟩ := box1 w #[.int .i64 0, .int .i64 0, .int .i64 0, .slice none 0 0, .slice none 0 0] 59
  obtain ⟨W0, hW0⟩ : ∃ W0, W0 = w.alloc (.cells #[.int .i64 0, .int .i64 0, .int .i64 0, .slice none 0 0, .slice none 0 0] 59) := ⟨_, rfl⟩
  rw [← hW0] at B0 P0 L0
  obtain ⟨R, hR⟩ : ∃ R, R = w.heap.size := ⟨_, rfl⟩
  rw [← hR] at P0 L0
  have hRB : R ≠ B := by have := h.cell.2.1; omega
  have HW0 := Lib.hid hW0
  have HR := Lib.hid hR
  have HRB := Lib.hid hRB
  have HBB : Hid (B < w.heap.size ∧ W0.heap.size = R + 1) := ⟨h.cell.2.1, L0⟩
  have HN := Lib.hid hn
  have hmf : ∀ (fn : Fn) (first cap : Array Value) (w : World), (Instr.makeFunc fn first cap).run Tryz.prog w = .ok (.func fn first cap) w := fun _ _ _ _ => rfl
  have l1 := num_le e1 hl
  have l2 := num_le e2 l1
  have l3 := num_le e3 l2
  have l4 := list_le e4 l3
  have S5 : Hid (r5.bad = true → r5.bad = true) := fun h => h
  have S4 : Hid (r4.bad = true → r5.bad = true) := fun h => list_stuck e5 h
  have S3 : Hid (r3.bad = true → r5.bad = true) := fun h => S4.out (list_stuck e4 h)
  have S2 : Hid (r2.bad = true → r5.bad = true) := fun h => S3.out (num_stuck e3 h)
  have S1 : Hid (r1.bad = true → r5.bad = true) := fun h => S2.out (num_stuck e2 h)
  have C1 : Hid (∀ w', r0.bad = false → At1 w' B r0.s → Calls Tryz.prog 134 #[.pointer (some ⟨B, 0, none⟩)] w' (Got w' B (.int .i64 x1) r1)) := fun w' hb k => num_step e1 hb hl k
  have C2 : Hid (∀ w', r1.bad = false → At1 w' B r1.s → Calls Tryz.prog 134 #[.pointer (some ⟨B, 0, none⟩)] w' (Got w' B (.int .i64 x2) r2)) := fun w' hb k => num_step e2 hb l1 k
  have C3 : Hid (∀ w', r2.bad = false → At1 w' B r2.s → Calls Tryz.prog 134 #[.pointer (some ⟨B, 0, none⟩)] w' (Got w' B (.int .i64 x3) r3)) := fun w' hb k => num_step e3 hb l2 k
  have C4 : Hid (∀ w', r3.bad = false → At1 w' B r3.s → Calls Tryz.prog 157 #[.pointer (some ⟨B, 0, none⟩), .func (.func 134) #[.pointer (some ⟨B, 0, none⟩)] #[]] w' (GotP w' B (fun w'' v => Rk.OwnK 3 1 w'.heap.size w'' v (cellsI x4)) r4)) := fun w' hb k => list_step e4 hb l3 k
  have C5 : Hid (∀ w', r4.bad = false → At1 w' B r4.s → Calls Tryz.prog 157 #[.pointer (some ⟨B, 0, none⟩), .func (.func 134) #[.pointer (some ⟨B, 0, none⟩)] #[]] w' (GotP w' B (fun w'' v => Rk.OwnK 3 1 w'.heap.size w'' v (cellsI x5)) r5)) := fun w' hb k => list_step e5 hb l4 k
  have Q0 : Hid (r0.bad = false ∧ At1 W0 B r0.s ∧ W0.grownBy W0 (some B)) := ⟨hb, h.below B0, grown_refl _ _⟩
  have HG : Hid (∀ w', W0.grownBy w' (some B) → w.grownBy w' (some B) ∧ w'.heap[R]? = some (.cells #[.int .i64 0, .int .i64 0, .int .i64 0, .slice none 0 0, .slice none 0 0] 59 (0, 0))) := fun w' g => ⟨grown_trans (grown_of _ _ B0 _) g, (g.block R (by omega) (by simpa using hRB)).trans P0⟩
  clear hb h hl hR hW0 B0 P0 L0 l1 l2 l3 l4 e1 e2 e3 e4 e5 hRB hn
  go_enter Tryz.func138, Tryz.ntmps138
  go_upto_region 1 with fail
  rw [← HW0.out, ← HR.out]
  refine region_pure [0, 1, 2, 4, 5, 6, 8, 9, 10, 12, 13, 14, 15, 16, 18, 19, 20, 21, 22] [3, 7, 11, 17, 23, 24, 25] (by kernel_rfl) (by kernel_rfl) (fun d _ _ _ _ h => by cases d <;> exact h) (fun wd hwd => ?_)
  simp only [List.filterMap_cons, List.filterMap_nil, List.getElem?_cons_zero, List.getElem?_cons_succ]
  have QD := Lib.hid (And.intro Q0.out.1 (And.intro (at1_drew Q0.out.2.1 hwd.out) (grown_drew1 Q0.out.2.2 hwd.out)))
  clear Q0 hwd
  repeat (refine Zo.wpPure_step (fun K hK => ?_); go_simp; refine hK _ ?_; clear hK K)
  refine Zo.wpPure_nil ?_
  have Q0 := Lib.hid QD.out
  clear QD
  go_wp2_with fail
  refine (C1.out _ Q0.out.1 Q0.out.2.1).mono ?_
  rintro e w1 ⟨G, (⟨hb, rfl, K⟩ | ⟨hb, rfl⟩)⟩
  rotate_left
  · have FE : Hid (GotP w B (fun w' v => ∃ sv lv, v = .agg #[.int .i64 x1, .int .i64 x2, .int .i64 x3, sv, lv] ∧ Aud.EnP (fun b => w.heap.size ≤ b) w' [.int .i64 x1, .int .i64 x2, .int .i64 x3, sv, lv] ⟨x1, x2, x3, x4, x5⟩) r5 (.panicked [{ v := unr, recovered := false }]) w1) := ⟨(HG.out _ (grown_trans Q0.out.2.2 G)).1, .inr ⟨S1.out hb, rfl⟩⟩
    clear G hb
    go_wp2_with fail
    exact ⟨rfl, FE.out⟩
  have Q1 : Hid (r1.bad = false ∧ At1 w1 B r1.s ∧ W0.grownBy w1 (some B)) := ⟨hb, K, grown_trans Q0.out.2.2 G⟩
  clear G hb K C1 Q0
  go_wp2_with fail
  refine (C2.out _ Q1.out.1 Q1.out.2.1).mono ?_
  rintro e w2 ⟨G, (⟨hb, rfl, K⟩ | ⟨hb, rfl⟩)⟩
  rotate_left
  · have FE : Hid (GotP w B (fun w' v => ∃ sv lv, v = .agg #[.int .i64 x1, .int .i64 x2, .int .i64 x3, sv, lv] ∧ Aud.EnP (fun b => w.heap.size ≤ b) w' [.int .i64 x1, .int .i64 x2, .int .i64 x3, sv, lv] ⟨x1, x2, x3, x4, x5⟩) r5 (.panicked [{ v := unr, recovered := false }]) w2) := ⟨(HG.out _ (grown_trans Q1.out.2.2 G)).1, .inr ⟨S2.out hb, rfl⟩⟩
    clear G hb
    go_wp2_with fail
    exact ⟨rfl, FE.out⟩
  have Q2 : Hid (r2.bad = false ∧ At1 w2 B r2.s ∧ W0.grownBy w2 (some B)) := ⟨hb, K, grown_trans Q1.out.2.2 G⟩
  clear G hb K C2 Q1
  go_wp2_with fail
  refine (C3.out _ Q2.out.1 Q2.out.2.1).mono ?_
  rintro e w3 ⟨G, (⟨hb, rfl, K⟩ | ⟨hb, rfl⟩)⟩
  rotate_left
  · have FE : Hid (GotP w B (fun w' v => ∃ sv lv, v = .agg #[.int .i64 x1, .int .i64 x2, .int .i64 x3, sv, lv] ∧ Aud.EnP (fun b => w.heap.size ≤ b) w' [.int .i64 x1, .int .i64 x2, .int .i64 x3, sv, lv] ⟨x1, x2, x3, x4, x5⟩) r5 (.panicked [{ v := unr, recovered := false }]) w3) := ⟨(HG.out _ (grown_trans Q2.out.2.2 G)).1, .inr ⟨S3.out hb, rfl⟩⟩
    clear G hb
    go_wp2_with fail
    exact ⟨rfl, FE.out⟩
  have Q3 : Hid (r3.bad = false ∧ At1 w3 B r3.s ∧ W0.grownBy w3 (some B)) := ⟨hb, K, grown_trans Q2.out.2.2 G⟩
  clear G hb K C3 Q2
  go_wp2_with fail
  refine (C4.out _ Q3.out.1 Q3.out.2.1).mono ?_
  rintro e w4 ⟨G, (⟨hb, u4, rfl, O4, K⟩ | ⟨hb, rfl⟩)⟩
  rotate_left
  · have FE : Hid (GotP w B (fun w' v => ∃ sv lv, v = .agg #[.int .i64 x1, .int .i64 x2, .int .i64 x3, sv, lv] ∧ Aud.EnP (fun b => w.heap.size ≤ b) w' [.int .i64 x1, .int .i64 x2, .int .i64 x3, sv, lv] ⟨x1, x2, x3, x4, x5⟩) r5 (.panicked [{ v := unr, recovered := false }]) w4) := ⟨(HG.out _ (grown_trans Q3.out.2.2 G)).1, .inr ⟨S4.out hb, rfl⟩⟩
    clear G hb
    go_wp2_with fail
    exact ⟨rfl, FE.out⟩
  have HO4 : Hid (Rk.OwnK 3 1 (R + 1) w4 u4 (cellsI x4)) := own_base O4 (by have := Q3.out.2.2.size; have := HBB.out.2; omega)
  obtain ⟨a4, d4, rfl⟩ := O4.is_slice
  clear O4
  have Q4 : Hid (r4.bad = false ∧ At1 w4 B r4.s ∧ W0.grownBy w4 (some B)) := ⟨hb, K, grown_trans Q3.out.2.2 G⟩
  clear G hb K C4 Q3
  go_wp2_with fail
  refine (C5.out _ Q4.out.1 Q4.out.2.1).mono ?_
  rintro e w5 ⟨G, (⟨hb, u5, rfl, O5, K⟩ | ⟨hb, rfl⟩)⟩
  rotate_left
  · have FE : Hid (GotP w B (fun w' v => ∃ sv lv, v = .agg #[.int .i64 x1, .int .i64 x2, .int .i64 x3, sv, lv] ∧ Aud.EnP (fun b => w.heap.size ≤ b) w' [.int .i64 x1, .int .i64 x2, .int .i64 x3, sv, lv] ⟨x1, x2, x3, x4, x5⟩) r5 (.panicked [{ v := unr, recovered := false }]) w5) := ⟨(HG.out _ (grown_trans Q4.out.2.2 G)).1, .inr ⟨S5.out hb, rfl⟩⟩
    clear G hb
    go_wp2_with fail
    exact ⟨rfl, FE.out⟩
  have HO5 : Hid (Rk.OwnK 3 1 (R + 1) w5 u5 (cellsI x5)) := own_base O5 (by have := Q4.out.2.2.size; have := HBB.out.2; omega)
  have HO4' : Hid (Rk.OwnK 3 1 (R + 1) w5 (.slice a4 (cellsI x4).length d4) (cellsI x4)) := HO4.out.kept G (.inr (HO4.out.low (by have := HBB.out.1; have := HR.out; omega)))
  obtain ⟨a5, d5, rfl⟩ := O5.is_slice
  clear O5
  obtain ⟨k4, hk4⟩ : ∃ k4, k4 = (cellsI x4).length := ⟨_, rfl⟩
  obtain ⟨k5, hk5⟩ : ∃ k5, k5 = (cellsI x5).length := ⟨_, rfl⟩
  rw [← hk5] at HO5 ⊢
  rw [← hk4] at HO4' ⊢
  obtain ⟨g4, z4⟩ := HG.out _ (grown_trans Q4.out.2.2 G)
  obtain ⟨c0, c1, c2, c3, c4⟩ := five_cells z4
  have fr0 := free_at (i := 0) z4
  have fr1 := free_at (i := 1) z4
  have fr2 := free_at (i := 2) z4
  have fr3 := free_at (i := 3) z4
  have fr4 := free_at (i := 4) z4
  obtain ⟨WN, hWN⟩ : ∃ WN, WN = ((((w5.setCell ⟨R, 0, none⟩ (.int .i64 x1)).setCell ⟨R, 1, none⟩ (.int .i64 x2)).setCell ⟨R, 2, none⟩ (.int .i64 x3)).setCell ⟨R, 3, none⟩ (.slice a4 k4 d4)).setCell ⟨R, 4, none⟩ (.slice a5 k5 d5) := ⟨_, rfl⟩
  have gN : w5.grownBy WN (some R) := by
    rw [hWN]
    exact grown_put (grown_put (grown_put (grown_put (grown_put (grown_refl _ _)))))
  have FE : Hid (GotP w B (fun w' v => ∃ sv lv, v = .agg #[.int .i64 x1, .int .i64 x2, .int .i64 x3, sv, lv] ∧ Aud.EnP (fun b => w.heap.size ≤ b) w' [.int .i64 x1, .int .i64 x2, .int .i64 x3, sv, lv] ⟨x1, x2, x3, x4, x5⟩) r5 (.returned (.agg #[.int .i64 x1, .int .i64 x2, .int .i64 x3, .slice a4 k4 d4, .slice a5 k5 d5])) WN) := by
    have hRs : w.heap.size ≤ R := by rw [← HR.out]; exact Nat.le_refl _
    have i4 := ints_own (HO4'.out.kept gN (.inr (HO4'.out.low (Nat.lt_succ_self R)))) HN.out.2.1
    have i5 := ints_own (HO5.out.kept gN (.inr (HO5.out.low (Nat.lt_succ_self R)))) HN.out.2.2
    refine ⟨by rw [hWN]; exact grown_new (grown_new (grown_new (grown_new (grown_new g4 hRs _) hRs _) hRs _) hRs _) hRs _, .inl ⟨hb, _, rfl, ⟨_, _, rfl, _, _, rfl, HN.out.1, i4.mono fun b _ hb => by omega, i5.mono fun b _ hb => by omega⟩, by rw [hWN]; exact at1_other (at1_other (at1_other (at1_other (at1_other K HRB.out) HRB.out) HRB.out) HRB.out) HRB.out⟩⟩
  have zz : WN.heap[R]? = some (.cells #[.int .i64 x1, .int .i64 x2, .int .i64 x3, .slice a4 k4 d4, .slice a5 k5 d5] 59 (0, 0)) := by
    rw [hWN]
    exact set_block (set_block (set_block (set_block (set_block z4))))
  obtain ⟨y0, y1, y2, y3, y4⟩ := five_cells zz
  have HWN := Lib.hid hWN
  clear hWN zz z4 g4 G hb K C5 Q4 gN hk4 hk5 HO4 HO4' HO5
  go_wp2_with fail
  rw [← HWN.out]
  exact bodyPost_ret (v := .agg #[.int .i64 x1, .int .i64 x2, .int .i64 x3, .slice a4 k4 d4, .slice a5 k5 d5]) (by simp [results, Tryz.results138, go_sem, y0, y1, y2, y3, y4, Tryz.isAgg59, Tryz.sizeOf59]) rfl FE.out
theorem pent_rd {B : Nat} {w : World} (r : Rd) {x : Ent} {r' : Rd} (hx : entR r = (x, r')) (hb : r.bad = false) (hl : r.s.length ≤ 9223372036854775807) (h : At1 w B r.s) : Calls Tryz.prog 138 #[.pointer (some ⟨B, 0, none⟩)] w (GotP w B (fun w' v => ∃ sv lv, v = .agg #[.int .i64 x.u, .int .i64 x.o, .int .i64 x.s, sv, lv] ∧ Aud.EnP (fun b => w.heap.size ≤ b) w' [.int .i64 x.u, .int .i64 x.o, .int .i64 x.s, sv, lv] x) r') := by
  have ho := ent_ok r
  have h1 := congrArg Prod.fst hx
  have h2 := congrArg Prod.snd hx
  have c := pent0_rd (w := w) r _ _ _ _ _ _ _ _ _ _ rfl rfl rfl rfl rfl ⟨⟨ho.1, ho.2.1, ho.2.2.1⟩, ho.2.2.2.2.2.1, ho.2.2.2.2.2.2⟩ hb hl h
  simp only at h1 h2
  rw [← h1, ← h2]
  exact c
end Go.Proofs.YtccaiippoephbaaGreatDoor.Wds
/- Words: the program's reader: runs, entries. -/
set_option linter.unusedVariables false
set_option linter.unusedSimpArgs false
set_option maxRecDepth 100000
namespace Go.Proofs.YtccaiippoephbaaGreatDoor.Wds
open Go.RowKit Go.Lib Go.Proofs.YtccaiippoephbaaGreatDoor.Bx Go.Proofs.YtccaiippoephbaaGreatDoor.Frm

set_option maxHeartbeats 8000000 in
theorem pruns_rd0 {B : Nat} {w : World} (r0 : Rd) (n : Nat) (n256 : n < 65536) (hb : r0.bad = false) (hl : r0.s.length ≤ 9223372036854775807) (h : At1 w B r0.s) : Calls Tryz.prog 154 #[.int .i64 (n : Nat), .func (.func 136) #[.pointer (some ⟨B, 0, none⟩)] #[]] w (GotP w B (fun w' v => Rk.OwnK 138 4 w.heap.size w' v (((manyR runR n r0).1).map runC)) (manyR runR n r0).2) := by
  have HBW : Hid (B < w.heap.size) := h.cell.2.1
  obtain ⟨XS, hXS⟩ : ∃ XS, XS = (manyR runR n r0).1 := ⟨_, rfl⟩
  obtain ⟨RF, hRF⟩ : ∃ RF, RF = (manyR runR n r0).2 := ⟨_, rfl⟩
  have HR : Hid (manyR runR n r0 = (XS, RF) ∧ n < 65536) := ⟨by rw [hXS, hRF], n256⟩
  have HLE : Hid (r0.s.length ≤ 9223372036854775807) := hl
  have HK1 : Hid (r0.bad = false ∧ At1 w B r0.s ∧ w.grownBy w (some B)) := ⟨hb, h, grown_refl _ _⟩
  rw [← hXS, ← hRF]
  clear h hl hXS hRF hb
  go_enter Tryz.func154, Tryz.ntmps154
  go_wp2_with fail
  go_loopg [5, 7] n (fun g v_ i_ wr => ∃ (i : Nat) (X : List Run) (rr : Rd), i ≤ n ∧ n - i ≤ g ∧ i_ = .int .i64 i ∧ (∃ a c, v_ = .slice a i c) ∧ X.length = i ∧ Hid (manyR runR n r0 = (X ++ (manyR runR (n - i) rr).1, (manyR runR (n - i) rr).2)) ∧ Hid (Rk.OwnK 138 4 w.heap.size wr v_ ((X).map runC)) ∧ Hid (rr.bad = false ∧ At1 wr B rr.s ∧ w.grownBy wr (some B)) ∧ Hid (rr.s.length ≤ 9223372036854775807))
  case atStart => exact ⟨0, [], r0, by omega, by omega, rfl, ⟨_, _, rfl⟩, rfl, rfl, Rk.OwnK.nil_ _ _ _ _, HK1, HLE⟩
  case round =>
    obtain ⟨i, X, rr, hi, hg, rfl, ⟨oa, oc, rfl⟩, hX, HQ, HO, HK, HLR⟩ := hrel
    by_cases hin : i < n
    · have iw : ((i : Nat) : Int) < (n : Int) := by omega
      have d1 : decide (((i : Nat) : Int) < (n : Int)) = true := decide_eq_true iw
      obtain ⟨z, hz⟩ : ∃ z, z = (runR rr).1 := ⟨_, rfl⟩
      obtain ⟨r2, hr2⟩ : ∃ r2, r2 = (runR rr).2 := ⟨_, rfl⟩
      have HQ2 : Hid (manyR runR n r0 = ((X ++ [z]) ++ (manyR runR (n - (i + 1)) r2).1, (manyR runR (n - (i + 1)) r2).2)) := by
        show _ = _
        rw [HQ.out, show n - i = n - (i + 1) + 1 by omega, many_next HK.out.1, hz, hr2]
        simp
      have HLE2 : Hid (r2.s.length ≤ 9223372036854775807) := by rw [hr2]; exact Nat.le_trans (runR_le _) HLR.out
      have HBAD : Hid (r2.bad = true → RF.bad = true) := fun hb => by
        have h := HQ2.out
        rw [HR.out.1, many_bad hb] at h
        injection h with _ h
        rw [h]
        exact hb
      have HXL : Hid (X.length = i) := hX
      have C2 := Lib.hid (prun_rd (w := wr) rr (x := z) (r' := r2) (by rw [hz, hr2]) HK.out.1 HLR.out HK.out.2.1)
      clear hz hr2 HQ hX
      go_wp2_with fail
      refine C2.out.mono ?_
      rintro e w5 ⟨G5, (⟨hb5, rfl, K5⟩ | ⟨hb5, rfl⟩)⟩
      rotate_left
      · have FE : Hid (GotP w B (fun w' v => Rk.OwnK 138 4 w.heap.size w' v ((XS).map runC)) RF (.panicked [{ v := unr, recovered := false }]) w5) := ⟨grown_trans HK.out.2.2 G5, .inr ⟨HBAD.out hb5, rfl⟩⟩
        clear G5 hb5 C2
        go_wp2_with fail
        exact ⟨rfl, FE.out⟩
      have HKO : Hid (Rk.OwnK 138 4 w.heap.size w5 (.slice oa i oc) ((X).map runC)) := HO.out.kept G5 (.inr (HO.out.low HBW.out))
      have HG5 : Hid (w.grownBy w5 (some B)) := grown_trans HK.out.2.2 G5
      have HB5 := Lib.hid hb5
      have HK5 := Lib.hid K5
      have A1 : Hid (Rk.OwnK 138 4 w.heap.size (w5.alloc (.cells #[.int .i64 z.i, .int .i64 z.l, .bool z.o, .string (mkB z.t)] 138)) (.slice oa i oc) (X.map runC)) := HKO.out.below (below_al (Below.refl _ _) _)
      have A2 : Hid (Rk.RowK 4 (w5.alloc (.cells #[.int .i64 z.i, .int .i64 z.l, .bool z.o, .string (mkB z.t)] 138)) (.slice (some ⟨w5.heap.size, 0, none⟩) 1 1) ([runC z])) := Rk.row_one (e := 138) (heap_alloc_new _ _) rfl
      have A3 : Hid ((X.map runC).length + ([runC z]).length ≤ 100000) := by show _ ≤ _; rw [List.length_map, HXL.out, List.length_singleton]; have := HR.out.2; omega
      have A4 : Hid (w.heap.size ≤ (w5.alloc (.cells #[.int .i64 z.i, .int .i64 z.l, .bool z.o, .string (mkB z.t)] 138)).heap.size) := Nat.le_trans HG5.out.size (by exact (below_al (Below.refl w5.heap.size w5) _).size)
      have HK6 : Hid (At1 (w5.alloc (.cells #[.int .i64 z.i, .int .i64 z.l, .bool z.o, .string (mkB z.t)] 138)) B r2.s) := K5.below (below_al (Below.refl _ _) _)
      have HG6 : Hid (w.grownBy (w5.alloc (.cells #[.int .i64 z.i, .int .i64 z.l, .bool z.o, .string (mkB z.t)] 138)) (some B)) := grown_below HG5.out (below_al (Below.refl _ _) _)
      clear K5 G5 C2 HKO HK HO HG5 hb5 HK5
      go_wp2_with (at_builtin; refine Rk.wpList_append_rowk rfl _ _ 98 138 4 40 _ Tryz.underlying98 infoRn rfl (by decide) (by decide) rfl w.heap.size _ _ (X.map runC) ([runC z]) rfl rfl A1.out A2.out (runC_one z) A3.out A4.out ?_)
      intro v6 w9 h5 g5 k5
      rw [show X.map runC ++ [runC z] = (X ++ [z]).map runC from by simp] at h5
      have HO9 := Lib.hid h5
      obtain ⟨a6, c6, rfl⟩ := h5.is_slice
      have hl1 : ((X ++ [z]).map runC).length = i + 1 := by rw [List.length_map, List.length_append, HXL.out]; rfl
      have hlow : (Value.slice oa i oc).ownBlock ≠ some B := A1.out.low HBW.out
      have K9 : Hid (r2.bad = false ∧ At1 w9 B r2.s ∧ w.grownBy w9 (some B)) := ⟨HB5.out, (g5.block B HK6.out.cell.2.1 (fun e => hlow e.symm)).trans HK6.out, g5.os.trans HG6.out.os, g5.tape.trans HG6.out.tape, g5.output.trans HG6.out.output, Nat.le_trans HG6.out.size g5.size, fun k hk hne => (g5.block k (Nat.lt_of_lt_of_le hk HG6.out.size) (fun e => A1.out.low hk e.symm)).trans (HG6.out.block k hk hne)⟩
      rw [hl1] at HO9 ⊢
      clear h5 g5 k5 A1 A2 A3 A4 hlow hl1 HK6 HG6
      go_wp2_with fail
      go_roundg (n - (i + 1))
      case measure => omega
      case rel => exact ⟨i + 1, X ++ [z], r2, by omega, Nat.le_refl _, by go_num, ⟨_, _, rfl⟩, by rw [List.length_append, HXL.out]; rfl, HQ2, HO9, K9, HLE2⟩
    · obtain rfl : i = n := by omega
      have iw : ¬ ((i : Int) < (i : Int)) := by omega
      have d1 : decide (((i : Nat) : Int) < (i : Int)) = false := decide_eq_false iw
      have HF : Hid (X = XS ∧ rr = RF) := by
        have h := HQ.out
        rw [HR.out.1, Nat.sub_self] at h
        have h1 := congrArg Prod.fst h
        have h2 := congrArg Prod.snd h
        exact ⟨by simpa [manyR] using h1.symm, h2.symm⟩
      have FE : Hid (GotP w B (fun w' v => Rk.OwnK 138 4 w.heap.size w' v ((XS).map runC)) RF (.returned (.slice oa i oc)) wr) := by
        show GotP _ _ _ _ _ _
        rw [← HF.out.1, ← HF.out.2]
        exact ⟨HK.out.2.2, .inl ⟨HK.out.1, _, rfl, HO.out, HK.out.2.1⟩⟩
      clear HQ HK HO HF
      go_wp2_with fail
      go_ret
      exact FE.out
set_option maxHeartbeats 4000000 in
theorem pruns_rd {l : List UInt8} {B : Nat} {w : World} (h : At1 w B l) (hl : l.length ≤ 9223372036854775807) : Calls Tryz.prog 135 #[.pointer (some ⟨B, 0, none⟩), .func (.func 136) #[.pointer (some ⟨B, 0, none⟩)] #[]] w (GotP w B (fun w' v => Rk.OwnK 138 4 w.heap.size w' v (((rowR runR ⟨l, false⟩).1).map runC)) (rowR runR ⟨l, false⟩).2) := by
  have C := Lib.hid (pbyte_rd h hl)
  obtain ⟨n, hn⟩ : ∃ n, n = (lenR ⟨l, false⟩).1 := ⟨_, rfl⟩
  obtain ⟨r0, hr0⟩ : ∃ r0, r0 = (lenR ⟨l, false⟩).2 := ⟨_, rfl⟩
  obtain ⟨XS, hXS⟩ : ∃ XS, XS = (rowR runR ⟨l, false⟩).1 := ⟨_, rfl⟩
  obtain ⟨RF, hRF⟩ : ∃ RF, RF = (rowR runR ⟨l, false⟩).2 := ⟨_, rfl⟩
  have HR : Hid (manyR runR n r0 = (XS, RF) ∧ n < 256) := ⟨by rw [hn, hr0, hXS, hRF]; rfl, by rw [hn]; exact UInt8.toNat_lt _⟩
  have HLE : Hid (r0.s.length ≤ 9223372036854775807) := by rw [hr0]; exact Nat.le_trans (lenR_le _) hl
  have CI : Hid (∀ w1, w.grownBy w1 (some B) → r0.bad = false → At1 w1 B r0.s → Calls Tryz.prog 154 #[.int .i64 (n : Nat), .func (.func 136) #[.pointer (some ⟨B, 0, none⟩)] #[]] w1 (GotP w B (fun w' v => Rk.OwnK 138 4 w.heap.size w' v ((XS).map runC)) RF)) := fun w1 g hb hk => (pruns_rd0 r0 n (by have := HR.out.2; omega) hb HLE.out hk).mono fun e w2 hh => by
    rw [HR.out.1] at hh
    obtain ⟨G, hh⟩ := hh
    refine ⟨grown_trans g G, hh.imp ?_ id⟩
    rintro ⟨h1, v, h2, h3, h4⟩
    exact ⟨h1, v, h2, own_base h3 g.size, h4⟩
  rw [← hn, ← hr0] at C
  rw [← hXS, ← hRF]
  clear hn hr0 h hl hXS hRF
  go_enter Tryz.func135, Tryz.ntmps135
  go_wp2_with fail
  refine C.out.mono ?_
  rintro e w1 ⟨G, (⟨hb, rfl, K⟩ | ⟨hb, rfl⟩)⟩
  rotate_left
  · have FE : Hid (GotP w B (fun w' v => Rk.OwnK 138 4 w.heap.size w' v ((XS).map runC)) RF (.panicked [{ v := unr, recovered := false }]) w1) := ⟨G, .inr ⟨by have h := HR.out.1; rw [many_bad hb] at h; injection h with _ h; rw [← h]; exact hb, rfl⟩⟩
    clear G hb C
    go_wp2_with fail
    exact ⟨rfl, FE.out⟩
  have C2 := Lib.hid (CI.out w1 G hb K)
  clear hb K G C CI
  go_wp2_with fail
  refine C2.out.mono ?_
  rintro e w2 ⟨G, (⟨hb, v, rfl, O, K⟩ | ⟨hb, rfl⟩)⟩
  · have FE : Hid (GotP w B (fun w' v => Rk.OwnK 138 4 w.heap.size w' v ((XS).map runC)) RF (.returned v) w2) := ⟨G, .inl ⟨hb, v, rfl, O, K⟩⟩
    clear G hb O K C2
    go_wp2_with fail
    go_ret
    exact FE.out
  · have FE : Hid (GotP w B (fun w' v => Rk.OwnK 138 4 w.heap.size w' v ((XS).map runC)) RF (.panicked [{ v := unr, recovered := false }]) w2) := ⟨G, .inr ⟨hb, rfl⟩⟩
    clear G hb C2
    go_wp2_with fail
    exact ⟨rfl, FE.out⟩
set_option maxHeartbeats 8000000 in
theorem pents_rd0 {B : Nat} {w : World} (r0 : Rd) (n : Nat) (n256 : n < 65536) (hb : r0.bad = false) (hl : r0.s.length ≤ 9223372036854775807) (h : At1 w B r0.s) : Calls Tryz.prog 156 #[.int .i64 (n : Nat), .func (.func 138) #[.pointer (some ⟨B, 0, none⟩)] #[]] w (GotP w B (fun w' v => Aud.OEn (fun b => w.heap.size ≤ b) w.heap.size w' v ((manyR entR n r0).1)) (manyR entR n r0).2) := by
  have HBW : Hid (B < w.heap.size) := h.cell.2.1
  obtain ⟨XS, hXS⟩ : ∃ XS, XS = (manyR entR n r0).1 := ⟨_, rfl⟩
  obtain ⟨RF, hRF⟩ : ∃ RF, RF = (manyR entR n r0).2 := ⟨_, rfl⟩
  have HR : Hid (manyR entR n r0 = (XS, RF) ∧ n < 65536) := ⟨by rw [hXS, hRF], n256⟩
  have HLE : Hid (r0.s.length ≤ 9223372036854775807) := hl
  have HK1 : Hid (r0.bad = false ∧ At1 w B r0.s ∧ w.grownBy w (some B)) := ⟨hb, h, grown_refl _ _⟩
  rw [← hXS, ← hRF]
  clear h hl hXS hRF hb
  go_enter Tryz.func156, Tryz.ntmps156
  go_wp2_with fail
  go_loopg [5, 7] n (fun g v_ i_ wr => ∃ (i : Nat) (X : List Ent) (rr : Rd), i ≤ n ∧ n - i ≤ g ∧ i_ = .int .i64 i ∧ (∃ a c, v_ = .slice a i c) ∧ X.length = i ∧ Hid (manyR entR n r0 = (X ++ (manyR entR (n - i) rr).1, (manyR entR (n - i) rr).2)) ∧ Hid (Aud.OEn (fun b => w.heap.size ≤ b) w.heap.size wr v_ (X)) ∧ Hid (rr.bad = false ∧ At1 wr B rr.s ∧ w.grownBy wr (some B)) ∧ Hid (rr.s.length ≤ 9223372036854775807))
  case atStart => exact ⟨0, [], r0, by omega, by omega, rfl, ⟨_, _, rfl⟩, rfl, rfl, Aud.OEn.nil_ _ _ _, HK1, HLE⟩
  case round =>
    obtain ⟨i, X, rr, hi, hg, rfl, ⟨oa, oc, rfl⟩, hX, HQ, HO, HK, HLR⟩ := hrel
    by_cases hin : i < n
    · have iw : ((i : Nat) : Int) < (n : Int) := by omega
      have d1 : decide (((i : Nat) : Int) < (n : Int)) = true := decide_eq_true iw
      obtain ⟨z, hz⟩ : ∃ z, z = (entR rr).1 := ⟨_, rfl⟩
      obtain ⟨r2, hr2⟩ : ∃ r2, r2 = (entR rr).2 := ⟨_, rfl⟩
      have HQ2 : Hid (manyR entR n r0 = ((X ++ [z]) ++ (manyR entR (n - (i + 1)) r2).1, (manyR entR (n - (i + 1)) r2).2)) := by
        show _ = _
        rw [HQ.out, show n - i = n - (i + 1) + 1 by omega, many_next HK.out.1, hz, hr2]
        simp
      have HLE2 : Hid (r2.s.length ≤ 9223372036854775807) := by rw [hr2]; exact Nat.le_trans (entR_le _) HLR.out
      have HBAD : Hid (r2.bad = true → RF.bad = true) := fun hb => by
        have h := HQ2.out
        rw [HR.out.1, many_bad hb] at h
        injection h with _ h
        rw [h]
        exact hb
      have HXL : Hid (X.length = i) := hX
      have C2 := Lib.hid (pent_rd (w := wr) rr (x := z) (r' := r2) (by rw [hz, hr2]) HK.out.1 HLR.out HK.out.2.1)
      clear hz hr2 HQ hX
      go_wp2_with fail
      refine C2.out.mono ?_
      rintro e w5 ⟨G5, (⟨hb5, _, rfl, ⟨sv, lv, rfl, hEn⟩, K5⟩ | ⟨hb5, rfl⟩)⟩
      rotate_left
      · have FE : Hid (GotP w B (fun w' v => Aud.OEn (fun b => w.heap.size ≤ b) w.heap.size w' v (XS)) RF (.panicked [{ v := unr, recovered := false }]) w5) := ⟨grown_trans HK.out.2.2 G5, .inr ⟨HBAD.out hb5, rfl⟩⟩
        clear G5 hb5 C2
        go_wp2_with fail
        exact ⟨rfl, FE.out⟩
      have HKO : Hid (Aud.OEn (fun b => w.heap.size ≤ b) w.heap.size w5 (.slice oa i oc) (X)) := oen_kept HO.out G5 (fun b hb => by have := HBW.out; omega) (fun e => by have := (HO.out.own B e).1; have := HBW.out; omega)
      have HG5 : Hid (w.grownBy w5 (some B)) := grown_trans HK.out.2.2 G5
      have HB5 := Lib.hid hb5
      have HK5 := Lib.hid K5
      obtain ⟨sa, sc, rfl⟩ : ∃ sa sc, sv = .slice sa z.S.length sc := by obtain ⟨_, _, e, _, h1, _⟩ := hEn; simp at e; obtain ⟨rfl, rfl⟩ := e; exact h1.1.is_slice
      obtain ⟨la, lc, rfl⟩ : ∃ la lc, lv = .slice la z.L.length lc := by obtain ⟨_, _, e, _, _, h1⟩ := hEn; simp at e; obtain ⟨rfl, rfl⟩ := e; exact h1.1.is_slice
      have HEN := Lib.hid hEn
      have HMN : ∀ b, wr.heap.size ≤ b → w.heap.size ≤ b ∧ some b ≠ (Value.slice oa i oc).ownBlock := fun b hb => ⟨Nat.le_trans HK.out.2.2.size hb, fun e => by have := (HO.out.own b e.symm).2; omega⟩
      have HKA : Aud.OEn (fun b => w.heap.size ≤ b) w.heap.size (w5.alloc (.cells #[.int .i64 z.u, .int .i64 z.o, .int .i64 z.s, .slice sa z.S.length sc, .slice la z.L.length lc] 59)) (.slice oa i oc) X := HKO.out.below (below_al (Below.refl _ _) _)
      obtain ⟨xs, hxs, HOX, HROW⟩ := HKA.row
      have A1 : Hid (Rk.OwnK 59 5 w.heap.size (w5.alloc (.cells #[.int .i64 z.u, .int .i64 z.o, .int .i64 z.s, .slice sa z.S.length sc, .slice la z.L.length lc] 59)) (.slice oa i oc) xs) := HOX
      have A2 : Hid (Rk.RowK 5 (w5.alloc (.cells #[.int .i64 z.u, .int .i64 z.o, .int .i64 z.s, .slice sa z.S.length sc, .slice la z.L.length lc] 59)) (.slice (some ⟨w5.heap.size, 0, none⟩) 1 1) [[.int .i64 z.u, .int .i64 z.o, .int .i64 z.s, .slice sa z.S.length sc, .slice la z.L.length lc]]) := Rk.row_one (e := 59) (heap_alloc_new _ _) rfl
      have A3 : Hid (xs.length + ([[.int .i64 z.u, .int .i64 z.o, .int .i64 z.s, .slice sa z.S.length sc, .slice la z.L.length lc]] : List (List Value)).length ≤ 100000) := by show _ ≤ _; rw [hxs, HXL.out, List.length_singleton]; have := HR.out.2; omega
      have HRW : Hid (∀ (v' : Value) (w' : World), Rk.OwnK 59 5 w.heap.size w' v' (xs ++ [[.int .i64 z.u, .int .i64 z.o, .int .i64 z.s, .slice sa z.S.length sc, .slice la z.L.length lc]]) → (w5.alloc (.cells #[.int .i64 z.u, .int .i64 z.o, .int .i64 z.s, .slice sa z.S.length sc, .slice la z.L.length lc] 59)).grownBy w' (Value.slice oa i oc).ownBlock → (v'.ownBlock = (Value.slice oa i oc).ownBlock ∨ v'.ownBlock = some (w5.alloc (.cells #[.int .i64 z.u, .int .i64 z.o, .int .i64 z.s, .slice sa z.S.length sc, .slice la z.L.length lc] 59)).heap.size) → Aud.OEn (fun b => w.heap.size ≤ b) w.heap.size w' v' (X ++ [z])) := fun v' w' h5 g5 k5 => HROW [([.int .i64 z.u, .int .i64 z.o, .int .i64 z.s, .slice sa z.S.length sc, .slice la z.L.length lc], z)] v' w' h5 g5 k5 (fun x hx => by
        simp only [List.mem_singleton] at hx
        subst hx
        exact (hEn.below (below_al (Below.refl _ _) _)).mono fun b _ hb => HMN b hb)
      have HONE := Lib.hid HEN.out.one
      have A4 : Hid (w.heap.size ≤ (w5.alloc (.cells #[.int .i64 z.u, .int .i64 z.o, .int .i64 z.s, .slice sa z.S.length sc, .slice la z.L.length lc] 59)).heap.size) := Nat.le_trans HG5.out.size (by exact (below_al (Below.refl w5.heap.size w5) _).size)
      have HK6 : Hid (At1 (w5.alloc (.cells #[.int .i64 z.u, .int .i64 z.o, .int .i64 z.s, .slice sa z.S.length sc, .slice la z.L.length lc] 59)) B r2.s) := K5.below (below_al (Below.refl _ _) _)
      have HG6 : Hid (w.grownBy (w5.alloc (.cells #[.int .i64 z.u, .int .i64 z.o, .int .i64 z.s, .slice sa z.S.length sc, .slice la z.L.length lc] 59)) (some B)) := grown_below HG5.out (below_al (Below.refl _ _) _)
      clear K5 G5 C2 HKO HK HO HG5 hb5 HK5 hEn HEN HOX HROW hxs HMN HKA
      go_wp2_with (at_builtin; refine Rk.wpList_append_rowk rfl _ _ 29 59 5 72 _ Tryz.underlying29 Aud.infoEn rfl (by decide) (by decide) rfl w.heap.size _ _ xs ([[.int .i64 z.u, .int .i64 z.o, .int .i64 z.s, .slice sa z.S.length sc, .slice la z.L.length lc]]) rfl rfl A1.out A2.out (fun y hy => by simp only [List.mem_singleton] at hy; subst hy; exact HONE.out) A3.out A4.out ?_)
      intro v6 w9 h5 g5 k5
      have HO9 := Lib.hid (HRW.out v6 w9 h5 g5 (k5.imp_right fun e => by rw [e, (box1 _ _ _).2.2]))
      obtain ⟨a6, c6, rfl⟩ := HO9.out.is_slice
      have hl1 : (X ++ [z]).length = i + 1 := by rw [List.length_append, HXL.out]; rfl
      have hlow : (Value.slice oa i oc).ownBlock ≠ some B := A1.out.low HBW.out
      have K9 : Hid (r2.bad = false ∧ At1 w9 B r2.s ∧ w.grownBy w9 (some B)) := ⟨HB5.out, (g5.block B HK6.out.cell.2.1 (fun e => hlow e.symm)).trans HK6.out, g5.os.trans HG6.out.os, g5.tape.trans HG6.out.tape, g5.output.trans HG6.out.output, Nat.le_trans HG6.out.size g5.size, fun k hk hne => (g5.block k (Nat.lt_of_lt_of_le hk HG6.out.size) (fun e => A1.out.low hk e.symm)).trans (HG6.out.block k hk hne)⟩
      rw [hl1] at HO9 ⊢
      clear h5 g5 k5 A1 A2 A3 A4 hlow hl1 HK6 HG6 HRW HONE
      go_wp2_with fail
      go_roundg (n - (i + 1))
      case measure => omega
      case rel => exact ⟨i + 1, X ++ [z], r2, by omega, Nat.le_refl _, by go_num, ⟨_, _, rfl⟩, by rw [List.length_append, HXL.out]; rfl, HQ2, HO9, K9, HLE2⟩
    · obtain rfl : i = n := by omega
      have iw : ¬ ((i : Int) < (i : Int)) := by omega
      have d1 : decide (((i : Nat) : Int) < (i : Int)) = false := decide_eq_false iw
      have HF : Hid (X = XS ∧ rr = RF) := by
        have h := HQ.out
        rw [HR.out.1, Nat.sub_self] at h
        have h1 := congrArg Prod.fst h
        have h2 := congrArg Prod.snd h
        exact ⟨by simpa [manyR] using h1.symm, h2.symm⟩
      have FE : Hid (GotP w B (fun w' v => Aud.OEn (fun b => w.heap.size ≤ b) w.heap.size w' v (XS)) RF (.returned (.slice oa i oc)) wr) := by
        show GotP _ _ _ _ _ _
        rw [← HF.out.1, ← HF.out.2]
        exact ⟨HK.out.2.2, .inl ⟨HK.out.1, _, rfl, HO.out, HK.out.2.1⟩⟩
      clear HQ HK HO HF
      go_wp2_with fail
      go_ret
      exact FE.out
set_option maxHeartbeats 4000000 in
theorem pents_rd {l : List UInt8} {B : Nat} {w : World} (h : At1 w B l) (hl : l.length ≤ 9223372036854775807) : Calls Tryz.prog 137 #[.pointer (some ⟨B, 0, none⟩), .func (.func 138) #[.pointer (some ⟨B, 0, none⟩)] #[]] w (GotP w B (fun w' v => Aud.OEn (fun b => w.heap.size ≤ b) w.heap.size w' v ((rowR entR ⟨l, false⟩).1)) (rowR entR ⟨l, false⟩).2) := by
  have C := Lib.hid (pbyte_rd h hl)
  obtain ⟨n, hn⟩ : ∃ n, n = (lenR ⟨l, false⟩).1 := ⟨_, rfl⟩
  obtain ⟨r0, hr0⟩ : ∃ r0, r0 = (lenR ⟨l, false⟩).2 := ⟨_, rfl⟩
  obtain ⟨XS, hXS⟩ : ∃ XS, XS = (rowR entR ⟨l, false⟩).1 := ⟨_, rfl⟩
  obtain ⟨RF, hRF⟩ : ∃ RF, RF = (rowR entR ⟨l, false⟩).2 := ⟨_, rfl⟩
  have HR : Hid (manyR entR n r0 = (XS, RF) ∧ n < 256) := ⟨by rw [hn, hr0, hXS, hRF]; rfl, by rw [hn]; exact UInt8.toNat_lt _⟩
  have HLE : Hid (r0.s.length ≤ 9223372036854775807) := by rw [hr0]; exact Nat.le_trans (lenR_le _) hl
  have CI : Hid (∀ w1, w.grownBy w1 (some B) → r0.bad = false → At1 w1 B r0.s → Calls Tryz.prog 156 #[.int .i64 (n : Nat), .func (.func 138) #[.pointer (some ⟨B, 0, none⟩)] #[]] w1 (GotP w B (fun w' v => Aud.OEn (fun b => w.heap.size ≤ b) w.heap.size w' v (XS)) RF)) := fun w1 g hb hk => (pents_rd0 r0 n (by have := HR.out.2; omega) hb HLE.out hk).mono fun e w2 hh => by
    rw [HR.out.1] at hh
    obtain ⟨G, hh⟩ := hh
    refine ⟨grown_trans g G, hh.imp ?_ id⟩
    rintro ⟨h1, v, h2, h3, h4⟩
    exact ⟨h1, v, h2, oen_base h3 g.size, h4⟩
  rw [← hn, ← hr0] at C
  rw [← hXS, ← hRF]
  clear hn hr0 h hl hXS hRF
  go_enter Tryz.func137, Tryz.ntmps137
  go_wp2_with fail
  refine C.out.mono ?_
  rintro e w1 ⟨G, (⟨hb, rfl, K⟩ | ⟨hb, rfl⟩)⟩
  rotate_left
  · have FE : Hid (GotP w B (fun w' v => Aud.OEn (fun b => w.heap.size ≤ b) w.heap.size w' v (XS)) RF (.panicked [{ v := unr, recovered := false }]) w1) := ⟨G, .inr ⟨by have h := HR.out.1; rw [many_bad hb] at h; injection h with _ h; rw [← h]; exact hb, rfl⟩⟩
    clear G hb C
    go_wp2_with fail
    exact ⟨rfl, FE.out⟩
  have C2 := Lib.hid (CI.out w1 G hb K)
  clear hb K G C CI
  go_wp2_with fail
  refine C2.out.mono ?_
  rintro e w2 ⟨G, (⟨hb, v, rfl, O, K⟩ | ⟨hb, rfl⟩)⟩
  · have FE : Hid (GotP w B (fun w' v => Aud.OEn (fun b => w.heap.size ≤ b) w.heap.size w' v (XS)) RF (.returned v) w2) := ⟨G, .inl ⟨hb, v, rfl, O, K⟩⟩
    clear G hb O K C2
    go_wp2_with fail
    go_ret
    exact FE.out
  · have FE : Hid (GotP w B (fun w' v => Aud.OEn (fun b => w.heap.size ≤ b) w.heap.size w' v (XS)) RF (.panicked [{ v := unr, recovered := false }]) w2) := ⟨G, .inr ⟨hb, rfl⟩⟩
    clear G hb C2
    go_wp2_with fail
    exact ⟨rfl, FE.out⟩
end Go.Proofs.YtccaiippoephbaaGreatDoor.Wds
