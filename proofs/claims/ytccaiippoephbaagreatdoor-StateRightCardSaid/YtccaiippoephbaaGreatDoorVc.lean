/- Words: Number, Text, Flag, Len of the plain text's reader. -/
import Derived.Test.YtccaiippoephbaaGreatDoorZg
import Derived.Test.YtccaiippoephbaaGreatDoorWh
set_option linter.unusedVariables false
set_option linter.unusedSimpArgs false
set_option maxRecDepth 100000
namespace Go.Proofs.YtccaiippoephbaaGreatDoor.Wds
open Go.RowKit Go.Lib Go.Proofs.YtccaiippoephbaaGreatDoor.Bx Go.Proofs.YtccaiippoephbaaGreatDoor.Frm

theorem val_snoc (l : List UInt8) (x : UInt8) : valN (l ++ [x]) = valN l * 256 + x.toNat := by
  unfold valN
  rw [List.foldl_append]
  rfl
theorem val_lt : ∀ (k : Nat) (l : List UInt8), l.length = k → valN l < 256 ^ k := by
  intro k
  induction k with
  | zero =>
    intro l h
    obtain rfl := List.eq_nil_of_length_eq_zero h
    decide
  | succ k ih =>
    intro l h
    obtain ⟨l', x, rfl⟩ : ∃ l' x, l = l' ++ [x] := ⟨l.dropLast, l.getLast (by intro e; rw [e] at h; cases h), (List.dropLast_concat_getLast _).symm⟩
    rw [List.length_append, List.length_singleton] at h
    have h1 := ih l' (by omega)
    have h2 := x.toNat_lt
    rw [val_snoc, Nat.pow_succ]
    omega
theorem val_next {t : List UInt8} {i : Nat} (h : i < t.length) : valN (t.take (i + 1)) = valN (t.take i) * 256 + (t.getD i 0).toNat := by
  rw [List.take_succ_eq_append_getElem h, val_snoc, List.getD_eq_getElem?_getD, List.getElem?_eq_getElem h]
  rfl
theorem wrap_back (m : Nat) : IntKind.i64.wrap (m : Int) = back m := by
  rw [IntKind.wrap_i64]
  unfold back
  split <;> omega
set_option maxHeartbeats 8000000 in
theorem number_rd (r : Rd) (B : Nat) (w : World) (h : At w B r) : Calls Tryz.prog 74 #[.pointer (some ⟨B, 0, none⟩)] w fun e w' => e = .returned (.int .i64 (numR r).1) ∧ At w' B (numR r).2 ∧ w.grownBy w' (some B) := by
  have C := Lib.hid (take_any r 8 B w h (by decide) (.inl (by decide)))
  obtain ⟨t, ht⟩ : ∃ t, t = (takeR r 8).1 := ⟨_, rfl⟩
  have hl : t.length = 8 := by rw [ht]; exact take_len _ _
  have HR : Hid ((numR r).1 = back (valN t) ∧ (numR r).2 = (takeR r 8).2) := ⟨by rw [ht]; rfl, rfl⟩
  rw [← ht] at C
  obtain ⟨s, hs⟩ : ∃ s, s = mkB t := ⟨_, rfl⟩
  have HS : Hid (s = mkB t ∧ t.length = 8) := ⟨hs, hl⟩
  have hsz : s.size = 8 := by rw [hs, mkB_size, hl]
  rw [← hs] at C
  clear ht hl hs h
  go_enter Tryz.func74, Tryz.ntmps74
  go_wp2_with fail
  refine C.out.mono ?_
  rintro e w1 ⟨rfl, K1, G1⟩
  have HK := Lib.hid K1
  have HG := Lib.hid G1
  clear K1 G1 C
  go_wp2_with fail
  go_loopg [4, 5] 8 (fun g n_ i_ wr => wr = w1 ∧ ∃ (i : Nat), i ≤ 8 ∧ 8 - i ≤ g ∧ i_ = .int .i64 i ∧ n_ = .int .u64 (valN (t.take i) : Nat))
  case atStart => exact ⟨rfl, 0, by omega, by omega, rfl, rfl⟩
  case round =>
    obtain ⟨rfl, i, hi, hg, rfl, rfl⟩ := hrel
    by_cases hi8 : i < 8
    · have iw : ((i : Nat) : Int) < 8 := by omega
      have n0 : (0 : Int) ≤ (i : Int) := by omega
      obtain ⟨y, hy⟩ : ∃ y : UInt8, y = t.getD i 0 := ⟨_, rfl⟩
      have XI : ∀ w, (Instr.index 9 (.string s) (.int .i64 (i : Nat))).run Tryz.prog w = .ok (.int .u8 (y.toNat : Nat)) w := fun w => by
        rw [HS.out.1, hy]
        exact byte_run w t .i64 (by rw [HS.out.2]; exact hi8)
      obtain ⟨a, ha⟩ : ∃ a, a = valN (t.take i) := ⟨_, rfl⟩
      have hb : Hid (valN (t.take (i + 1)) = a * 256 + y.toNat) := by show _ = _; rw [ha, hy]; exact val_next (by rw [HS.out.2]; exact hi8)
      have y8 : y.toNat < 256 := y.toNat_lt
      have hlt : a * 256 + y.toNat < 18446744073709551616 := by
        rw [← hb.out]
        have h1 := val_lt (i + 1) (t.take (i + 1)) (by rw [List.length_take, HS.out.2]; omega)
        exact Nat.lt_of_lt_of_le h1 (Nat.le_trans (Nat.pow_le_pow_right (by decide) (show i + 1 ≤ 8 by omega)) (by decide))
      rw [← ha]
      clear ha hy
      generalize y.toNat = x at *
      go_wp2_with fail
      go_roundg (8 - (i + 1))
      case measure => omega
      case rel => exact ⟨rfl, i + 1, by omega, Nat.le_refl _, by go_num, by rw [hb.out]; go_num⟩
    · obtain rfl : i = 8 := by omega
      have iw : ¬ (((8 : Nat) : Int) < 8) := by omega
      have et : t.take 8 = t := List.take_of_length_le (by rw [HS.out.2]; exact Nat.le_refl _)
      rw [et]
      have WB := wrap_back (valN t)
      generalize valN t = v at *
      generalize back v = z at *
      clear et
      go_wp2_with fail
      go_ret
      exact ⟨by rw [HR.out.1]; rfl, by rw [HR.out.2]; exact HK.out, HG.out⟩
end Go.Proofs.YtccaiippoephbaaGreatDoor.Wds
/- Words: Flag, Len, Text of the plain text's reader. -/
set_option linter.unusedVariables false
set_option linter.unusedSimpArgs false
set_option maxRecDepth 100000
namespace Go.Proofs.YtccaiippoephbaaGreatDoor.Wds
open Go.RowKit Go.Lib Go.Proofs.YtccaiippoephbaaGreatDoor.Bx Go.Proofs.YtccaiippoephbaaGreatDoor.Frm

set_option maxHeartbeats 8000000 in
theorem len_rd (r : Rd) (B : Nat) (w : World) (h : At w B r) : Calls Tryz.prog 75 #[.pointer (some ⟨B, 0, none⟩)] w fun e w' => e = .returned (.int .i64 ((lenR r).1 : Nat)) ∧ At w' B (lenR r).2 ∧ w.grownBy w' (some B) := by
  have C := Lib.hid (take_any r 1 B w h (by decide) (.inl (by decide)))
  obtain ⟨t, ht⟩ : ∃ t, t = (takeR r 1).1 := ⟨_, rfl⟩
  have hl : t.length = 1 := by rw [ht]; exact take_len _ _
  obtain ⟨x, hx⟩ : ∃ x, x = (t.getD 0 0).toNat := ⟨_, rfl⟩
  have HR : Hid ((lenR r).1 = x ∧ (lenR r).2 = (takeR r 1).2) := ⟨by rw [hx, ht]; rfl, rfl⟩
  have x8 : x < 256 := by rw [hx]; exact UInt8.toNat_lt _
  have XI : ∀ w, (Instr.index 9 (.string (mkB t)) (.int .i64 0)).run Tryz.prog w = .ok (.int .u8 (x : Nat)) w := fun w => by
    rw [hx]
    exact byte_run w t .i64 (i := 0) (by omega)
  rw [← ht] at C
  have hsz : (mkB t).size = 1 := by rw [mkB_size, hl]
  generalize mkB t = s at *
  clear ht hl h hx
  go_enter Tryz.func75, Tryz.ntmps75
  go_wp2_with fail
  refine C.out.mono ?_
  rintro e w1 ⟨rfl, K1, G1⟩
  have HK := Lib.hid K1
  have HG := Lib.hid G1
  clear K1 G1 C
  go_wp2_with fail
  go_ret
  exact ⟨by rw [HR.out.1]; rfl, by rw [HR.out.2]; exact HK.out, HG.out⟩
set_option maxHeartbeats 8000000 in
theorem flag_rd (r : Rd) (B : Nat) (w : World) (h : At w B r) : Calls Tryz.prog 76 #[.pointer (some ⟨B, 0, none⟩)] w fun e w' => e = .returned (.bool (flagR r).1) ∧ At w' B (flagR r).2 ∧ w.grownBy w' (some B) := by
  have C := Lib.hid (take_any r 1 B w h (by decide) (.inl (by decide)))
  obtain ⟨t, ht⟩ : ∃ t, t = (takeR r 1).1 := ⟨_, rfl⟩
  obtain ⟨r1, hr1⟩ : ∃ r1, r1 = (takeR r 1).2 := ⟨_, rfl⟩
  have hl : t.length = 1 := by rw [ht]; exact take_len _ _
  obtain ⟨x, hx⟩ : ∃ x, x = (t.getD 0 0).toNat := ⟨_, rfl⟩
  have HR : Hid ((flagR r).1 = decide (x = 1) ∧ (flagR r).2 = if 1 < x then ⟨r1.s, true⟩ else r1) := ⟨by rw [hx, ht]; rfl, by rw [hx, ht, hr1]; rfl⟩
  have x8 : x < 256 := by rw [hx]; exact UInt8.toNat_lt _
  have XI : ∀ w, (Instr.index 9 (.string (mkB t)) (.int .i64 0)).run Tryz.prog w = .ok (.int .u8 (x : Nat)) w := fun w => by
    rw [hx]
    exact byte_run w t .i64 (i := 0) (by omega)
  rw [← ht, ← hr1] at C
  have hsz : (mkB t).size = 1 := by rw [mkB_size, hl]
  generalize mkB t = s at *
  clear ht hl h hx hr1
  go_enter Tryz.func76, Tryz.ntmps76
  go_wp2_with fail
  refine C.out.mono ?_
  rintro e w1 ⟨rfl, K1, G1⟩
  obtain ⟨c0, c1, hB⟩ := K1.cells
  have fr := fun i => K1.free (i := i)
  have HG := Lib.hid G1
  by_cases hbig : 1 < x
  · have g1 : (1 : Int) < (x : Int) := by omega
    have HK : Hid (At (w1.setCell ⟨B, 1, none⟩ (.bool true)) B ⟨r1.s, true⟩) := K1.set1 true
    have HG2 : Hid (w.grownBy (w1.setCell ⟨B, 1, none⟩ (.bool true)) (some B)) := grown_put HG.out
    have hx1 : decide ((x : Int) = 1) = decide (x = 1) := decide_eq_decide.2 (by omega)
    have hx2 : decide (x = 1) = false := decide_eq_false (by omega)
    have hx3 : ¬ (x : Int) = 1 := by omega
    have e2 := HR.out.2
    rw [if_pos hbig] at e2
    have HE := Lib.hid e2
    clear K1 G1 C e2
    go_wp2_with fail
    go_ret
    exact ⟨by rw [HR.out.1]; simp [hx2, hx3], by rw [HE.out]; exact HK.out, HG2.out⟩
  · have g1 : ¬ (1 : Int) < (x : Int) := by omega
    have hx1 : decide ((x : Int) = 1) = decide (x = 1) := decide_eq_decide.2 (by omega)
    have e2 := HR.out.2
    rw [if_neg hbig] at e2
    have HE := Lib.hid e2
    have HK := Lib.hid K1
    clear K1 G1 C e2 c0 c1 fr
    go_wp2_with fail
    go_ret
    exact ⟨by rw [HR.out.1]; first | rfl | (simp [hx1]; done) | (simp; omega), by rw [HE.out]; exact HK.out, HG.out⟩
end Go.Proofs.YtccaiippoephbaaGreatDoor.Wds
/- Words: Text of the plain text's reader. -/
set_option linter.unusedVariables false
set_option linter.unusedSimpArgs false
set_option maxRecDepth 100000
namespace Go.Proofs.YtccaiippoephbaaGreatDoor.Wds
open Go.RowKit Go.Lib Go.Proofs.YtccaiippoephbaaGreatDoor.Bx Go.Proofs.YtccaiippoephbaaGreatDoor.Frm

set_option maxHeartbeats 8000000 in
theorem text_rd (r : Rd) (B : Nat) (w : World) (h : At w B r) : Calls Tryz.prog 73 #[.pointer (some ⟨B, 0, none⟩)] w fun e w' => e = .returned (.string (mkB (textR r).1)) ∧ At w' B (textR r).2 ∧ w.grownBy w' (some B) := by
  have C := Lib.hid (take_any r 2 B w h (by decide) (.inl (by decide)))
  obtain ⟨t, ht⟩ : ∃ t, t = (takeR r 2).1 := ⟨_, rfl⟩
  obtain ⟨r1, hr1⟩ : ∃ r1, r1 = (takeR r 2).2 := ⟨_, rfl⟩
  have hl : t.length = 2 := by rw [ht]; exact take_len _ _
  obtain ⟨x, hx⟩ : ∃ x, x = (t.getD 0 0).toNat := ⟨_, rfl⟩
  obtain ⟨y, hy⟩ : ∃ y, y = (t.getD 1 0).toNat := ⟨_, rfl⟩
  obtain ⟨n, hn⟩ : ∃ n, n = hd t := ⟨_, rfl⟩
  have HR : Hid (textR r = if r1.bad = true ∨ r1.s.length < n then ([], ⟨r1.s, true⟩) else takeR r1 n) := by
    show _ = _
    rw [hn, ht, hr1]
    rfl
  have x8 : x < 256 := by rw [hx]; exact UInt8.toNat_lt _
  have y8 : y < 256 := by rw [hy]; exact UInt8.toNat_lt _
  have hxy : x * 256 + y = n := by rw [hn, hx, hy]; rfl
  have hn6 : n ≤ 65535 := by omega
  have hxi : (x : Int) * 256 + (y : Int) = (n : Nat) := by omega
  have XI0 : ∀ w, (Instr.index 9 (.string (mkB t)) (.int .i64 0)).run Tryz.prog w = .ok (.int .u8 (x : Nat)) w := fun w => by
    rw [hx]
    exact byte_run w t .i64 (i := 0) (by omega)
  have XI1 : ∀ w, (Instr.index 9 (.string (mkB t)) (.int .i64 1)).run Tryz.prog w = .ok (.int .u8 (y : Nat)) w := fun w => by
    rw [hy]
    exact byte_run w t .i64 (i := 1) (by omega)
  rw [← ht, ← hr1] at C
  have hsz : (mkB t).size = 2 := by rw [mkB_size, hl]
  generalize mkB t = s at *
  clear ht hl h hx hy hr1 hn
  go_enter Tryz.func73, Tryz.ntmps73
  go_wp2_with fail
  refine C.out.mono ?_
  rintro e w1 ⟨rfl, K1, G1⟩
  have HK1 := Lib.hid K1
  have HG1 := Lib.hid G1
  clear K1 G1 C
  go_upto_region 2 with fail
  go_quiet (fail)
  have HK : Hid (At (w1.drewN nq) B r1) := HK1.out.kept (grown_of _ _ (d_drews (Below.refl _ _) _) _)
  have HG : Hid (w.grownBy (w1.drewN nq) (some B)) := grown_below HG1.out (d_drews (Below.refl _ _) _)
  generalize w1.drewN nq = w2 at HK HG ⊢
  clear hxy hxi XI0 XI1 HK1 HG1
  obtain ⟨c0, c1, hB⟩ := HK.out.cells
  have fr := fun i => HK.out.free (i := i)
  obtain ⟨l, b⟩ := r1
  obtain ⟨m, hm⟩ : ∃ m, m = l.length := ⟨_, rfl⟩
  have hsz2 : (mkB l).size = m := by rw [mkB_size, hm]
  by_cases hbad : b = true ∨ m < n
  · have e := HR.out
    rw [if_pos (by rw [← hm]; exact hbad)] at e
    have HE := Lib.hid e
    have HA : Hid (At (w2.setCell ⟨B, 1, none⟩ (.bool true)) B ⟨l, true⟩) := HK.out.set1 true
    have HG2 : Hid (w.grownBy (w2.setCell ⟨B, 1, none⟩ (.bool true)) (some B)) := grown_put HG.out
    have hbad' : b = true ∨ b = false ∧ (m : Int) < (n : Int) := by
      cases b with
      | true => exact .inl rfl
      | false => exact .inr ⟨rfl, by rcases hbad with hb | hb; cases hb; omega⟩
    simp only at c0 c1
    generalize mkB l = sl at *
    clear e hm HR
    rcases hbad' with rfl | ⟨rfl, g1⟩
    all_goals (
      go_wp2_with fail
      go_ret
      exact ⟨by rw [HE.out]; rfl, by rw [HE.out]; exact HA.out, HG2.out⟩)
  · have e := HR.out
    rw [if_neg (by rw [← hm]; exact hbad)] at e
    have HE := Lib.hid e
    obtain rfl : b = false := by cases b with
      | false => rfl
      | true => exact absurd (.inl rfl) hbad
    have g1 : ¬ (m : Int) < (n : Int) := by omega
    have g2 : decide ((m : Int) < (n : Int)) = false := decide_eq_false g1
    have C2 := Lib.hid (take_any ⟨l, false⟩ n B w2 HK.out (by omega) (.inr rfl))
    simp only at c0 c1
    generalize mkB l = sl at *
    clear e hm HR
    go_wp2_with fail
    refine C2.out.mono ?_
    rintro e w3 ⟨rfl, K3, G3⟩
    have HK3 := Lib.hid K3
    have HG3 := Lib.hid (grown_trans HG.out G3)
    clear K3 G3 C2
    go_wp2_with fail
    go_ret
    exact ⟨by rw [HE.out]; rfl, by rw [HE.out]; exact HK3.out, HG3.out⟩
end Go.Proofs.YtccaiippoephbaaGreatDoor.Wds
/- Words: a list of numbers read by the plain text's reader. -/
set_option linter.unusedVariables false
set_option linter.unusedSimpArgs false
set_option maxRecDepth 100000
namespace Go.Proofs.YtccaiippoephbaaGreatDoor.Wds
open Go.RowKit Go.Lib Go.Proofs.YtccaiippoephbaaGreatDoor.Bx Go.Proofs.YtccaiippoephbaaGreatDoor.Frm

theorem infoI : (Tryz.prog.info? 3).map (fun i => (i.zero, i.size, i.bytes)) = some (some (.int .i64 0), 1, 8) := by kernel_rfl
def cellsI (xs : List Int) : List (List Value) := xs.map fun x => [Value.int .i64 x]
theorem cellsI_len (xs : List Int) : (cellsI xs).length = xs.length := List.length_map _
theorem cellsI_app (X Y : List Int) : cellsI (X ++ Y) = cellsI X ++ cellsI Y := List.map_append
theorem cellsI_one (X : List Int) : ∀ z ∈ cellsI X, ∀ q ∈ z, q.oneCell' = true := fun z hz q hq => by
  obtain ⟨x, _, rfl⟩ := List.mem_map.1 hz
  simp only [List.mem_singleton] at hq
  subst hq
  rfl
def readN : Nat → Rd → List Int × Rd
  | 0, r => ([], r)
  | k + 1, r => if r.bad = true then ([], r) else ((numR r).1 :: (readN k (numR r).2).1, (readN k (numR r).2).2)
theorem read_bad {k : Nat} {r : Rd} (h : r.bad = true) : readN k r = ([], r) := by
  cases k with
  | zero => rfl
  | succ k => exact if_pos h
theorem read_next {k : Nat} {r : Rd} (h : r.bad = false) : readN (k + 1) r = ((numR r).1 :: (readN k (numR r).2).1, (readN k (numR r).2).2) := if_neg (by rw [h]; decide)
def listR (r : Rd) : List Int × Rd := readN (lenR r).1 (lenR r).2
set_option maxHeartbeats 8000000 in
theorem list_rd (r : Rd) (B : Nat) (w : World) (h : At w B r) : Calls Tryz.prog 77 #[.pointer (some ⟨B, 0, none⟩)] w fun e w' => ∃ v, e = .returned v ∧ Rk.OwnK 3 1 w.heap.size w' v (cellsI (listR r).1) ∧ At w' B (listR r).2 ∧ w.grownBy w' (some B) := by
  have C := Lib.hid (len_rd r B w h)
  have HBW : Hid (B < w.heap.size) := h.cells.2.2
  obtain ⟨n, hn⟩ : ∃ n, n = (lenR r).1 := ⟨_, rfl⟩
  obtain ⟨r0, hr0⟩ : ∃ r0, r0 = (lenR r).2 := ⟨_, rfl⟩
  have HR : Hid (listR r = readN n r0 ∧ n < 256) := ⟨by rw [hn, hr0]; rfl, by rw [hn]; exact UInt8.toNat_lt _⟩
  rw [← hn, ← hr0] at C
  have n256 : n < 256 := HR.out.2
  clear hn hr0 h
  go_enter Tryz.func77, Tryz.ntmps77
  go_wp2_with fail
  refine C.out.mono ?_
  rintro e w1 ⟨rfl, K1, G1⟩
  have HK1 := Lib.hid K1
  have HG1 := Lib.hid G1
  clear K1 G1 C
  go_wp2_with fail
  go_loopg [3, 5] n (fun g v_ i_ wr => ∃ (i : Nat) (X : List Int) (rr : Rd), i ≤ n ∧ n - i ≤ g ∧ i_ = .int .i64 i ∧ (∃ a c, v_ = .slice a i c) ∧ X.length = i ∧ Hid (readN n r0 = (X ++ (readN (n - i) rr).1, (readN (n - i) rr).2)) ∧ Hid (Rk.OwnK 3 1 w.heap.size wr v_ (cellsI X)) ∧ Hid (At wr B rr) ∧ Hid (w.grownBy wr (some B)))
  case atStart => exact ⟨0, [], r0, by omega, by omega, rfl, ⟨_, _, rfl⟩, rfl, rfl, Rk.OwnK.nil_ _ _ _ _, HK1, HG1⟩
  case round =>
    obtain ⟨i, X, rr, hi, hg, rfl, ⟨oa, oc, rfl⟩, hX, HQ, HO, HK, HG⟩ := hrel
    obtain ⟨c0, c1, hB⟩ := HK.out.cells
    by_cases hin : i < n
    · have iw : ((i : Nat) : Int) < (n : Int) := by omega
      have d1 : decide (((i : Nat) : Int) < (n : Int)) = true := decide_eq_true iw
      obtain ⟨l, b⟩ := rr
      cases b with
      | true =>
        have HF : Hid (listR r = (X, ⟨l, true⟩)) := by
          show _ = _
          rw [HR.out.1, HQ.out, read_bad rfl, List.append_nil]
        simp only at c0 c1
        clear HQ
        go_wp2_with fail
        go_ret
        exact ⟨_, rfl, by rw [HF.out]; exact HO.out, by rw [HF.out]; exact HK.out, HG.out⟩
      | false =>
        have C2 := Lib.hid (number_rd ⟨l, false⟩ B wr HK.out)
        obtain ⟨z, hz⟩ : ∃ z, z = (numR ⟨l, false⟩).1 := ⟨_, rfl⟩
        obtain ⟨r2, hr2⟩ : ∃ r2, r2 = (numR ⟨l, false⟩).2 := ⟨_, rfl⟩
        have HQ2 : Hid (readN n r0 = ((X ++ [z]) ++ (readN (n - (i + 1)) r2).1, (readN (n - (i + 1)) r2).2)) := by
          show _ = _
          rw [HQ.out, show n - i = n - (i + 1) + 1 by omega, read_next rfl, hz, hr2]
          simp
        rw [← hz, ← hr2] at C2
        simp only at c0 c1
        have HXL : Hid (X.length = i) := hX
        clear hz hr2 HQ hX
        go_wp2_with fail
        refine C2.out.mono ?_
        rintro e w5 ⟨rfl, K5, G5⟩
        have HKO : Hid (Rk.OwnK 3 1 w.heap.size w5 (.slice oa i oc) (cellsI X)) := HO.out.kept G5 (.inr (HO.out.low HBW.out))
        have HG5 := Lib.hid (grown_trans HG.out G5)
        have A1 : Hid (Rk.OwnK 3 1 w.heap.size (w5.alloc (.cells #[.int .i64 z] 3)) (.slice oa i oc) (cellsI X)) := HKO.out.below (below_al (Below.refl _ _) _)
        have A2 : Hid (Rk.RowK 1 (w5.alloc (.cells #[.int .i64 z] 3)) (.slice (some ⟨w5.heap.size, 0, none⟩) 1 1) (cellsI [z])) := Rk.row_one (e := 3) (heap_alloc_new _ _) rfl
        have A3 : Hid ((cellsI X).length + (cellsI [z]).length ≤ 100000) := by show _ ≤ _; rw [cellsI_len, cellsI_len, HXL.out, List.length_singleton]; have := HR.out.2; omega
        have A4 : Hid (w.heap.size ≤ (w5.alloc (.cells #[.int .i64 z] 3)).heap.size) := Nat.le_trans HG5.out.size (by exact (below_al (Below.refl w5.heap.size w5) _).size)
        have HK6 : Hid (At (w5.alloc (.cells #[.int .i64 z] 3)) B r2) := K5.kept (grown_of _ _ (below_al (Below.refl _ _) _) _)
        have HG6 : Hid (w.grownBy (w5.alloc (.cells #[.int .i64 z] 3)) (some B)) := grown_below HG5.out (below_al (Below.refl _ _) _)
        clear K5 G5 C2 HKO HK HG HO c0 c1 HG5
        go_wp2_with (at_builtin; refine Rk.wpList_append_rowk rfl _ _ 43 3 1 8 _ Tryz.underlying43 infoI rfl (by decide) (by decide) rfl w.heap.size _ _ (cellsI X) (cellsI [z]) rfl rfl A1.out A2.out (cellsI_one _) A3.out A4.out ?_)
        intro v6 w9 h5 g5 k5
        rw [← cellsI_app] at h5
        have hlow : (Value.slice oa i oc).ownBlock ≠ some B := A1.out.low HBW.out
        have K9 : Hid (At w9 B r2) := (g5.block B HK6.out.cells.2.2 (fun e => hlow e.symm)).trans HK6.out
        have G9 : Hid (w.grownBy w9 (some B)) := ⟨g5.os.trans HG6.out.os, g5.tape.trans HG6.out.tape, g5.output.trans HG6.out.output, Nat.le_trans HG6.out.size g5.size, fun k hk hne => (g5.block k (Nat.lt_of_lt_of_le hk HG6.out.size) (fun e => A1.out.low hk e.symm)).trans (HG6.out.block k hk hne)⟩
        have HO9 := Lib.hid h5
        obtain ⟨a6, c6, rfl⟩ := h5.is_slice
        have hl1 : (cellsI (X ++ [z])).length = i + 1 := by rw [cellsI_len, List.length_append, HXL.out]; rfl
        rw [hl1] at HO9 ⊢
        clear h5 g5 k5 A1 A2 A3 A4 hlow hl1 HK6 HG6
        go_wp2_with fail
        go_roundg (n - (i + 1))
        case measure => omega
        case rel => exact ⟨i + 1, X ++ [z], r2, by omega, Nat.le_refl _, by go_num, ⟨_, _, rfl⟩, by rw [List.length_append, HXL.out]; rfl, HQ2, HO9, K9, G9⟩
    · obtain rfl : i = n := by omega
      have iw : ¬ ((i : Int) < (i : Int)) := by omega
      have d1 : decide (((i : Nat) : Int) < (i : Int)) = false := decide_eq_false iw
      have HF : Hid (listR r = (X, rr)) := by
        show _ = _
        rw [HR.out.1, HQ.out, Nat.sub_self]
        show (X ++ [], rr) = _
        rw [List.append_nil]
      clear HQ
      go_wp2_with fail
      go_ret
      exact ⟨_, rfl, by rw [HF.out]; exact HO.out, by rw [HF.out]; exact HK.out, HG.out⟩
end Go.Proofs.YtccaiippoephbaaGreatDoor.Wds
