/- State: the plain text's num, length, text, flag, nums. -/
import Derived.Test.YtmdgjcikekojdaaGreatDoorZa
import Derived.Test.YtmdgjcikekojdaaGreatDoorZg
import Derived.Test.YtmdgjcikekojdaaGreatDoorTk
set_option linter.unusedVariables false
set_option linter.unusedSimpArgs false
set_option maxRecDepth 100000
namespace Go.Proofs.YtmdgjcikekojdaaGreatDoor.Sta
open Go.RowKit Go.Lib Go.Proofs.YtmdgjcikekojdaaGreatDoor.Bx Go.Proofs.YtmdgjcikekojdaaGreatDoor.Frm Go.Proofs.YtmdgjcikekojdaaGreatDoor.Wds

set_option maxHeartbeats 8000000 in
theorem flag14 (b : Bool) (w : World) : Calls Tryz.prog 48 #[.bool b] w fun e w' => e = .returned (.string (mkB (flagL b))) ∧ Below w.heap.size w w' := by
  cases b with
  | true =>
    go_enter Tryz.func48, Tryz.ntmps48
    go_wp2_with fail
    go_ret
    exact ⟨rfl, Below.refl _ _⟩
  | false =>
    go_enter Tryz.func48, Tryz.ntmps48
    go_wp2_with fail
    go_ret
    exact ⟨rfl, Below.refl _ _⟩
set_option maxHeartbeats 8000000 in
theorem num14 (n : Int) (w : World) : Calls Tryz.prog 19 #[.int .i64 n] w fun e w' => e = .returned (.string (mkB (numL n))) ∧ Below w.heap.size w w' := by
  obtain ⟨u, hu⟩ : ∃ u, u = u64 n := ⟨_, rfl⟩
  have hw : IntKind.u64.wrap n = (u : Nat) := by rw [hu]; exact wrap_u64 n
  have hlt : u < 18446744073709551616 := by rw [hu]; exact u64_lt n
  have HU : Hid (u = u64 n) := hu
  clear hu
  go_enter Tryz.func19, Tryz.ntmps19
  go_wp2_with fail
  go_loopg [3, 4] 8 (fun g b_ i_ wr => ∃ (j : Nat), j ≤ 8 ∧ 8 - j ≤ g ∧ i_ = .int .i64 (7 - (j : Int)) ∧ (∃ a c, b_ = .slice a j c) ∧ Hid (Rk.OwnK 5 1 w.heap.size wr b_ (cellsB ((numL n).take j))) ∧ Below w.heap.size w wr)
  case atStart => exact ⟨0, by omega, by omega, rfl, ⟨_, _, rfl⟩, Rk.OwnK.nil_ _ _ _ _, Below.refl _ _⟩
  case round =>
    obtain ⟨j, hj, hg, rfl, ⟨oa, oc, rfl⟩, HO, hbel⟩ := hrel
    have HB := Lib.hid hbel
    by_cases hj8 : j < 8
    · have iw : (0 : Int) ≤ 7 - (j : Int) := by omega
      have i7 : 7 - (j : Int) ≤ 7 := by omega
      obtain ⟨x, hx⟩ : ∃ x : UInt8, x = byteN n j := ⟨_, rfl⟩
      have HV : (u : Int) / 2 ^ (8 * (7 - j)) % 256 = (x.toNat : Nat) := by
        rw [hx, byte_nat, HU.out, Int.natCast_emod, Int.natCast_ediv, Int.natCast_pow]
        rfl
      have HL : Hid ((numL n).take (j + 1) = (numL n).take j ++ [x]) := by rw [hx]; exact num_next hj8
      have HBY : Hid (Below w.heap.size w (wr.alloc (.cells #[.int .u8 (x.toNat : Nat)] 5))) := below_al hbel _
      have A1 : Hid (Rk.OwnK 5 1 w.heap.size (wr.alloc (.cells #[.int .u8 (x.toNat : Nat)] 5)) (.slice oa j oc) (cellsB ((numL n).take j))) := HO.out.below (below_al (Below.refl _ _) _)
      have A2 : Hid (Rk.RowK 1 (wr.alloc (.cells #[.int .u8 (x.toNat : Nat)] 5)) (.slice (some ⟨wr.heap.size, 0, none⟩) 1 1) (cellsB [x])) := Rk.row_one (e := 5) (heap_alloc_new _ _) rfl
      have hlen : ((numL n).take j).length = j := by rw [List.length_take, num_len]; omega
      have A3 : Hid ((cellsB ((numL n).take j)).length + (cellsB [x]).length ≤ 100000) := by show _ ≤ _; rw [cellsB_len, cellsB_len, hlen, List.length_singleton]; omega
      have A4 : Hid (w.heap.size ≤ (wr.alloc (.cells #[.int .u8 (x.toNat : Nat)] 5)).heap.size) := HBY.out.size
      clear hbel hx hlen HB HO
      go_upto_region 5 with fail
      go_wp2_with (at_builtin; refine Rk.wpList_append_rowk rfl _ _ 41 5 1 1 _ Tryz.underlying41 infoU8 rfl (by decide) (by decide) rfl w.heap.size _ _ (cellsB ((numL n).take j)) (cellsB [x]) rfl rfl A1.out A2.out (cellsB_one _) A3.out A4.out ?_)
      intro v6 w9 h5 g5 k5
      rw [← cellsB_app, ← HL.out] at h5
      have HB6 := Lib.hid (A1.out.belowOf HBY.out (Nat.le_refl _) A4.out g5)
      have K9 := Lib.hid h5
      obtain ⟨a6, c6, rfl⟩ := h5.is_slice
      have hl1 : (cellsB ((numL n).take (j + 1))).length = j + 1 := by rw [cellsB_len, List.length_take, num_len]; omega
      rw [hl1] at K9 ⊢
      clear h5 g5 k5 A1 A2 A3 A4 HBY hl1
      go_wp2_with fail
      go_roundg (8 - (j + 1))
      case measure => omega
      case rel => exact ⟨j + 1, by omega, Nat.le_refl _, by go_num, ⟨_, _, rfl⟩, K9, HB6.out⟩
    · obtain rfl : j = 8 := by omega
      have iw : ¬ (0 : Int) ≤ 7 - ((8 : Nat) : Int) := by omega
      have e8 : (numL n).take 8 = numL n := List.take_of_length_le (by rw [num_len]; exact Nat.le_refl _)
      rw [e8] at HO
      have CV := row_text HO.out.row (by intro e; have := num_len n; rw [e] at this; cases this)
      obtain ⟨s, hs⟩ : ∃ s, s = mkB (numL n) := ⟨_, rfl⟩
      rw [← hs] at CV
      clear hbel e8 HO
      go_wp2_with fail
      go_ret
      exact ⟨by first | rfl | rw [hs], HB.out⟩
set_option maxHeartbeats 8000000 in
theorem length14 (n : Nat) (hl : n ≤ 65535) (w : World) : Calls Tryz.prog 20 #[.int .i64 (n : Nat)] w fun e w' => e = .returned (.string (mkB (pairL n))) ∧ Below w.heap.size w w' := by
  obtain ⟨T, hT⟩ : ∃ T, T = mkB (pairL n) := ⟨_, rfl⟩
  have CV : Hid (∀ (w : World), (convert 41 9 (.slice (some ⟨w.heap.size, 0, none⟩) 2 2)).run Tryz.prog (w.alloc (.cells #[Value.int .u8 ((n : Int) / 256), .int .u8 ((n : Int) % 256)] 5)) = .ok (.string T) (w.alloc (.cells #[Value.int .u8 ((n : Int) / 256), .int .u8 ((n : Int) % 256)] 5))) := fun w => by
    have h := run_convert_bytes_back (P := Tryz.prog) (w.alloc (.cells #[Value.int .u8 ((n : Int) / 256), .int .u8 ((n : Int) % 256)] 5)) 41 9 5 ⟨w.heap.size, 0, none⟩ 2 [UInt8.ofNat (n / 256), UInt8.ofNat (n % 256)] Tryz.underlying41 Tryz.underlying5 Tryz.underlying9 (fun j hj => by
      have hb := (box1 w #[Value.int .u8 ((n : Int) / 256), .int .u8 ((n : Int) % 256)] 5).2.1
      have hj' : j < 2 := hj
      rw [addr_add, cell_of_row _ _ _ _ _ _ hb]
      match j, hj' with
      | 0, _ =>
        show some (Value.int .u8 ((n : Int) / 256)) = some (Value.int .u8 (((UInt8.ofNat (n / 256)).toNat : Nat) : Int))
        rw [UInt8.toNat_ofNat', Nat.mod_eq_of_lt (show n / 256 < 2 ^ 8 by omega), Int.natCast_ediv]
        rfl
      | 1, _ =>
        show some (Value.int .u8 ((n : Int) % 256)) = some (Value.int .u8 (((UInt8.ofNat (n % 256)).toNat : Nat) : Int))
        rw [UInt8.toNat_ofNat', Nat.mod_eq_of_lt (show n % 256 < 2 ^ 8 by omega), Int.natCast_emod]
        rfl)
    rw [hT]
    exact h
  have q1 : (n : Int).tdiv 256 = (n : Int) / 256 := Int.tdiv_eq_ediv_of_nonneg (by omega)
  have q2 : (n : Int).tmod 256 = (n : Int) % 256 := Int.tmod_eq_emod_of_nonneg (by omega)
  have q5 : ((n : Int) / 256).tmod 256 = (n : Int) / 256 := by rw [Int.tmod_eq_emod_of_nonneg (by omega)]; omega
  have q6 : ((n : Int) / 256) % 256 = (n : Int) / 256 := by omega
  have q3 : IntKind.u8.wrap ((n : Int) / 256) = (n : Int) / 256 := IntWalk.u8_in _ (by omega)
  have q4 : IntKind.u8.wrap ((n : Int) % 256) = (n : Int) % 256 := IntWalk.u8_in _ (by omega)
  rw [← hT]
  have CV1 := CV.out
  clear hT CV
  go_enter Tryz.func20, Tryz.ntmps20
  go_wp2_with fail
  go_ret
  exact ⟨rfl, (box1 _ _ _).1⟩
theorem textL_is (l : List UInt8) : textL l = pairL l.length ++ l := rfl
set_option maxHeartbeats 8000000 in
theorem text14 (l : List UInt8) (hl : l.length ≤ 65535) (w : World) : Calls Tryz.prog 23 #[.string (mkB l)] w fun e w' => e = .returned (.string (mkB (textL l))) ∧ Below w.heap.size w w' := by
  obtain ⟨n, hn⟩ : ∃ n, n = l.length := ⟨_, rfl⟩
  obtain ⟨s, hs⟩ : ∃ s, s = mkB l := ⟨_, rfl⟩
  have hsz : s.size = n := by rw [hs, mkB_size, hn]
  obtain ⟨T, hT⟩ : ∃ T, T = mkB (pairL n) := ⟨_, rfl⟩
  obtain ⟨U, hU⟩ : ∃ U, U = mkB (textL l) := ⟨_, rfl⟩
  have hUT : U = T ++ s := by rw [hU, hT, hs, hn, mkB_app]; rfl
  have hTs : T.size = 2 := by rw [hT, mkB_size]; rfl
  have AD : ∀ w, (Op.stringOp .add T s).run Tryz.prog w = .ok (.string U) w := fun w => by rw [hUT]; exact run_string_add_sum w _ _ (by rw [hTs, hsz]; omega)
  have CL := Lib.hid (length14 n (by omega) w)
  rw [← hT] at CL
  rw [← hs, ← hU]
  clear hs hn hT hU hUT
  go_enter Tryz.func23, Tryz.ntmps23
  go_wp2_with fail
  refine CL.out.mono ?_
  rintro e w1 ⟨rfl, b1⟩
  have HB := Lib.hid b1
  clear b1 CL
  go_wp2_with fail
  go_ret
  exact ⟨rfl, HB.out⟩
theorem numsL_is (xs : List Int) : (listC numC).enc xs = pairL xs.length ++ xs.flatMap numL := rfl
theorem flat_num (xs : List Int) : (xs.flatMap numL).length = 8 * xs.length := by
  induction xs with
  | nil => rfl
  | cons x xs ih => rw [List.flatMap_cons, List.length_append, ih, num_len, List.length_cons]; omega
theorem take_flat {α : Type} (f : α → List UInt8) (xs : List α) {i : Nat} (h : i < xs.length) : (xs.take (i + 1)).flatMap f = (xs.take i).flatMap f ++ f xs[i] := by
  rw [List.take_succ_eq_append_getElem h, List.flatMap_append, List.flatMap_singleton]
set_option maxHeartbeats 8000000 in
theorem nums14 {P : Nat → Prop} {w : World} {v : Value} (xs : List Int) (h : RowP numM P w v xs) (hl : xs.length ≤ 65535) (hP : ∀ b, P b) : Calls Tryz.prog 21 #[v] w fun e w' => e = .returned (.string (mkB ((listC numC).enc xs))) ∧ Below w.heap.size w w' := by
  obtain ⟨a, c, rfl⟩ := h.is_slice
  rw [numsL_is]
  obtain ⟨n, hn⟩ : ∃ n, n = xs.length := ⟨_, rfl⟩
  obtain ⟨T, hT⟩ : ∃ T, T = mkB (pairL n) := ⟨_, rfl⟩
  have CL := Lib.hid (length14 n (by omega) w)
  rw [← hT] at CL
  have HQ := Lib.hid h
  rw [← hn] at HQ hl ⊢
  have HN := Lib.hid (And.intro hn hT)
  clear h hn hT
  go_enter Tryz.func21, Tryz.ntmps21
  go_wp2_with fail
  refine CL.out.mono ?_
  rintro e w1 ⟨rfl, b1⟩
  have HB := Lib.hid b1
  clear b1 CL
  go_wp2_with fail
  go_loopg [3, 4] n (fun g s_ i_ wr => ∃ (i : Nat) (t : ByteArray), i ≤ n ∧ n - i ≤ g ∧ i_ = .int .i64 (i : Nat) ∧ s_ = .string t ∧ Hid (t = mkB (pairL n ++ (xs.take i).flatMap numL)) ∧ Hid (Below w.heap.size w wr))
  case atStart => exact ⟨0, T, by omega, by omega, rfl, rfl, by show _ = _; rw [HN.out.2]; rfl, HB⟩
  case round =>
    obtain ⟨i, t, hi, hg, rfl, rfl, HT, HW⟩ := hrel
    by_cases hin : i < n
    · have iw : ((i : Nat) : Int) < (n : Int) := by omega
      have n0 : (0 : Int) ≤ ((i : Nat) : Int) := by omega
      have hix : i < xs.length := by rw [← HN.out.1]; exact hin
      have hrow := HQ.out.keep numM_ok (Keep.below HW.out)
      obtain ⟨b, off, cs, rfl, hlt, _, hR, hcc⟩ := hrow.get hix
      obtain ⟨x, hx⟩ : ∃ x, x = xs[i] := ⟨_, rfl⟩
      rw [← hx] at hR
      have hR0 : cs = [.int .i64 x] := hR
      subst hR0
      have hc0 : wr.cell? ⟨b, off + i, none⟩ = some (.int .i64 x) := by have q := hcc 0 _ rfl; rw [show off + i * numM.k + 0 = off + i from by show off + i * 1 + 0 = _; omega] at q; exact q
      obtain ⟨y, hy⟩ : ∃ y, y = mkB (numL x) := ⟨_, rfl⟩
      obtain ⟨u, hu⟩ : ∃ u, u = mkB (pairL n ++ (xs.take (i + 1)).flatMap numL) := ⟨_, rfl⟩
      have hut : u = t ++ y := by rw [hu, HT.out, hy, mkB_app, take_flat numL xs hix, ← hx, List.append_assoc]
      have ht : t.size ≤ 600000 := by rw [HT.out, mkB_size, List.length_append, pair_len, flat_num, List.length_take]; omega
      have hys : y.size = 8 := by rw [hy, mkB_size, num_len]
      have AD : ∀ w, (Op.stringOp .add t y).run Tryz.prog w = .ok (.string u) w := fun w => by rw [hut]; exact run_string_add_sum w _ _ (by rw [hys]; omega)
      have CN := Lib.hid (num14 x wr)
      rw [← hy] at CN
      have HU := Lib.hid hu
      clear hrow hcc hR hx hix hy hu hut ht hys HT
      go_wp2_with fail
      refine CN.out.mono ?_
      rintro e w2 ⟨rfl, b2⟩
      have HW2 := Lib.hid (below_on HW.out b2)
      clear b2 CN HW
      go_wp2_with fail
      go_roundg (n - (i + 1))
      case measure => omega
      case rel => exact ⟨i + 1, u, by omega, Nat.le_refl _, by go_num, rfl, HU, HW2⟩
    · obtain rfl : i = n := by omega
      have iw : ¬ ((i : Nat) : Int) < ((i : Nat) : Int) := by omega
      have E1 : Hid (t = mkB (pairL i ++ xs.flatMap numL)) := by show _ = _; rw [HT.out, List.take_of_length_le (by rw [← HN.out.1]; exact Nat.le_refl _)]
      clear HT
      go_wp2_with fail
      go_ret
      exact ⟨by rw [E1.out]; rfl, HW.out⟩
end Go.Proofs.YtmdgjcikekojdaaGreatDoor.Sta
