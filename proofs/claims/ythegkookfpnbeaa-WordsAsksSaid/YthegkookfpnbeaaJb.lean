/- Words: the program's writer: a byte, a bool, a text. -/
import Derived.Test.YthegkookfpnbeaaJa
set_option linter.unusedVariables false
set_option linter.unusedSimpArgs false
set_option maxRecDepth 100000
namespace Go.Proofs.Ythegkookfpnbeaa.Wds
open Go.RowKit Go.Lib Go.Proofs.Ythegkookfpnbeaa.Bx Go.Proofs.Ythegkookfpnbeaa.Frm

set_option maxHeartbeats 4000000 in
theorem spoil_any {base B : Nat} {w : World} {v : Value} {l : List UInt8} {bad : Bool} (h : Wr base w B v l bad) : Calls Try.prog 53 #[.pointer (some ⟨B, 0, none⟩)] w (Put base w B v l true) := by
  obtain ⟨c0, c1, f0, f1⟩ := h.cells
  have FN := Lib.hid h.spoil
  clear h
  go_enter Try.func53, Try.ntmps53
  go_wp2_with fail
  all_goals exact bodyPost_ret (v := .tuple #[]) (by simp [results, Try.results53, go_sem]) rfl FN.out
set_option maxHeartbeats 4000000 in
theorem pbyte_no {base B : Nat} {w : World} {v : Value} {l : List UInt8} {bad : Bool} (h : Wr base w B v l bad) (n : Int) (hn : n < 0 ∨ 255 < n) : Calls Try.prog 23 #[.pointer (some ⟨B, 0, none⟩), .int .i64 n] w (Put base w B v l true) := by
  have C := Lib.hid (spoil_any h)
  clear h
  by_cases h0 : n < 0
  · have d0 : decide (n < 0) = true := decide_eq_true h0
    go_enter Try.func23, Try.ntmps23
    go_wp2_with fail
    refine C.out.mono ?_
    rintro e w1 ⟨rfl, H⟩
    have HH := Lib.hid H
    clear H C
    go_wp2_with fail
    all_goals exact bodyPost_ret (v := .tuple #[]) (by simp [results, Try.results23, go_sem]) rfl ⟨rfl, HH.out⟩
  · have d0 : decide (n < 0) = false := decide_eq_false h0
    have h1 : 255 < n := by omega
    have d1 : decide (255 < n) = true := decide_eq_true h1
    go_enter Try.func23, Try.ntmps23
    go_wp2_with fail
    refine C.out.mono ?_
    rintro e w1 ⟨rfl, H⟩
    have HH := Lib.hid H
    clear H C
    go_wp2_with fail
    all_goals exact bodyPost_ret (v := .tuple #[]) (by simp [results, Try.results23, go_sem]) rfl ⟨rfl, HH.out⟩
set_option maxHeartbeats 4000000 in
theorem ppair_no {base B : Nat} {w : World} {v : Value} {l : List UInt8} {bad : Bool} (h : Wr base w B v l bad) (n : Int) (hn : n < 0 ∨ 65535 < n) : Calls Try.prog 54 #[.pointer (some ⟨B, 0, none⟩), .int .i64 n] w (Put base w B v l true) := by
  have C := Lib.hid (spoil_any h)
  clear h
  by_cases h0 : n < 0
  · have d0 : decide (n < 0) = true := decide_eq_true h0
    go_enter Try.func54, Try.ntmps54
    go_wp2_with fail
    refine C.out.mono ?_
    rintro e w1 ⟨rfl, H⟩
    have HH := Lib.hid H
    clear H C
    go_wp2_with fail
    all_goals exact bodyPost_ret (v := .tuple #[]) (by simp [results, Try.results54, go_sem]) rfl ⟨rfl, HH.out⟩
  · have d0 : decide (n < 0) = false := decide_eq_false h0
    have h1 : 65535 < n := by omega
    have d1 : decide (65535 < n) = true := decide_eq_true h1
    go_enter Try.func54, Try.ntmps54
    go_wp2_with fail
    refine C.out.mono ?_
    rintro e w1 ⟨rfl, H⟩
    have HH := Lib.hid H
    clear H C
    go_wp2_with fail
    all_goals exact bodyPost_ret (v := .tuple #[]) (by simp [results, Try.results54, go_sem]) rfl ⟨rfl, HH.out⟩
set_option maxHeartbeats 4000000 in
theorem pbyte_yes {base B : Nat} {w : World} {v : Value} {l : List UInt8} {bad : Bool} (h : Wr base w B v l bad) (k : Nat) (hk : k ≤ 255) (hl : l.length ≤ 300000000) : Calls Try.prog 23 #[.pointer (some ⟨B, 0, none⟩), .int .i64 (k : Nat)] w (Put base w B v (l ++ [UInt8.ofNat k]) bad) := by
  obtain ⟨c0, c1, f0, f1⟩ := h.cells
  obtain ⟨a, c, rfl⟩ := h.is_slice
  have e1 : ((UInt8.ofNat k).toNat : Int) = (k : Nat) := by rw [UInt8.toNat_ofNat', Nat.mod_eq_of_lt (by omega)]
  have A1 : Hid (Rk.OwnK 5 1 base (w.alloc (.cells #[.int .u8 (k : Nat)] 5)) (.slice a l.length c) (cellsB l)) := h.2.2.2.below (box1 w _ _).1
  have A2 := Lib.hid (new_bytes w #[.int .u8 (k : Nat)] [UInt8.ofNat k] (by rw [List.map_singleton, e1]))
  have A3 : Hid (l.length + [UInt8.ofNat k].length ≤ 400000000) := by show _ ≤ _; rw [List.length_singleton]; omega
  have A4 : Hid (base ≤ (w.alloc (.cells #[.int .u8 (k : Nat)] 5)).heap.size) := Nat.le_trans h.2.1 (box1 w _ _).1.size
  have FN := Lib.hid (fun (w9 : World) (v9 : Value) g k9 o => h.more (w9 := w9) (v9 := v9) (m := l ++ [UInt8.ofNat k]) (box1 w #[.int .u8 (k : Nat)] 5).1 g k9 o)
  have d0 : decide ((k : Int) < 0) = false := decide_eq_false (by omega)
  have d1 : decide ((255 : Int) < (k : Int)) = false := decide_eq_false (by omega)
  have q1 : ¬ (k : Int) < 0 := by omega
  have q2 : ¬ (255 : Int) < (k : Int) := by omega
  have q3 : IntKind.u8.wrap (k : Int) = (k : Int) := IntWalk.u8_in _ (by omega)
  have HM : Hid ([UInt8.ofNat k].length = 1) := rfl
  clear h e1
  generalize [UInt8.ofNat k] = m at *
  go_enter Try.func23, Try.ntmps23
  go_wp2_with (at_builtin; refine wpList_append_b rfl _ _ 52 5 Try.underlying52 infoU8 rfl base _ l m 1 ⟨w.heap.size, 0, none⟩ 1 rfl rfl HM.out A1.out A2.out A3.out A4.out ?_)
  intro v9 w9 h5 g5 k5
  obtain ⟨u0, u1, FE⟩ := FN.out w9 v9 g5 (k5.imp_right fun n q e => by have := n q e; omega) h5
  obtain ⟨a9, c9, e9⟩ := h5.is_slice
  rw [cellsB_len] at e9
  generalize (l ++ m).length = n9 at e9
  subst e9
  clear h5 g5 k5 A1 A2 A3 A4 FN
  go_wp2_with fail
  all_goals exact bodyPost_ret (v := .tuple #[]) (by simp [results, Try.results23, go_sem]) rfl FE.out
set_option maxHeartbeats 4000000 in
theorem pbool_any {base B : Nat} {w : World} {v : Value} {l : List UInt8} {bad : Bool} (h : Wr base w B v l bad) (b : Bool) (hl : l.length ≤ 300000000) : Calls Try.prog 55 #[.pointer (some ⟨B, 0, none⟩), .bool b] w (Put base w B v (l ++ flagL b) bad) := by
  cases b with
  | true =>
    have C := pbyte_yes h 1 (by decide) hl
    go_enter Try.func55, Try.ntmps55
    go_wp2_with fail
    refine C.mono ?_
    rintro e w1 ⟨rfl, H⟩
    go_wp2_with fail
    all_goals exact bodyPost_ret (v := .tuple #[]) (by simp [results, Try.results55, go_sem]) rfl ⟨rfl, H⟩
  | false =>
    have C := pbyte_yes h 0 (by decide) hl
    go_enter Try.func55, Try.ntmps55
    go_wp2_with fail
    refine C.mono ?_
    rintro e w1 ⟨rfl, H⟩
    go_wp2_with fail
    all_goals exact bodyPost_ret (v := .tuple #[]) (by simp [results, Try.results55, go_sem]) rfl ⟨rfl, H⟩
/-- A length in two bytes, the higher first. -/
def pairL (n : Nat) : List UInt8 := [UInt8.ofNat (n / 256), UInt8.ofNat (n % 256)]
theorem pair_len (n : Nat) : (pairL n).length = 2 := rfl
set_option maxHeartbeats 4000000 in
theorem ppair_yes {base B : Nat} {w : World} {v : Value} {l : List UInt8} {bad : Bool} (h : Wr base w B v l bad) (n : Nat) (hn : n ≤ 65535) (hl : l.length ≤ 300000000) : Calls Try.prog 54 #[.pointer (some ⟨B, 0, none⟩), .int .i64 (n : Nat)] w (Put base w B v (l ++ pairL n) bad) := by
  obtain ⟨c0, c1, f0, f1⟩ := h.cells
  obtain ⟨a, c, rfl⟩ := h.is_slice
  obtain ⟨m, hm⟩ : ∃ m, m = pairL n := ⟨_, rfl⟩
  have e1 : ((UInt8.ofNat (n / 256)).toNat : Int) = (n : Int) / 256 := by rw [UInt8.toNat_ofNat', Nat.mod_eq_of_lt (by omega), Int.natCast_ediv]; rfl
  have e2 : ((UInt8.ofNat (n % 256)).toNat : Int) = (n : Int) % 256 := by rw [UInt8.toNat_ofNat', Nat.mod_eq_of_lt (by omega), Int.natCast_emod]; rfl
  have HM : Hid (m.length = 2) := by rw [hm]; rfl
  have A1 : Hid (Rk.OwnK 5 1 base (w.alloc (.cells #[.int .u8 ((n : Int) / 256), .int .u8 ((n : Int) % 256)] 5)) (.slice a l.length c) (cellsB l)) := h.2.2.2.below (box1 w _ _).1
  have A2 := Lib.hid (new_bytes w #[.int .u8 ((n : Int) / 256), .int .u8 ((n : Int) % 256)] m (by rw [hm]; unfold pairL; rw [List.map_cons, List.map_singleton, e1, e2]))
  have A3 : Hid (l.length + m.length ≤ 400000000) := by show _ ≤ _; rw [HM.out]; omega
  have A4 : Hid (base ≤ (w.alloc (.cells #[.int .u8 ((n : Int) / 256), .int .u8 ((n : Int) % 256)] 5)).heap.size) := Nat.le_trans h.2.1 (box1 w _ _).1.size
  have FN := Lib.hid (fun (w9 : World) (v9 : Value) g k9 o => h.more (w9 := w9) (v9 := v9) (m := l ++ m) (box1 w #[.int .u8 ((n : Int) / 256), .int .u8 ((n : Int) % 256)] 5).1 g k9 o)
  have d0 : decide ((n : Int) < 0) = false := decide_eq_false (by omega)
  have d1 : decide ((65535 : Int) < (n : Int)) = false := decide_eq_false (by omega)
  have d2 : ¬ (65535 : Int) < (n : Int) := by omega
  have d3 : ¬ (n : Int) < 0 := by omega
  have q3 : IntKind.u8.wrap ((n : Int) / 256) = (n : Int) / 256 := IntWalk.u8_in _ (by omega)
  have q4 : IntKind.u8.wrap (n : Int) = (n : Int) % 256 := by unfold IntKind.wrap; simp [IntKind.bits, IntKind.signed]
  rw [← hm]
  clear h hm e1 e2 hl
  go_enter Try.func54, Try.ntmps54
  go_wp2_with (at_builtin; refine wpList_append_b rfl _ _ 52 5 Try.underlying52 infoU8 rfl base _ l m 2 ⟨w.heap.size, 0, none⟩ 2 rfl rfl HM.out A1.out A2.out A3.out A4.out ?_)
  intro v9 w9 h5 g5 k5
  obtain ⟨u0, u1, FE⟩ := FN.out w9 v9 g5 (k5.imp_right fun n q e => by have := n q e; omega) h5
  obtain ⟨a9, c9, e9⟩ := h5.is_slice
  rw [cellsB_len] at e9
  generalize (l ++ m).length = n9 at e9
  subst e9
  clear h5 g5 k5 A1 A2 A3 A4 FN
  go_wp2_with fail
  all_goals exact bodyPost_ret (v := .tuple #[]) (by simp [results, Try.results54, go_sem]) rfl FE.out
set_option maxHeartbeats 4000000 in
theorem ptext_no {base B : Nat} {w : World} {v : Value} {l : List UInt8} {bad : Bool} (h : Wr base w B v l bad) (t : List UInt8) (hn : 65535 < t.length) (ht : t.length ≤ 9223372036854775807) : Calls Try.prog 24 #[.pointer (some ⟨B, 0, none⟩), .string (mkB t)] w (Put base w B v l true) := by
  have C := ppair_no h (t.length : Int) (by omega)
  obtain ⟨n, hn'⟩ : ∃ n, n = t.length := ⟨_, rfl⟩
  obtain ⟨s, hs⟩ : ∃ s, s = mkB t := ⟨_, rfl⟩
  have hsz : s.size = n := by rw [hs, mkB_size, hn']
  rw [← hn'] at C
  rw [← hs]
  have C := Lib.hid C
  clear h hs hn hn' ht
  go_enter Try.func24, Try.ntmps24
  go_wp2_with fail
  refine C.out.mono ?_
  rintro e w1 ⟨rfl, v1, K1, S1⟩
  obtain ⟨c0, c1, f0, f1⟩ := K1.cells
  have HK := Lib.hid K1
  have HS := Lib.hid S1
  clear C K1 S1
  go_wp2_with fail
  all_goals exact bodyPost_ret (v := .tuple #[]) (by simp [results, Try.results24, go_sem]) rfl ⟨rfl, v1, HK.out, HS.out⟩
/-- A text as it is put: its length alone, once something was wrong. -/
def textX (bad : Bool) (t : List UInt8) : List UInt8 := if bad = true then pairL t.length else textL t
theorem textX_len (bad : Bool) (t : List UInt8) : (textX bad t).length ≤ t.length + 2 := by
  unfold textX
  split
  · rw [pair_len]; omega
  · exact Nat.le_of_eq (show (textL t).length = t.length + 2 from rfl)
set_option maxHeartbeats 4000000 in
theorem ptext_yes {base B : Nat} {w : World} {v : Value} {l : List UInt8} {bad : Bool} (h : Wr base w B v l bad) (t : List UInt8) (ht : t.length ≤ 65535) (hl : l.length ≤ 300000000) : Calls Try.prog 24 #[.pointer (some ⟨B, 0, none⟩), .string (mkB t)] w (Put base w B v (l ++ textX bad t) bad) := by
  have C := ppair_yes h t.length ht hl
  obtain ⟨n, hn⟩ : ∃ n, n = t.length := ⟨_, rfl⟩
  obtain ⟨s, hs⟩ : ∃ s, s = mkB t := ⟨_, rfl⟩
  have hsz : s.size = n := by rw [hs, mkB_size, hn]
  have HS : Hid (s = mkB t ∧ t.length = n) := ⟨hs, hn.symm⟩
  have HN : Hid (n ≤ 65535 ∧ l.length ≤ 300000000) := ⟨by omega, hl⟩
  obtain ⟨x, hx⟩ : ∃ x, x = l ++ pairL n := ⟨_, rfl⟩
  have HX : Hid (x.length = l.length + 2) := by show _ = _; rw [hx, List.length_append]; rfl
  rw [← hn, ← hx] at C
  have HXE := Lib.hid hx
  rw [← hs]
  have C := Lib.hid C
  cases bad with
  | true =>
    have HT : Hid (l ++ textX true t = x) := by show _ = _; rw [hx, hn]; rfl
    rw [HT.out]
    clear h hs hn ht hl hx HT
    go_enter Try.func24, Try.ntmps24
    go_wp2_with fail
    refine C.out.mono ?_
    rintro e w1 ⟨rfl, v1, K1, S1⟩
    obtain ⟨c0, c1, f0, f1⟩ := K1.cells
    have HK := Lib.hid K1
    have HSS := Lib.hid S1
    clear C K1 S1
    go_wp2_with fail
    all_goals exact bodyPost_ret (v := .tuple #[]) (by simp [results, Try.results24, go_sem]) rfl ⟨rfl, v1, HK.out, HSS.out⟩
  | false =>
    have HT : Hid (l ++ textX false t = x ++ t) := by show _ = _; rw [hx, hn, List.append_assoc]; rfl
    rw [HT.out]
    clear h hs hn ht hl hx HT
    go_enter Try.func24, Try.ntmps24
    go_wp2_with fail
    refine C.out.mono ?_
    rintro e w2 ⟨rfl, v2, K1, S1⟩
    obtain ⟨a2, c2, rfl⟩ := K1.is_slice
    obtain ⟨c0, c1, f0, f1⟩ := K1.cells
    have HSS := Lib.hid S1
    have B1 : Hid (Rk.OwnK 5 1 base w2 (.slice a2 x.length c2) (cellsB x)) := K1.2.2.2
    have B3 : Hid (x.length + t.length ≤ 400000000) := by show _ ≤ _; have := HX.out; have := HS.out.2; have := HN.out; omega
    have B4 : Hid (base ≤ w2.heap.size) := K1.2.1
    have GN := Lib.hid (fun (w9 : World) (v9 : Value) g k9 o => K1.more (w9 := w9) (v9 := v9) (m := x ++ t) (Below.refl _ _) g k9 o)
    clear K1 S1 C HX
    go_wp2_with (at_builtin; refine wpList_append_s rfl _ _ 52 9 5 Try.underlying52 Try.underlying9 infoU8 rfl base _ x t s rfl rfl HS.out.1 B1.out B3.out B4.out ?_)
    intro v8 w8 h6 g6 k6
    obtain ⟨z0, z1, GE⟩ := GN.out w8 v8 g6 k6 h6
    obtain ⟨a8, c8, e8⟩ := h6.is_slice
    rw [cellsB_len] at e8
    generalize (x ++ t).length = n8 at e8
    subst e8
    clear h6 g6 k6 B1 B3 B4 GN
    go_wp2_with fail
    all_goals exact bodyPost_ret (v := .tuple #[]) (by simp [results, Try.results24, go_sem]) rfl (by obtain ⟨q1, v7, q2, q3⟩ := GE.out; exact ⟨rfl, v7, q2, HSS.out.trans q3⟩)
end Go.Proofs.Ythegkookfpnbeaa.Wds
