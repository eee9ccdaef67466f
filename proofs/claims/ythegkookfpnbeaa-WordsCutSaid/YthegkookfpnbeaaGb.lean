/- Words: what writes, of the plain text: number, text, flag, Count. -/
import Derived.Test.YthegkookfpnbeaaGa
import Derived.Test.YthegkookfpnbeaaRw
import Derived.OpenShut
import Derived.Lib.Strings
import Derived.BigQuiet
import Derived.Deep.DeepCutAuto
import Derived.Deep.CutBlock
import Derived.Deep.LoopGhost
import Derived.Deep.RegionHeld3
import Derived.Laws.Strings3
set_option linter.unusedVariables false
set_option linter.unusedSimpArgs false
set_option maxRecDepth 100000
namespace Go.Proofs.Ythegkookfpnbeaa.Wds
open Go.RowKit Go.Lib Go.Proofs.Ythegkookfpnbeaa.Bx Go.Proofs.Ythegkookfpnbeaa.Frm

theorem d_drews {B : Nat} {a w : World} (h : Below B a w) (n : Nat) : Below B a (w.drewN n) := ⟨h.os, h.tape, h.output, h.size, h.block⟩
theorem infoU8 : (Try.prog.info? 5).map (fun i => (i.zero, i.size, i.bytes)) = some (some (.int .u8 0), 1, 1) := by kernel_rfl
def cellsB (l : List UInt8) : List (List Value) := l.map fun x => [Value.int .u8 (x.toNat : Nat)]
theorem cellsB_len (l : List UInt8) : (cellsB l).length = l.length := List.length_map _
theorem cellsB_app (X Y : List UInt8) : cellsB (X ++ Y) = cellsB X ++ cellsB Y := List.map_append
theorem cellsB_one (X : List UInt8) : ∀ z ∈ cellsB X, ∀ q ∈ z, q.oneCell' = true := fun z hz q hq => by
  obtain ⟨x, _, rfl⟩ := List.mem_map.1 hz
  simp only [List.mem_singleton] at hq
  subst hq
  rfl
theorem addr_add (b j : Nat) : (⟨b, 0, none⟩ : Addr).add j = ⟨b, j, none⟩ := by unfold Addr.add; split <;> simp_all
/-- The bytes of a row as a text. -/
theorem row_text {w : World} {a : Option Addr} {n cap : Nat} {l : List UInt8} (h : Rk.RowK 1 w (.slice a n cap) (cellsB l)) (h0 : l ≠ []) : (convert 52 9 (.slice a n cap)).run Try.prog w = .ok (.string (mkB l)) w := by
  obtain ⟨_, a', cap', e, h1, h2, h3⟩ := h
  injection e with e1 e2 e3
  subst e1 e2 e3
  rcases h3 with h3 | ⟨b, off, rfl, hb, hc⟩
  · have : l.length = 0 := by rw [← cellsB_len, h3]; rfl
    exact absurd (List.eq_nil_of_length_eq_zero this) h0
  · have h := run_convert_bytes_back (P := Try.prog) w 52 9 5 ⟨b, off, none⟩ cap l Try.underlying52 Try.underlying5 Try.underlying9 (fun j hj => by
      have hc' := hc j (by rw [cellsB_len]; exact hj) 0
      unfold cellsB at hc'
      simp only [List.getElem_map, Nat.mul_one, Nat.add_zero] at hc'
      rw [show (⟨b, off, none⟩ : Addr).add j = ⟨b, off + j, none⟩ from by unfold Addr.add; split <;> simp_all]
      exact hc' _ rfl)
    rw [cellsB_len]
    exact h
set_option maxHeartbeats 8000000 in
theorem flag_any (b : Bool) (w : World) : Calls Try.prog 31 #[.bool b] w fun e w' => e = .returned (.string (mkB (flagL b))) ∧ Below w.heap.size w w' := by
  cases b with
  | true =>
    go_enter Try.func31, Try.ntmps31
    go_wp2_with fail
    go_ret
    exact ⟨rfl, Below.refl _ _⟩
  | false =>
    go_enter Try.func31, Try.ntmps31
    go_wp2_with fail
    go_ret
    exact ⟨rfl, Below.refl _ _⟩
set_option maxHeartbeats 8000000 in
theorem text_any (l : List UInt8) (w : World) (hl : l.length ≤ 65535) : Calls Try.prog 28 #[.string (mkB l)] w fun e w' => e = .returned (.string (mkB (textL l))) ∧ Below w.heap.size w w' := by
  obtain ⟨n, hn⟩ : ∃ n, n = l.length := ⟨_, rfl⟩
  obtain ⟨s, hs⟩ : ∃ s, s = mkB l := ⟨_, rfl⟩
  have hsz : s.size = n := by rw [hs, mkB_size, hn]
  obtain ⟨T, hT⟩ : ∃ T, T = mkB [UInt8.ofNat (n / 256), UInt8.ofNat (n % 256)] := ⟨_, rfl⟩
  obtain ⟨U, hU⟩ : ∃ U, U = mkB (textL l) := ⟨_, rfl⟩
  have hUT : U = T ++ s := by rw [hU, hT, hs, hn, mkB_app]; rfl
  have hTs : T.size = 2 := by rw [hT]; rfl
  have AD : ∀ w, (Op.stringOp .add T s).run Try.prog w = .ok (.string U) w := fun w => by rw [hUT]; exact run_string_add_sum w _ _ (by rw [hTs, hsz]; omega)
  have CV : Hid (∀ (w : World), (convert 52 9 (.slice (some ⟨w.heap.size, 0, none⟩) 2 2)).run Try.prog (w.alloc (.cells #[Value.int .u8 ((n : Int) / 256), .int .u8 ((n : Int) % 256)] 5)) = .ok (.string T) (w.alloc (.cells #[Value.int .u8 ((n : Int) / 256), .int .u8 ((n : Int) % 256)] 5))) := fun w => by
    have h := run_convert_bytes_back (P := Try.prog) (w.alloc (.cells #[Value.int .u8 ((n : Int) / 256), .int .u8 ((n : Int) % 256)] 5)) 52 9 5 ⟨w.heap.size, 0, none⟩ 2 [UInt8.ofNat (n / 256), UInt8.ofNat (n % 256)] Try.underlying52 Try.underlying5 Try.underlying9 (fun j hj => by
      have hb := (box1 w #[Value.int .u8 ((n : Int) / 256), .int .u8 ((n : Int) % 256)] 5).2.1
      have hj' : j < 2 := hj
      rw [addr_add, cell_of_row _ _ _ _ _ _ hb]
      match j, hj' with
      | 0, _ =>
        show some (Value.int .u8 ((n : Int) / 256)) = some (Value.int .u8 (((UInt8.ofNat (n / 256)).toNat : Nat) : Int))
        rw [UInt8.toNat_ofNat', Nat.mod_eq_of_lt (show n / 256 < 2 ^ 8 by omega), Int.natCast_ediv]
        rfl
      | 1, _ =>
        show some (Value.int .u8 ((n : Int) % 256)) = some (Value.int .u8 (((UInt8.ofNat (n % 256)).toNat : Nat) : Int))
        rw [UInt8.toNat_ofNat', Nat.mod_eq_of_lt (show n % 256 < 2 ^ 8 by omega), Int.natCast_emod]
        rfl)
    rw [hT]
    exact h
  have q1 : (n : Int).tdiv 256 = (n : Int) / 256 := Int.tdiv_eq_ediv_of_nonneg (by omega)
  have q2 : (n : Int).tmod 256 = (n : Int) % 256 := Int.tmod_eq_emod_of_nonneg (by omega)
  have q5 : ((n : Int) / 256).tmod 256 = (n : Int) / 256 := by rw [Int.tmod_eq_emod_of_nonneg (by omega)]; omega
  have q6 : ((n : Int) / 256) % 256 = (n : Int) / 256 := by omega
  have q3 : IntKind.u8.wrap ((n : Int) / 256) = (n : Int) / 256 := IntWalk.u8_in _ (by omega)
  have q4 : IntKind.u8.wrap ((n : Int) % 256) = (n : Int) % 256 := IntWalk.u8_in _ (by omega)
  rw [← hs, ← hU]
  have CV1 := CV.out
  clear hs hn hT hU hUT CV
  go_enter Try.func28, Try.ntmps28
  go_wp2_with fail
  go_ret
  exact ⟨rfl, (box1 _ _ _).1⟩
set_option maxHeartbeats 8000000 in
theorem count_any (op : Int) (w : World) : Calls Try.prog 30 #[.int .i64 op] w fun e w' => e = .returned (.int .i64 (countN op : Nat)) ∧ Below w.heap.size w w' := by
  by_cases h : 3 ≤ op ∧ op ≤ 15
  · have h' : op = 3 ∨ op = 4 ∨ op = 5 ∨ op = 6 ∨ op = 7 ∨ op = 8 ∨ op = 9 ∨ op = 10 ∨ op = 11 ∨ op = 12 ∨ op = 13 ∨ op = 14 ∨ op = 15 := by omega
    rcases h' with rfl | rfl | rfl | rfl | rfl | rfl | rfl | rfl | rfl | rfl | rfl | rfl | rfl
    all_goals (
      go_enter Try.func30, Try.ntmps30
      go_wp2_with fail
      go_ret
      exact ⟨rfl, Below.refl _ _⟩)
  · have e : countN op = 0 := by
      unfold countN
      rw [if_neg (by omega), if_neg (by omega), if_neg (by omega), if_neg (by omega), if_neg (by omega), if_neg (by omega)]
    rw [e]
    have n3 : ¬ op = 3 := by omega
    have n4 : ¬ op = 4 := by omega
    have n5 : ¬ op = 5 := by omega
    have n6 : ¬ op = 6 := by omega
    have n7 : ¬ op = 7 := by omega
    have n8 : ¬ op = 8 := by omega
    have n9 : ¬ op = 9 := by omega
    have n10 : ¬ op = 10 := by omega
    have n11 : ¬ op = 11 := by omega
    have n12 : ¬ op = 12 := by omega
    have n13 : ¬ op = 13 := by omega
    have n14 : ¬ op = 14 := by omega
    have n15 : ¬ op = 15 := by omega
    go_enter Try.func30, Try.ntmps30
    go_wp2_with fail
    go_ret
    exact ⟨rfl, Below.refl _ _⟩
theorem wrap_u64 (n : Int) : IntKind.u64.wrap n = (u64 n : Nat) := by
  rw [u64_int]
  rfl
theorem num_next {n : Int} {j : Nat} (h : j < 8) : (numL n).take (j + 1) = (numL n).take j ++ [byteN n j] := by
  rw [List.take_succ_eq_append_getElem (by rw [num_len]; exact h)]
  congr
  unfold numL
  rw [List.getElem_map, List.getElem_range]
set_option maxHeartbeats 8000000 in
theorem number_any (n : Int) (w : World) : Calls Try.prog 29 #[.int .i64 n] w fun e w' => e = .returned (.string (mkB (numL n))) ∧ Below w.heap.size w w' := by
  obtain ⟨u, hu⟩ : ∃ u, u = u64 n := ⟨_, rfl⟩
  have hw : IntKind.u64.wrap n = (u : Nat) := by rw [hu]; exact wrap_u64 n
  have hlt : u < 18446744073709551616 := by rw [hu]; exact u64_lt n
  have HU : Hid (u = u64 n) := hu
  clear hu
  go_enter Try.func29, Try.ntmps29
  go_wp2_with fail
  go_loopg [3, 4] 8 (fun g b_ i_ wr => ∃ (j : Nat), j ≤ 8 ∧ 8 - j ≤ g ∧ i_ = .int .i64 (7 - (j : Int)) ∧ (∃ a c, b_ = .slice a j c) ∧ Hid (Rk.OwnK 5 1 w.heap.size wr b_ (cellsB ((numL n).take j))) ∧ Below w.heap.size w wr)
  case atStart => exact ⟨0, by omega, by omega, rfl, ⟨_, _, rfl⟩, Rk.OwnK.nil_ _ _ _ _, Below.refl _ _⟩
  case round =>
    obtain ⟨j, hj, hg, rfl, ⟨oa, oc, rfl⟩, HO, hbel⟩ := hrel
    have HB := Lib.hid hbel
    by_cases hj8 : j < 8
    · have iw : (0 : Int) ≤ 7 - (j : Int) := by omega
      have i7 : 7 - (j : Int) ≤ 7 := by omega
      obtain ⟨x, hx⟩ : ∃ x : UInt8, x = byteN n j := ⟨_, rfl⟩
      have HV : (u : Int) / 2 ^ (8 * (7 - j)) % 256 = (x.toNat : Nat) := by
        rw [hx, byte_nat, HU.out, Int.natCast_emod, Int.natCast_ediv, Int.natCast_pow]
        rfl
      have HL : Hid ((numL n).take (j + 1) = (numL n).take j ++ [x]) := by rw [hx]; exact num_next hj8
      have HBY : Hid (Below w.heap.size w (wr.alloc (.cells #[.int .u8 (x.toNat : Nat)] 5))) := below_al hbel _
      have A1 : Hid (Rk.OwnK 5 1 w.heap.size (wr.alloc (.cells #[.int .u8 (x.toNat : Nat)] 5)) (.slice oa j oc) (cellsB ((numL n).take j))) := HO.out.below (below_al (Below.refl _ _) _)
      have A2 : Hid (Rk.RowK 1 (wr.alloc (.cells #[.int .u8 (x.toNat : Nat)] 5)) (.slice (some ⟨wr.heap.size, 0, none⟩) 1 1) (cellsB [x])) := Rk.row_one (e := 5) (heap_alloc_new _ _) rfl
      have hlen : ((numL n).take j).length = j := by rw [List.length_take, num_len]; omega
      have A3 : Hid ((cellsB ((numL n).take j)).length + (cellsB [x]).length ≤ 100000) := by show _ ≤ _; rw [cellsB_len, cellsB_len, hlen, List.length_singleton]; omega
      have A4 : Hid (w.heap.size ≤ (wr.alloc (.cells #[.int .u8 (x.toNat : Nat)] 5)).heap.size) := HBY.out.size
      clear hbel hx hlen HB HO
      go_upto_region 5 with fail
      go_wp2_with (at_builtin; refine Rk.wpList_append_rowk rfl _ _ 52 5 1 1 _ Try.underlying52 infoU8 rfl (by decide) (by decide) rfl w.heap.size _ _ (cellsB ((numL n).take j)) (cellsB [x]) rfl rfl A1.out A2.out (cellsB_one _) A3.out A4.out ?_)
      intro v6 w9 h5 g5 k5
      rw [← cellsB_app, ← HL.out] at h5
      have HB6 := Lib.hid (A1.out.belowOf HBY.out (Nat.le_refl _) A4.out g5)
      have K9 := Lib.hid h5
      obtain ⟨a6, c6, rfl⟩ := h5.is_slice
      have hl1 : (cellsB ((numL n).take (j + 1))).length = j + 1 := by rw [cellsB_len, List.length_take, num_len]; omega
      rw [hl1] at K9 ⊢
      clear h5 g5 k5 A1 A2 A3 A4 HBY hl1
      go_wp2_with fail
      go_roundg (8 - (j + 1))
      case measure => omega
      case rel => exact ⟨j + 1, by omega, Nat.le_refl _, by go_num, ⟨_, _, rfl⟩, K9, HB6.out⟩
    · obtain rfl : j = 8 := by omega
      have iw : ¬ (0 : Int) ≤ 7 - ((8 : Nat) : Int) := by omega
      have e8 : (numL n).take 8 = numL n := List.take_of_length_le (by rw [num_len]; exact Nat.le_refl _)
      rw [e8] at HO
      have CV := row_text HO.out.row (by intro e; have := num_len n; rw [e] at this; cases this)
      obtain ⟨s, hs⟩ : ∃ s, s = mkB (numL n) := ⟨_, rfl⟩
      rw [← hs] at CV
      clear hbel e8 HO
      go_wp2_with fail
      go_ret
      exact ⟨by first | rfl | rw [hs], HB.out⟩
end Go.Proofs.Ythegkookfpnbeaa.Wds
