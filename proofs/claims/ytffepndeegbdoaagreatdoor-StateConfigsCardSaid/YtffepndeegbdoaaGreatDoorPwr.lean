/- Salt: the program's begun and written. -/
import Derived.Test.YtffepndeegbdoaaGreatDoorPte
set_option linter.unusedVariables false
set_option linter.unusedSimpArgs false
set_option maxRecDepth 100000
namespace Go.Proofs.YtffepndeegbdoaaGreatDoor.Slt
open Go.RowKit Go.Lib Go.Proofs.YtffepndeegbdoaaGreatDoor.Bx

def nib (x j : Nat) : List Nat := (List.range j).map fun i => digit (x / 2 ^ (28 - 4 * i) % 16)
theorem nib_succ (x j : Nat) : nib x (j + 1) = nib x j ++ [digit (x / 2 ^ (28 - 4 * j) % 16)] := by
  unfold nib
  rw [List.range_succ, List.map_append]
  rfl
theorem nib_len (x j : Nat) : (nib x j).length = j := by unfold nib; rw [List.length_map, List.length_range]
theorem nib_8 {x : Nat} (hx : x < 4294967296) : nib x 8 = hexL (bytes4 x) := by
  show [digit (x / 2 ^ 28 % 16), digit (x / 2 ^ 24 % 16), digit (x / 2 ^ 20 % 16), digit (x / 2 ^ 16 % 16), digit (x / 2 ^ 12 % 16), digit (x / 2 ^ 8 % 16), digit (x / 2 ^ 4 % 16), digit (x / 2 ^ 0 % 16)] = [digit (x / 16777216 % 256 / 16), digit (x / 16777216 % 256 % 16), digit (x / 65536 % 256 / 16), digit (x / 65536 % 256 % 16), digit (x / 256 % 256 / 16), digit (x / 256 % 256 % 16), digit (x % 256 / 16), digit (x % 256 % 16)]
  rw [show x / 2 ^ 28 % 16 = x / 16777216 % 256 / 16 by omega, show x / 2 ^ 24 % 16 = x / 16777216 % 256 % 16 by omega, show x / 2 ^ 20 % 16 = x / 65536 % 256 / 16 by omega, show x / 2 ^ 16 % 16 = x / 65536 % 256 % 16 by omega, show x / 2 ^ 12 % 16 = x / 256 % 256 / 16 by omega, show x / 2 ^ 8 % 16 = x / 256 % 256 % 16 by omega, show x / 2 ^ 4 % 16 = x % 256 / 16 by omega, show x / 2 ^ 0 % 16 = x % 256 % 16 by omega]
theorem hexL_app (a b : List Nat) : hexL (a ++ b) = hexL a ++ hexL b := by unfold hexL; rw [List.flatMap_append]
def outN (H : List Nat) (t j : Nat) : List Nat := hexL ((H.take t).flatMap bytes4) ++ nib (H.getD t 0) j
theorem outN_len {H : List Nat} (h : H.length = 8) {t : Nat} (ht : t ≤ 8) (j : Nat) : (outN H t j).length = 8 * t + j := by
  unfold outN
  rw [List.length_append, nib_len, hex_len, flat4_len, List.length_take, h]
  omega
theorem outN_next {H : List Nat} (h : H.length = 8) {t : Nat} (ht : t < 8) (h32 : B32 H) : outN H t 8 = outN H (t + 1) 0 := by
  unfold outN
  rw [nib_8 (h32 t), ← hexL_app, ← flat4_take (by rw [h]; exact ht)]
  show _ = _ ++ []
  rw [List.append_nil]
theorem outN_succ (H : List Nat) (t j : Nat) : outN H t (j + 1) = outN H t j ++ [digit (H.getD t 0 / 2 ^ (28 - 4 * j) % 16)] := by
  unfold outN
  rw [nib_succ, List.append_assoc]
theorem outN_all {H : List Nat} (h : H.length = 8) : outN H 8 0 = hexL (H.flatMap bytes4) := by
  unfold outN
  rw [List.take_of_length_le (by rw [h]; decide)]
  exact List.append_nil _
theorem run_isAgg {t : TypeId} {d : TypeDesc} (h : Tryz.prog.underlying t = some d) (w : World) : (isAgg t).run Tryz.prog w = .ok (match d with | .struct _ | .array _ _ => true | _ => false) w := by
  unfold isAgg
  rw [Sem.run_bind, run_underlying h w]
  cases d <;> rfl
theorem index_row (H : List Nat) (h : H.length = 8) {i : Nat} (hi : i < 8) (w : World) : (Instr.index 73 (.agg (toC .u32 H)) (.int .i64 (i : Nat))).run Tryz.prog w = .ok (.int .u32 (H.getD i 0 : Nat)) w := by
  have hs := run_size (t := 72) (n := 1) (by kernel_rfl) w
  have hi2 : (0 : Int) ≤ (i : Int) ∧ (i : Int) < 8 := by omega
  have hc : (toC .u32 H)[i]? = some (.int .u32 (H.getD i 0 : Nat)) := by
    unfold toC
    rw [List.getElem?_toArray, List.getElem?_map, List.getD_eq_getElem?_getD, List.getElem?_eq_getElem (by omega)]
    rfl
  have ha := run_isAgg (t := 72) Tryz.underlying72 w
  have hp : (part 72 (toC .u32 H) i).run Tryz.prog w = .ok (.int .u32 (H.getD i 0 : Nat)) w := by
    unfold part
    simp [hs, ha, hc, go_sem]
  have h2 : i * 1 = i := Nat.mul_one i
  simp [Instr.index, asIntOf, run_underlying Tryz.underlying73, hi2, hs, hp, go_sem]
  rw [if_pos hi, hc]
  simp [List.getD_eq_getElem?_getD]
theorem bits15 {y : Nat} (hy : y < 4294967296) : bits .and .u32 (y : Int) 15 = ((y % 16 : Nat) : Int) := by
  have h := and32 (a := y) (b := 15) hy (by decide)
  rw [Nat.and_two_pow_sub_one_eq_mod y 4] at h
  exact h
theorem flat4_ok (H : List Nat) : B8 (H.flatMap bytes4) := B8.of fun x hx => by
  obtain ⟨y, _, hx⟩ := List.mem_flatMap.1 hx
  unfold bytes4 at hx
  simp only [List.mem_cons, List.not_mem_nil, or_false] at hx
  rcases hx with rfl | rfl | rfl | rfl <;> exact Nat.mod_lt _ (by decide)
theorem row_one {e : TypeId} {b : Nat} {w : World} {x : Value} (h : w.heap[b]? = some (.cells #[x] e (0, 0))) : Rk.RowK 1 w (.slice (some ⟨b, 0, none⟩) 1 1) [[x]] := by
  refine ⟨fun z hz => ?_, some ⟨b, 0, none⟩, 1, rfl, Nat.le_refl _, by unfold maxLen; omega, .inr ⟨b, 0, rfl, (Array.getElem?_eq_some_iff.1 h).1, fun j hj i u hu => ?_⟩⟩
  · simp only [List.mem_singleton] at hz
    rw [hz]
    rfl
  · rw [cell_of_row _ _ _ _ _ _ h]
    have hj : j < 1 := hj
    match j, hj with
    | 0, _ =>
      match i, hu with
      | 0, hu => exact hu
      | i + 1, hu => simp at hu
theorem pwritten_any (H : List Nat) (w : World) (hl : H.length = 8) (h32 : B32 H) : Calls Tryz.prog 49 #[.agg (toC .u32 H)] w fun e w' => ∃ t, e = .returned (.string t) ∧ bytesN t = hexL (H.flatMap bytes4) ∧ Below w.heap.size w w' := by
  have HL := Lib.hid hl
  have H32 := Lib.hid h32
  obtain ⟨i0, hi0, hz0, hz1, hz2⟩ := Rk.kparts infoU8
  have M1 : Hid (i0.bytes * 64 ≤ 281474976710656) := by show _ ≤ _; rw [hz2]; omega
  have M2 : Hid (64 ≤ maxLen) := by show _ ≤ _; unfold maxLen; omega
  clear hl h32
  go_enter Tryz.func49, Tryz.ntmps49
  go_upto_region 1 with fail
  obtain ⟨W0, hW0⟩ : ∃ W0, W0 = w.alloc (.cells (toC .u32 H) 73) := ⟨_, rfl⟩
  obtain ⟨N, hN⟩ : ∃ N, N = w.heap.size := ⟨_, rfl⟩
  rw [← hW0, ← hN]
  have B0 : Hid (Below w.heap.size w W0) := by rw [hW0]; exact below_al (Below.refl _ _) _
  have P0 : Hid (W0.heap[N]? = some (.cells (toC .u32 H) 73 (0, 0))) := by show _ = _; rw [hW0, hN]; exact heap_alloc_new _ _
  clear hW0 hN
  go_wp2_with (at_make; refine wpList_make_own _ rfl _ _ 117 rfl W0.heap.size 5 i0 (.int .u8 0) 1 Tryz.underlying117 hi0 hz0 hz1 .i64 .i64 _ 64 rfl rfl (by first | rfl | (simp; done) | omega) M1.out M2.out (Nat.le_refl _) ?_)
  intro w1 h1 g1
  have K1 : Hid (OwnN .u8 5 W0.heap.size w1 (.slice (some ⟨W0.heap.size, 0, none⟩) 0 64) []) := ⟨fun x hx => by simp at hx, h1⟩
  have BW1 : Hid (Below W0.heap.size W0 w1) := ⟨g1.os, g1.tape, g1.output, g1.size, fun k hk => g1.block k hk (by simp)⟩
  clear h1 g1 M1 M2 hi0 hz0 hz1 hz2
  have LH : Hid (w1.heap[N]? = some (.cells (toC .u32 H) 73 (0, 0))) := (BW1.out.block _ (Array.getElem?_eq_some_iff.1 P0.out).1).trans P0.out
  have IH : Hid ((Tryz.prog.info? 73).map (·.size) = some (toC .u32 H).size) := by show _ = _; rw [toC_size, HL.out]; exact info8
  go_wp2_with (refine wpList_load_row rfl _ _ rfl N rfl _ _ _ _ LH.out Tryz.underlying73 rfl IH.out ?_)
  clear LH IH
  have HB1 := Lib.hid (below_on B0.out BW1.out)
  go_loopg [3, 9] 8 (fun g_ s_ i_ wr => ∃ t : Nat, t ≤ 8 ∧ 8 - t ≤ g_ ∧ i_ = .int .i64 t ∧ (∃ a c, s_ = .slice a (8 * t) c) ∧ Hid (OwnN .u8 5 W0.heap.size wr s_ (outN H t 0)) ∧ Below W0.heap.size W0 wr)
  case atStart => exact ⟨0, by omega, by omega, rfl, ⟨_, _, rfl⟩, K1, BW1.out⟩
  case round =>
    obtain ⟨t, ht, hgh, rfl, ⟨sa, sc, rfl⟩, HO, hbel⟩ := hrel
    have HB := Lib.hid hbel
    by_cases ht8 : t < 8
    · have iw : ((t : Nat) : Int) < 8 := by omega
      have IX := fun w => index_row H HL.out ht8 w
      have HX := H32.out t
      have HNX : Hid (outN H t 8 = outN H (t + 1) 0) := outN_next HL.out ht8 H32.out
      have HSU : Hid (∀ j, outN H t (j + 1) = outN H t j ++ [digit (H.getD t 0 / 2 ^ (28 - 4 * j) % 16)]) := outN_succ H t
      have HLN : Hid (∀ j, (outN H t j).length = 8 * t + j) := outN_len HL.out (by omega)
      generalize H.getD t 0 = x at *
      obtain ⟨wo, hwo⟩ : ∃ wo, wo = wr := ⟨_, rfl⟩
      rw [← hwo] at HO HB ⊢
      clear hbel hwo
      go_wp2_with fail
      clear IX
      go_loopg [3, 6] 8 (fun g_ s_ i_ wr => ∃ j : Nat, j ≤ 8 ∧ 8 - j ≤ g_ ∧ i_ = .int .i64 (28 - 4 * (j : Int)) ∧ (∃ a c, s_ = .slice a (8 * t + j) c) ∧ Hid (OwnN .u8 5 W0.heap.size wr s_ (outN H t j)) ∧ Below W0.heap.size W0 wr)
      case atStart => exact ⟨0, by omega, by omega, by simp, ⟨_, _, rfl⟩, HO, HB.out⟩
      case round =>
        obtain ⟨j, hj, hgh2, rfl, ⟨ba, bc, rfl⟩, HO2, hbel⟩ := hrel
        have HB2 := Lib.hid hbel
        by_cases hj8 : j < 8
        · obtain ⟨sh, hsh⟩ : ∃ sh : Nat, sh = 28 - 4 * j := ⟨_, rfl⟩
          have es : 28 - 4 * (j : Int) = (sh : Nat) := by omega
          have HK7 : Hid ((sh : Int) - 4 = 28 - 4 * ((j + 1 : Nat) : Int)) := by show _ = _; omega
          rw [es]
          have HS1 := HSU.out j
          rw [← hsh] at HS1
          have E1 : (x : Int) / 2 ^ sh = ((x / 2 ^ sh : Nat) : Int) := by rw [Int.natCast_ediv, Int.natCast_pow]; rfl
          have hxs : x / 2 ^ sh < 4294967296 := Nat.lt_of_le_of_lt (Nat.div_le_self _ _) HX
          have E2 : bits .and .u32 ((x : Int) / 2 ^ sh) 15 = ((x / 2 ^ sh % 16 : Nat) : Int) := by rw [E1]; exact bits15 hxs
          obtain ⟨y, hy⟩ : ∃ y, y = x / 2 ^ sh % 16 := ⟨_, rfl⟩
          have y16 : y < 16 := by rw [hy]; exact Nat.mod_lt _ (by decide)
          rw [← hy] at E2 HS1
          have XD : ∀ w, (Instr.index 9 (.string ⟨#[48, 49, 50, 51, 52, 53, 54, 55, 56, 57, 97, 98, 99, 100, 101, 102]⟩) (.int .u32 (y : Nat))).run Tryz.prog w = .ok (.int .u8 (digit y : Nat)) w := fun w =>
            (index_at w digitsB .u32 (by show _ < 16; omega)).trans (by rw [digits_at _ y16])
          have HD := Lib.hid HS1
          generalize digit y = p at *
          have A1 : Hid (Rk.OwnK 5 1 W0.heap.size (wr.alloc (.cells #[.int .u8 (p : Nat)] 5)) (.slice ba (8 * t + j) bc) ((outN H t j).map fun x => [Value.int .u8 (x : Nat)])) := Rk.OwnK.below HO2.out (below_al (Below.refl _ _) _)
          have A2 : Hid (Rk.RowK 1 (wr.alloc (.cells #[.int .u8 (p : Nat)] 5)) (.slice (some ⟨wr.heap.size, 0, none⟩) 1 1) [[Value.int .u8 (p : Nat)]]) := row_one (heap_alloc_new _ _)
          have A3 : Hid (∀ z ∈ [[Value.int .u8 (p : Nat)]], ∀ q ∈ z, q.oneCell' = true) := fun z hz q hq => by
            simp only [List.mem_singleton] at hz
            subst hz
            simp only [List.mem_singleton] at hq
            subst hq
            rfl
          have A4 : Hid (((outN H t j).map fun x => [Value.int .u8 (x : Nat)]).length + 1 ≤ 100000) := by show _ ≤ _; rw [List.length_map, HLN.out]; omega
          have HBY : Hid (Below W0.heap.size W0 (wr.alloc (.cells #[.int .u8 (p : Nat)] 5))) := below_al HB2.out _
          have A5 : Hid (W0.heap.size ≤ (wr.alloc (.cells #[.int .u8 (p : Nat)] 5)).heap.size) := HBY.out.size
          have i1 : (0 : Int) ≤ (sh : Int) := by omega
          have sh56 : sh ≤ 28 := by omega
          obtain ⟨_, _, _, e4, c3, c4, _⟩ := Rk.OwnK.row HO2.out
          injection e4 with y1 y2 y3
          rw [← y3] at c3 c4
          rw [List.length_map, HLN.out] at c3
          unfold maxLen at c4
          clear hbel es hsh hy HS1 E1 hxs y1 y2 y3
          go_wp2_with (at_builtin; refine Rk.wpList_append_rowk rfl _ _ 117 5 1 1 _ Tryz.underlying117 infoU8 rfl (by decide) (by decide) rfl W0.heap.size _ _ ((outN H t j).map fun x => [Value.int .u8 (x : Nat)]) [[Value.int .u8 (p : Nat)]] rfl rfl A1.out A2.out A3.out A4.out A5.out ?_)
          intro v6 w9 h5 g5 k5
          have K9 : Hid (OwnN .u8 5 W0.heap.size w9 v6 (outN H t (j + 1))) := by
            show Rk.OwnK _ _ _ _ _ _
            rw [HD.out, List.map_append]
            exact h5
          have HB6 := Lib.hid (A1.out.belowOf HBY.out (Nat.le_refl _) A5.out g5)
          obtain ⟨a6, c6, rfl⟩ := K9.out.is_slice
          have HL6 : Hid ((outN H t (j + 1)).length = 8 * t + (j + 1)) := HLN.out _
          clear h5 g5 k5 A1 A2 A3 A4 HBY
          rw [HL6.out] at K9 ⊢
          go_wp2_with fail
          go_roundg (8 - (j + 1))
          case measure => omega
          case rel => exact ⟨j + 1, by omega, Nat.le_refl _, by rw [HK7.out], ⟨_, _, rfl⟩, K9, HB6.out⟩
        · obtain rfl : j = 8 := by omega
          have i1 : ¬ ((0 : Int) ≤ 28 - 4 * ((8 : Nat) : Int)) := by omega
          have d1 : decide ((0 : Int) ≤ 28 - 4 * ((8 : Nat) : Int)) = false := decide_eq_false i1
          have e8 : 8 * t + 8 = 8 * (t + 1) := by omega
          rw [HNX.out, e8] at HO2
          rw [e8]
          clear hbel e8
          go_wp2_with fail
          go_roundg (8 - (t + 1))
          case measure => omega
          case rel => exact ⟨t + 1, by omega, Nat.le_refl _, by go_num, ⟨_, _, rfl⟩, HO2, HB2.out⟩
    · obtain rfl : t = 8 := by omega
      have iw : ¬ (((8 : Nat) : Int) < 8) := by omega
      rw [outN_all HL.out] at HO
      obtain ⟨D, hD⟩ : ∃ D, D = H.flatMap bytes4 := ⟨_, rfl⟩
      rw [← hD] at HO
      have hDL : D.length = 32 := by rw [hD, flat4_len, HL.out]
      have hl : (hexL D).length = 64 := by rw [hex_len, hDL]
      obtain ⟨g, cap, e1, _, hg1, _, _, hc⟩ := HO.out.at_ (by rw [hl]; decide)
      rw [hl] at e1 hc
      injection e1 with e1 e2 e3
      subst e1 e3
      have hD8 : B8 (hexL D) := by
        rw [hD]
        exact hex_ok (flat4_ok H)
      obtain ⟨T, hT⟩ : ∃ T : ByteArray, T = ofN (hexL D) := ⟨_, rfl⟩
      have CV : (convert 117 9 (.slice (some ⟨g, 0, none⟩) 64 sc)).run Tryz.prog wr = .ok (.string T) wr := by
        have h := run_convert_bytes_back (P := Tryz.prog) wr 117 9 5 ⟨g, 0, none⟩ sc ((hexL D).map UInt8.ofNat) Tryz.underlying117 Tryz.underlying5 Tryz.underlying9 (fun j hj => by
          have hj' : j < 64 := by rw [List.length_map, hl] at hj; exact hj
          have hadd : (⟨g, 0, none⟩ : Addr).add j = ⟨g, j, none⟩ := by unfold Addr.add; split <;> simp_all
          rw [hadd, hc j hj', List.getElem_map]
          congr 2
          have h8 := hD8 j
          rw [List.getD_eq_getElem?_getD, List.getElem?_eq_getElem (by rw [hl]; exact hj')] at h8 ⊢
          simp only [Option.getD_some] at h8 ⊢
          rw [UInt8.toNat_ofNat', Nat.mod_eq_of_lt h8])
        rw [List.length_map, hl] at h
        rw [h, hT]
        rfl
      have FN : Hid (bytesN T = hexL (H.flatMap bytes4)) := by show _ = _; rw [hT, ofN_nat hD8, hD]
      have HBF := Lib.hid (below_on B0.out hbel)
      clear hbel hl hc HO hT hD8 hg1 hD hDL
      go_wp2_with fail
      go_ret
      exact ⟨T, rfl, FN.out, HBF.out⟩
end Go.Proofs.YtffepndeegbdoaaGreatDoor.Slt
