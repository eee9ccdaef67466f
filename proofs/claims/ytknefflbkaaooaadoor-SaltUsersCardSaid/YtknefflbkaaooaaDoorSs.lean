/- Salt: Seal of the plain text. -/
import Derived.Test.YtknefflbkaaooaaDoorSx
import Derived.Deep.RegionLaw
set_option linter.unusedVariables false
set_option linter.unusedSimpArgs false
set_option maxRecDepth 100000
namespace Go.Proofs.YtknefflbkaaooaaDoor.Slt
open Go.RowKit Go.Lib Go.Proofs.YtknefflbkaaooaaDoor.Bx

theorem map_inj {α β : Type} {f : α → β} (hf : ∀ a b, f a = f b → a = b) : ∀ l m : List α, l.map f = m.map f → l = m
  | [], [], _ => rfl
  | [], b :: m, h => by simp at h
  | a :: l, [], h => by simp at h
  | a :: l, b :: m, h => by
    simp only [List.map_cons, List.cons.injEq] at h
    rw [hf a b h.1, map_inj hf l m h.2]
theorem row_two {e : TypeId} {b : Nat} {w : World} {x y : Value} (h : w.heap[b]? = some (.cells #[x, y] e (0, 0))) : Rk.RowK 1 w (.slice (some ⟨b, 0, none⟩) 2 2) [[x], [y]] := by
  refine ⟨fun z hz => ?_, some ⟨b, 0, none⟩, 2, rfl, Nat.le_refl _, by unfold maxLen; omega, .inr ⟨b, 0, rfl, (Array.getElem?_eq_some_iff.1 h).1, fun j hj i u hu => ?_⟩⟩
  · simp only [List.mem_cons, List.not_mem_nil, or_false] at hz
    rcases hz with rfl | rfl <;> rfl
  · rw [cell_of_row _ _ _ _ _ _ h]
    have hj : j < 2 := hj
    match j, hj with
    | 0, _ =>
      match i, hu with
      | 0, hu => exact hu
      | i + 1, hu => simp at hu
    | 1, _ =>
      match i, hu with
      | 0, hu => exact hu
      | i + 1, hu => simp at hu
def ofN (l : List Nat) : ByteArray := ⟨(l.map UInt8.ofNat).toArray⟩
theorem ofN_nat {l : List Nat} (h : B8 l) : bytesN (ofN l) = l := by
  show (l.map UInt8.ofNat).map UInt8.toNat = l
  rw [List.map_map]
  apply List.ext_getElem (by simp)
  intro i h1 h2
  rw [List.getElem_map]
  have := h i
  rw [List.getD_eq_getElem?_getD, List.getElem?_eq_getElem h2] at this
  simp only [Option.getD_some] at this
  show (UInt8.ofNat _).toNat = _
  rw [UInt8.toNat_ofNat', Nat.mod_eq_of_lt this]
theorem byte_at (t : ByteArray) {i : Nat} (hi : i < t.size) : (t[i]'hi).toNat = (bytesN t).getD i 0 := by
  have h1 : i < t.data.toList.length := hi
  unfold bytesN
  rw [List.getD_eq_getElem?_getD, List.getElem?_map, List.getElem?_eq_getElem h1]
  rfl
theorem index_at (w : World) (t : ByteArray) (k : IntKind) {i : Nat} (hi : i < t.size) : (Instr.index 9 (.string t) (.int k (i : Nat))).run Tryd.prog w = .ok (.int .u8 ((bytesN t).getD i 0 : Nat)) w := by
  rw [run_index_string w 9 t k (i : Int) Tryd.underlying9, dif_pos ⟨by omega, by omega⟩, ← byte_at t hi]
  rfl
def digitsB : ByteArray := ⟨#[48, 49, 50, 51, 52, 53, 54, 55, 56, 57, 97, 98, 99, 100, 101, 102]⟩
theorem digits_at : ∀ y, y < 16 → (bytesN digitsB).getD y 0 = digit y := by decide
theorem digit_lt : ∀ y, y < 16 → digit y < 256 := by decide
theorem hex_ok {D : List Nat} (h : B8 D) : B8 (hexL D) := B8.of fun x hx => by
  unfold hexL at hx
  obtain ⟨y, hy, hx⟩ := List.mem_flatMap.1 hx
  obtain ⟨j, hj, rfl⟩ := List.getElem_of_mem hy
  have h8 := h j
  rw [List.getD_eq_getElem?_getD, List.getElem?_eq_getElem hj] at h8
  simp only [Option.getD_some] at h8
  simp only [List.mem_cons, List.not_mem_nil, or_false] at hx
  rcases hx with rfl | rfl
  · exact digit_lt _ (by omega)
  · exact digit_lt _ (by omega)
theorem bytesN_inj {s t : ByteArray} (h : bytesN s = bytesN t) : s = t := by
  have e : s.data.toList = t.data.toList := map_inj (fun a b h => UInt8.toNat_inj.1 h) _ _ h
  cases s
  cases t
  congr
  exact Array.toList_inj.1 e
theorem sum_len (l : List Nat) : (sumL l).length = 32 := by
  unfold sumL
  rw [flat4_len, blocks_len]
theorem hex_take {D : List Nat} {i : Nat} (hi : i < D.length) : hexL (D.take (i + 1)) = hexL (D.take i) ++ [digit (D.getD i 0 / 16), digit (D.getD i 0 % 16)] := by
  unfold hexL
  rw [List.take_succ_eq_append_getElem hi, List.flatMap_append, List.getD_eq_getElem?_getD, List.getElem?_eq_getElem hi]
  simp
theorem hex_len (l : List Nat) : (hexL l).length = 2 * l.length := by
  unfold hexL
  induction l with
  | nil => rfl
  | cons x l ih =>
    rw [List.flatMap_cons, List.length_append, ih, List.length_cons]
    simp only [List.length_cons, List.length_nil]
    omega
theorem bytesN_lt (s : ByteArray) : B8 (bytesN s) := B8.of fun x hx => by
  unfold bytesN at hx
  obtain ⟨y, _, rfl⟩ := List.mem_map.1 hx
  exact y.toNat_lt
set_option maxHeartbeats 8000000 in
theorem rseal_any (SOK : SumOk) (s p : ByteArray) (w : World) (hs : s.size + p.size ≤ 9000) : Calls Tryd.prog 7 #[.string s, .string p] w fun e w' => ∃ t, e = .returned (.string t) ∧ bytesN t = sealL (bytesN s) (bytesN p) ∧ Below w.heap.size w w' := by
  obtain ⟨s1, hs1⟩ : ∃ s1 : ByteArray, s1 = s ++ ByteArray.mk #[0] := ⟨_, rfl⟩
  obtain ⟨s2, hs2⟩ : ∃ s2 : ByteArray, s2 = s1 ++ p := ⟨_, rfl⟩
  have z1 : s1.size = s.size + 1 := by rw [hs1, ByteArray.size_append]; rfl
  have z2 : s2.size = s.size + 1 + p.size := by rw [hs2, ByteArray.size_append, z1]
  have AD1 : ∀ w, (Op.stringOp .add s (ByteArray.mk #[0])).run Tryd.prog w = .ok (.string s1) w := fun w => by rw [hs1]; exact run_string_add_sum w _ _ (by show s.size + 1 ≤ _; omega)
  have AD2 : ∀ w, (Op.stringOp .add s1 p).run Tryd.prog w = .ok (.string s2) w := fun w => by rw [hs2]; exact run_string_add_sum w _ _ (by rw [z1]; omega)
  have HB2 : Hid (bytesN s2 = bytesN s ++ [0] ++ bytesN p) := by show _ = _; rw [hs2, hs1, bytesN_app, bytesN_app]; rfl
  have C1 := Lib.hid (SOK s2 w (by omega))
  obtain ⟨D, hD⟩ : ∃ D, D = sumL (bytesN s2) := ⟨_, rfl⟩
  have HDL : Hid (D.length = 32) := by rw [hD]; exact sum_len _
  have HSE : Hid (sealL (bytesN s) (bytesN p) = hexL D) := by show _ = _; unfold sealL; rw [hD, HB2.out]
  rw [← hD] at C1
  clear hs1 hs2 z1 z2 hD
  go_enter Tryd.func7, Tryd.ntmps7
  go_wp2_with fail
  refine (C1.out).mono ?_
  rintro e w1 ⟨t, rfl, ht, b1⟩
  have HB1 := Lib.hid b1
  have HT := Lib.hid ht
  have hts : t.size = 32 := by rw [← bytesN_len, ht, HDL.out]
  have HTX : Hid (∀ i, i < 32 → (bytesN t).getD i 0 = D.getD i 0 ∧ D.getD i 0 < 256) := fun i hi => by
    have hb := bytesN_lt t i
    rw [ht] at hb
    exact ⟨by rw [ht], hb⟩
  clear b1 ht C1
  go_wp2_with fail
  go_loopg [7, 8] 32 (fun g o_ i_ wr => ∃ (i : Nat), i ≤ 32 ∧ 32 - i ≤ g ∧ i_ = .int .i64 i ∧ (∃ a c, o_ = .slice a (2 * i) c) ∧ Hid (OwnN .u8 5 w1.heap.size wr o_ (hexL (D.take i))) ∧ Below w1.heap.size w1 wr)
  case atStart => exact ⟨0, by omega, by omega, rfl, ⟨_, _, rfl⟩, Rk.OwnK.nil_ _ _ _ _, Below.refl _ _⟩
  case round =>
    obtain ⟨i, hi, hg, rfl, ⟨oa, oc, rfl⟩, HO, hbel⟩ := hrel
    have HB := Lib.hid hbel
    by_cases hi32 : i < 32
    · have iw : ((i : Nat) : Int) < 32 := by omega
      have n0 : (0 : Int) ≤ (i : Int) := by omega
      obtain ⟨e1, bx⟩ := HTX.out i hi32
      have XI : ∀ w, (Instr.index 9 (.string t) (.int .i64 (i : Nat))).run Tryd.prog w = .ok (.int .u8 (D.getD i 0 : Nat)) w := fun w => by
        rw [index_at w t .i64 (by omega), e1]
      have HX : Hid (hexL (D.take (i + 1)) = hexL (D.take i) ++ [digit (D.getD i 0 / 16), digit (D.getD i 0 % 16)]) := hex_take (by rw [HDL.out]; exact hi32)
      have HLN : Hid ((hexL (D.take i)).length = 2 * i) := by show _ = _; rw [hex_len, List.length_take, HDL.out]; omega
      generalize D.getD i 0 = x at *
      have XD1 : ∀ w, (Instr.index 9 (.string ⟨#[48, 49, 50, 51, 52, 53, 54, 55, 56, 57, 97, 98, 99, 100, 101, 102]⟩) (.int .u8 ((x : Int) / 16))).run Tryd.prog w = .ok (.int .u8 (digit (x / 16) : Nat)) w := fun w => by
        rw [show (x : Int) / 16 = ((x / 16 : Nat) : Int) from by rw [Int.natCast_ediv]; rfl]
        exact (index_at w digitsB .u8 (by show _ < 16; omega)).trans (by rw [digits_at _ (by omega)])
      have XD2 : ∀ w, (Instr.index 9 (.string ⟨#[48, 49, 50, 51, 52, 53, 54, 55, 56, 57, 97, 98, 99, 100, 101, 102]⟩) (.int .u8 ((x : Int) % 16))).run Tryd.prog w = .ok (.int .u8 (digit (x % 16) : Nat)) w := fun w => by
        rw [show (x : Int) % 16 = ((x % 16 : Nat) : Int) from by rw [Int.natCast_emod]; rfl]
        exact (index_at w digitsB .u8 (by show _ < 16; omega)).trans (by rw [digits_at _ (by omega)])
      have zq : IntKind.u8.wrap ((x : Int) / 16) = (x : Int) / 16 := IntWalk.u8_in _ (by omega)
      have zr : (x : Int).tmod 16 = (x : Int) % 16 := Int.tmod_eq_emod_of_nonneg (by omega)
      generalize digit (x / 16) = p1 at *
      generalize digit (x % 16) = p2 at *
      have HXL : Hid ((hexL (D.take i)).map (fun x => [Value.int .u8 (x : Nat)]) = (hexL (D.take i)).map (fun x => [Value.int .u8 (x : Nat)])) := rfl
      have H1 : Hid (∀ z ∈ [[Value.int .u8 (p1 : Nat)], [Value.int .u8 (p2 : Nat)]], ∀ q ∈ z, q.oneCell' = true) := fun z hz q hq => by
        simp only [List.mem_cons, List.not_mem_nil, or_false] at hz
        rcases hz with rfl | rfl <;> (simp only [List.mem_singleton] at hq; subst hq; rfl)
      have H2 : Hid (((hexL (D.take i)).map fun x => [Value.int .u8 (x : Nat)]).length + 2 ≤ 100000) := by show _ ≤ _; rw [List.length_map, HLN.out]; omega
      have KV : Hid (Below w1.heap.size w1 wr) := hbel
      have HOX : Hid (∀ w', Below wr.heap.size wr w' → Rk.OwnK 5 1 w1.heap.size w' (.slice oa (2 * i) oc) ((hexL (D.take i)).map fun x => [Value.int .u8 (x : Nat)])) := fun w' hb => Rk.OwnK.below HO.out hb
      have KR : Hid (Below wr.heap.size wr wr) := Below.refl _ _
      have HLM : Hid ((hexL (D.take (i + 1))).length = 2 * (i + 1)) := by show _ = _; rw [hex_len, List.length_take, HDL.out]; omega
      have HKN : Hid (∀ v6 w9, Rk.OwnK 5 1 w1.heap.size w9 v6 ((hexL (D.take i)).map (fun x => [Value.int .u8 (x : Nat)]) ++ [[Value.int .u8 (p1 : Nat)], [Value.int .u8 (p2 : Nat)]]) → OwnN .u8 5 w1.heap.size w9 v6 (hexL (D.take (i + 1)))) := fun v6 w9 h => by
        show Rk.OwnK _ _ _ _ _ _
        rw [HX.out, List.map_append]
        exact h
      have HBN : Hid (∀ w' w9, Below wr.heap.size wr w' → True → w'.grownBy w9 (Value.slice oa (2 * i) oc).ownBlock → Below w1.heap.size w1 w9) := fun w' w9 hb _ g => (HOX.out w' hb).belowOf (below_on KV.out hb) (Nat.le_refl _) (Nat.le_trans KV.out.size hb.size) g
      clear hbel e1 HXL
      go_upto_region 7 with fail
      go_region_law (refine step_append_rowk rfl _ _ 43 5 1 1 _ Tryd.underlying43 infoU8 rfl (by decide) (by decide) rfl w1.heap.size _ _ ((hexL (D.take i)).map fun x => [Value.int .u8 (x : Nat)]) [[Value.int .u8 (p1 : Nat)], [Value.int .u8 (p2 : Nat)]] rfl rfl (HOX.out _ ?_) (row_two (by first | exact heap_alloc_new _ _ | (simp; done))) H1.out H2.out ?_ ?_; (focus (repeat first | with_reducible assumption | with_reducible exact KR.out | with_reducible apply Below.drew | with_reducible apply below_drews | with_reducible apply below_al)); (focus (refine Nat.le_trans KV.out.size (Below.size (B := wr.heap.size) (w := wr) ?_); (repeat first | with_reducible assumption | with_reducible exact KR.out | with_reducible apply Below.drew | with_reducible apply below_drews | with_reducible apply below_al))); intro v6 w9 h5 g5 k5; have K9 := HKN.out v6 w9 h5; obtain ⟨a6, c6, rfl⟩ := K9.is_slice; have B9 := fun h hb => HBN.out _ w9 h hb g5; replace B9 := B9 (by (repeat first | with_reducible assumption | with_reducible exact KR.out | with_reducible apply Below.drew | with_reducible apply below_drews | with_reducible apply below_al)) trivial; replace K9 := Lib.hid K9; rw [HLM.out] at K9; clear h5 g5 k5)
      all_goals rw [HLM.out]
      all_goals go_wp2_with fail
      all_goals go_roundg (32 - (i + 1))
      all_goals (first | omega | exact ⟨i + 1, by omega, Nat.le_refl _, by go_num, ⟨_, _, rfl⟩, K9, by (repeat first | with_reducible assumption | with_reducible apply Below.drew | with_reducible apply below_drews)⟩)
    · obtain rfl : i = 32 := by omega
      have iw : ¬ (((32 : Nat) : Int) < 32) := by omega
      have et : D.take 32 = D := List.take_of_length_le (by rw [HDL.out]; exact Nat.le_refl _)
      rw [et] at HO
      have hl : (hexL D).length = 64 := by rw [hex_len, HDL.out]
      obtain ⟨g, cap, e1, _, hg1, _, _, hc⟩ := HO.out.at_ (by rw [hl]; decide)
      rw [hl] at e1 hc
      injection e1 with e1 e2 e3
      subst e1 e3
      have hD8 : B8 (hexL D) := hex_ok (by rw [← HT.out]; exact bytesN_lt t)
      obtain ⟨T, hT⟩ : ∃ T : ByteArray, T = ofN (hexL D) := ⟨_, rfl⟩
      have CV : (convert 43 9 (.slice (some ⟨g, 0, none⟩) 64 oc)).run Tryd.prog wr = .ok (.string T) wr := by
        have h := run_convert_bytes_back (P := Tryd.prog) wr 43 9 5 ⟨g, 0, none⟩ oc ((hexL D).map UInt8.ofNat) Tryd.underlying43 Tryd.underlying5 Tryd.underlying9 (fun j hj => by
          have hj' : j < 64 := by rw [List.length_map, hl] at hj; exact hj
          have hadd : (⟨g, 0, none⟩ : Addr).add j = ⟨g, j, none⟩ := by unfold Addr.add; split <;> simp_all
          rw [hadd, hc j hj', List.getElem_map]
          congr 2
          have h8 := hD8 j
          rw [List.getD_eq_getElem?_getD, List.getElem?_eq_getElem (by rw [hl]; exact hj')] at h8 ⊢
          simp only [Option.getD_some] at h8 ⊢
          rw [UInt8.toNat_ofNat', Nat.mod_eq_of_lt h8])
        rw [List.length_map, hl] at h
        rw [h, hT]
        rfl
      have FN : Hid (bytesN T = sealL (bytesN s) (bytesN p)) := by show _ = _; rw [HSE.out, hT, ofN_nat hD8]
      have HBF := Lib.hid (below_on HB1.out hbel)
      clear hbel et hl hc HO hT hD8 hg1 e2
      go_wp2_with fail
      go_ret
      exact ⟨T, rfl, FN.out, HBF.out⟩
end Go.Proofs.YtknefflbkaaooaaDoor.Slt
