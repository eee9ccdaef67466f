/- Contracts of the reference's Byte, Cut and Put. -/
import Derived.Test.YtengmiolcfgdiaaDoorWalkB
set_option linter.unusedVariables false
namespace Go.Proofs.YtengmiolcfgdiaaDoor.Con
open Go.RowKit Go.Lib Go.Proofs.YtengmiolcfgdiaaDoor.Let

theorem ext_data (s : ByteArray) (n : Nat) : (s.extract n s.size).data.toList = s.data.toList.drop n := by
  rw [mk_extract, Let.mk_data, ← sz, List.take_length]

set_option maxRecDepth 100000 in
set_option maxHeartbeats 400000 in
theorem rbyte_any (s : ByteArray) (a : Int) (w : World) (hs : s.size ≤ maxLen) (ha1 : -9223372036854775808 ≤ a) (ha2 : a ≤ 9223372036854775807) :
    Calls Tryd.prog 78 #[.string s, .int .i64 a] w fun e w' => e = .returned (.int .i64 (byt a.toNat s.data.toList)) ∧ w = w' := by
  have hs2 := hs
  unfold maxLen at hs
  go_enter Tryd.func78, Tryd.ntmps78
  go_wp2
  go_loop [5, 6] (fun b i => ∃ k : Nat, i = .int .i64 k ∧ b = .int .i64 (byt k s.data.toList) ∧ k ≤ a.toNat ∧ k ≤ byt k s.data.toList) (fun _ i => a.toNat - (intOf i).toNat)
  case atStart => exact ⟨0, rfl, rfl, by omega, by omega⟩
  case round =>
    obtain ⟨k, rfl, rfl, hk, hkb⟩ := hrel
    have hb := byt_le k s.data.toList
    rw [sz] at hb
    by_cases hka : (k : Int) < a
    · by_cases hp : byt k s.data.toList < s.size
      · have e1 : Hid (byt (k + 1) s.data.toList = byt k s.data.toList + (decodeL (s.data.toList.drop (byt k s.data.toList))).2) := byt_succ k _ (by rw [sz]; exact hp)
        have hle := byt_le (k + 1) s.data.toList
        rw [e1.out, sz] at hle
        have hpos := dl_pos (s.data.toList.drop (byt k s.data.toList))
        have hx : (s.extract (byt k s.data.toList) s.size).size = s.size - byt k s.data.toList := by rw [ByteArray.size_extract]; omega
        have hx1 : (s.extract (byt k s.data.toList) s.size).size ≤ maxLen := by rw [hx]; omega
        have hx2 : 0 < (s.extract (byt k s.data.toList) s.size).size := by rw [hx]; omega
        have hC := Lib.hid (fun w => size_any (s.extract (byt k s.data.toList) s.size) w hx1 hx2)
        clear hx hx1 hx2
        rw [ext_data] at hC
        go_wp2_with (go_at_call 61; refine (hC.out _).mono ?_; rintro e w' ⟨rfl, rfl⟩)
        clear hC
        go_round
        case rel => exact ⟨k + 1, by go_num, by rw [e1.out]; go_num, by omega, by rw [e1.out]; omega⟩
        case measure => simp [intOf]; omega
      · have e : Hid (byt a.toNat s.data.toList = byt k s.data.toList) := by
          show _ = _
          have h1 := byt_mono hk s.data.toList
          have h2 := byt_le a.toNat s.data.toList
          rw [sz] at h2
          omega
        go_wp2
        go_ret
        exact ⟨ret_int (by rw [e.out]), rfl⟩
    · have e : Hid (byt a.toNat s.data.toList = byt k s.data.toList) := by
        show _ = _
        congr 1
        omega
      go_wp2
      go_ret
      exact ⟨ret_int (by rw [e.out]), rfl⟩

set_option maxHeartbeats 400000 in
theorem rcut_any (s : ByteArray) (a b : Int) (w : World) (hs : s.size ≤ maxLen) (ha1 : -9223372036854775808 ≤ a) (ha2 : a ≤ 9223372036854775807) (hb1 : -9223372036854775808 ≤ b) (hb2 : b ≤ 9223372036854775807) :
    Calls Tryd.prog 57 #[.string s, .int .i64 a, .int .i64 b] w fun e w' => e = .returned (.string (mk (cut s.data.toList a b))) ∧ w = w' := by
  have hs2 := hs
  have hl := byt_le b.toNat s.data.toList
  have hl1 := byt_le a.toNat s.data.toList
  rw [sz] at hl hl1
  unfold maxLen at hs
  by_cases hab : byt b.toNat s.data.toList ≤ byt a.toNat s.data.toList
  · have hcut : Hid (cut s.data.toList a b = []) := by
      show _ = _
      unfold cut
      apply List.drop_eq_nil_of_le
      rw [List.length_take]
      omega
    go_enter Tryd.func57, Tryd.ntmps57
    go_wp2_with fail
    refine (rbyte_any s a _ hs2 ha1 ha2).mono ?_
    rintro e w1 ⟨rfl, rfl⟩
    go_wp2_with fail
    refine (rbyte_any s b _ hs2 hb1 hb2).mono ?_
    rintro e w2 ⟨rfl, rfl⟩
    go_wp2
    go_ret
    exact ⟨by rw [hcut.out]; rfl, rfl⟩
  · have hba : byt a.toNat s.data.toList ≤ byt b.toNat s.data.toList := by omega
    go_enter Tryd.func57, Tryd.ntmps57
    go_wp2_with fail
    refine (rbyte_any s a _ hs2 ha1 ha2).mono ?_
    rintro e w1 ⟨rfl, rfl⟩
    go_wp2_with fail
    refine (rbyte_any s b _ hs2 hb1 hb2).mono ?_
    rintro e w2 ⟨rfl, rfl⟩
    go_wp2
    go_ret
    exact ⟨by rw [mk_extract]; rfl, rfl⟩

set_option maxHeartbeats 400000 in
theorem rput_any (s t : ByteArray) (a : Int) (w : World) (hs : s.size ≤ maxLen) (hst : s.size + t.size ≤ 1073741824) (ha1 : -9223372036854775808 ≤ a) (ha2 : a ≤ 9223372036854775807) :
    Calls Tryd.prog 51 #[.string s, .int .i64 a, .string t] w fun e w' => e = .returned (.string (mk (put s.data.toList a t.data.toList))) ∧ Below w.heap.size w w' := by
  have hl := byt_le a.toNat s.data.toList
  rw [sz] at hl
  have hs2 := hs
  unfold maxLen at hs
  go_enter Tryd.func51, Tryd.ntmps51
  go_wp2_with fail
  refine (rbyte_any s a _ hs2 ha1 ha2).mono ?_
  rintro e w1 ⟨rfl, rfl⟩
  have hx : (s.extract 0 (byt a.toNat s.data.toList)).size ≤ s.size := by rw [ByteArray.size_extract]; omega
  have hy : (s.extract 0 (byt a.toNat s.data.toList) ++ t).size ≤ s.size + t.size := by rw [ByteArray.size_append]; omega
  have hz : (s.extract (byt a.toNat s.data.toList) s.size).size ≤ s.size := by rw [ByteArray.size_extract]; omega
  have r1 : ∀ w : World, (Op.stringOp .add (s.extract 0 (byt a.toNat s.data.toList)) t).run Tryd.prog w = .ok (.string (s.extract 0 (byt a.toNat s.data.toList) ++ t)) w := fun w => run_string_add_sum w _ _ (by omega)
  have r2 : ∀ w : World, (Op.stringOp .add (s.extract 0 (byt a.toNat s.data.toList) ++ t) (s.extract (byt a.toNat s.data.toList) s.size)).run Tryd.prog w = .ok (.string (s.extract 0 (byt a.toNat s.data.toList) ++ t ++ s.extract (byt a.toNat s.data.toList) s.size)) w := fun w => run_string_add_sum w _ _ (by omega)
  clear hx hy hz
  go_wp2_with fail
  go_quiet (fail)
  go_wp2
  go_ret
  exact ⟨ret_str (put_bytes _ _ _), below_drews (Below.refl _ _) _⟩
end Go.Proofs.YtengmiolcfgdiaaDoor.Con
