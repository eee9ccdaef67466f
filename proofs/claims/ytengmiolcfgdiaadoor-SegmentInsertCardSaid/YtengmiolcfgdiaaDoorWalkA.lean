/- Contracts of letters.Byte and letters.Count: loops that range over a string. -/
import Derived.Test.YtengmiolcfgdiaaDoorChecked
import Derived.Test.YtengmiolcfgdiaaDoorLet
import Derived.WalkKit
import Derived.WalkSpells
import Derived.Below
import Derived.Lib.Hide
import Derived.Laws.RangeAny
import Derived.Deep.QuietTactic
import Derived.BigQuiet
set_option linter.unusedVariables false
namespace Go.Proofs.YtengmiolcfgdiaaDoor.Con
open Go.RowKit Go.Lib Go.Proofs.YtengmiolcfgdiaaDoor.Let

theorem below_iter (w : World) (s : ByteArray) (pos : Nat) : Below w.heap.size w (w.iter s pos) := (Below.refl _ w).alloc (Nat.le_refl _) _

theorem ret_int {k : IntKind} {a b : Int} (h : a = b) : Ending.returned (.int k a) = .returned (.int k b) := by rw [h]
theorem ret_str {a b : ByteArray} (h : a = b) : Ending.returned (.string a) = .returned (.string b) := by rw [h]
theorem ret_bool {a b : Bool} (h : a = b) : Ending.returned (.bool a) = .returned (.bool b) := by rw [h]
theorem dec_at (s : ByteArray) (pos : Nat) : Utf8.decode s pos = decodeL (s.data.toList.drop pos) := (decodeL_drop s pos).symm

theorem sz (s : ByteArray) : s.data.toList.length = s.size := by simp

/-- The place of a letter moves on. -/
theorem byt_next (s : ByteArray) (k : Nat) (h : byt k s.data.toList < s.size) : byt k s.data.toList + (Utf8.decode s (byt k s.data.toList)).2 = byt (k + 1) s.data.toList := by
  rw [byt_succ k _ (by rw [sz]; exact h), dec_at]

set_option maxHeartbeats 400000 in
theorem byte_any (s : ByteArray) (a : Int) (w : World) (hs : s.size ≤ maxLen) (ha1 : -9223372036854775808 ≤ a) (ha2 : a ≤ 9223372036854775807) :
    Calls Tryd.prog 95 #[.string s, .int .i64 a] w fun e w' => e = .returned (.int .i64 (byt a.toNat s.data.toList)) ∧ Below w.heap.size w w' := by
  unfold maxLen at hs
  go_enter Tryd.func95, Tryd.ntmps95
  go_wp2
  go_loopw [5] (fun n w' => ∃ k : Nat, w' = w.iter s (byt k s.data.toList) ∧ n = .int .i64 k ∧ k ≤ byt k s.data.toList ∧ k ≤ a.toNat) (fun _ w' => s.size - w'.iterPos w.heap.size)
  case atStart => exact ⟨0, rfl, rfl, Nat.zero_le _, by omega⟩
  case round =>
    obtain ⟨k, rfl, rfl, hk, hka⟩ := hrel
    have hb := byt_le k s.data.toList
    rw [sz] at hb
    by_cases hp : byt k s.data.toList < s.size
    · have hnx : ∀ ty, (Instr.next (.pointer (some ⟨w.heap.size, 0, none⟩)) true ty).run Tryd.prog (w.iter s (byt k s.data.toList)) = _ := fun ty => run_next_any w s _ ty hp
      have hwd := width_pos s (byt k s.data.toList)
      have hge : byt (k + 1) s.data.toList ≥ k + 1 := by rw [← byt_next s k hp]; omega
      by_cases hka2 : a ≤ (k : Int)
      · have e : Hid (byt a.toNat s.data.toList = byt k s.data.toList) := by
          show _ = _
          congr 1
          omega
        go_wp2
        go_ret
        exact ⟨ret_int (by rw [e.out]), below_iter _ _ _⟩
      · have e := Lib.hid (byt_next s k hp)
        go_wp2
        go_roundw
        case rel => exact ⟨k + 1, by rw [e.out], by go_num, by omega, by omega⟩
        case measure =>
          simp
          omega
    · have hnx : ∀ ty, (Instr.next (.pointer (some ⟨w.heap.size, 0, none⟩)) true ty).run Tryd.prog (w.iter s (byt k s.data.toList)) = _ := fun ty => run_next_end w s _ ty hp
      have e : Hid (byt a.toNat s.data.toList = s.size) := by
        show _ = _
        have h1 := byt_mono hka s.data.toList
        have h2 := byt_le a.toNat s.data.toList
        rw [sz] at h2
        omega
      go_wp2
      go_ret
      exact ⟨ret_int (by rw [e.out]), below_iter _ _ _⟩

set_option maxHeartbeats 400000 in
theorem count_any (s : ByteArray) (w : World) (hs : s.size ≤ maxLen) :
    Calls Tryd.prog 98 #[.string s] w fun e w' => e = .returned (.int .i64 (cnt s.data.toList)) ∧ Below w.heap.size w w' := by
  unfold maxLen at hs
  go_enter Tryd.func98, Tryd.ntmps98
  go_wp2
  go_loopw [3] (fun n w' => ∃ k : Nat, w' = w.iter s (byt k s.data.toList) ∧ n = .int .i64 k ∧ k ≤ cnt s.data.toList) (fun _ w' => s.size - w'.iterPos w.heap.size)
  case atStart => exact ⟨0, rfl, rfl, Nat.zero_le _⟩
  case round =>
    obtain ⟨k, rfl, rfl, hk⟩ := hrel
    have hb := byt_le k s.data.toList
    have hc := cnt_len s.data.toList
    have hi := byt_lt_iff k s.data.toList
    rw [sz] at hb hc hi
    by_cases hp : byt k s.data.toList < s.size
    · have hnx : ∀ ty, (Instr.next (.pointer (some ⟨w.heap.size, 0, none⟩)) true ty).run Tryd.prog (w.iter s (byt k s.data.toList)) = _ := fun ty => run_next_any w s _ ty hp
      have hwd := width_pos s (byt k s.data.toList)
      have hk1 := hi.1 hp
      have e := Lib.hid (byt_next s k hp)
      clear hi
      go_wp2
      go_roundw
      case rel => exact ⟨k + 1, by rw [e.out], by go_num, by omega⟩
      case measure =>
        simp
        omega
    · have hnx : ∀ ty, (Instr.next (.pointer (some ⟨w.heap.size, 0, none⟩)) true ty).run Tryd.prog (w.iter s (byt k s.data.toList)) = _ := fun ty => run_next_end w s _ ty hp
      have e : Hid (cnt s.data.toList = k) := by
        show _ = _
        have : ¬ k < cnt s.data.toList := fun h => hp (hi.2 h)
        omega
      clear hi
      go_wp2
      go_ret
      exact ⟨ret_int (by rw [e.out]), below_iter _ _ _⟩

theorem put_bytes (s t : ByteArray) (n : Nat) : s.extract 0 n ++ t ++ s.extract n s.size = mk (s.data.toList.take n ++ t.data.toList ++ s.data.toList.drop n) := by
  rw [mk_extract, mk_extract, mk_append, mk_append, Let.mk_data, Let.mk_data, Let.mk_data, List.drop_zero, ← sz s, List.take_length]
theorem below_drews {B : Nat} {a w : World} (h : Below B a w) : ∀ n, Below B a (w.drewN n) := fun n => ⟨h.os, h.tape, h.output, h.size, h.block⟩

end Go.Proofs.YtengmiolcfgdiaaDoor.Con
