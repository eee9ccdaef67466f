/- Contracts of the reference's Right, and of both Letters; Same. -/
import Derived.Test.YtengmiolcfgdiaaDoorWalkC
import Derived.Test.YtengmiolcfgdiaaDoorApp
import Derived.Laws.AppendOwn
set_option linter.unusedVariables false
namespace Go.Proofs.YtengmiolcfgdiaaDoor.Con
open Go.RowKit Go.Lib Go.Proofs.YtengmiolcfgdiaaDoor.Let

/-- The length of a text in a slot. -/
def strLen : Value → Nat | .string s => s.size | _ => 0
theorem strLen_mk (l : List UInt8) : strLen (.string (mk l)) = l.length := mk_size l

theorem mk_ext (l : List UInt8) (n : Nat) : (mk l).extract n (mk l).size = mk (l.drop n) := by
  rw [mk_extract, Let.mk_data, mk_size, List.take_length]

theorem mk_empty (l : List UInt8) : (mk l).toList.isEmpty = l.isEmpty := by rw [toList_data, Let.mk_data]
theorem mk_empty_nil : (mk []).toList.isEmpty = true := by rw [mk_empty]; rfl
theorem mk_empty_ne {l : List UInt8} (h : l ≠ []) : (mk l).toList.isEmpty = false := by
  rw [mk_empty]
  cases l with
  | nil => exact absurd rfl h
  | cons => rfl

set_option maxRecDepth 100000 in
set_option maxHeartbeats 400000 in
theorem rright_any (s : ByteArray) (w : World) (hs : s.size ≤ maxLen) :
    Calls Tryd.prog 28 #[.string s] w fun e w' => e = .returned (.bool (right s.data.toList)) ∧ w = w' := by
  have hs2 := hs
  unfold maxLen at hs
  go_enter Tryd.func28, Tryd.ntmps28
  go_wp2
  go_loop [0] (fun v => ∃ l : List UInt8, v = .string (mk l) ∧ right s.data.toList = right l ∧ l.length ≤ s.size) (fun v => strLen v)
  case atStart => exact ⟨s.data.toList, by rw [mk_self], rfl, by rw [sz]; exact Nat.le_refl _⟩
  case round =>
    obtain ⟨l, rfl, hr, hll⟩ := hrel
    have HR := Lib.hid hr
    clear hr
    by_cases hne : l = []
    · subst hne
      have hd := mk_empty_nil
      go_wp2
      go_ret
      exact ⟨ret_bool (by rw [HR.out]; rfl), rfl⟩
    · have hd := mk_empty_ne hne
      have hl0 : 0 < l.length := List.length_pos_iff.2 hne
      have hle := dl_le l hne
      have hpos := dl_pos l
      have hst := Lib.hid (right_step l hne)
      unfold bad at hst
      have hms : (mk l).size = l.length := mk_size l
      have hC : Hid (∀ w, Calls Tryd.prog 61 #[.string (mk l)] w fun e w' => e = .returned (.tuple #[.int .i64 (decodeL l).2, .int .i32 (decodeL l).1]) ∧ w = w') := fun w => by
        have := size_any (mk l) w (by rw [mk_size]; unfold maxLen; omega) (by rw [mk_size]; omega)
        rw [Let.mk_data] at this
        exact this
      have hx : ∀ n, (mk l).extract n l.length = mk (l.drop n) := fun n => by rw [← mk_size l, mk_ext]
      have hld : Hid ((l.drop (decodeL l).2).length = l.length - (decodeL l).2) := List.length_drop ..
      generalize decodeL l = D at *
      obtain ⟨r, n⟩ := D
      simp only at hC hst hle hpos hld
      by_cases hn : n = 1
      · have hn1 : ((n : Int) == 1) = true := by simp [hn]
        by_cases hr1 : r = 65533
        · have hr2 : ((r : Int) == 65533) = true := by simp [hr1]
          have e : Hid (right l = false) := by
            show _ = _
            cases hq : right l with
            | false => rfl
            | true => exact absurd ⟨hr1, hn⟩ (hst.out.1 hq).1
          clear hn hr1 hst
          go_wp2_with (go_at_call 61; refine (hC.out _).mono ?_; rintro e w' ⟨rfl, rfl⟩)
          go_ret
          exact ⟨ret_bool (by rw [HR.out, e.out]), rfl⟩
        · have hr2 : ((r : Int) == 65533) = false := by rw [beq_eq_false_iff_ne]; omega
          have e : Hid (right l = right (l.drop n)) := by
            show _ = _
            rw [Bool.eq_iff_iff, hst.out]
            exact ⟨fun h => h.2, fun h => ⟨fun hb => hr1 hb.1, h⟩⟩
          replace hn := Lib.hid hn
          clear hr1 hst
          go_wp2_with (go_at_call 61; refine (hC.out _).mono ?_; rintro e w' ⟨rfl, rfl⟩)
          go_round
          case rel => exact ⟨l.drop n, rfl, by rw [HR.out, e.out], by rw [hld.out]; omega⟩
          case measure => rw [strLen_mk, strLen_mk, hld.out]; omega
      · have hn1 : ((n : Int) == 1) = false := by rw [beq_eq_false_iff_ne]; omega
        have e : Hid (right l = right (l.drop n)) := by
          show _ = _
          rw [Bool.eq_iff_iff, hst.out]
          exact ⟨fun h => h.2, fun h => ⟨fun hb => hn hb.2, h⟩⟩
        clear hn hst
        go_wp2_with (go_at_call 61; refine (hC.out _).mono ?_; rintro e w' ⟨rfl, rfl⟩)
        go_round
        case rel => exact ⟨l.drop n, rfl, by rw [HR.out, e.out], by rw [hld.out]; omega⟩
        case measure => rw [strLen_mk, strLen_mk, hld.out]; omega
end Go.Proofs.YtengmiolcfgdiaaDoor.Con
