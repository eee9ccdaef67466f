/- Contracts of letters.Byte and letters.Count: loops that range over a string. -/
import Derived.Test.YtccaiippoephbaaGreatDoorChecked
import Derived.Test.YtccaiippoephbaaGreatDoorWt
import Derived.WalkKit
import Derived.WalkSpells
import Derived.Below
import Derived.Lib.Hide
import Derived.Laws.RangeAny
import Derived.Deep.QuietTactic
import Derived.BigQuiet
import Derived.Laws.AppendOwn
set_option maxRecDepth 100000
set_option linter.unusedVariables false
namespace Go.Proofs.YtccaiippoephbaaGreatDoor.Con
open Go.RowKit Go.Lib Go.Proofs.YtccaiippoephbaaGreatDoor.Let

theorem below_iter (w : World) (s : ByteArray) (pos : Nat) : Below w.heap.size w (w.iter s pos) := (Below.refl _ w).alloc (Nat.le_refl _) _

theorem ret_int {k : IntKind} {a b : Int} (h : a = b) : Ending.returned (.int k a) = .returned (.int k b) := by rw [h]
theorem ret_bool {a b : Bool} (h : a = b) : Ending.returned (.bool a) = .returned (.bool b) := by rw [h]
theorem dec_at (s : ByteArray) (pos : Nat) : Utf8.decode s pos = decodeL (s.data.toList.drop pos) := (decodeL_drop s pos).symm

theorem sz (s : ByteArray) : s.data.toList.length = s.size := by simp

/-- The place of a letter moves on. -/
theorem byt_next (s : ByteArray) (k : Nat) (h : byt k s.data.toList < s.size) : byt k s.data.toList + (Utf8.decode s (byt k s.data.toList)).2 = byt (k + 1) s.data.toList := by
  rw [byt_succ k _ (by rw [sz]; exact h), dec_at]

set_option maxHeartbeats 400000 in
theorem count_any (s : ByteArray) (w : World) (hs : s.size ≤ maxLen) :
    Calls Tryz.prog 142 #[.string s] w fun e w' => e = .returned (.int .i64 (cnt s.data.toList)) ∧ Below w.heap.size w w' := by
  unfold maxLen at hs
  go_enter Tryz.func142, Tryz.ntmps142
  go_wp2
  go_loopw [3] (fun n w' => ∃ k : Nat, w' = w.iter s (byt k s.data.toList) ∧ n = .int .i64 k ∧ k ≤ cnt s.data.toList) (fun _ w' => s.size - w'.iterPos w.heap.size)
  case atStart => exact ⟨0, rfl, rfl, Nat.zero_le _⟩
  case round =>
    obtain ⟨k, rfl, rfl, hk⟩ := hrel
    have hb := byt_le k s.data.toList
    have hc := cnt_len s.data.toList
    have hi := byt_lt_iff k s.data.toList
    rw [sz] at hb hc hi
    by_cases hp : byt k s.data.toList < s.size
    · have hnx : ∀ ty, (Instr.next (.pointer (some ⟨w.heap.size, 0, none⟩)) true ty).run Tryz.prog (w.iter s (byt k s.data.toList)) = _ := fun ty => run_next_any w s _ ty hp
      have hwd := width_pos s (byt k s.data.toList)
      have hk1 := hi.1 hp
      have e := Lib.hid (byt_next s k hp)
      clear hi
      go_wp2
      go_roundw
      case rel => exact ⟨k + 1, by rw [e.out], by go_num, by omega⟩
      case measure =>
        simp
        omega
    · have hnx : ∀ ty, (Instr.next (.pointer (some ⟨w.heap.size, 0, none⟩)) true ty).run Tryz.prog (w.iter s (byt k s.data.toList)) = _ := fun ty => run_next_end w s _ ty hp
      have e : Hid (cnt s.data.toList = k) := by
        show _ = _
        have : ¬ k < cnt s.data.toList := fun h => hp (hi.2 h)
        omega
      clear hi
      go_wp2
      go_ret
      exact ⟨ret_int (by rw [e.out]), below_iter _ _ _⟩

theorem below_drews {B : Nat} {a w : World} (h : Below B a w) : ∀ n, Below B a (w.drewN n) := fun n => ⟨h.os, h.tape, h.output, h.size, h.block⟩

end Go.Proofs.YtccaiippoephbaaGreatDoor.Con
/- The contract of chancelref01.size: it reads one letter as the decoder does. -/
set_option maxRecDepth 100000
set_option linter.unusedVariables false
namespace Go.Proofs.YtccaiippoephbaaGreatDoor.Con
open Go.RowKit Go.Lib Go.Proofs.YtccaiippoephbaaGreatDoor.Let

theorem size_of (s : ByteArray) {a b : Int} (h : (((decodeL s.data.toList).2 : Int), ((decodeL s.data.toList).1 : Int)) = (a, b)) :
    Ending.returned (.tuple #[.int .i64 a, .int .i32 b]) = .returned (.tuple #[.int .i64 (decodeL s.data.toList).2, .int .i32 (decodeL s.data.toList).1]) := by
  simp only [Prod.mk.injEq] at h
  rw [h.1, h.2]

theorem size_of2 {D : Nat × Nat} {a b : Int} (h : Hid (((D.2 : Int), (D.1 : Int)) = (a, b))) :
    Ending.returned (.tuple #[.int .i64 a, .int .i32 b]) = .returned (.tuple #[.int .i64 D.2, .int .i32 D.1]) := by
  have h' := h.out
  simp only [Prod.mk.injEq] at h'
  rw [h'.1, h'.2]
theorem size_of' {D : Nat × Nat} (h : Hid (D = (65533, 1))) :
    Ending.returned (.tuple #[.int .i64 1, .int .i32 65533]) = .returned (.tuple #[.int .i64 D.2, .int .i32 D.1]) := by
  rw [h.out]
  rfl

theorem dec_self (s : ByteArray) {c0 c1 c2 c3 : Nat} (h0 : (s.data.toList.getD 0 0).toNat = c0) (h1 : (s.data.toList.getD 1 0).toNat = c1) (h2 : (s.data.toList.getD 2 0).toNat = c2) (h3 : (s.data.toList.getD 3 0).toNat = c3) :
    decodeL s.data.toList = decodeN s.size c0 c1 c2 c3 := by
  rw [decodeL_N, h0, h1, h2, h3, sz]

theorem getD_lt (s : ByteArray) (k : Nat) (h : k < s.size) : (s.data.toList.getD k 0) = s[k] := by
  have h' : k < s.data.toList.length := by rw [sz]; exact h
  rw [List.getD_eq_getElem?_getD, List.getElem?_eq_getElem h', Option.getD_some]
  simp [ByteArray.getElem_eq_getElem_data]



set_option maxRecDepth 100000 in
set_option maxHeartbeats 400000 in
theorem size_ascii (s : ByteArray) (w : World) (hs : s.size ≤ maxLen) (h0 : 0 < s.size) (ha : (s[0]).toNat < 128) :
    Calls Tryz.prog 96 #[.string s] w fun e w' => e = .returned (.tuple #[.int .i64 (decodeL s.data.toList).2, .int .i32 (decodeL s.data.toList).1]) ∧ w = w' := by
  have e : Hid (decodeL s.data.toList = ((s[0]).toNat, 1)) := by
    show _ = _
    rw [dec_self s (by rw [getD_lt s 0 h0]) rfl rfl rfl, dN_ascii _ _ _ _ _ ha]
  obtain ⟨c0, hc0⟩ : ∃ c, (s[0]).toNat = c := ⟨_, rfl⟩
  rw [hc0] at e ha
  go_enter Tryz.func96, Tryz.ntmps96
  go_wp2
  go_ret2
  exact ⟨size_of s (by rw [e.out]; rfl), rfl⟩

set_option maxRecDepth 100000 in
set_option maxHeartbeats 400000 in
theorem size_lead (s : ByteArray) (w : World) (hs : s.size ≤ maxLen) (h0 : 0 < s.size) (ha : (128 ≤ (s[0]).toNat ∧ (s[0]).toNat < 192) ∨ (248 ≤ (s[0]).toNat ∧ (s[0]).toNat < 256)) :
    Calls Tryz.prog 96 #[.string s] w fun e w' => e = .returned (.tuple #[.int .i64 (decodeL s.data.toList).2, .int .i32 (decodeL s.data.toList).1]) ∧ w = w' := by
  have e : Hid (decodeL s.data.toList = (65533, 1)) := by
    show _ = _
    rw [dec_self s (by rw [getD_lt s 0 h0]) rfl rfl rfl, dN_lead _ _ _ _ _ ha]
  obtain ⟨c0, hc0⟩ : ∃ c, (s[0]).toNat = c := ⟨_, rfl⟩
  rw [hc0] at ha
  rcases ha with ha | ha
  all_goals
    go_enter Tryz.func96, Tryz.ntmps96
    go_wp2
    go_ret2
    exact ⟨size_of s (by rw [e.out]; rfl), rfl⟩

/-- What holds at the head of the loop. -/
def rel2 (c0 c1 : Nat) (v i : Value) : Prop := (i = .int .i64 1 ∧ v = .int .i64 ((c0 : Int) - 192)) ∨ (i = .int .i64 2 ∧ v = .int .i64 (((c0 : Int) - 192) * 64 + (c1 : Int) - 128) ∧ (128 ≤ c1 ∧ c1 < 192))
set_option maxRecDepth 100000 in
set_option maxHeartbeats 400000 in
theorem size_two_short (s : ByteArray) (w : World) (hs : s.size ≤ maxLen) (h0 : 0 < s.size) (ha : 192 ≤ (s[0]).toNat ∧ (s[0]).toNat < 224) (hn : s.size < 2) :
    Calls Tryz.prog 96 #[.string s] w fun e w' => e = .returned (.tuple #[.int .i64 (decodeL s.data.toList).2, .int .i32 (decodeL s.data.toList).1]) ∧ w = w' := by
  have e : Hid (decodeL s.data.toList = (65533, 1)) := by
    show _ = _
    rw [dec_self s (by rw [getD_lt s 0 h0]) rfl rfl rfl, dN_short2 _ _ _ _ _ ha (.inl hn) (UInt8.toNat_lt _)]
  obtain ⟨c0, hc0⟩ : ∃ c, (s[0]).toNat = c := ⟨_, rfl⟩
  rw [hc0] at ha
  obtain ⟨ha1, ha2⟩ := ha
  go_enter Tryz.func96, Tryz.ntmps96
  go_wp2
  go_ret2
  exact ⟨size_of s (by rw [e.out]; rfl), rfl⟩

set_option maxRecDepth 100000 in
set_option maxHeartbeats 1000000 in
theorem size_two (s : ByteArray) (w : World) (hs : s.size ≤ maxLen) (h0 : 0 < s.size) (ha : 192 ≤ (s[0]).toNat ∧ (s[0]).toNat < 224) (hn : 2 ≤ s.size) :
    Calls Tryz.prog 96 #[.string s] w fun e w' => e = .returned (.tuple #[.int .i64 (decodeL s.data.toList).2, .int .i32 (decodeL s.data.toList).1]) ∧ w = w' := by
  have h1 : 1 < s.size := by omega
  obtain ⟨c0, hc0⟩ : ∃ c, (s[0]).toNat = c := ⟨_, rfl⟩
  have b0 : c0 < 256 := by rw [← hc0]; exact UInt8.toNat_lt _
  obtain ⟨c1, hc1⟩ : ∃ c, (s[1]).toNat = c := ⟨_, rfl⟩
  have b1 : c1 < 256 := by rw [← hc1]; exact UInt8.toNat_lt _
  have hd : ∃ d2 d3 D, D = decodeL s.data.toList ∧ D = decodeN s.size c0 c1 d2 d3 := ⟨_, _, _, rfl, dec_self s (by rw [getD_lt s 0 h0, hc0]) (by rw [getD_lt s 1 h1, hc1]) rfl rfl ⟩
  obtain ⟨d2, d3, D, hD, hD2⟩ := hd
  rw [hc0] at ha
  rw [← hD]
  replace hD := Lib.hid hD2
  clear hD2
  have bad : (¬ ((128 ≤ c1 ∧ c1 < 192))) → Hid (D = (65533, 1)) := fun h => by
    show _ = _
    rw [hD.out, dN_short2 _ _ _ _ _ ha (by omega) b1]
  have good : ((128 ≤ c1 ∧ c1 < 192)) → Hid (((D.2 : Int), (D.1 : Int)) = finS 2 128 (((c0 : Int) - 192) * 64 + (c1 : Int) - 128)) := fun h => by
    show _ = _
    rw [hD.out]
    exact dN_two _ _ _ _ _ ha hn h
  obtain ⟨ha1, ha2⟩ := ha
  have Bad := Lib.hid bad
  have Good := Lib.hid good
  clear bad good
  go_enter Tryz.func96, Tryz.ntmps96
  go_wp2
  go_loop [7, 8, 9] (fun v i d => rel2 c0 c1 v i) (fun _ i _ => 2 - (intOf i).toNat)
  case atStart => exact .inl ⟨rfl, rfl⟩
  case round =>
    unfold rel2 at hrel
    rcases hrel with ⟨rfl, rfl⟩ | ⟨rfl, rfl, hk1⟩
    · by_cases hlo : c1 < 128
      · have e := Bad.out (by omega)
        clear Bad Good hD
        go_wp2
        go_ret2
        exact ⟨size_of' e, rfl⟩
      · by_cases hhi : 192 ≤ c1
        · have e := Bad.out (by omega)
          clear Bad Good hD
          go_wp2
          go_ret2
          exact ⟨size_of' e, rfl⟩
        · have hk1 : 128 ≤ c1 ∧ c1 < 192 := ⟨by omega, by omega⟩
          go_wp2
          go_round
          case rel => exact ⟨_, _, _, _, (by unfold rel2; exact .inr (⟨rfl, rfl, hk1⟩)), rfl, rfl, rfl, rfl⟩
          case measure => simp [intOf]
    · have e := Good.out (by omega)
      clear Bad Good hD
      by_cases t1 : (((c0 : Int) - 192) * 64 + (c1 : Int) - 128) < 128
      · have e2 : Hid (((D.2 : Int), (D.1 : Int)) = (1, 65533)) := by show _ = _; rw [e.out, finS, if_pos (.inl t1)]
        clear e
        go_wp2
        go_ret2
        exact ⟨size_of2 e2, rfl⟩
      · by_cases t2 : 1114111 < (((c0 : Int) - 192) * 64 + (c1 : Int) - 128)
        · have e2 : Hid (((D.2 : Int), (D.1 : Int)) = (1, 65533)) := by show _ = _; rw [e.out, finS, if_pos (.inr (.inl t2))]
          clear e
          go_wp2
          go_ret2
          exact ⟨size_of2 e2, rfl⟩
        · by_cases t3 : 55296 ≤ (((c0 : Int) - 192) * 64 + (c1 : Int) - 128)
          · by_cases t4 : (((c0 : Int) - 192) * 64 + (c1 : Int) - 128) < 57344
            · have e2 : Hid (((D.2 : Int), (D.1 : Int)) = (1, 65533)) := by show _ = _; rw [e.out, finS, if_pos (.inr (.inr ⟨t3, t4⟩))]
              clear e
              go_wp2
              go_ret2
              exact ⟨size_of2 e2, rfl⟩
            · have e2 : Hid (((D.2 : Int), (D.1 : Int)) = (2, (((c0 : Int) - 192) * 64 + (c1 : Int) - 128))) := by show _ = _; rw [e.out, finS, if_neg (by omega)]
              clear e
              go_wp2
              go_ret2
              exact ⟨size_of2 e2, rfl⟩
          · have e2 : Hid (((D.2 : Int), (D.1 : Int)) = (2, (((c0 : Int) - 192) * 64 + (c1 : Int) - 128))) := by show _ = _; rw [e.out, finS, if_neg (by omega)]
            clear e
            go_wp2
            go_ret2
            exact ⟨size_of2 e2, rfl⟩

/-- What holds at the head of the loop. -/
def rel3 (c0 c1 c2 : Nat) (v i : Value) : Prop := (i = .int .i64 1 ∧ v = .int .i64 ((c0 : Int) - 224)) ∨ (i = .int .i64 2 ∧ v = .int .i64 (((c0 : Int) - 224) * 64 + (c1 : Int) - 128) ∧ (128 ≤ c1 ∧ c1 < 192)) ∨ (i = .int .i64 3 ∧ v = .int .i64 ((((c0 : Int) - 224) * 64 + (c1 : Int) - 128) * 64 + (c2 : Int) - 128) ∧ (128 ≤ c1 ∧ c1 < 192) ∧ (128 ≤ c2 ∧ c2 < 192))
set_option maxRecDepth 100000 in
set_option maxHeartbeats 400000 in
theorem size_three_short (s : ByteArray) (w : World) (hs : s.size ≤ maxLen) (h0 : 0 < s.size) (ha : 224 ≤ (s[0]).toNat ∧ (s[0]).toNat < 240) (hn : s.size < 3) :
    Calls Tryz.prog 96 #[.string s] w fun e w' => e = .returned (.tuple #[.int .i64 (decodeL s.data.toList).2, .int .i32 (decodeL s.data.toList).1]) ∧ w = w' := by
  have e : Hid (decodeL s.data.toList = (65533, 1)) := by
    show _ = _
    rw [dec_self s (by rw [getD_lt s 0 h0]) rfl rfl rfl, dN_short3 _ _ _ _ _ ha (.inl hn) (UInt8.toNat_lt _) (UInt8.toNat_lt _)]
  obtain ⟨c0, hc0⟩ : ∃ c, (s[0]).toNat = c := ⟨_, rfl⟩
  rw [hc0] at ha
  obtain ⟨ha1, ha2⟩ := ha
  go_enter Tryz.func96, Tryz.ntmps96
  go_wp2
  go_ret2
  exact ⟨size_of s (by rw [e.out]; rfl), rfl⟩

set_option maxRecDepth 100000 in
set_option maxHeartbeats 1000000 in
theorem size_three (s : ByteArray) (w : World) (hs : s.size ≤ maxLen) (h0 : 0 < s.size) (ha : 224 ≤ (s[0]).toNat ∧ (s[0]).toNat < 240) (hn : 3 ≤ s.size) :
    Calls Tryz.prog 96 #[.string s] w fun e w' => e = .returned (.tuple #[.int .i64 (decodeL s.data.toList).2, .int .i32 (decodeL s.data.toList).1]) ∧ w = w' := by
  have h1 : 1 < s.size := by omega
  have h2 : 2 < s.size := by omega
  obtain ⟨c0, hc0⟩ : ∃ c, (s[0]).toNat = c := ⟨_, rfl⟩
  have b0 : c0 < 256 := by rw [← hc0]; exact UInt8.toNat_lt _
  obtain ⟨c1, hc1⟩ : ∃ c, (s[1]).toNat = c := ⟨_, rfl⟩
  have b1 : c1 < 256 := by rw [← hc1]; exact UInt8.toNat_lt _
  obtain ⟨c2, hc2⟩ : ∃ c, (s[2]).toNat = c := ⟨_, rfl⟩
  have b2 : c2 < 256 := by rw [← hc2]; exact UInt8.toNat_lt _
  have hd : ∃ d3 D, D = decodeL s.data.toList ∧ D = decodeN s.size c0 c1 c2 d3 := ⟨_, _, rfl, dec_self s (by rw [getD_lt s 0 h0, hc0]) (by rw [getD_lt s 1 h1, hc1]) (by rw [getD_lt s 2 h2, hc2]) rfl ⟩
  obtain ⟨d3, D, hD, hD2⟩ := hd
  rw [hc0] at ha
  rw [← hD]
  replace hD := Lib.hid hD2
  clear hD2
  have bad : (¬ ((128 ≤ c1 ∧ c1 < 192) ∧ (128 ≤ c2 ∧ c2 < 192))) → Hid (D = (65533, 1)) := fun h => by
    show _ = _
    rw [hD.out, dN_short3 _ _ _ _ _ ha (by omega) b1 b2]
  have good : ((128 ≤ c1 ∧ c1 < 192) ∧ (128 ≤ c2 ∧ c2 < 192)) → Hid (((D.2 : Int), (D.1 : Int)) = finS 3 2048 ((((c0 : Int) - 224) * 64 + (c1 : Int) - 128) * 64 + (c2 : Int) - 128)) := fun h => by
    show _ = _
    rw [hD.out]
    exact dN_three _ _ _ _ _ ha hn h.1 h.2
  obtain ⟨ha1, ha2⟩ := ha
  have Bad := Lib.hid bad
  have Good := Lib.hid good
  clear bad good
  go_enter Tryz.func96, Tryz.ntmps96
  go_wp2
  go_loop [7, 8, 9] (fun v i d => rel3 c0 c1 c2 v i) (fun _ i _ => 3 - (intOf i).toNat)
  case atStart => exact .inl ⟨rfl, rfl⟩
  case round =>
    unfold rel3 at hrel
    rcases hrel with ⟨rfl, rfl⟩ | ⟨rfl, rfl, hk1⟩ | ⟨rfl, rfl, hk1, hk2⟩
    · by_cases hlo : c1 < 128
      · have e := Bad.out (by omega)
        clear Bad Good hD
        go_wp2
        go_ret2
        exact ⟨size_of' e, rfl⟩
      · by_cases hhi : 192 ≤ c1
        · have e := Bad.out (by omega)
          clear Bad Good hD
          go_wp2
          go_ret2
          exact ⟨size_of' e, rfl⟩
        · have hk1 : 128 ≤ c1 ∧ c1 < 192 := ⟨by omega, by omega⟩
          go_wp2
          go_round
          case rel => exact ⟨_, _, _, _, (by unfold rel3; exact .inr (.inl ⟨rfl, rfl, hk1⟩)), rfl, rfl, rfl, rfl⟩
          case measure => simp [intOf]
    · by_cases hlo : c2 < 128
      · have e := Bad.out (by omega)
        clear Bad Good hD
        go_wp2
        go_ret2
        exact ⟨size_of' e, rfl⟩
      · by_cases hhi : 192 ≤ c2
        · have e := Bad.out (by omega)
          clear Bad Good hD
          go_wp2
          go_ret2
          exact ⟨size_of' e, rfl⟩
        · have hk2 : 128 ≤ c2 ∧ c2 < 192 := ⟨by omega, by omega⟩
          go_wp2
          go_round
          case rel => exact ⟨_, _, _, _, (by unfold rel3; exact .inr (.inr (⟨rfl, rfl, hk1, hk2⟩))), rfl, rfl, rfl, rfl⟩
          case measure => simp [intOf]
    · have e := Good.out (by omega)
      clear Bad Good hD
      by_cases t1 : ((((c0 : Int) - 224) * 64 + (c1 : Int) - 128) * 64 + (c2 : Int) - 128) < 2048
      · have e2 : Hid (((D.2 : Int), (D.1 : Int)) = (1, 65533)) := by show _ = _; rw [e.out, finS, if_pos (.inl t1)]
        clear e
        go_wp2
        go_ret2
        exact ⟨size_of2 e2, rfl⟩
      · by_cases t2 : 1114111 < ((((c0 : Int) - 224) * 64 + (c1 : Int) - 128) * 64 + (c2 : Int) - 128)
        · have e2 : Hid (((D.2 : Int), (D.1 : Int)) = (1, 65533)) := by show _ = _; rw [e.out, finS, if_pos (.inr (.inl t2))]
          clear e
          go_wp2
          go_ret2
          exact ⟨size_of2 e2, rfl⟩
        · by_cases t3 : 55296 ≤ ((((c0 : Int) - 224) * 64 + (c1 : Int) - 128) * 64 + (c2 : Int) - 128)
          · by_cases t4 : ((((c0 : Int) - 224) * 64 + (c1 : Int) - 128) * 64 + (c2 : Int) - 128) < 57344
            · have e2 : Hid (((D.2 : Int), (D.1 : Int)) = (1, 65533)) := by show _ = _; rw [e.out, finS, if_pos (.inr (.inr ⟨t3, t4⟩))]
              clear e
              go_wp2
              go_ret2
              exact ⟨size_of2 e2, rfl⟩
            · have e2 : Hid (((D.2 : Int), (D.1 : Int)) = (3, ((((c0 : Int) - 224) * 64 + (c1 : Int) - 128) * 64 + (c2 : Int) - 128))) := by show _ = _; rw [e.out, finS, if_neg (by omega)]
              clear e
              go_wp2
              go_ret2
              exact ⟨size_of2 e2, rfl⟩
          · have e2 : Hid (((D.2 : Int), (D.1 : Int)) = (3, ((((c0 : Int) - 224) * 64 + (c1 : Int) - 128) * 64 + (c2 : Int) - 128))) := by show _ = _; rw [e.out, finS, if_neg (by omega)]
            clear e
            go_wp2
            go_ret2
            exact ⟨size_of2 e2, rfl⟩

/-- What holds at the head of the loop. -/
def rel4 (c0 c1 c2 c3 : Nat) (v i : Value) : Prop := (i = .int .i64 1 ∧ v = .int .i64 ((c0 : Int) - 240)) ∨ (i = .int .i64 2 ∧ v = .int .i64 (((c0 : Int) - 240) * 64 + (c1 : Int) - 128) ∧ (128 ≤ c1 ∧ c1 < 192)) ∨ (i = .int .i64 3 ∧ v = .int .i64 ((((c0 : Int) - 240) * 64 + (c1 : Int) - 128) * 64 + (c2 : Int) - 128) ∧ (128 ≤ c1 ∧ c1 < 192) ∧ (128 ≤ c2 ∧ c2 < 192)) ∨ (i = .int .i64 4 ∧ v = .int .i64 (((((c0 : Int) - 240) * 64 + (c1 : Int) - 128) * 64 + (c2 : Int) - 128) * 64 + (c3 : Int) - 128) ∧ (128 ≤ c1 ∧ c1 < 192) ∧ (128 ≤ c2 ∧ c2 < 192) ∧ (128 ≤ c3 ∧ c3 < 192))
set_option maxRecDepth 100000 in
set_option maxHeartbeats 400000 in
theorem size_four_short (s : ByteArray) (w : World) (hs : s.size ≤ maxLen) (h0 : 0 < s.size) (ha : 240 ≤ (s[0]).toNat ∧ (s[0]).toNat < 248) (hn : s.size < 4) :
    Calls Tryz.prog 96 #[.string s] w fun e w' => e = .returned (.tuple #[.int .i64 (decodeL s.data.toList).2, .int .i32 (decodeL s.data.toList).1]) ∧ w = w' := by
  have e : Hid (decodeL s.data.toList = (65533, 1)) := by
    show _ = _
    rw [dec_self s (by rw [getD_lt s 0 h0]) rfl rfl rfl, dN_short4 _ _ _ _ _ ha (.inl hn) (UInt8.toNat_lt _) (UInt8.toNat_lt _) (UInt8.toNat_lt _)]
  obtain ⟨c0, hc0⟩ : ∃ c, (s[0]).toNat = c := ⟨_, rfl⟩
  rw [hc0] at ha
  obtain ⟨ha1, ha2⟩ := ha
  go_enter Tryz.func96, Tryz.ntmps96
  go_wp2
  go_ret2
  exact ⟨size_of s (by rw [e.out]; rfl), rfl⟩

set_option maxRecDepth 100000 in
set_option maxHeartbeats 1000000 in
theorem size_four (s : ByteArray) (w : World) (hs : s.size ≤ maxLen) (h0 : 0 < s.size) (ha : 240 ≤ (s[0]).toNat ∧ (s[0]).toNat < 248) (hn : 4 ≤ s.size) :
    Calls Tryz.prog 96 #[.string s] w fun e w' => e = .returned (.tuple #[.int .i64 (decodeL s.data.toList).2, .int .i32 (decodeL s.data.toList).1]) ∧ w = w' := by
  have h1 : 1 < s.size := by omega
  have h2 : 2 < s.size := by omega
  have h3 : 3 < s.size := by omega
  obtain ⟨c0, hc0⟩ : ∃ c, (s[0]).toNat = c := ⟨_, rfl⟩
  have b0 : c0 < 256 := by rw [← hc0]; exact UInt8.toNat_lt _
  obtain ⟨c1, hc1⟩ : ∃ c, (s[1]).toNat = c := ⟨_, rfl⟩
  have b1 : c1 < 256 := by rw [← hc1]; exact UInt8.toNat_lt _
  obtain ⟨c2, hc2⟩ : ∃ c, (s[2]).toNat = c := ⟨_, rfl⟩
  have b2 : c2 < 256 := by rw [← hc2]; exact UInt8.toNat_lt _
  obtain ⟨c3, hc3⟩ : ∃ c, (s[3]).toNat = c := ⟨_, rfl⟩
  have b3 : c3 < 256 := by rw [← hc3]; exact UInt8.toNat_lt _
  have hd : ∃  D, D = decodeL s.data.toList ∧ D = decodeN s.size c0 c1 c2 c3  := ⟨_, rfl, dec_self s (by rw [getD_lt s 0 h0, hc0]) (by rw [getD_lt s 1 h1, hc1]) (by rw [getD_lt s 2 h2, hc2]) (by rw [getD_lt s 3 h3, hc3]) ⟩
  obtain ⟨D, hD, hD2⟩ := hd
  rw [hc0] at ha
  rw [← hD]
  replace hD := Lib.hid hD2
  clear hD2
  have bad : (¬ ((128 ≤ c1 ∧ c1 < 192) ∧ (128 ≤ c2 ∧ c2 < 192) ∧ (128 ≤ c3 ∧ c3 < 192))) → Hid (D = (65533, 1)) := fun h => by
    show _ = _
    rw [hD.out, dN_short4 _ _ _ _ _ ha (by omega) b1 b2 b3]
  have good : ((128 ≤ c1 ∧ c1 < 192) ∧ (128 ≤ c2 ∧ c2 < 192) ∧ (128 ≤ c3 ∧ c3 < 192)) → Hid (((D.2 : Int), (D.1 : Int)) = finS 4 65536 (((((c0 : Int) - 240) * 64 + (c1 : Int) - 128) * 64 + (c2 : Int) - 128) * 64 + (c3 : Int) - 128)) := fun h => by
    show _ = _
    rw [hD.out]
    exact dN_four _ _ _ _ _ ha hn h.1 h.2.1 h.2.2
  obtain ⟨ha1, ha2⟩ := ha
  have Bad := Lib.hid bad
  have Good := Lib.hid good
  clear bad good
  go_enter Tryz.func96, Tryz.ntmps96
  go_wp2
  go_loop [7, 8, 9] (fun v i d => rel4 c0 c1 c2 c3 v i) (fun _ i _ => 4 - (intOf i).toNat)
  case atStart => exact .inl ⟨rfl, rfl⟩
  case round =>
    unfold rel4 at hrel
    rcases hrel with ⟨rfl, rfl⟩ | ⟨rfl, rfl, hk1⟩ | ⟨rfl, rfl, hk1, hk2⟩ | ⟨rfl, rfl, hk1, hk2, hk3⟩
    · by_cases hlo : c1 < 128
      · have e := Bad.out (by omega)
        clear Bad Good hD
        go_wp2
        go_ret2
        exact ⟨size_of' e, rfl⟩
      · by_cases hhi : 192 ≤ c1
        · have e := Bad.out (by omega)
          clear Bad Good hD
          go_wp2
          go_ret2
          exact ⟨size_of' e, rfl⟩
        · have hk1 : 128 ≤ c1 ∧ c1 < 192 := ⟨by omega, by omega⟩
          go_wp2
          go_round
          case rel => exact ⟨_, _, _, _, (by unfold rel4; exact .inr (.inl ⟨rfl, rfl, hk1⟩)), rfl, rfl, rfl, rfl⟩
          case measure => simp [intOf]
    · by_cases hlo : c2 < 128
      · have e := Bad.out (by omega)
        clear Bad Good hD
        go_wp2
        go_ret2
        exact ⟨size_of' e, rfl⟩
      · by_cases hhi : 192 ≤ c2
        · have e := Bad.out (by omega)
          clear Bad Good hD
          go_wp2
          go_ret2
          exact ⟨size_of' e, rfl⟩
        · have hk2 : 128 ≤ c2 ∧ c2 < 192 := ⟨by omega, by omega⟩
          go_wp2
          go_round
          case rel => exact ⟨_, _, _, _, (by unfold rel4; exact .inr (.inr (.inl ⟨rfl, rfl, hk1, hk2⟩))), rfl, rfl, rfl, rfl⟩
          case measure => simp [intOf]
    · by_cases hlo : c3 < 128
      · have e := Bad.out (by omega)
        clear Bad Good hD
        go_wp2
        go_ret2
        exact ⟨size_of' e, rfl⟩
      · by_cases hhi : 192 ≤ c3
        · have e := Bad.out (by omega)
          clear Bad Good hD
          go_wp2
          go_ret2
          exact ⟨size_of' e, rfl⟩
        · have hk3 : 128 ≤ c3 ∧ c3 < 192 := ⟨by omega, by omega⟩
          go_wp2
          go_round
          case rel => exact ⟨_, _, _, _, (by unfold rel4; exact .inr (.inr (.inr (⟨rfl, rfl, hk1, hk2, hk3⟩)))), rfl, rfl, rfl, rfl⟩
          case measure => simp [intOf]
    · have e := Good.out (by omega)
      clear Bad Good hD
      by_cases t1 : (((((c0 : Int) - 240) * 64 + (c1 : Int) - 128) * 64 + (c2 : Int) - 128) * 64 + (c3 : Int) - 128) < 65536
      · have e2 : Hid (((D.2 : Int), (D.1 : Int)) = (1, 65533)) := by show _ = _; rw [e.out, finS, if_pos (.inl t1)]
        clear e
        go_wp2
        go_ret2
        exact ⟨size_of2 e2, rfl⟩
      · by_cases t2 : 1114111 < (((((c0 : Int) - 240) * 64 + (c1 : Int) - 128) * 64 + (c2 : Int) - 128) * 64 + (c3 : Int) - 128)
        · have e2 : Hid (((D.2 : Int), (D.1 : Int)) = (1, 65533)) := by show _ = _; rw [e.out, finS, if_pos (.inr (.inl t2))]
          clear e
          go_wp2
          go_ret2
          exact ⟨size_of2 e2, rfl⟩
        · by_cases t3 : 55296 ≤ (((((c0 : Int) - 240) * 64 + (c1 : Int) - 128) * 64 + (c2 : Int) - 128) * 64 + (c3 : Int) - 128)
          · by_cases t4 : (((((c0 : Int) - 240) * 64 + (c1 : Int) - 128) * 64 + (c2 : Int) - 128) * 64 + (c3 : Int) - 128) < 57344
            · have e2 : Hid (((D.2 : Int), (D.1 : Int)) = (1, 65533)) := by show _ = _; rw [e.out, finS, if_pos (.inr (.inr ⟨t3, t4⟩))]
              clear e
              go_wp2
              go_ret2
              exact ⟨size_of2 e2, rfl⟩
            · have e2 : Hid (((D.2 : Int), (D.1 : Int)) = (4, (((((c0 : Int) - 240) * 64 + (c1 : Int) - 128) * 64 + (c2 : Int) - 128) * 64 + (c3 : Int) - 128))) := by show _ = _; rw [e.out, finS, if_neg (by omega)]
              clear e
              go_wp2
              go_ret2
              exact ⟨size_of2 e2, rfl⟩
          · have e2 : Hid (((D.2 : Int), (D.1 : Int)) = (4, (((((c0 : Int) - 240) * 64 + (c1 : Int) - 128) * 64 + (c2 : Int) - 128) * 64 + (c3 : Int) - 128))) := by show _ = _; rw [e.out, finS, if_neg (by omega)]
            clear e
            go_wp2
            go_ret2
            exact ⟨size_of2 e2, rfl⟩

theorem size_any (s : ByteArray) (w : World) (hs : s.size ≤ maxLen) (h0 : 0 < s.size) :
    Calls Tryz.prog 96 #[.string s] w fun e w' => e = .returned (.tuple #[.int .i64 (decodeL s.data.toList).2, .int .i32 (decodeL s.data.toList).1]) ∧ w = w' := by
  have hb : (s[0]).toNat < 256 := UInt8.toNat_lt _
  by_cases a1 : (s[0]).toNat < 128
  · exact size_ascii s w hs h0 a1
  by_cases a2 : (s[0]).toNat < 192 ∨ 248 ≤ (s[0]).toNat
  · exact size_lead s w hs h0 (by omega)
  by_cases a3 : (s[0]).toNat < 224
  · by_cases hn : s.size < 2
    · exact size_two_short s w hs h0 (by omega) hn
    · exact size_two s w hs h0 (by omega) (by omega)
  by_cases a4 : (s[0]).toNat < 240
  · by_cases hn : s.size < 3
    · exact size_three_short s w hs h0 (by omega) hn
    · exact size_three s w hs h0 (by omega) (by omega)
  · by_cases hn : s.size < 4
    · exact size_four_short s w hs h0 (by omega) hn
    · exact size_four s w hs h0 (by omega) (by omega)
end Go.Proofs.YtccaiippoephbaaGreatDoor.Con
/- Contracts of the reference's Right, and of both Letters; Same. -/
set_option maxRecDepth 100000
set_option linter.unusedVariables false
namespace Go.Proofs.YtccaiippoephbaaGreatDoor.Con
open Go.RowKit Go.Lib Go.Proofs.YtccaiippoephbaaGreatDoor.Let

/-- The length of a text in a slot. -/
def strLen : Value → Nat | .string s => s.size | _ => 0
theorem strLen_mk (l : List UInt8) : strLen (.string (mk l)) = l.length := mk_size l

theorem mk_ext (l : List UInt8) (n : Nat) : (mk l).extract n (mk l).size = mk (l.drop n) := by
  rw [mk_extract, Let.mk_data, mk_size, List.take_length]

theorem mk_empty (l : List UInt8) : (mk l).toList.isEmpty = l.isEmpty := by rw [toList_data, Let.mk_data]
theorem mk_empty_nil : (mk []).toList.isEmpty = true := by rw [mk_empty]; rfl
theorem mk_empty_ne {l : List UInt8} (h : l ≠ []) : (mk l).toList.isEmpty = false := by
  rw [mk_empty]
  cases l with
  | nil => exact absurd rfl h
  | cons => rfl

set_option maxRecDepth 100000 in
set_option maxHeartbeats 400000 in
theorem rright_any (s : ByteArray) (w : World) (hs : s.size ≤ maxLen) :
    Calls Tryz.prog 70 #[.string s] w fun e w' => e = .returned (.bool (right s.data.toList)) ∧ w = w' := by
  have hs2 := hs
  unfold maxLen at hs
  go_enter Tryz.func70, Tryz.ntmps70
  go_wp2
  go_loop [0] (fun v => ∃ l : List UInt8, v = .string (mk l) ∧ right s.data.toList = right l ∧ l.length ≤ s.size) (fun v => strLen v)
  case atStart => exact ⟨s.data.toList, by rw [mk_self], rfl, by rw [sz]; exact Nat.le_refl _⟩
  case round =>
    obtain ⟨l, rfl, hr, hll⟩ := hrel
    have HR := Lib.hid hr
    clear hr
    by_cases hne : l = []
    · subst hne
      have hd := mk_empty_nil
      go_wp2
      go_ret
      exact ⟨ret_bool (by rw [HR.out]; rfl), rfl⟩
    · have hd := mk_empty_ne hne
      have hl0 : 0 < l.length := List.length_pos_iff.2 hne
      have hle := dl_le l hne
      have hpos := dl_pos l
      have hst := Lib.hid (right_step l hne)
      unfold bad at hst
      have hms : (mk l).size = l.length := mk_size l
      have hC : Hid (∀ w, Calls Tryz.prog 96 #[.string (mk l)] w fun e w' => e = .returned (.tuple #[.int .i64 (decodeL l).2, .int .i32 (decodeL l).1]) ∧ w = w') := fun w => by
        have := size_any (mk l) w (by rw [mk_size]; unfold maxLen; omega) (by rw [mk_size]; omega)
        rw [Let.mk_data] at this
        exact this
      have hx : ∀ n, (mk l).extract n l.length = mk (l.drop n) := fun n => by rw [← mk_size l, mk_ext]
      have hld : Hid ((l.drop (decodeL l).2).length = l.length - (decodeL l).2) := List.length_drop ..
      generalize decodeL l = D at *
      obtain ⟨r, n⟩ := D
      simp only at hC hst hle hpos hld
      by_cases hn : n = 1
      · have hn1 : ((n : Int) == 1) = true := by simp [hn]
        by_cases hr1 : r = 65533
        · have hr2 : ((r : Int) == 65533) = true := by simp [hr1]
          have e : Hid (right l = false) := by
            show _ = _
            cases hq : right l with
            | false => rfl
            | true => exact absurd ⟨hr1, hn⟩ (hst.out.1 hq).1
          clear hn hr1 hst
          go_wp2_with (go_at_call 96; refine (hC.out _).mono ?_; rintro e w' ⟨rfl, rfl⟩)
          go_ret
          exact ⟨ret_bool (by rw [HR.out, e.out]), rfl⟩
        · have hr2 : ((r : Int) == 65533) = false := by rw [beq_eq_false_iff_ne]; omega
          have e : Hid (right l = right (l.drop n)) := by
            show _ = _
            rw [Bool.eq_iff_iff, hst.out]
            exact ⟨fun h => h.2, fun h => ⟨fun hb => hr1 hb.1, h⟩⟩
          replace hn := Lib.hid hn
          clear hr1 hst
          go_wp2_with (go_at_call 96; refine (hC.out _).mono ?_; rintro e w' ⟨rfl, rfl⟩)
          go_round
          case rel => exact ⟨l.drop n, rfl, by rw [HR.out, e.out], by rw [hld.out]; omega⟩
          case measure => rw [strLen_mk, strLen_mk, hld.out]; omega
      · have hn1 : ((n : Int) == 1) = false := by rw [beq_eq_false_iff_ne]; omega
        have e : Hid (right l = right (l.drop n)) := by
          show _ = _
          rw [Bool.eq_iff_iff, hst.out]
          exact ⟨fun h => h.2, fun h => ⟨fun hb => hn hb.2, h⟩⟩
        clear hn hst
        go_wp2_with (go_at_call 96; refine (hC.out _).mono ?_; rintro e w' ⟨rfl, rfl⟩)
        go_round
        case rel => exact ⟨l.drop n, rfl, by rw [HR.out, e.out], by rw [hld.out]; omega⟩
        case measure => rw [strLen_mk, strLen_mk, hld.out]; omega
end Go.Proofs.YtccaiippoephbaaGreatDoor.Con
