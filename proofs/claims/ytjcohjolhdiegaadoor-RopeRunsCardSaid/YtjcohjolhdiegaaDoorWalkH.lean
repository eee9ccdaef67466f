/- Contracts of New and of, of the reference's Count, Drop, Least, Laid; has. -/
import Derived.Test.YtjcohjolhdiegaaDoorWalkY
set_option linter.unusedVariables false
namespace Go.Proofs.YtjcohjolhdiegaaDoor.Con
open Go.RowKit Go.Lib Go.Proofs.YtjcohjolhdiegaaDoor.Let Go.Proofs.YtjcohjolhdiegaaDoor.Tree

/-- A rope that is this text. -/
def IsRope (w : World) (L : List UInt8) (v : Value) : Prop := ∃ t, Rp w t v ∧ t.okn ∧ t.txt = L
theorem IsRope.below {w w' : World} {L : List UInt8} {v : Value} (h : IsRope w L v) {B : Nat} (hb : Below B w w') (hB : w.heap.size ≤ B) : IsRope w' L v := by
  obtain ⟨t, h1, h2, h3⟩ := h
  exact ⟨t, Rp.below hb hB h1, h2, h3⟩
def NewYes (w : World) (L : List UInt8) (e : Ending) (w' : World) : Prop := ∃ v, e = .returned (.tuple #[v, .bool true]) ∧ IsRope w' L v ∧ Below w.heap.size w w'
def Roped (w : World) (L : List UInt8) (e : Ending) (w' : World) : Prop := ∃ v, e = .returned v ∧ IsRope w' L v ∧ Below w.heap.size w w'

set_option maxRecDepth 100000 in
set_option maxHeartbeats 400000 in
theorem new_yes (s : ByteArray) (w : World) (hs : s.size ≤ 1073741824) (hr : right s.data.toList = true) (hT : Tabs w) :
    Calls Tryd.prog 13 #[.string s] w (NewYes w s.data.toList) := by
  have C1 : Hid (Calls Tryd.prog 10 #[.string s] w fun e w' => e = .returned (.bool true) ∧ Below w.heap.size w w') := by
    have := lright_any s w (by unfold maxLen; omega) hT
    rw [hr] at this
    exact this
  have C2 : Hid (∀ w, Calls Tryd.prog 28 #[.string s] w (SomeParts w s.data.toList)) := fun w => pieces_any s w hs hr
  have hsz := sz s
  have HS : Hid (s.data.toList.length ≤ 1073741824) := by show _ ≤ _; omega
  clear hr hT hsz
  go_enter Tryd.func13, Tryd.ntmps13
  go_wp2_with fail
  refine C1.out.mono ?_
  rintro e w1 ⟨rfl, hb1⟩
  go_wp2_with fail
  refine (C2.out _).mono ?_
  rintro e w2 ⟨u, ps, rfl, hp, hown, hb2⟩
  have C3 : Hid (∀ w, Row w u (strs ps) → Calls Tryd.prog 27 #[u] w (Made w (mkT ps))) := fun w h => tree_any _ w (Nat.le_refl _) h hp.ok (by rw [hp.flat]; exact HS.out)
  have hrow := Lib.hid (Row.of_owns hown)
  have HP := Lib.hid hp
  clear hp hown
  go_wp2_with fail
  refine (C3.out _ hrow.out).mono ?_
  rintro e w3 ⟨v, rfl, hr3, hb3⟩
  go_wp2_with fail
  go_ret2
  obtain ⟨o, t⟩ := mkT_okn HP.out.ok
  exact ⟨_, rfl, ⟨_, hr3, o, by rw [t, HP.out.flat]⟩, below_more (below_more hb1 hb2) hb3⟩

set_option maxRecDepth 100000 in
set_option maxHeartbeats 400000 in
theorem new_no (s : ByteArray) (w : World) (hs : s.size ≤ 1073741824) (hr : right s.data.toList = false) (hT : Tabs w) :
    Calls Tryd.prog 13 #[.string s] w fun e w' => e = .returned (.tuple #[.pointer none, .bool false]) ∧ Below w.heap.size w w' := by
  have C1 : Hid (Calls Tryd.prog 10 #[.string s] w fun e w' => e = .returned (.bool false) ∧ Below w.heap.size w w') := by
    have := lright_any s w (by unfold maxLen; omega) hT
    rw [hr] at this
    exact this
  clear hr hT
  go_enter Tryd.func13, Tryd.ntmps13
  go_wp2_with fail
  refine C1.out.mono ?_
  rintro e w1 ⟨rfl, hb1⟩
  go_wp2_with fail
  go_ret2
  exact ⟨rfl, hb1⟩

set_option maxRecDepth 100000 in
theorem of_any (s : ByteArray) (w : World) (hs : s.size ≤ 1073741824) (hr : right s.data.toList = true) (hT : Tabs w) :
    Calls Tryd.prog 16 #[.string s] w (Roped w s.data.toList) := by
  have C := Lib.hid (new_yes s w hs hr hT)
  clear hr hT
  go_enter Tryd.func16, Tryd.ntmps16
  go_wp2_with fail
  refine C.out.mono ?_
  rintro e w1 ⟨v, rfl, h1, hb1⟩
  go_wp2_with fail
  go_ret
  exact ⟨_, rfl, h1, hb1⟩

set_option maxRecDepth 100000 in
theorem rcount_any (s : ByteArray) (w : World) (hs : s.size ≤ 1073741824) :
    Calls Tryd.prog 11 #[.string s] w fun e w' => e = .returned (.int .i64 (cnt s.data.toList)) ∧ Below w.heap.size w w' := by
  go_enter Tryd.func11, Tryd.ntmps11
  go_wp2_with fail
  refine (rletters_any s _ hs).mono ?_
  rintro e w1 ⟨v, rfl, hown, hb⟩
  obtain ⟨a, cap, rfl⟩ : ∃ a cap, v = .slice a (cnt s.data.toList) cap := by
    rcases hown.2 with ⟨hv, h0⟩ | ⟨g, cap, cur, hv, _⟩
    · refine ⟨none, 0, ?_⟩
      rw [hv]
      have h0' : cnt s.data.toList = 0 := h0
      rw [h0']
    · exact ⟨_, _, hv⟩
  clear hown
  go_wp2_with fail
  go_ret
  exact ⟨rfl, hb⟩

set_option maxRecDepth 100000 in
set_option maxHeartbeats 400000 in
theorem rdrop_any (s : ByteArray) (a b : Int) (w : World) (hs : s.size ≤ 1073741824) (ha1 : -9223372036854775808 ≤ a) (ha2 : a ≤ 9223372036854775807) (hb1 : -9223372036854775808 ≤ b) (hb2 : b ≤ 9223372036854775807) :
    Calls Tryd.prog 20 #[.string s, .int .i64 a, .int .i64 b] w fun e w' => e = .returned (.string (mk (dropL s.data.toList a b))) ∧ Below w.heap.size w w' := by
  have hs2 : s.size ≤ maxLen := by unfold maxLen; omega
  have hl := byt_le b.toNat s.data.toList
  have hl1 := byt_le a.toNat s.data.toList
  rw [sz] at hl hl1
  by_cases hab : byt b.toNat s.data.toList ≤ byt a.toNat s.data.toList
  · have hd : Hid (dropL s.data.toList a b = s.data.toList) := by show _ = _; unfold dropL; rw [if_pos hab]
    go_enter Tryd.func20, Tryd.ntmps20
    go_wp2_with fail
    refine (rbyte_any s a _ hs2 ha1 ha2).mono ?_
    rintro e w1 ⟨rfl, rfl⟩
    go_wp2_with fail
    refine (rbyte_any s b _ hs2 hb1 hb2).mono ?_
    rintro e w2 ⟨rfl, rfl⟩
    go_wp2
    go_ret
    exact ⟨ret_str (by rw [hd.out, mk_self]), Below.refl _ _⟩
  · have hd : Hid (dropL s.data.toList a b = s.data.toList.take (byt a.toNat s.data.toList) ++ s.data.toList.drop (byt b.toNat s.data.toList)) := by show _ = _; unfold dropL; rw [if_neg hab]
    have hx : (s.extract 0 (byt a.toNat s.data.toList)).size ≤ s.size := by rw [ByteArray.size_extract]; omega
    have hz : (s.extract (byt b.toNat s.data.toList) s.size).size ≤ s.size := by rw [ByteArray.size_extract]; omega
    have r1 : ∀ w : World, (Op.stringOp .add (s.extract 0 (byt a.toNat s.data.toList)) (s.extract (byt b.toNat s.data.toList) s.size)).run Tryd.prog w = .ok (.string (s.extract 0 (byt a.toNat s.data.toList) ++ s.extract (byt b.toNat s.data.toList) s.size)) w := fun w => run_string_add_sum w _ _ (by omega)
    clear hx hz
    go_enter Tryd.func20, Tryd.ntmps20
    go_wp2_with fail
    refine (rbyte_any s a _ hs2 ha1 ha2).mono ?_
    rintro e w1 ⟨rfl, rfl⟩
    go_wp2_with fail
    refine (rbyte_any s b _ hs2 hb1 hb2).mono ?_
    rintro e w2 ⟨rfl, rfl⟩
    go_wp2_with fail
    go_quiet (fail)
    go_wp2
    go_ret
    refine ⟨ret_str ?_, below_drews (Below.refl _ _) _⟩
    rw [hd.out, mk_extract, mk_extract, mk_append, Let.mk_data, Let.mk_data, List.drop_zero, ← sz s, List.take_length]

set_option maxRecDepth 100000 in
set_option maxHeartbeats 400000 in
theorem least_any (h : Nat) (w : World) (hf : (fib h).1 ≤ 1000000) (hh : h ≤ 60) :
    Calls Tryd.prog 53 #[.int .i64 h] w fun e w' => e = .returned (.int .i64 (fib h).1) ∧ w = w' := by
  go_enter Tryd.func53, Tryd.ntmps53
  go_wp2
  go_loop [3, 4, 5] (fun a b i => ∃ k : Nat, i = .int .i64 k ∧ k ≤ h ∧ a = .int .i64 (fib k).1 ∧ b = .int .i64 (fib k).2) (fun _ _ i => h - (RowKit.intOf i).toNat)
  case atStart => exact ⟨0, rfl, Nat.zero_le _, rfl, rfl⟩
  case round =>
    obtain ⟨k, rfl, hk, rfl, rfl⟩ := hrel
    by_cases hlt : k < h
    · have h1 := fib_mono (show k + 1 ≤ h by omega)
      have h2 := fib_mono (show k ≤ h by omega)
      have e1 : Hid ((fib (k + 1)).1 = (fib k).2) := rfl
      have e2 : Hid ((fib (k + 1)).2 = (fib k).1 + (fib k).2) := rfl
      have b2 : (fib k).2 ≤ 1000000 := by rw [← e1.out]; omega
      have b1 : (fib k).1 ≤ 1000000 := by omega
      clear h1 h2
      generalize (fib k).1 = x at *
      generalize (fib k).2 = y at *
      go_wp2
      go_round
      case rel => exact ⟨k + 1, by go_num, by omega, by rw [e1.out], by rw [e2.out]; go_num⟩
      case measure => simp [RowKit.intOf]; omega
    · have hke : k = h := by omega
      subst hke
      go_wp2
      go_ret
      exact ⟨rfl, rfl⟩

theorem strs_get (ps : List (List UInt8)) (k : Nat) (h : k < ps.length) : (strs ps)[k]'(by rw [strs_len]; exact h) = .string (mk ps[k]) := by simp [strs]
theorem flat_succ (ps : List (List UInt8)) (k : Nat) (h : k < ps.length) : (ps.take (k + 1)).flatten = (ps.take k).flatten ++ ps[k] := by
  rw [List.take_succ_eq_append_getElem h, List.flatten_append]
  simp
theorem flat_len (ps : List (List UInt8)) (k : Nat) : (ps.take k).flatten.length ≤ ps.flatten.length := by
  have := flat_take ps k
  omega
theorem flat_mid (ps : List (List UInt8)) (k : Nat) (h : k < ps.length) : (ps.flatten.take ((ps.take k).flatten.length + ps[k].length)).drop (ps.take k).flatten.length = ps[k] := by
  have h1 := flat_succ ps k h
  have h2 : ps.flatten = (ps.take (k + 1)).flatten ++ (ps.drop (k + 1)).flatten := by rw [← List.flatten_append, List.take_append_drop]
  have h3 : (ps.take k).flatten.length + ps[k].length = (ps.take (k + 1)).flatten.length := by rw [h1, List.length_append]
  rw [h2, h3, List.take_left, h1, List.drop_left]

/-- Plain facts on what is laid as may be. -/
structure LaidOk (ps : List (List UInt8)) (h : Nat) : Prop where
  ok : ∀ p ∈ ps, okp p
  least : (fib h).1 ≤ ps.length ∨ (ps = [] ∧ h = 0)
  most : ps.length ≤ 2 ^ h
  small : h ≤ 60
  bytes : ps.flatten.length ≤ 100000

def relM (n h : Nat) (m i : Value) : Prop := ∃ k z : Nat, i = .int .i64 k ∧ m = .int .i64 z ∧ k ≤ h ∧ (z = 2 ^ k ∨ n ≤ z) ∧ z ≤ 2 * n ∧ 1 ≤ z

set_option maxRecDepth 100000 in
set_option maxHeartbeats 1600000 in
theorem laid_any (v : Value) (ps : List (List UInt8)) (L : List UInt8) (h : Nat) (w : World) (hrow : Row w v (strs ps)) (ho : LaidOk ps h) (hF : ps.flatten = L) :
    Calls Tryd.prog 36 #[v, .string (mk L), .int .i64 h] w fun e w' => e = .returned (.bool true) ∧ w = w' := by
  obtain ⟨a, cap, rfl, g1, g2, g3⟩ := hrow
  have hln : ps.length ≤ L.length := by rw [← hF]; exact okp_len ho.ok
  have hbytes : L.length ≤ 100000 := by rw [← hF]; exact ho.bytes
  have hh := ho.small
  have hcell : Hid (∀ k (hk : k < ps.length), ∃ b off, a = some ⟨b, off, none⟩ ∧ w.cell? ⟨b, off + k, none⟩ = some (.string (mk ps[k]))) := fun k hk => by
    rcases g3 with h | ⟨b, off, rfl, hlt, hc⟩
    · have := congrArg List.length h
      rw [strs_len, List.length_nil] at this
      omega
    · exact ⟨b, off, rfl, by rw [hc k (by rw [strs_len]; exact hk), strs_get ps k hk]⟩
  have HO := Lib.hid ho
  have HF := Lib.hid hF
  rw [strs_len] at g1 ⊢
  clear g3 ho hF
  have ms : (mk L).size = L.length := mk_size _
  go_enter Tryd.func36, Tryd.ntmps36
  go_wp2
  go_loop [7, 8, 9] (fun t i p => ∃ k : Nat, i = .int .i64 k ∧ k ≤ ps.length ∧ t = .int .i64 (ps.take k).flatten.length) (fun _ i _ => ps.length - (RowKit.intOf i).toNat)
  case atStart => exact ⟨0, rfl, Nat.zero_le _, rfl⟩
  case round =>
    obtain ⟨k, rfl, hk, rfl⟩ := hrel
    by_cases hlt : k < ps.length
    · obtain ⟨b, off, rfl, hc⟩ := hcell.out k hlt
      obtain ⟨p1, p2, p3⟩ := HO.out.ok _ (List.getElem_mem hlt)
      have hp0 : 0 < ps[k].length := List.length_pos_iff.2 p1
      have e0 : (mk ps[k]).toList.isEmpty = false := mk_empty_ne p1
      have e1 : (mk ps[k]).size = ps[k].length := mk_size _
      have fl := flat_len ps (k + 1)
      have fs := Lib.hid (flat_succ ps k hlt)
      have fsl : (ps.take (k + 1)).flatten.length = (ps.take k).flatten.length + ps[k].length := by rw [fs.out, List.length_append]
      have fm : (mk L).extract (ps.take k).flatten.length ((ps.take k).flatten.length + ps[k].length) = mk ps[k] := by rw [mk_extract, Let.mk_data, ← HF.out, flat_mid ps k hlt]
      have CR : Hid (∀ w, Calls Tryd.prog 12 #[.string (mk ps[k])] w fun e w' => e = .returned (.bool true) ∧ w = w') := fun w => by
        have := rright_any (mk ps[k]) w (by rw [mk_size]; unfold maxLen; omega)
        rw [Let.mk_data, p3] at this
        exact this
      have HS := Lib.hid fsl
      rw [fsl, HF.out] at fl
      clear p1 p3 fsl fs
      generalize (ps.take k).flatten.length = at' at *
      generalize hpk : ps[k] = p at *
      replace hpk := Lib.hid hpk
      have d1 : decide ((64 : Int) < (p.length : Int)) = false := by simp; omega
      have d2 : decide ((L.length : Int) - (at' : Int) < (p.length : Int)) = false := by simp; omega
      go_wp2_with fail
      refine (CR.out _).mono ?_
      rintro e w1 ⟨rfl, rfl⟩
      go_wp2
      go_round
      case rel => exact ⟨k + 1, by go_num, by omega, by rw [HS.out]; go_num⟩
      case measure => simp [RowKit.intOf]; omega
    · have hke : k = ps.length := by omega
      subst hke
      have el : (ps.take ps.length).flatten.length = L.length := by rw [List.take_length, HF.out]
      have EL := Lib.hid el
      rw [EL.out]
      have hle := HO.out.least
      have hmo := HO.out.most
      have d1 : decide ((h : Int) < 0) = false := by simp
      have d2 : decide ((60 : Int) < (h : Int)) = false := by simp; omega
      have hfb : (fib h).1 ≤ 1000000 := by
        rcases hle with h1 | ⟨h1, h2⟩
        · omega
        · subst h2
          decide
      by_cases hn0 : ps.length = 0
      · have hz : h = 0 := by
          rcases hle with h1 | h1
          · have := (fib_pos h).1
            omega
          · exact h1.2
        subst hz
        clear hcell hmo hle el hk hlt
        generalize ps.length = n at *
        subst hn0
        go_wp2
        go_ret
        exact ⟨rfl, rfl⟩
      · have hle2 : (fib h).1 ≤ ps.length := by
          rcases hle with h1 | h1
          · exact h1
          · rw [h1.1] at hn0
            exact absurd rfl hn0
        have HMO := Lib.hid hmo
        have z0 : ((ps.length : Int) == 0) = false := by rw [beq_eq_false_iff_ne]; omega
        have n1 : 1 ≤ ps.length := by omega
        clear hcell hmo hle el hk hlt hn0
        generalize ps.length = n at *
        go_wp2
        go_loop [10, 11] (fun m i => relM n h m i) (fun _ i => h - (RowKit.intOf i).toNat)
        case atStart => exact ⟨0, 1, rfl, rfl, Nat.zero_le _, .inl rfl, by omega, Nat.le_refl _⟩
        case round =>
          obtain ⟨k, z, rfl, rfl, hk, hz, hz2, hz1⟩ := hrel
          by_cases hlt : k < h
          · by_cases hlz : z < n
            · have hrel : Hid (relM n h (.int .i64 ((z : Int) * 2)) (.int .i64 ((k : Int) + 1))) := by
                refine ⟨k + 1, z * 2, by go_num, by go_num, hlt, ?_, by omega, by omega⟩
                rcases hz with hz | hz
                · left
                  rw [hz, Nat.pow_succ]
                · omega
              clear hz
              go_wp2
              go_round
              case rel => exact hrel.out
              case measure => simp [RowKit.intOf]; omega
            · have hrel : Hid (relM n h (.int .i64 (z : Int)) (.int .i64 ((k : Int) + 1))) := ⟨k + 1, z, by go_num, rfl, hlt, .inr (by omega), hz2, hz1⟩
              clear hz
              go_wp2
              go_round
              case rel => exact hrel.out
              case measure => simp [RowKit.intOf]; omega
          · have hke : k = h := by omega
            subst hke
            have hnz : n ≤ z := by
              have := HMO.out
              omega
            have d3 : decide ((fib k).1 ≤ n) = true := by simp; omega
            have d4 : decide (n ≤ z) = true := by simp; omega
            have CL : Hid (∀ w, Calls Tryd.prog 53 #[.int .i64 k] w fun e w' => e = .returned (.int .i64 (fib k).1) ∧ w = w') := fun w => least_any k w hfb hh
            clear hz
            go_wp2_with fail
            refine (CL.out _).mono ?_
            rintro e w1 ⟨rfl, rfl⟩
            go_wp2
            go_ret
            exact ⟨rfl, rfl⟩

theorem laid_ok {t : T} (h : t.okn) (hb : t.by ≤ 100000) : LaidOk t.parts t.ht := by
  have hs := T.ht_small h (by omega)
  refine ⟨?_, ?_, T.most t, by omega, by rw [T.parts_txt, ← T.by_txt]; exact hb⟩
  · rcases h with rfl | h
    · intro p hp
      exact absurd hp (by simp [T.parts])
    · exact T.parts_ok h
  · rcases h with rfl | h
    · exact .inr ⟨rfl, rfl⟩
    · exact .inl (T.fewest h)

set_option maxRecDepth 100000 in
set_option maxHeartbeats 1600000 in
theorem has_any (s : ByteArray) {v : Value} (w : World) (h : IsRope w s.data.toList v) (hs : s.size ≤ 100000) :
    Calls Tryd.prog 15 #[v, .string s] w fun e w' => e = .returned (.bool true) ∧ Below w.heap.size w w' := by
  obtain ⟨t, hr, ho, ht⟩ := h
  have hby : t.by ≤ 100000 := by rw [T.by_txt, ht, sz]; exact hs
  have hby2 : t.by ≤ 1073741824 := by omega
  have C1 : Hid (Calls Tryd.prog 14 #[v] w fun e w' => e = .returned (.string s) ∧ Below w.heap.size w w') := by
    have := text_any w hr ho hby2
    rw [ht, mk_self] at this
    exact this
  have C2 : Hid (∀ w, Rp w t v → Calls Tryd.prog 35 #[v] w fun e w' => e = .returned (.int .i64 (cnt s.data.toList)) ∧ w = w') := fun w h => by
    have := len_any w h
    rw [T.cn_txtn ho, ht] at this
    exact this
  have C3 : Hid (∀ w, Calls Tryd.prog 11 #[.string s] w fun e w' => e = .returned (.int .i64 (cnt s.data.toList)) ∧ Below w.heap.size w w') := fun w => rcount_any s w (by omega)
  have C4 : Hid (∀ w, Rp w t v → Calls Tryd.prog 30 #[v] w fun e w' => e = .returned (.int .i64 s.size) ∧ w = w') := fun w h => by
    have := bytes_any w h
    rw [T.by_txt, ht, sz] at this
    exact this
  have C5 : Hid (∀ w, Rp w t v → Calls Tryd.prog 37 #[v] w fun e w' => ∃ u, e = .returned u ∧ w'.ownsRow w.heap.size 9 1 u t.parts.length (strs t.parts) ∧ Below w.heap.size w w') := fun w h => parts_any w h ho hby2
  have C6 : Hid (∀ w, Rp w t v → Calls Tryd.prog 38 #[v] w fun e w' => e = .returned (.int .i64 t.ht) ∧ w = w') := fun w h => height_any w h
  have C7 : Hid (∀ u w, Row w u (strs t.parts) → Calls Tryd.prog 36 #[u, .string s, .int .i64 t.ht] w fun e w' => e = .returned (.bool true) ∧ w = w') := fun u w h => by
    have := laid_any u t.parts s.data.toList t.ht w h (laid_ok ho hby) (by rw [T.parts_txt, ht])
    rw [mk_self] at this
    exact this
  have H := Lib.hid hr
  clear hr ho ht hby hby2
  generalize t.ht = HT at *
  generalize cnt s.data.toList = CN at *
  go_enter Tryd.func15, Tryd.ntmps15
  go_wp2_with fail
  refine C1.out.mono ?_
  rintro e w1 ⟨rfl, hb1⟩
  go_wp2_with fail
  refine (C2.out _ (Rp.below hb1 (Nat.le_refl _) H.out)).mono ?_
  rintro e w2 ⟨rfl, rfl⟩
  go_wp2_with fail
  refine (C3.out _).mono ?_
  rintro e w3 ⟨rfl, hb3⟩
  have hb3' := below_more hb1 hb3
  go_wp2_with fail
  refine (C4.out _ (Rp.below hb3' (Nat.le_refl _) H.out)).mono ?_
  rintro e w4 ⟨rfl, rfl⟩
  go_wp2_with fail
  refine (C5.out _ (Rp.below hb3' (Nat.le_refl _) H.out)).mono ?_
  rintro e w5 ⟨u, rfl, hown, hb5⟩
  have hb5' := below_more hb3' hb5
  go_wp2_with fail
  refine (C6.out _ (Rp.below hb5' (Nat.le_refl _) H.out)).mono ?_
  rintro e w6 ⟨rfl, rfl⟩
  go_wp2_with fail
  refine (C7.out _ _ (Row.of_owns hown)).mono ?_
  rintro e w7 ⟨rfl, rfl⟩
  go_wp2_with fail
  go_ret
  exact ⟨rfl, hb5'⟩
end Go.Proofs.YtjcohjolhdiegaaDoor.Con
