/- For every two texts and every number: LettersPut answers true, and its arguments read behind the call as before. No condition. -/
import Derived.Test.YtihcifcigeijlaaRows
import Derived.Test.YtihcifcigeijlaaLift
import Derived.Test.YtihcifcigeijlaaWalkE
import Derived.Test.YtihcifcigeijlaaParts
set_option linter.unusedVariables false
namespace Go.Proofs.Ytihcifcigeijlaa.lettersPut
open Go.ChangeShapes Go.WideShapes Go.ChangeAt Go.RowKit Go.Lib Go.Proofs.Ytihcifcigeijlaa.Lift Go.Proofs.Ytihcifcigeijlaa.Let Go.Proofs.Ytihcifcigeijlaa.Con
open Go.ChangeMaps (open_string shut_string)

theorem own : ownKnob Try.prog.godebug = none := by kernel_rfl
theorem laidOut : laidOutB Try.prog = true := by kernel_rfl

theorem k1 : mk (put (ByteArray.mk #[97, 226, 130, 172]).data.toList 1 (ByteArray.mk #[120]).data.toList) = ByteArray.mk #[97, 120, 226, 130, 172] := by decide +kernel

theorem put_len (s t : List UInt8) (a : Int) : (put s a t).length = s.length + t.length := by
  have := byt_le a.toNat s
  unfold put
  rw [List.length_append, List.length_append, List.length_take, List.length_drop]
  omega

set_option maxRecDepth 100000 in
set_option maxHeartbeats 400000 in
theorem rcount_any (s : ByteArray) (w : World) (hs : s.size ≤ 1073741824) :
    Calls Try.prog 18 #[.string s] w fun e w' => e = .returned (.int .i64 (cnt s.data.toList)) ∧ Below w.heap.size w w' := by
  go_enter Try.func18, Try.ntmps18
  go_wp2_with fail
  refine (rletters_any s _ hs).mono ?_
  rintro e w1 ⟨v, rfl, hown, hb1⟩
  obtain ⟨p, cap, rfl, _, _, hr⟩ := Row.of_owns hown
  clear hr hown
  rw [cells_len]
  have e : Hid ((lets s.data.toList).length = cnt s.data.toList) := rfl
  go_wp2
  go_ret
  exact ⟨rfl, hb1⟩

set_option maxRecDepth 100000 in
set_option maxHeartbeats 1000000 in
theorem walk (s : ByteArray) (hs : s.size ≤ maxLen) (a : Int) (ha1 : -9223372036854775808 ≤ a) (ha2 : a ≤ 9223372036854775807) (t : ByteArray) (ht : t.size ≤ maxLen) (w : World) :
    Calls Try.prog 6 #[.string s, .int .i64 a, .string t] w fun e w' => e = .returned (.bool true) ∧ Below w.heap.size w w' := by
  have hs2 := hs
  have ht2 := ht
  unfold maxLen at hs ht
  by_cases h5 : (5000 : Int) < s.size
  · go_enter Try.func6, Try.ntmps6
    go_wp2_with fail
    refine (put_any _ _ _ _ (by decide) (by decide) (by omega) (by omega)).mono ?_
    rintro e w1 ⟨rfl, hB1⟩
    rw [k1]
    go_wp2
    go_ret
    exact ⟨rfl, hB1⟩
  by_cases h6 : (5000 : Int) < t.size
  · go_enter Try.func6, Try.ntmps6
    go_wp2_with fail
    refine (put_any _ _ _ _ (by decide) (by decide) (by omega) (by omega)).mono ?_
    rintro e w1 ⟨rfl, hB1⟩
    rw [k1]
    go_wp2
    go_ret
    exact ⟨rfl, hB1⟩
  have pl := put_len s.data.toList t.data.toList a
  rw [sz, sz] at pl
  have pms : (mk (put s.data.toList a t.data.toList)).size ≤ 10000 := by rw [mk_size]; omega
  by_cases rs : right s.data.toList = true
  · by_cases rt : right t.data.toList = true
    · have cs := cnt_len s.data.toList
      have ct := cnt_len t.data.toList
      rw [sz] at cs ct
      have facts : ∀ kz : Int, kz = min (max a 0) (cnt s.data.toList : Int) → (∀ w : World, (Op.stringOp .add (mk (cut (put s.data.toList a t.data.toList) 0 kz)) (mk (cut (put s.data.toList a t.data.toList) (kz + (cnt t.data.toList : Int)) ((cnt s.data.toList : Int) + (cnt t.data.toList : Int))))).run Try.prog w = .ok (.string s) w) ∧
          Hid (mk (cut (put s.data.toList a t.data.toList) kz (kz + (cnt t.data.toList : Int))) = t) ∧ Hid (cnt (put s.data.toList a t.data.toList) = cnt s.data.toList + cnt t.data.toList) ∧ 0 ≤ kz ∧ kz ≤ (cnt s.data.toList : Int) := fun kz hz => by
        obtain ⟨k, rfl⟩ : ∃ k : Nat, kz = k := ⟨kz.toNat, by omega⟩
        obtain ⟨q1, q2, q3⟩ := put_back rs rt a k (by omega)
        have l3 := cut_len (put s.data.toList a t.data.toList) 0 k
        have l4 := cut_len (put s.data.toList a t.data.toList) ((k : Int) + (cnt t.data.toList : Int)) ((cnt s.data.toList : Int) + (cnt t.data.toList : Int))
        refine ⟨fun w => ?_, ?_, Lib.hid q3, by omega, by omega⟩
        · rw [run_string_add_sum w _ _ (by rw [mk_size, mk_size]; omega), mk_append, Let.mk_data, Let.mk_data, q2, mk_self]
        · show _ = _
          rw [q1, mk_self]
      clear pl
      replace rs := Lib.hid rs
      replace rt := Lib.hid rt
      by_cases z1 : a < 0
      · have F := facts 0 (by omega)
        simp only [Int.zero_add] at F
        obtain ⟨r1, Q1, Q3, hkz0, hkz1⟩ := F
        clear facts
        go_enter Try.func6, Try.ntmps6
        go_wp2_with fail
        refine (put_any _ _ _ _ (by decide) (by decide) (by omega) (by omega)).mono ?_
        rintro e w1 ⟨rfl, hB1⟩
        rw [k1]
        go_wp2_with fail
        refine (put_any s t a _ hs2 (by omega) ha1 ha2).mono ?_
        rintro e w2 ⟨rfl, hB2⟩
        go_wp2_with fail
        refine (rput_any s t a _ hs2 (by omega) ha1 ha2).mono ?_
        rintro e w3 ⟨rfl, hB3⟩
        go_wp2_with fail
        refine (rright_any s _ hs2).mono ?_
        rintro e w4 ⟨rfl, rfl⟩
        rw [rs.out]
        go_wp2_with fail
        refine (rright_any t _ ht2).mono ?_
        rintro e w4 ⟨rfl, rfl⟩
        rw [rt.out]
        go_wp2_with fail
        refine (rcount_any s _ (by omega)).mono ?_
        rintro e w4 ⟨rfl, hB4⟩
        go_wp2_with fail
        refine (rcount_any t _ (by omega)).mono ?_
        rintro e w5 ⟨rfl, hB5⟩
        go_wp2_with fail
        refine (cut_any (mk (put s.data.toList a t.data.toList)) 0 (cnt t.data.toList : Int) _ (by unfold maxLen; omega) (by omega) (by omega) (by omega) (by omega)).mono ?_
        rintro e w6 ⟨rfl, hB6⟩
        rw [Let.mk_data, Q1.out]
        go_wp2_with fail
        refine (cut_any (mk (put s.data.toList a t.data.toList)) 0 0 _ (by unfold maxLen; omega) (by omega) (by omega) (by omega) (by omega)).mono ?_
        rintro e w7 ⟨rfl, hB7⟩
        rw [Let.mk_data]
        go_wp2_with fail
        refine (cut_any (mk (put s.data.toList a t.data.toList)) (cnt t.data.toList : Int) ((cnt s.data.toList : Int) + (cnt t.data.toList : Int)) _ (by unfold maxLen; omega) (by omega) (by omega) (by omega) (by omega)).mono ?_
        rintro e w8 ⟨rfl, hB8⟩
        rw [Let.mk_data]
        go_wp2_with fail
        refine (count_any (mk (put s.data.toList a t.data.toList)) _ (by unfold maxLen; omega)).mono ?_
        rintro e w9 ⟨rfl, hB9⟩
        rw [Let.mk_data, Q3.out]
        go_wp2
        go_ret
        have t2 := hB1.trans (hB2.mono hB1.size)
        have t3 := t2.trans (hB3.mono t2.size)
        have t4 := t3.trans (hB4.mono t3.size)
        have t5 := t4.trans (hB5.mono t4.size)
        have t6 := t5.trans (hB6.mono t5.size)
        have t7 := t6.trans (hB7.mono t6.size)
        have t8 := t7.trans (hB8.mono t7.size)
        exact ⟨rfl, t8.trans (hB9.mono t8.size)⟩
      by_cases z2 : a ≤ (cnt s.data.toList : Int)
      · have F := facts a (by omega)
        obtain ⟨r1, Q1, Q3, hkz0, hkz1⟩ := F
        clear facts
        go_enter Try.func6, Try.ntmps6
        go_wp2_with fail
        refine (put_any _ _ _ _ (by decide) (by decide) (by omega) (by omega)).mono ?_
        rintro e w1 ⟨rfl, hB1⟩
        rw [k1]
        go_wp2_with fail
        refine (put_any s t a _ hs2 (by omega) ha1 ha2).mono ?_
        rintro e w2 ⟨rfl, hB2⟩
        go_wp2_with fail
        refine (rput_any s t a _ hs2 (by omega) ha1 ha2).mono ?_
        rintro e w3 ⟨rfl, hB3⟩
        go_wp2_with fail
        refine (rright_any s _ hs2).mono ?_
        rintro e w4 ⟨rfl, rfl⟩
        rw [rs.out]
        go_wp2_with fail
        refine (rright_any t _ ht2).mono ?_
        rintro e w4 ⟨rfl, rfl⟩
        rw [rt.out]
        go_wp2_with fail
        refine (rcount_any s _ (by omega)).mono ?_
        rintro e w4 ⟨rfl, hB4⟩
        go_wp2_with fail
        refine (rcount_any t _ (by omega)).mono ?_
        rintro e w5 ⟨rfl, hB5⟩
        go_wp2_with fail
        refine (cut_any (mk (put s.data.toList a t.data.toList)) a (a + (cnt t.data.toList : Int)) _ (by unfold maxLen; omega) (by omega) (by omega) (by omega) (by omega)).mono ?_
        rintro e w6 ⟨rfl, hB6⟩
        rw [Let.mk_data, Q1.out]
        go_wp2_with fail
        refine (cut_any (mk (put s.data.toList a t.data.toList)) 0 a _ (by unfold maxLen; omega) (by omega) (by omega) (by omega) (by omega)).mono ?_
        rintro e w7 ⟨rfl, hB7⟩
        rw [Let.mk_data]
        go_wp2_with fail
        refine (cut_any (mk (put s.data.toList a t.data.toList)) (a + (cnt t.data.toList : Int)) ((cnt s.data.toList : Int) + (cnt t.data.toList : Int)) _ (by unfold maxLen; omega) (by omega) (by omega) (by omega) (by omega)).mono ?_
        rintro e w8 ⟨rfl, hB8⟩
        rw [Let.mk_data]
        go_wp2_with fail
        refine (count_any (mk (put s.data.toList a t.data.toList)) _ (by unfold maxLen; omega)).mono ?_
        rintro e w9 ⟨rfl, hB9⟩
        rw [Let.mk_data, Q3.out]
        go_wp2
        go_ret
        have t2 := hB1.trans (hB2.mono hB1.size)
        have t3 := t2.trans (hB3.mono t2.size)
        have t4 := t3.trans (hB4.mono t3.size)
        have t5 := t4.trans (hB5.mono t4.size)
        have t6 := t5.trans (hB6.mono t5.size)
        have t7 := t6.trans (hB7.mono t6.size)
        have t8 := t7.trans (hB8.mono t7.size)
        exact ⟨rfl, t8.trans (hB9.mono t8.size)⟩
      · have F := facts (cnt s.data.toList : Int) (by omega)
        obtain ⟨r1, Q1, Q3, hkz0, hkz1⟩ := F
        clear facts
        go_enter Try.func6, Try.ntmps6
        go_wp2_with fail
        refine (put_any _ _ _ _ (by decide) (by decide) (by omega) (by omega)).mono ?_
        rintro e w1 ⟨rfl, hB1⟩
        rw [k1]
        go_wp2_with fail
        refine (put_any s t a _ hs2 (by omega) ha1 ha2).mono ?_
        rintro e w2 ⟨rfl, hB2⟩
        go_wp2_with fail
        refine (rput_any s t a _ hs2 (by omega) ha1 ha2).mono ?_
        rintro e w3 ⟨rfl, hB3⟩
        go_wp2_with fail
        refine (rright_any s _ hs2).mono ?_
        rintro e w4 ⟨rfl, rfl⟩
        rw [rs.out]
        go_wp2_with fail
        refine (rright_any t _ ht2).mono ?_
        rintro e w4 ⟨rfl, rfl⟩
        rw [rt.out]
        go_wp2_with fail
        refine (rcount_any s _ (by omega)).mono ?_
        rintro e w4 ⟨rfl, hB4⟩
        go_wp2_with fail
        refine (rcount_any t _ (by omega)).mono ?_
        rintro e w5 ⟨rfl, hB5⟩
        go_wp2_with fail
        refine (cut_any (mk (put s.data.toList a t.data.toList)) (cnt s.data.toList : Int) ((cnt s.data.toList : Int) + (cnt t.data.toList : Int)) _ (by unfold maxLen; omega) (by omega) (by omega) (by omega) (by omega)).mono ?_
        rintro e w6 ⟨rfl, hB6⟩
        rw [Let.mk_data, Q1.out]
        go_wp2_with fail
        refine (cut_any (mk (put s.data.toList a t.data.toList)) 0 (cnt s.data.toList : Int) _ (by unfold maxLen; omega) (by omega) (by omega) (by omega) (by omega)).mono ?_
        rintro e w7 ⟨rfl, hB7⟩
        rw [Let.mk_data]
        go_wp2_with fail
        refine (cut_any (mk (put s.data.toList a t.data.toList)) ((cnt s.data.toList : Int) + (cnt t.data.toList : Int)) ((cnt s.data.toList : Int) + (cnt t.data.toList : Int)) _ (by unfold maxLen; omega) (by omega) (by omega) (by omega) (by omega)).mono ?_
        rintro e w8 ⟨rfl, hB8⟩
        rw [Let.mk_data]
        go_wp2_with fail
        refine (count_any (mk (put s.data.toList a t.data.toList)) _ (by unfold maxLen; omega)).mono ?_
        rintro e w9 ⟨rfl, hB9⟩
        rw [Let.mk_data, Q3.out]
        go_wp2
        go_ret
        have t2 := hB1.trans (hB2.mono hB1.size)
        have t3 := t2.trans (hB3.mono t2.size)
        have t4 := t3.trans (hB4.mono t3.size)
        have t5 := t4.trans (hB5.mono t4.size)
        have t6 := t5.trans (hB6.mono t5.size)
        have t7 := t6.trans (hB7.mono t6.size)
        have t8 := t7.trans (hB8.mono t7.size)
        exact ⟨rfl, t8.trans (hB9.mono t8.size)⟩
    · replace rt : Hid (right t.data.toList = false) := by
        cases h : right t.data.toList with
        | false => exact rfl
        | true => exact absurd h rt
      replace rs := Lib.hid rs
      go_enter Try.func6, Try.ntmps6
      go_wp2_with fail
      refine (put_any _ _ _ _ (by decide) (by decide) (by omega) (by omega)).mono ?_
      rintro e w1 ⟨rfl, hB1⟩
      rw [k1]
      go_wp2_with fail
      refine (put_any s t a _ hs2 (by omega) ha1 ha2).mono ?_
      rintro e w2 ⟨rfl, hB2⟩
      go_wp2_with fail
      refine (rput_any s t a _ hs2 (by omega) ha1 ha2).mono ?_
      rintro e w3 ⟨rfl, hB3⟩
      go_wp2_with fail
      refine (rright_any s _ hs2).mono ?_
      rintro e w4 ⟨rfl, rfl⟩
      rw [rs.out]
      go_wp2_with fail
      refine (rright_any t _ ht2).mono ?_
      rintro e w4 ⟨rfl, rfl⟩
      rw [rt.out]
      go_wp2
      go_ret
      have t2 := hB1.trans (hB2.mono hB1.size)
      exact ⟨rfl, t2.trans (hB3.mono t2.size)⟩
  · replace rs : Hid (right s.data.toList = false) := by
      cases h : right s.data.toList with
      | false => exact rfl
      | true => exact absurd h rs
    go_enter Try.func6, Try.ntmps6
    go_wp2_with fail
    refine (put_any _ _ _ _ (by decide) (by decide) (by omega) (by omega)).mono ?_
    rintro e w1 ⟨rfl, hB1⟩
    rw [k1]
    go_wp2_with fail
    refine (put_any s t a _ hs2 (by omega) ha1 ha2).mono ?_
    rintro e w2 ⟨rfl, hB2⟩
    go_wp2_with fail
    refine (rput_any s t a _ hs2 (by omega) ha1 ha2).mono ?_
    rintro e w3 ⟨rfl, hB3⟩
    go_wp2_with fail
    refine (rright_any s _ hs2).mono ?_
    rintro e w4 ⟨rfl, rfl⟩
    rw [rs.out]
    go_wp2
    go_ret
    have t2 := hB1.trans (hB2.mono hB1.size)
    exact ⟨rfl, t2.trans (hB3.mono t2.size)⟩

set_option maxRecDepth 100000 in
theorem lifted (os : Os) (started : os.Started) (H : Type) (enc : TypeId × Value → H) :
    ReturnsInHanded {} Try.checked os 6 .any (Rows.lettersPutSpec.pre6 enc Try.prog Try.f6 Rows.lettersPutRow.domain false) (Rows.lettersPutSpec.post enc Try.prog Try.f6 false true false false) := by
  refine returnsInHanded_of_change (C := Try.checked) own started (by kernel_rfl) Try.func6
    (ChangeSpec.witness6 (enc := enc) (C := Try.checked) false ⟨#[], #[.string ByteArray.empty, .int .i64 0, .string ByteArray.empty], []⟩ 8 (by kernel_rfl) (by kernel_rfl) (by kernel_rfl) (by kernel_rfl)) ?_
  intro W base args ds gs before hval0 hW hcnd _
  have hval : ∀ (j : Nat) t v, Try.f6.params[j]? = some t → args[j]? = some v → Value.okWide Try.prog W .any base t v := hval0
  have hread : ∀ t ∈ Try.f6.params.toList, Try.prog.readableRec t = true ∧ t < Try.prog.types.size := by
    have : (Try.f6.params.toList.all fun t => Try.prog.readableRec t && decide (t < Try.prog.types.size)) = true := by kernel_rfl
    intro t ht
    have := List.all_eq_true.1 this t ht
    simpa using this
  refine law_contract (P := Try.prog) (s := Rows.lettersPutSpec) (fn := Try.f6) (tb := 4) laidOut rfl hread rfl Try.underlying4 (fun W' => okWide_bool_mk Try.underlying4 _) ?_ hW ?_
  · intro ds hds
    rw [Try.params6] at hds
    match ds, hds with
    | [d0, d1, d2], _ => rfl
  intro pl hA
  rw [Try.params6] at hA hval
  obtain ⟨v0, vs0, d0, ds0, p0, q0, hargs, rfl, hp0, h0, r0⟩ := trodAll_cons hA
  obtain ⟨v1, vs1, d1, ds1, p1, q1, rfl, rfl, hp1, h1, r1⟩ := trodAll_cons r0
  obtain ⟨v2, vs2, d2, ds2, p2, q2, rfl, rfl, hp2, h2, r2⟩ := trodAll_cons r1
  obtain ⟨rfl, rfl, hpe⟩ := trodAll_nil r2
  obtain rfl : args = #[v0, v1, v2] := by cases args; simp_all
  obtain ⟨s, rfl, rfl, _, hs0⟩ := open_string Try.underlying9 (hval 0 9 v0 rfl rfl) h0
  obtain ⟨a, rfl, rfl, _, hw1⟩ := open_int Try.underlying3 (hval 1 3 v1 rfl rfl) h1
  have hb1 : -9223372036854775808 ≤ a ∧ a ≤ 9223372036854775807 := by simpa [Lit.wf, IntKind.min, IntKind.max, IntKind.signed, IntKind.bits] using hw1
  obtain ⟨t, rfl, rfl, _, hs2⟩ := open_string Try.underlying9 (hval 2 9 v2 rfl rfl) h2
  exact walk s hs0 a hb1.1 hb1.2 t hs2 W

theorem over : Rows.lettersPutRow.holds Try.pinned (OpenSpec.ofChange Rows.lettersPutSpec) :=
  OpenClaim.holds_of_wide 6 Try.f6 rfl rfl rfl rfl rfl rfl rfl ⟨rfl, rfl, rfl, rfl, rfl⟩ rfl rfl rfl rfl rfl (by kernel_rfl) Try.func6 (by kernel_rfl)
    (of_decide_eq_true (by kernel_rfl)) (by unfold Func.isWrapper; first | (rw [if_pos (by decide +kernel)]; kernel_rfl) | (rw [if_neg (by decide +kernel)]; exact ⟨rfl, rfl⟩))
    (fun os started H enc _ => lifted os started H enc)

/-- The statement. -/
theorem proved : Rows.LettersPutSaid :=
  over
#print axioms proved
end Go.Proofs.Ytihcifcigeijlaa.lettersPut
