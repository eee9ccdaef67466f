/- For every text and every three numbers: LettersParts answers true, and its arguments read behind the call as before. No condition. -/
import Derived.Test.YtihcifcigeijlaaRows
import Derived.Test.YtihcifcigeijlaaLift
import Derived.Test.YtihcifcigeijlaaParts
set_option linter.unusedVariables false
namespace Go.Proofs.Ytihcifcigeijlaa.lettersParts
open Go.ChangeShapes Go.WideShapes Go.ChangeAt Go.RowKit Go.Lib Go.Proofs.Ytihcifcigeijlaa.Lift Go.Proofs.Ytihcifcigeijlaa.Let Go.Proofs.Ytihcifcigeijlaa.Con
open Go.ChangeMaps (open_string shut_string)

theorem own : ownKnob Try.prog.godebug = none := by kernel_rfl
theorem laidOut : laidOutB Try.prog = true := by kernel_rfl

theorem k1 : mk (cut (ByteArray.mk #[97, 98, 99]).data.toList 0 1) = ByteArray.mk #[97] := by decide +kernel

set_option maxRecDepth 100000 in
set_option maxHeartbeats 1000000 in
theorem walk (s : ByteArray) (hs : s.size ≤ maxLen) (a b c : Int) (ha1 : -9223372036854775808 ≤ a) (ha2 : a ≤ 9223372036854775807) (hb1 : -9223372036854775808 ≤ b) (hb2 : b ≤ 9223372036854775807) (hc1 : -9223372036854775808 ≤ c) (hc2 : c ≤ 9223372036854775807) (w : World) :
    Calls Try.prog 7 #[.string s, .agg #[.int .i64 a, .int .i64 b, .int .i64 c]] w fun e w' => e = .returned (.bool true) ∧ Below w.heap.size w w' := by
  have hs2 := hs
  unfold maxLen at hs
  have hbel : ∀ {w1 : World} {o : Obj}, Below (w.heap.size + 1) (w.alloc o) w1 → Below w.heap.size w w1 := fun {w1 o} h => ((Below.refl _ w).alloc (Nat.le_refl _) o).trans (h.mono (by omega))
  have key : ¬ ((5000 : Int) < s.size) → ¬ (b < a) → ¬ (c < b) → Hid ((∀ w : World, (Op.stringOp .add (mk (cut s.data.toList a b)) (mk (cut s.data.toList b c))).run Try.prog w = .ok (.string (mk (cut s.data.toList a c))) w) ∧
      (∀ w : World, (Op.stringOp .add (mk (cut s.data.toList 0 b)) (mk (cut s.data.toList b s.size))).run Try.prog w = .ok (.string s) w)) := fun h5 hab hbc => by
    have l1 := cut_len s.data.toList a b
    have l2 := cut_len s.data.toList b c
    have l3 := cut_len s.data.toList 0 b
    have l4 := cut_len s.data.toList b s.size
    rw [sz] at l1 l2 l3 l4
    refine ⟨fun w => ?_, fun w => ?_⟩
    · rw [run_string_add_sum w _ _ (by rw [mk_size, mk_size]; omega), mk_append, Let.mk_data, Let.mk_data, cut_meet _ (by omega) (by omega)]
    · rw [run_string_add_sum w _ _ (by rw [mk_size, mk_size]; omega), mk_append, Let.mk_data, Let.mk_data, cut_whole _ _ _ (by rw [sz]), mk_self]
  by_cases h5 : (5000 : Int) < s.size
  · clear key
    go_enter Try.func7, Try.ntmps7
    go_wp2_with fail
    refine (cut_any _ _ _ _ (by decide) (by omega) (by omega) (by omega) (by omega)).mono ?_
    rintro e w1 ⟨rfl, hB1⟩
    rw [k1]
    have hB1' : Below (w.heap.size + 1) (w.alloc (.cells #[.int .i64 a, .int .i64 b, .int .i64 c] 33)) w1 := by simpa using hB1
    have hc0 : w1.cell? ⟨w.heap.size, 0, none⟩ = some (.int .i64 a) := (hB1'.cell (p := ⟨w.heap.size, 0, none⟩) (by simp)).trans (by rw [World.cell?_alloc_at _ _ _ _ (by simp)]; rfl)
    have hc1' : w1.cell? ⟨w.heap.size, 1, none⟩ = some (.int .i64 b) := (hB1'.cell (p := ⟨w.heap.size, 1, none⟩) (by simp)).trans (by rw [World.cell?_alloc_at _ _ _ _ (by simp)]; rfl)
    have hc2' : w1.cell? ⟨w.heap.size, 2, none⟩ = some (.int .i64 c) := (hB1'.cell (p := ⟨w.heap.size, 2, none⟩) (by simp)).trans (by rw [World.cell?_alloc_at _ _ _ _ (by simp)]; rfl)
    have hfin := hbel hB1'
    clear hB1 hB1' hbel
    go_wp2
    go_quiet (fail)
    go_wp2
    go_ret
    exact ⟨rfl, below_drews hfin _⟩
  by_cases hab : b < a
  · clear key
    go_enter Try.func7, Try.ntmps7
    go_wp2_with fail
    refine (cut_any _ _ _ _ (by decide) (by omega) (by omega) (by omega) (by omega)).mono ?_
    rintro e w1 ⟨rfl, hB1⟩
    rw [k1]
    have hB1' : Below (w.heap.size + 1) (w.alloc (.cells #[.int .i64 a, .int .i64 b, .int .i64 c] 33)) w1 := by simpa using hB1
    have hc0 : w1.cell? ⟨w.heap.size, 0, none⟩ = some (.int .i64 a) := (hB1'.cell (p := ⟨w.heap.size, 0, none⟩) (by simp)).trans (by rw [World.cell?_alloc_at _ _ _ _ (by simp)]; rfl)
    have hc1' : w1.cell? ⟨w.heap.size, 1, none⟩ = some (.int .i64 b) := (hB1'.cell (p := ⟨w.heap.size, 1, none⟩) (by simp)).trans (by rw [World.cell?_alloc_at _ _ _ _ (by simp)]; rfl)
    have hc2' : w1.cell? ⟨w.heap.size, 2, none⟩ = some (.int .i64 c) := (hB1'.cell (p := ⟨w.heap.size, 2, none⟩) (by simp)).trans (by rw [World.cell?_alloc_at _ _ _ _ (by simp)]; rfl)
    have hfin := hbel hB1'
    clear hB1 hB1' hbel
    go_wp2
    go_quiet (fail)
    go_wp2
    go_ret
    exact ⟨rfl, below_drews hfin _⟩
  by_cases hbc : c < b
  · clear key
    go_enter Try.func7, Try.ntmps7
    go_wp2_with fail
    refine (cut_any _ _ _ _ (by decide) (by omega) (by omega) (by omega) (by omega)).mono ?_
    rintro e w1 ⟨rfl, hB1⟩
    rw [k1]
    have hB1' : Below (w.heap.size + 1) (w.alloc (.cells #[.int .i64 a, .int .i64 b, .int .i64 c] 33)) w1 := by simpa using hB1
    have hc0 : w1.cell? ⟨w.heap.size, 0, none⟩ = some (.int .i64 a) := (hB1'.cell (p := ⟨w.heap.size, 0, none⟩) (by simp)).trans (by rw [World.cell?_alloc_at _ _ _ _ (by simp)]; rfl)
    have hc1' : w1.cell? ⟨w.heap.size, 1, none⟩ = some (.int .i64 b) := (hB1'.cell (p := ⟨w.heap.size, 1, none⟩) (by simp)).trans (by rw [World.cell?_alloc_at _ _ _ _ (by simp)]; rfl)
    have hc2' : w1.cell? ⟨w.heap.size, 2, none⟩ = some (.int .i64 c) := (hB1'.cell (p := ⟨w.heap.size, 2, none⟩) (by simp)).trans (by rw [World.cell?_alloc_at _ _ _ _ (by simp)]; rfl)
    have hfin := hbel hB1'
    clear hB1 hB1' hbel
    go_wp2
    go_quiet (fail)
    go_wp2
    go_ret
    exact ⟨rfl, below_drews hfin _⟩
  · replace key := key h5 hab hbc
    go_enter Try.func7, Try.ntmps7
    go_wp2_with fail
    refine (cut_any _ _ _ _ (by decide) (by omega) (by omega) (by omega) (by omega)).mono ?_
    rintro e w1 ⟨rfl, hB1⟩
    rw [k1]
    have hB1' : Below (w.heap.size + 1) (w.alloc (.cells #[.int .i64 a, .int .i64 b, .int .i64 c] 33)) w1 := by simpa using hB1
    have hc0 : w1.cell? ⟨w.heap.size, 0, none⟩ = some (.int .i64 a) := (hB1'.cell (p := ⟨w.heap.size, 0, none⟩) (by simp)).trans (by rw [World.cell?_alloc_at _ _ _ _ (by simp)]; rfl)
    have hc1' : w1.cell? ⟨w.heap.size, 1, none⟩ = some (.int .i64 b) := (hB1'.cell (p := ⟨w.heap.size, 1, none⟩) (by simp)).trans (by rw [World.cell?_alloc_at _ _ _ _ (by simp)]; rfl)
    have hc2' : w1.cell? ⟨w.heap.size, 2, none⟩ = some (.int .i64 c) := (hB1'.cell (p := ⟨w.heap.size, 2, none⟩) (by simp)).trans (by rw [World.cell?_alloc_at _ _ _ _ (by simp)]; rfl)
    have hfin := hbel hB1'
    clear hB1 hB1' hbel
    go_wp2
    go_quiet (fail)
    obtain ⟨r1, r2⟩ := key.out
    go_wp2_with fail
    refine (cut_any s a b _ hs2 ha1 ha2 hb1 hb2).mono ?_
    rintro e w2 ⟨rfl, hB2⟩
    go_wp2_with fail
    refine (cut_any s b c _ hs2 hb1 hb2 hc1 hc2).mono ?_
    rintro e w3 ⟨rfl, hB3⟩
    go_wp2_with fail
    refine (cut_any s a c _ hs2 ha1 ha2 hc1 hc2).mono ?_
    rintro e w4 ⟨rfl, hB4⟩
    go_wp2_with fail
    refine (cut_any s 0 b _ hs2 (by omega) (by omega) hb1 hb2).mono ?_
    rintro e w5 ⟨rfl, hB5⟩
    go_wp2_with fail
    refine (cut_any s b s.size _ hs2 hb1 hb2 (by omega) (by omega)).mono ?_
    rintro e w6 ⟨rfl, hB6⟩
    go_wp2
    go_ret
    have hX : Below w.heap.size w w6 := by
      have t1 := below_drews hfin nq
      have t2 := t1.trans (hB2.mono t1.size)
      have t3 := t2.trans (hB3.mono t2.size)
      have t4 := t3.trans (hB4.mono t3.size)
      have t5 := t4.trans (hB5.mono t4.size)
      exact t5.trans (hB6.mono t5.size)
    exact ⟨rfl, hX⟩

set_option maxRecDepth 100000 in
theorem lifted (os : Os) (started : os.Started) (H : Type) (enc : TypeId × Value → H) :
    ReturnsInHanded {} Try.checked os 7 .any (Rows.lettersPartsSpec.pre6 enc Try.prog Try.f7 Rows.lettersPartsRow.domain false) (Rows.lettersPartsSpec.post enc Try.prog Try.f7 false true false false) := by
  refine returnsInHanded_of_change (C := Try.checked) own started (by kernel_rfl) Try.func7
    (ChangeSpec.witness6 (enc := enc) (C := Try.checked) false ⟨#[], #[.string ByteArray.empty, .agg #[.int .i64 0, .int .i64 0, .int .i64 0]], []⟩ 8 (by kernel_rfl) (by kernel_rfl) (by kernel_rfl) (by kernel_rfl)) ?_
  intro W base args ds gs before hval0 hW hcnd _
  have hval : ∀ (j : Nat) t v, Try.f7.params[j]? = some t → args[j]? = some v → Value.okWide Try.prog W .any base t v := hval0
  have hread : ∀ t ∈ Try.f7.params.toList, Try.prog.readableRec t = true ∧ t < Try.prog.types.size := by
    have : (Try.f7.params.toList.all fun t => Try.prog.readableRec t && decide (t < Try.prog.types.size)) = true := by kernel_rfl
    intro t ht
    have := List.all_eq_true.1 this t ht
    simpa using this
  refine law_contract (P := Try.prog) (s := Rows.lettersPartsSpec) (fn := Try.f7) (tb := 4) laidOut rfl hread rfl Try.underlying4 (fun W' => okWide_bool_mk Try.underlying4 _) ?_ hW ?_
  · intro ds hds
    rw [Try.params7] at hds
    match ds, hds with
    | [d0, d1], _ => rfl
  intro pl hA
  rw [Try.params7] at hA hval
  obtain ⟨v0, vs0, d0, ds0, p0, q0, hargs, rfl, hp0, h0, r0⟩ := trodAll_cons hA
  obtain ⟨v1, vs1, d1, ds1, p1, q1, rfl, rfl, hp1, h1, r1⟩ := trodAll_cons r0
  obtain ⟨rfl, rfl, hpe⟩ := trodAll_nil r1
  obtain rfl : args = #[v0, v1] := by cases args; simp_all
  obtain ⟨s, rfl, rfl, _, hs0⟩ := open_string Try.underlying9 (hval 0 9 v0 rfl rfl) h0
  obtain ⟨a, b, c, rfl, hb1⟩ := open_int3 Try.underlying33 Try.underlying3 (by kernel_rfl) (by kernel_rfl) (hval 1 33 v1 rfl rfl) h1
  exact walk s hs0 a b c hb1.1.1 hb1.1.2 hb1.2.1.1 hb1.2.1.2 hb1.2.2.1 hb1.2.2.2 W

theorem over : Rows.lettersPartsRow.holds Try.pinned (OpenSpec.ofChange Rows.lettersPartsSpec) :=
  OpenClaim.holds_of_wide 7 Try.f7 rfl rfl rfl rfl rfl rfl rfl ⟨rfl, rfl, rfl, rfl, rfl⟩ rfl rfl rfl rfl rfl (by kernel_rfl) Try.func7 (by kernel_rfl)
    (of_decide_eq_true (by kernel_rfl)) (by unfold Func.isWrapper; first | (rw [if_pos (by decide +kernel)]; kernel_rfl) | (rw [if_neg (by decide +kernel)]; exact ⟨rfl, rfl⟩))
    (fun os started H enc _ => lifted os started H enc)

/-- The statement. -/
theorem proved : Rows.LettersPartsSaid :=
  over
#print axioms proved
end Go.Proofs.Ytihcifcigeijlaa.lettersParts
