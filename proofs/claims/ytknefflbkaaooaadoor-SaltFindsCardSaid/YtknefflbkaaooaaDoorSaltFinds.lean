/- For every list of users and every two texts: SaltFinds answers true, and its arguments read behind the call as before. No condition. THE TIED CARD: the program's table of SHA-256's constants starts as the program's text lays it. -/
import Derived.Test.YtknefflbkaaooaaDoorRows
import Derived.Test.YtknefflbkaaooaaDoorTie
import Derived.Test.YtknefflbkaaooaaDoorCards
import Derived.Test.YtknefflbkaaooaaDoorLift
import Derived.ProofKit
import Derived.Lib.LaidU8
import Derived.Lay
import Derived.LaidOnce
import Derived.SevenTiedAt
import Derived.Test.YtknefflbkaaooaaDoorPla
import Derived.Test.YtknefflbkaaooaaDoorSu9
import Derived.Test.YtknefflbkaaooaaDoorWl3
import Derived.SizedLaws
set_option linter.unusedVariables false
namespace Go.Proofs.YtknefflbkaaooaaDoor.saltFinds
open Go.ChangeShapes Go.WideShapes Go.ChangeAt Go.RowKit Go.Lib Go.Proofs.YtknefflbkaaooaaDoor.Lift Go.Proofs.YtknefflbkaaooaaDoor.Bx Go.Proofs.YtknefflbkaaooaaDoor.Slt
open Go.ChangeMaps (open_string shut_string)

theorem own : ownKnob Tryd.prog.godebug = none := by kernel_rfl
theorem laidOut : laidOutB Tryd.prog = true := by kernel_rfl

theorem walk {w : World} (v : Value) (A : List Us) (hA : Users w v A) (nm : ByteArray) (h1 : nm.size ≤ 140737488355328) (pw : ByteArray) (h2 : pw.size ≤ 140737488355328) (hR : Roots w) : Calls Tryd.prog 5 #[v, .string nm, .string pw] w fun e w' => e = .returned (.bool true) ∧ Below w.heap.size w w' := W3.walk sum_ok v A hA nm h1 pw h2 hR

set_option maxRecDepth 100000 in
theorem lifted (os : Os) (started : os.Started) (H : Type) (enc : TypeId × Value → H) :
    ReturnsInHanded {} Tryd.checked os 5 .any (fun w args => (Rows.saltFindsSpec.pre enc Tryd.prog Tryd.f5 [] false w args ∧ laidMetH Tryd.prog Rows.saltFindsRow.laid w) ∧ sizedMet enc Tryd.prog Tryd.f5 (OpenSpec.ofChange Rows.saltFindsSpec) false w args) (Rows.saltFindsSpec.post enc Tryd.prog Tryd.f5 false true false false) := by
  refine returnsInHanded_of_change_and (C := Tryd.checked) (X := fun w _ => laidMetH Tryd.prog Rows.saltFindsRow.laid w) (fun _ _ _ hh h => h.of_heap hh) own started (by kernel_rfl) Tryd.func5
    (ChangeSpec.witness_shaped (enc := enc) (C := Tryd.checked) (os := os) (X := fun w _ => laidMetH Tryd.prog Rows.saltFindsRow.laid w) false (World.laidAll Tryd.prog os Rows.saltFindsRow.laid) #[.slice none 0 0, .string ByteArray.empty, .string ByteArray.empty] 8 (World.laidAll_os _ _ _)
      (World.shaped_of_ZipB (by kernel_rfl) (by kernel_rfl)) (by kernel_rfl) (by kernel_rfl) (by kernel_rfl)
      (by rw [MakeChecks.laidMetH_plain _ _ _ (by kernel_rfl)]; exact laidMet_laidAll _ (by kernel_rfl) (by kernel_rfl))) ?_
  intro W base args ds gs before hval0 hW _ hWt hL _
  have hval : ∀ (j : Nat) t v, Tryd.f5.params[j]? = some t → args[j]? = some v → Value.okWide Tryd.prog W .any base t v := hval0
  have hread : ∀ t ∈ Tryd.f5.params.toList, Tryd.prog.readableRec t = true ∧ t < Tryd.prog.types.size := by
    have : (Tryd.f5.params.toList.all fun t => Tryd.prog.readableRec t && decide (t < Tryd.prog.types.size)) = true := by kernel_rfl
    intro t ht
    have := List.all_eq_true.1 this t ht
    simpa using this
  rw [MakeChecks.laidMetH_plain _ _ _ (by kernel_rfl)] at hL
  have hT := roots_of (Lib.laidMet.reads hL (.head _))
  refine law_contract (P := Tryd.prog) (s := Rows.saltFindsSpec) (fn := Tryd.f5) (tb := 4) laidOut rfl hread rfl Tryd.underlying4 (fun W' => okWide_bool_mk Tryd.underlying4 _) ?_ hW ?_
  · intro ds hds
    rw [Tryd.params5] at hds
    match ds, hds with
    | [d0, d1, d2], _ => rfl
  intro pl hA
  rw [Tryd.params5] at hA hval hWt
  obtain ⟨v0, vs0, d0, ds0, p0, q0, hargs, rfl, hp0, h0, r0⟩ := trodAll_cons hA
  obtain ⟨v1, vs1, d1, ds1, p1, q1, rfl, rfl, hp1, h1, r1⟩ := trodAll_cons r0
  obtain ⟨v2, vs2, d2, ds2, p2, q2, rfl, rfl, hp2, h2, r2⟩ := trodAll_cons r1
  obtain ⟨rfl, rfl, hpe⟩ := trodAll_nil r2
  obtain rfl : args = #[v0, v1, v2] := by cases args; simp_all
  have hwt0 : (d0.weights Tryd.prog 24).all (· ≤ reachBytes) = true := List.all_eq_true.2 fun n hn => List.all_eq_true.1 hWt n (DataW.weights_mem_each (j := 0) (t := 24) (d := d0) rfl rfl n hn)
  obtain ⟨A, hL0⟩ := open_users (hval 0 24 v0 rfl rfl) h0 (fun n hn => by have h := List.all_eq_true.1 hwt0 n hn; have h47 := reachBytes_lt; simp at h; omega)
  have hwt1 : (d1.weights Tryd.prog 9).all (· ≤ reachBytes) = true := List.all_eq_true.2 fun n hn => List.all_eq_true.1 hWt n (DataW.weights_mem_each (j := 1) (t := 9) (d := d1) rfl rfl n hn)
  obtain ⟨nm, rfl, rfl, _, hs1⟩ := open_string Tryd.underlying9 (hval 1 9 v1 rfl rfl) h1
  have hz1 : nm.size ≤ 140737488355328 := by have h := List.all_eq_true.1 hwt1 nm.data.toList.length (by simp [DataW.weights]); have h47 := reachBytes_lt; have h2 : nm.size = nm.data.toList.length := rfl; simp at h; omega
  have hwt2 : (d2.weights Tryd.prog 9).all (· ≤ reachBytes) = true := List.all_eq_true.2 fun n hn => List.all_eq_true.1 hWt n (DataW.weights_mem_each (j := 2) (t := 9) (d := d2) rfl rfl n hn)
  obtain ⟨pw, rfl, rfl, _, hs2⟩ := open_string Tryd.underlying9 (hval 2 9 v2 rfl rfl) h2
  have hz2 : pw.size ≤ 140737488355328 := by have h := List.all_eq_true.1 hwt2 pw.data.toList.length (by simp [DataW.weights]); have h47 := reachBytes_lt; have h2 : pw.size = pw.data.toList.length := rfl; simp at h; omega
  exact walk  v0 A hL0 nm hz1 pw hz2 hT

theorem over : Rows.saltFindsRow.holds Tryd.pinned (OpenSpec.ofChange Rows.saltFindsSpec) :=
  OpenClaim.holds_of_wide 5 Tryd.f5 rfl rfl rfl rfl rfl rfl rfl ⟨rfl, rfl, rfl, rfl, rfl⟩ rfl rfl rfl rfl rfl (by kernel_rfl) Tryd.func5 (by kernel_rfl)
    (of_decide_eq_true (by kernel_rfl)) (by unfold Func.isWrapper; first | (rw [if_pos (by decide +kernel)]; kernel_rfl) | (rw [if_neg (by decide +kernel)]; exact ⟨rfl, rfl⟩))
    (fun os started H enc _ => lifted os started H enc)

/-- The statement. -/
theorem proved : Rows.SaltFindsCardSaid :=
  Claim7.holds_tied_plain_at .later [] [.data] true (true, "904390118661b52f9c5db9943ea23b54aff1d49e707f25b4dfa943070c12cb0f") false over (fun _ h => by cases h) (by kernel_rfl) (fun _ h => by cases h) saltFinds_row_tie rfl ⟨rfl, rfl⟩ (by kernel_rfl) rfl
    (fun f fn hf hfn => by
      obtain rfl : f = 5 := Option.some.inj ((show Tryd.prog.funcNamed Rows.saltFindsRow.func = some 5 by kernel_rfl).symm.trans hf) |>.symm
      obtain rfl : fn = Tryd.f5 := (Option.some.inj (Tryd.func5.symm.trans hfn)).symm
      exact ⟨by kernel_rfl, fun j t ht => by
        rw [Tryd.params5] at ht
        have hm : t ∈ [24, 9, 9] := by simpa using Array.mem_of_getElem? ht
        have hall : ([24, 9, 9].all fun u => !Tryd.prog.wantsStandIn u) = true := by kernel_rfl
        exact (show Tryd.prog.wantsStandIn t = false by simpa using List.all_eq_true.1 hall t hm)⟩)
    (by kernel_rfl)
#print axioms proved
end Go.Proofs.YtknefflbkaaooaaDoor.saltFinds
