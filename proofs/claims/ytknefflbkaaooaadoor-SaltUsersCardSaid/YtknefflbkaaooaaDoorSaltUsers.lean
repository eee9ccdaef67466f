/- For every list of users: SaltUsers answers true, and its argument reads behind the call as before. No condition. THE TIED CARD: the program's table of SHA-256's constants starts as the program's text lays it. -/
import Derived.Test.YtknefflbkaaooaaDoorRows
import Derived.Test.YtknefflbkaaooaaDoorTie
import Derived.Test.YtknefflbkaaooaaDoorCards
import Derived.Test.YtknefflbkaaooaaDoorLift
import Derived.ProofKit
import Derived.Lib.LaidU8
import Derived.Lay
import Derived.LaidOnce
import Derived.SevenTiedAt
import Derived.Test.YtknefflbkaaooaaDoorPla
import Derived.Test.YtknefflbkaaooaaDoorWl2
import Derived.SizedLaws
set_option linter.unusedVariables false
namespace Go.Proofs.YtknefflbkaaooaaDoor.saltUsers
open Go.ChangeShapes Go.WideShapes Go.ChangeAt Go.RowKit Go.Lib Go.Proofs.YtknefflbkaaooaaDoor.Lift Go.Proofs.YtknefflbkaaooaaDoor.Bx Go.Proofs.YtknefflbkaaooaaDoor.Slt
open Go.ChangeMaps (open_string shut_string)

theorem own : ownKnob Tryd.prog.godebug = none := by kernel_rfl
theorem laidOut : laidOutB Tryd.prog = true := by kernel_rfl

theorem walk {w : World} (v : Value) (A : List Us) (hA : Users w v A) (hR : Roots w) : Calls Tryd.prog 4 #[v] w fun e w' => e = .returned (.bool true) ∧ Below w.heap.size w w' := W2.walk v A hA hR

set_option maxRecDepth 100000 in
theorem lifted (os : Os) (started : os.Started) (H : Type) (enc : TypeId × Value → H) :
    ReturnsInHanded {} Tryd.checked os 4 .any (fun w args => (Rows.saltUsersSpec.pre enc Tryd.prog Tryd.f4 [] false w args ∧ laidMetH Tryd.prog Rows.saltUsersRow.laid w) ∧ sizedMet enc Tryd.prog Tryd.f4 (OpenSpec.ofChange Rows.saltUsersSpec) false w args) (Rows.saltUsersSpec.post enc Tryd.prog Tryd.f4 false true false false) := by
  refine returnsInHanded_of_change_and (C := Tryd.checked) (X := fun w _ => laidMetH Tryd.prog Rows.saltUsersRow.laid w) (fun _ _ _ hh h => h.of_heap hh) own started (by kernel_rfl) Tryd.func4
    (ChangeSpec.witness_shaped (enc := enc) (C := Tryd.checked) (os := os) (X := fun w _ => laidMetH Tryd.prog Rows.saltUsersRow.laid w) false (World.laidAll Tryd.prog os Rows.saltUsersRow.laid) #[.slice none 0 0] 8 (World.laidAll_os _ _ _)
      (World.shaped_of_ZipB (by kernel_rfl) (by kernel_rfl)) (by kernel_rfl) (by kernel_rfl) (by kernel_rfl)
      (by rw [MakeChecks.laidMetH_plain _ _ _ (by kernel_rfl)]; exact laidMet_laidAll _ (by kernel_rfl) (by kernel_rfl))) ?_
  intro W base args ds gs before hval0 hW _ hWt hL _
  have hval : ∀ (j : Nat) t v, Tryd.f4.params[j]? = some t → args[j]? = some v → Value.okWide Tryd.prog W .any base t v := hval0
  have hread : ∀ t ∈ Tryd.f4.params.toList, Tryd.prog.readableRec t = true ∧ t < Tryd.prog.types.size := by
    have : (Tryd.f4.params.toList.all fun t => Tryd.prog.readableRec t && decide (t < Tryd.prog.types.size)) = true := by kernel_rfl
    intro t ht
    have := List.all_eq_true.1 this t ht
    simpa using this
  rw [MakeChecks.laidMetH_plain _ _ _ (by kernel_rfl)] at hL
  have hT := roots_of (Lib.laidMet.reads hL (.head _))
  refine law_contract (P := Tryd.prog) (s := Rows.saltUsersSpec) (fn := Tryd.f4) (tb := 4) laidOut rfl hread rfl Tryd.underlying4 (fun W' => okWide_bool_mk Tryd.underlying4 _) ?_ hW ?_
  · intro ds hds
    rw [Tryd.params4] at hds
    match ds, hds with
    | [d0], _ => rfl
  intro pl hA
  rw [Tryd.params4] at hA hval hWt
  obtain ⟨v0, vs0, d0, ds0, p0, q0, hargs, rfl, hp0, h0, r0⟩ := trodAll_cons hA
  obtain ⟨rfl, rfl, hpe⟩ := trodAll_nil r0
  obtain rfl : args = #[v0] := by cases args; simp_all
  have hwt0 : (d0.weights Tryd.prog 24).all (· ≤ reachBytes) = true := List.all_eq_true.2 fun n hn => List.all_eq_true.1 hWt n (DataW.weights_mem_each (j := 0) (t := 24) (d := d0) rfl rfl n hn)
  obtain ⟨A, hL0⟩ := open_users (hval 0 24 v0 rfl rfl) h0 (fun n hn => by have h := List.all_eq_true.1 hwt0 n hn; have h47 := reachBytes_lt; simp at h; omega)
  exact walk  v0 A hL0 hT

theorem over : Rows.saltUsersRow.holds Tryd.pinned (OpenSpec.ofChange Rows.saltUsersSpec) :=
  OpenClaim.holds_of_wide 4 Tryd.f4 rfl rfl rfl rfl rfl rfl rfl ⟨rfl, rfl, rfl, rfl, rfl⟩ rfl rfl rfl rfl rfl (by kernel_rfl) Tryd.func4 (by kernel_rfl)
    (of_decide_eq_true (by kernel_rfl)) (by unfold Func.isWrapper; first | (rw [if_pos (by decide +kernel)]; kernel_rfl) | (rw [if_neg (by decide +kernel)]; exact ⟨rfl, rfl⟩))
    (fun os started H enc _ => lifted os started H enc)

/-- The statement. -/
theorem proved : Rows.SaltUsersCardSaid :=
  Claim7.holds_tied_plain_at .later [] [.data] true (true, "904390118661b52f9c5db9943ea23b54aff1d49e707f25b4dfa943070c12cb0f") false over (fun _ h => by cases h) (by kernel_rfl) (fun _ h => by cases h) saltUsers_row_tie rfl ⟨rfl, rfl⟩ (by kernel_rfl) rfl
    (fun f fn hf hfn => by
      obtain rfl : f = 4 := Option.some.inj ((show Tryd.prog.funcNamed Rows.saltUsersRow.func = some 4 by kernel_rfl).symm.trans hf) |>.symm
      obtain rfl : fn = Tryd.f4 := (Option.some.inj (Tryd.func4.symm.trans hfn)).symm
      exact ⟨by kernel_rfl, fun j t ht => by
        rw [Tryd.params4] at ht
        have hm : t ∈ [24] := by simpa using Array.mem_of_getElem? ht
        have hall : ([24].all fun u => !Tryd.prog.wantsStandIn u) = true := by kernel_rfl
        exact (show Tryd.prog.wantsStandIn t = false by simpa using List.all_eq_true.1 hall t hm)⟩)
    (by kernel_rfl)
#print axioms proved
end Go.Proofs.YtknefflbkaaooaaDoor.saltUsers
