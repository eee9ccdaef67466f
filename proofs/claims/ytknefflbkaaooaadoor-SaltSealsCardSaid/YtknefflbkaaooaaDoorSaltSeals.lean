/- For every two texts: SaltSeals answers true, and its arguments read behind the call as before. No condition. THE TIED CARD: the program's table of SHA-256's constants starts as the program's text lays it. -/
import Derived.Test.YtknefflbkaaooaaDoorRows
import Derived.Test.YtknefflbkaaooaaDoorTie
import Derived.Test.YtknefflbkaaooaaDoorCards
import Derived.Test.YtknefflbkaaooaaDoorLift
import Derived.ProofKit
import Derived.Lib.LaidU8
import Derived.Lay
import Derived.LaidOnce
import Derived.SevenTiedAt
import Derived.Test.YtknefflbkaaooaaDoorPla
import Derived.Test.YtknefflbkaaooaaDoorSu9
import Derived.Test.YtknefflbkaaooaaDoorWl1
import Derived.SizedLaws
set_option linter.unusedVariables false
namespace Go.Proofs.YtknefflbkaaooaaDoor.saltSeals
open Go.ChangeShapes Go.WideShapes Go.ChangeAt Go.RowKit Go.Lib Go.Proofs.YtknefflbkaaooaaDoor.Lift Go.Proofs.YtknefflbkaaooaaDoor.Bx Go.Proofs.YtknefflbkaaooaaDoor.Slt
open Go.ChangeMaps (open_string shut_string)

theorem own : ownKnob Tryd.prog.godebug = none := by kernel_rfl
theorem laidOut : laidOutB Tryd.prog = true := by kernel_rfl

theorem walk (s : ByteArray) (h1 : s.size ≤ 140737488355328) (p : ByteArray) (h2 : p.size ≤ 140737488355328) (w : World) (hR : Roots w) : Calls Tryd.prog 3 #[.string s, .string p] w fun e w' => e = .returned (.bool true) ∧ Below w.heap.size w w' := W1.walk sum_ok s h1 p h2 w hR

set_option maxRecDepth 100000 in
theorem lifted (os : Os) (started : os.Started) (H : Type) (enc : TypeId × Value → H) :
    ReturnsInHanded {} Tryd.checked os 3 .any (fun w args => (Rows.saltSealsSpec.pre enc Tryd.prog Tryd.f3 [] false w args ∧ laidMetH Tryd.prog Rows.saltSealsRow.laid w) ∧ sizedMet enc Tryd.prog Tryd.f3 (OpenSpec.ofChange Rows.saltSealsSpec) false w args) (Rows.saltSealsSpec.post enc Tryd.prog Tryd.f3 false true false false) := by
  refine returnsInHanded_of_change_and (C := Tryd.checked) (X := fun w _ => laidMetH Tryd.prog Rows.saltSealsRow.laid w) (fun _ _ _ hh h => h.of_heap hh) own started (by kernel_rfl) Tryd.func3
    (ChangeSpec.witness_shaped (enc := enc) (C := Tryd.checked) (os := os) (X := fun w _ => laidMetH Tryd.prog Rows.saltSealsRow.laid w) false (World.laidAll Tryd.prog os Rows.saltSealsRow.laid) #[.string ByteArray.empty, .string ByteArray.empty] 8 (World.laidAll_os _ _ _)
      (World.shaped_of_ZipB (by kernel_rfl) (by kernel_rfl)) (by kernel_rfl) (by kernel_rfl) (by kernel_rfl)
      (by rw [MakeChecks.laidMetH_plain _ _ _ (by kernel_rfl)]; exact laidMet_laidAll _ (by kernel_rfl) (by kernel_rfl))) ?_
  intro W base args ds gs before hval0 hW _ hWt hL _
  have hval : ∀ (j : Nat) t v, Tryd.f3.params[j]? = some t → args[j]? = some v → Value.okWide Tryd.prog W .any base t v := hval0
  have hread : ∀ t ∈ Tryd.f3.params.toList, Tryd.prog.readableRec t = true ∧ t < Tryd.prog.types.size := by
    have : (Tryd.f3.params.toList.all fun t => Tryd.prog.readableRec t && decide (t < Tryd.prog.types.size)) = true := by kernel_rfl
    intro t ht
    have := List.all_eq_true.1 this t ht
    simpa using this
  rw [MakeChecks.laidMetH_plain _ _ _ (by kernel_rfl)] at hL
  have hT := roots_of (Lib.laidMet.reads hL (.head _))
  refine law_contract (P := Tryd.prog) (s := Rows.saltSealsSpec) (fn := Tryd.f3) (tb := 4) laidOut rfl hread rfl Tryd.underlying4 (fun W' => okWide_bool_mk Tryd.underlying4 _) ?_ hW ?_
  · intro ds hds
    rw [Tryd.params3] at hds
    match ds, hds with
    | [d0, d1], _ => rfl
  intro pl hA
  rw [Tryd.params3] at hA hval hWt
  obtain ⟨v0, vs0, d0, ds0, p0, q0, hargs, rfl, hp0, h0, r0⟩ := trodAll_cons hA
  obtain ⟨v1, vs1, d1, ds1, p1, q1, rfl, rfl, hp1, h1, r1⟩ := trodAll_cons r0
  obtain ⟨rfl, rfl, hpe⟩ := trodAll_nil r1
  obtain rfl : args = #[v0, v1] := by cases args; simp_all
  have hwt0 : (d0.weights Tryd.prog 9).all (· ≤ reachBytes) = true := List.all_eq_true.2 fun n hn => List.all_eq_true.1 hWt n (DataW.weights_mem_each (j := 0) (t := 9) (d := d0) rfl rfl n hn)
  obtain ⟨s, rfl, rfl, _, hs0⟩ := open_string Tryd.underlying9 (hval 0 9 v0 rfl rfl) h0
  have hz0 : s.size ≤ 140737488355328 := by have h := List.all_eq_true.1 hwt0 s.data.toList.length (by simp [DataW.weights]); have h47 := reachBytes_lt; have h2 : s.size = s.data.toList.length := rfl; simp at h; omega
  have hwt1 : (d1.weights Tryd.prog 9).all (· ≤ reachBytes) = true := List.all_eq_true.2 fun n hn => List.all_eq_true.1 hWt n (DataW.weights_mem_each (j := 1) (t := 9) (d := d1) rfl rfl n hn)
  obtain ⟨p, rfl, rfl, _, hs1⟩ := open_string Tryd.underlying9 (hval 1 9 v1 rfl rfl) h1
  have hz1 : p.size ≤ 140737488355328 := by have h := List.all_eq_true.1 hwt1 p.data.toList.length (by simp [DataW.weights]); have h47 := reachBytes_lt; have h2 : p.size = p.data.toList.length := rfl; simp at h; omega
  exact walk  s hz0 p hz1 W hT

theorem over : Rows.saltSealsRow.holds Tryd.pinned (OpenSpec.ofChange Rows.saltSealsSpec) :=
  OpenClaim.holds_of_wide 3 Tryd.f3 rfl rfl rfl rfl rfl rfl rfl ⟨rfl, rfl, rfl, rfl, rfl⟩ rfl rfl rfl rfl rfl (by kernel_rfl) Tryd.func3 (by kernel_rfl)
    (of_decide_eq_true (by kernel_rfl)) (by unfold Func.isWrapper; first | (rw [if_pos (by decide +kernel)]; kernel_rfl) | (rw [if_neg (by decide +kernel)]; exact ⟨rfl, rfl⟩))
    (fun os started H enc _ => lifted os started H enc)

/-- The statement. -/
theorem proved : Rows.SaltSealsCardSaid :=
  Claim7.holds_tied_plain_at .later [] [.data] true (true, "904390118661b52f9c5db9943ea23b54aff1d49e707f25b4dfa943070c12cb0f") false over (fun _ h => by cases h) (by kernel_rfl) (fun _ h => by cases h) saltSeals_row_tie rfl ⟨rfl, rfl⟩ (by kernel_rfl) rfl
    (fun f fn hf hfn => by
      obtain rfl : f = 3 := Option.some.inj ((show Tryd.prog.funcNamed Rows.saltSealsRow.func = some 3 by kernel_rfl).symm.trans hf) |>.symm
      obtain rfl : fn = Tryd.f3 := (Option.some.inj (Tryd.func3.symm.trans hfn)).symm
      exact ⟨by kernel_rfl, fun j t ht => by
        rw [Tryd.params3] at ht
        have hm : t ∈ [9, 9] := by simpa using Array.mem_of_getElem? ht
        have hall : ([9, 9].all fun u => !Tryd.prog.wantsStandIn u) = true := by kernel_rfl
        exact (show Tryd.prog.wantsStandIn t = false by simpa using List.all_eq_true.1 hall t hm)⟩)
    (by kernel_rfl)
#print axioms proved
end Go.Proofs.YtknefflbkaaooaaDoor.saltSeals
