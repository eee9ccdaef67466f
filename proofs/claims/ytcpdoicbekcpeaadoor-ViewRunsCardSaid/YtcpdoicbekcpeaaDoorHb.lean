/- Sheets: Frozen of the program; Place of the plain text. -/
import Derived.Test.YtcpdoicbekcpeaaDoorHa
import Derived.WalkKit
set_option linter.unusedVariables false
set_option linter.unusedSimpArgs false
set_option maxRecDepth 100000
namespace Go.Proofs.YtcpdoicbekcpeaaDoor.She
open Go.RowKit Go.Lib Go.Proofs.YtcpdoicbekcpeaaDoor.Rk Go.Proofs.YtcpdoicbekcpeaaDoor.Rt Go.Proofs.YtcpdoicbekcpeaaDoor.Rig Go.Proofs.YtcpdoicbekcpeaaDoor.Seg

/-- Where an Id stands; -1: nowhere. -/
def placeN (G : List G5) (id : Int) : Option Nat := G.findIdx? (fun g => g.i == id)
def placeI (G : List G5) (id : Int) : Int := match placeN G id with
  | some k => k
  | none => -1
theorem place_yes {G : List G5} {id : Int} {k : Nat} (hk : k < G.length) (h : ∀ j (hj : j < G.length), j < k → G[j].i ≠ id) (he : G[k].i = id) : placeN G id = some k := by
  unfold placeN
  rw [List.findIdx?_eq_some_iff_getElem]
  refine ⟨hk, by simp [he], fun j hj => ?_⟩
  simpa using h j (Nat.lt_trans hj hk) hj
theorem place_no {G : List G5} {id : Int} (h : ∀ j (hj : j < G.length), G[j].i ≠ id) : placeN G id = none := by
  unfold placeN
  rw [List.findIdx?_eq_none_iff]
  intro g hg
  obtain ⟨j, hj, rfl⟩ := List.getElem_of_mem hg
  simpa using h j hj
theorem placeI_yes {G : List G5} {id : Int} {k : Nat} (h : placeN G id = some k) : placeI G id = k := by unfold placeI; rw [h]
theorem placeI_no {G : List G5} {id : Int} (h : placeN G id = none) : placeI G id = -1 := by unfold placeI; rw [h]

set_option maxHeartbeats 2000000 in
theorem sfrozen_any {v : Value} {f : Bool} {G : List G5} (w : World) (h : Sh w v f G) : Calls Tryd.prog 24 #[v] w fun e w' => e = .returned (.bool f) ∧ Below w.heap.size w w' := by
  obtain ⟨a, c, rfl, _⟩ := h.open_
  have FB := (Below.refl w.heap.size w).alloc (Nat.le_refl _) (.cells #[.bool f, .slice a G.length c] 50)
  generalize G.length = n at *
  go_enter Tryd.func24, Tryd.ntmps24
  go_wp2_with fail
  go_ret
  exact ⟨rfl, FB⟩
set_option maxHeartbeats 4000000 in
theorem place_any {v : Value} {G : List G5} (id : Int) (w : World) (h : Pls w v G) : Calls Tryd.prog 34 #[v, .int .i64 id] w fun e w' => e = .returned (.int .i64 (placeI G id)) ∧ w' = w := by
  obtain ⟨a, cap, rfl⟩ := Rk.Rows.is_slice h
  obtain ⟨_, hcap, hmax⟩ := Rk.Rows.len h
  obtain ⟨n, hn⟩ : ∃ n, n = G.length := ⟨_, rfl⟩
  have HP := Lib.hid h
  rw [← hn] at hcap h ⊢
  unfold maxLen at hmax
  have HN := Lib.hid hn
  have HG : Hid (∀ j (hj : j < G.length), ∃ b off, a = some ⟨b, off, none⟩ ∧ w.cell? ⟨b, off + j * 5, none⟩ = some (.int .i64 G[j].i)) := fun j hj => by
    obtain ⟨b, off, sa, sc, ta, tc, e, _, _, c0, _⟩ := HP.out.get hj
    exact ⟨b, off, e, c0⟩
  clear h hn
  go_enter Tryd.func34, Tryd.ntmps34
  go_wp2_with fail
  go_loopw [5] (fun i wr => ∃ k : Nat, k ≤ n ∧ i = .int .i64 k ∧ Hid (∀ j (hj : j < G.length), j < k → G[j].i ≠ id) ∧ wr = w) (fun i _ => n - (RowKit.intOf i).toNat)
  case atStart => exact ⟨0, Nat.zero_le _, rfl, fun j hj h => absurd h (Nat.not_lt_zero _), rfl⟩
  case round =>
    obtain ⟨k, hk, rfl, HF, rfl⟩ := hrel
    by_cases hlt : k < n
    · have hkl : k < G.length := by rw [← HN.out]; exact hlt
      obtain ⟨b, off, rfl, c0⟩ := HG.out k hkl
      have HY : Hid (G[k].i = id → placeI G id = k) := fun e => placeI_yes (place_yes hkl HF.out e)
      have HZ : Hid (G[k].i ≠ id → ∀ j (hj : j < G.length), j < k + 1 → G[j].i ≠ id) := fun e j hj hjk => by
        by_cases q : j = k
        · subst q; exact e
        · exact HF.out j hj (by omega)
      have i0 : (0 : Int) ≤ (k : Int) := by omega
      have i1 : (k : Int) < (n : Int) := by omega
      generalize G[k].i = z at *
      by_cases hz : z = id
      · have e1 : (z == id) = true := by simp [hz]
        have EP := Lib.hid (HY.out hz)
        clear HY HZ hz HF HG HP
        go_wp2_with fail
        go_ret
        exact ⟨by rw [EP.out]; rfl, rfl⟩
      · have e1 : (z == id) = false := by simp [hz]
        have HF2 := Lib.hid (HZ.out hz)
        clear HY HZ hz HF HP
        go_wp2_with fail
        go_roundw
        case rel => exact ⟨k + 1, by omega, by go_num, HF2, trivial⟩
        case measure => simp [RowKit.intOf]; omega
    · obtain rfl : k = n := by omega
      have i1 : ¬ ((k : Int) < (k : Int)) := by omega
      have EP : Hid (placeI G id = -1) := placeI_no (place_no fun j hj => HF.out j hj (by rw [HN.out]; exact hj))
      clear HF HG HP
      go_wp2_with fail
      go_ret
      exact ⟨by rw [EP.out]; rfl, rfl⟩
end Go.Proofs.YtcpdoicbekcpeaaDoor.She
