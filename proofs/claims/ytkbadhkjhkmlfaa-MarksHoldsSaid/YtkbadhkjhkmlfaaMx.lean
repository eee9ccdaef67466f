/- Literals of one span, of one site, in memory. -/
import Derived.Test.YtkbadhkjhkmlfaaMr
set_option linter.unusedVariables false
namespace Go.Proofs.Ytkbadhkjhkmlfaa.Rig
open Go.RowKit Go.Lib Go.Proofs.Ytkbadhkjhkmlfaa.Rt

theorem lit_span {w : World} {b : Nat} {m f t : Int} (h : w.heap[b]? = some (.cells #[.int .i64 m, .int .i64 f, .int .i64 t] 26 (0, 0))) (g : Sp.good ⟨m, f, t⟩) : Spans w (.slice (some ⟨b, 0, none⟩) 1 1) [⟨m, f, t⟩] := by
  refine spans_mk rfl (Nat.le_refl _) (by unfold maxLen; omega) (fun i hi => ?_) (fun _ => (Array.getElem?_eq_some_iff.1 h).1)
  obtain rfl : i = 0 := by omega
  refine ⟨g, ?_, ?_, ?_⟩ <;> (rw [cell_of_row _ _ _ _ _ _ h]; rfl)
theorem lit_site {w : World} {b : Nat} {m a : Int} (h : w.heap[b]? = some (.cells #[.int .i64 m, .int .i64 a] 41 (0, 0))) (g : St.good ⟨m, a⟩) : Sites w (.slice (some ⟨b, 0, none⟩) 1 1) [⟨m, a⟩] := by
  refine sites_mk rfl (Nat.le_refl _) (by unfold maxLen; omega) (fun i hi => ?_) (fun _ => (Array.getElem?_eq_some_iff.1 h).1)
  obtain rfl : i = 0 := by omega
  refine ⟨g, ?_, ?_⟩ <;> (rw [cell_of_row _ _ _ _ _ _ h]; rfl)
theorem askB_of {S : List Sp} {T : List St} {n a b : Int} (h : askB S T n a b = true) : 0 ≤ n ∧ n ≤ 2000 ∧ 0 ≤ a ∧ a ≤ b ∧ b ≤ n ∧ S.length ≤ 2000 ∧ T.length ≤ 300 ∧ RS 0 0 n S ∧ RT n T := by
  unfold askB okB at h
  rw [Bool.and_eq_true, decide_eq_true_iff] at h
  obtain ⟨⟨h1, h2, h3, h4, h5, h6, h7⟩, h8⟩ := h
  obtain ⟨h9, h10⟩ := mright_iff.1 h8
  exact ⟨h1, h2, h3, h4, h5, h6, h7, h9, h10⟩
theorem RS.at_ {S : List Sp} {n : Int} (h : RS 0 0 n S) : ∀ j, j < S.length → 0 ≤ (sp S j).f ∧ (sp S j).f ≤ (sp S j).t ∧ (sp S j).t ≤ n := fun j hj => by
  obtain ⟨_, b, c, d⟩ := h.ord.mem (sp S j) (by rw [sp_get hj]; exact List.getElem_mem hj)
  exact ⟨b, by omega, d⟩
theorem RT.at_ {T : List St} {n : Int} (h : RT n T) : ∀ j, j < T.length → 0 ≤ (st T j).a ∧ (st T j).a ≤ n := fun j hj => by
  obtain ⟨_, b, c⟩ := h.2 (st T j) (mem_st.2 ⟨j, hj, rfl⟩)
  exact ⟨b, c⟩
end Go.Proofs.Ytkbadhkjhkmlfaa.Rig
