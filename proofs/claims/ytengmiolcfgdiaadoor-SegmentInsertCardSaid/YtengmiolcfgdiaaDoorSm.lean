/- Segments: mathematics of what is taken away and put back. -/
import Derived.Test.YtengmiolcfgdiaaDoorSj
set_option linter.unusedVariables false
set_option maxRecDepth 100000
namespace Go.Proofs.YtengmiolcfgdiaaDoor.Seg
open Go.RowKit Go.Lib Go.Proofs.YtengmiolcfgdiaaDoor.Rt Go.Proofs.YtengmiolcfgdiaaDoor.Rig

theorem filt_len (f : St → Bool) : ∀ T : List St, (T.filter f).length + (T.filter fun x => !f x).length = T.length
  | [] => rfl
  | x :: T => by
    have ih := filt_len f T
    cases hf : f x
    · rw [List.filter_cons_of_neg (by simp [hf]), List.filter_cons_of_pos (by simp [hf]), List.length_cons, List.length_cons]; omega
    · rw [List.filter_cons_of_pos (by simp [hf]), List.filter_cons_of_neg (by simp [hf]), List.length_cons, List.length_cons]; omega
theorem pPutT_len5 (T : List St) (p k : Int) : (pPutT T p k).length ≤ T.length := by
  unfold pPutT sA sB
  rw [List.length_append, List.length_map, List.length_map]
  have := filt_len (fun x : St => decide (x.a ≤ p)) T
  omega
theorem hasB_nil {S : List Sp} {T : List St} {mk : Int} (h : hasB S T mk = false) : ofS S mk = [] ∧ ofT T mk = [] := by
  have := of_decide_eq_false h
  exact ⟨List.eq_nil_of_length_eq_zero (by omega), List.eq_nil_of_length_eq_zero (by omega)⟩
theorem hasB_drop (S : List Sp) (T : List St) (mk : Int) : hasB (dropS S mk) (dropT T mk) mk = false := by
  have h1 : ofS (dropS S mk) mk = [] := by
    unfold ofS dropS
    rw [List.filter_eq_nil_iff]
    intro x hx
    have := (List.mem_filter.1 hx).2
    simpa using this
  have h2 : ofT (dropT T mk) mk = [] := by
    unfold ofT dropT
    rw [List.map_eq_nil_iff, List.filter_eq_nil_iff]
    intro x hx
    have := (List.mem_filter.1 hx).2
    simpa using this
  unfold hasB
  rw [h1, h2]
  rfl
theorem cutS_m (p e : Int) (y : St) : (cutS p e y).m = y.m := by
  unfold cutS
  split
  · rfl
  · split <;> rfl
theorem taken_site {T : List St} {p e mk : Int} (hm : 0 < mk) (h : ofT T mk = []) : ofT (pTakeT T p e mk) mk = [p] := by
  obtain ⟨u1, u2⟩ := pTakeT_ok T p e mk
  have hn : ∀ y ∈ T, y.m ≠ mk := fun y hy e' => by
    have : y.a ∈ ofT T mk := by
      unfold ofT
      exact List.mem_map.2 ⟨y, List.mem_filter.2 ⟨hy, by simpa using e'⟩, rfl⟩
    rw [h] at this
    simp at this
  have hf : (pTakeT T p e mk).filter (fun s => decide (s.m = mk)) = [⟨mk, p⟩] := by
    refine up_uniq (List.Pairwise.filter _ u1) (List.pairwise_singleton _ _) (fun x => ?_)
    rw [List.mem_filter, u2, List.mem_singleton]
    constructor
    · rintro ⟨⟨y, hy, rfl⟩ | ⟨_, rfl⟩, hx⟩
      · exfalso
        have hx' : (cutS p e y).m = mk := by simpa using hx
        rw [cutS_m] at hx'
        exact hn y hy hx'
      · rfl
    · rintro rfl
      exact ⟨.inr ⟨hm, rfl⟩, by simp⟩
  unfold ofT
  rw [hf]
  rfl
theorem dropL_eq (L : Bytes) {p e : Nat} (h : p ≤ e) : Con.dropL L p e = L.take (Let.byt p L) ++ L.drop (Let.byt e L) := by
  have hm := Let.byt_mono h L
  unfold Con.dropL
  show (if Let.byt e L ≤ Let.byt p L then L else L.take (Let.byt p L) ++ L.drop (Let.byt e L)) = _
  by_cases hc : Let.byt e L ≤ Let.byt p L
  · rw [if_pos hc, show Let.byt e L = Let.byt p L by omega, List.take_append_drop]
  · rw [if_neg hc]
theorem cut_eq (L : Bytes) (p e : Nat) : Let.cut L p e = (L.take (Let.byt e L)).drop (Let.byt p L) := rfl
theorem dropL_right {L : Bytes} {p e : Nat} (h : p ≤ e) (hr : Let.right L = true) : Let.right (Con.dropL L p e) = true := by
  rw [dropL_eq L h]
  exact (Let.right_app _ _ (Let.right_take p L hr).1).2 (Let.right_drop e L hr)
theorem dropL_cnt {L : Bytes} {p e : Nat} (h : p ≤ e) (he : e ≤ Let.cnt L) (hr : Let.right L = true) : Let.cnt (Con.dropL L p e) = Let.cnt L - (e - p) := by
  have h1 := Let.right_take p L hr
  rw [dropL_eq L h, Let.cnt_app h1.1, h1.2]
  have h2 : Let.cnt (L.drop (Let.byt e L)) = Let.cnt L - e := by
    show (Let.lets (L.drop (Let.byt e L))).length = (Let.lets L).length - e
    rw [Let.lets_drop, List.length_drop]
  omega
theorem dropL_cut_len (L : Bytes) {p e : Nat} (h : p ≤ e) : (Con.dropL L p e).length + (Let.cut L p e).length = L.length := by
  have hm := Let.byt_mono h L
  have h1 := Let.byt_le e L
  rw [dropL_eq L h, cut_eq, List.length_append, List.length_take, List.length_drop, List.length_drop, List.length_take]
  omega
theorem put_cut {L : Bytes} {p e : Nat} (h : p ≤ e) (he : e ≤ Let.cnt L) (hr : Let.right L = true) : Let.put (Con.dropL L p e) (p : Nat) (Let.cut L p e) = L := by
  have hm := Let.byt_mono h L
  have h1 := Let.byt_le e L
  have h2 := Let.right_take p L hr
  have hx : (L.take (Let.byt p L)).length = Let.byt p L := by rw [List.length_take]; omega
  have hb : Let.byt p (L.take (Let.byt p L) ++ L.drop (Let.byt e L)) = Let.byt p L := by
    rw [Let.byt_app_left _ _ h2.1 p (by rw [h2.2]; omega), Let.byt_all (by rw [h2.2]; omega), hx]
  rw [dropL_eq L h, cut_eq]
  unfold Let.put
  show (L.take (Let.byt p L) ++ L.drop (Let.byt e L)).take (Let.byt p (L.take (Let.byt p L) ++ L.drop (Let.byt e L))) ++ (L.take (Let.byt e L)).drop (Let.byt p L) ++ (L.take (Let.byt p L) ++ L.drop (Let.byt e L)).drop (Let.byt p (L.take (Let.byt p L) ++ L.drop (Let.byt e L))) = L
  rw [hb, List.take_append_of_le_length (by omega), List.drop_append_of_le_length (by omega), List.take_take, List.drop_take]
  have e1 : min (Let.byt p L) (Let.byt p L) = Let.byt p L := by omega
  rw [e1, show L.take (Let.byt p L) ++ (L.drop (Let.byt p L)).take (Let.byt e L - Let.byt p L) = L.take (Let.byt e L) by
    rw [show Let.byt e L = Let.byt p L + (Let.byt e L - Let.byt p L) by omega, List.take_add]
    congr 2
    omega]
  rw [List.drop_of_length_le (by rw [List.length_take]; omega), List.nil_append, List.take_append_drop]
end Go.Proofs.YtengmiolcfgdiaaDoor.Seg
