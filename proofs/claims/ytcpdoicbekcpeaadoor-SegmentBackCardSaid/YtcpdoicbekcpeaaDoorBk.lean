/- Segments: what SegmentBack keeps: how many letters bear the mark, whatever is put behind. -/
import Derived.Test.YtcpdoicbekcpeaaDoorUn
import Derived.Test.YtcpdoicbekcpeaaDoorQt
set_option linter.unusedVariables false
set_option maxRecDepth 100000
namespace Go.Proofs.YtcpdoicbekcpeaaDoor.Seg
open Go.RowKit Go.Lib Go.Proofs.YtcpdoicbekcpeaaDoor.Rt Go.Proofs.YtcpdoicbekcpeaaDoor.Rig

theorem put_right {L M : Bytes} (p : Nat) (h : Let.right L = true) (hM : Let.right M = true) : Let.right (Let.put L p M) = true ∧ Let.cnt (Let.put L p M) = Let.cnt L + Let.cnt M := by
  have h1 := Let.right_take p L h
  have h2 := Let.right_drop p L h
  have e0 : Let.put L p M = L.take (Let.byt p L) ++ (M ++ L.drop (Let.byt p L)) := by
    show L.take (Let.byt p L) ++ M ++ L.drop (Let.byt p L) = _
    rw [List.append_assoc]
  have h3 : Let.right (M ++ L.drop (Let.byt p L)) = true := (Let.right_app _ _ hM).2 h2
  have h4 := Let.cnt_app (y := M ++ L.drop (Let.byt p L)) h1.1
  have h5 := Let.cnt_app (y := L.drop (Let.byt p L)) hM
  have h6 := Let.cnt_app (y := L.drop (Let.byt p L)) h1.1
  rw [List.take_append_drop] at h6
  rw [e0]
  exact ⟨(Let.right_app _ _ h1.1).2 h3, by omega⟩
/-- What was put in is taken out. -/
theorem drop_put {L M : Bytes} {p : Nat} (h : Let.right L = true) (hM : Let.right M = true) (hp : p ≤ Let.cnt L) : Con.dropL (Let.put L p M) (p : Nat) (p + Let.cnt M : Nat) = L := by
  have h1 := Let.right_take p L h
  have e0 : Let.put L p M = L.take (Let.byt p L) ++ (M ++ L.drop (Let.byt p L)) := by
    show L.take (Let.byt p L) ++ M ++ L.drop (Let.byt p L) = _
    rw [List.append_assoc]
  have ea : (L.take (Let.byt p L)).length = Let.byt p L := by rw [List.length_take]; have := Let.byt_le p L; omega
  have n1 : Let.byt p (Let.put L p M) = Let.byt p L := by
    have := Let.byt_app_right (M ++ L.drop (Let.byt p L)) _ h1.1 0
    rw [h1.2, Nat.min_eq_left hp, ea, ← e0] at this
    rw [Nat.add_zero, Let.byt_zero, Nat.add_zero] at this
    exact this
  have n2 : Let.byt (p + Let.cnt M) (Let.put L p M) = Let.byt p L + M.length := by
    have := Let.byt_app_right (M ++ L.drop (Let.byt p L)) _ h1.1 (Let.cnt M)
    rw [h1.2, Nat.min_eq_left hp, ea, ← e0, Let.byt_app_left _ _ hM _ (Nat.le_refl _), Let.byt_cnt] at this
    exact this
  rw [dropL_eq _ (show p ≤ p + Let.cnt M by omega), n1, n2, e0]
  rw [List.take_append_of_le_length (by rw [ea]; exact Nat.le_refl _), List.take_of_length_le (by rw [ea]; exact Nat.le_refl _)]
  rw [List.drop_append, ea, List.drop_of_length_le (by rw [ea]; omega), List.nil_append, show Let.byt p L + M.length - Let.byt p L = M.length by omega, List.drop_left, List.take_append_drop]
/-- What the loop keeps. -/
structure BK (dm n0 : Int) (L : Bytes) (S : List Sp) (T : List St) : Prop where
  rs : RS 0 0 (Let.cnt L) S
  rt : RT (Let.cnt L) T
  rr : Let.right L = true
  tt : Seg.tot (ofS S dm) = n0
theorem BK.put {dm n0 m : Int} {L M : Bytes} {S : List Sp} {T : List St} {p : Nat} (h : BK dm n0 L S T) (hM : Let.right M = true) (hp : p ≤ Let.cnt L) (hm : m ≠ dm) : BK dm n0 (Let.put L p M) (pPut S p (Let.cnt M) m) (pPutT T p (Let.cnt M)) := by
  have h1 := put_right p h.rr hM
  refine ⟨?_, ?_, h1.1, ?_⟩
  · rw [h1.2]
    have := (pPut_ok (mk := m) (p := p) (k := Let.cnt M) h.rs (by omega) (by omega) (by omega)).1
    rwa [← Int.natCast_add] at this
  · rw [h1.2]
    have := pPutT_right h.rt (p := p) (k := Let.cnt M) (by omega) (by omega)
    rwa [← Int.natCast_add] at this
  · rw [tot_put h.rs (by omega), if_neg (fun q => hm q.1), Int.add_zero]
    exact h.tt
theorem BK.first {dm : Int} {L M : Bytes} {S : List Sp} {T : List St} {p : Nat} (hRS : RS 0 0 (Let.cnt L) S) (hRT : RT (Let.cnt L) T) (hr : Let.right L = true) (hM : Let.right M = true) (hp : p ≤ Let.cnt L) (hd : 0 < dm) (hn : ofS S dm = []) : BK dm (Let.cnt M) (Let.put L p M) (pPut S p (Let.cnt M) dm) (pPutT T p (Let.cnt M)) := by
  have h1 := put_right p hr hM
  refine ⟨?_, ?_, h1.1, ?_⟩
  · rw [h1.2]
    have := (pPut_ok (mk := dm) (p := p) (k := Let.cnt M) hRS (by omega) (by omega) (by omega)).1
    rwa [← Int.natCast_add] at this
  · rw [h1.2]
    have := pPutT_right hRT (p := p) (k := Let.cnt M) (by omega) (by omega)
    rwa [← Int.natCast_add] at this
  · rw [tot_put hRS (by omega), hn, if_pos ⟨rfl, hd⟩]
    show (0 : Int) + _ = _
    omega
/-- The first one undone at once. -/
theorem first_back {dm : Int} {L M : Bytes} {S : List Sp} {p : Nat} (hr : Let.right L = true) (hM : Let.right M = true) (hp : p ≤ Let.cnt L) (hd : 0 < dm) (hn : ofS S dm = []) : unL (Let.put L p M) (ofS (pPut S p (Let.cnt M) dm) dm) = L := by
  rw [put_own (n := 0) (p := (p : Int)) (k := (Let.cnt M : Int)) hn hd]
  by_cases q : 0 < (Let.cnt M : Int)
  · rw [if_pos q]
    show Con.dropL (Let.put L p M) (p : Int) ((p : Int) + Let.cnt M) = L
    have := drop_put hr hM hp
    rwa [Int.natCast_add] at this
  · rw [if_neg q]
    have h0 : M.length = 0 := by rw [← Let.byt_cnt M, show Let.cnt M = 0 by omega]; rfl
    have h1 : M = [] := List.eq_nil_of_length_eq_zero h0
    subst h1
    show L.take (Let.byt p L) ++ [] ++ L.drop (Let.byt p L) = L
    rw [List.append_nil, List.take_append_drop]
/-- What is left of the letters. -/
theorem BK.undone {dm n0 : Int} {L : Bytes} {S : List Sp} {T : List St} (h : BK dm n0 L S T) : (Let.cnt (unL L (ofS S dm)) : Int) = Let.cnt L - n0 := by
  have ho : Ord 0 (Let.cnt L) (ofS S dm) := ofS_ord h.rs.ord rfl
  have := (unL_ok ho (by omega) (by omega) h.rr).2.1
  rw [h.tt] at this
  exact this
end Go.Proofs.YtcpdoicbekcpeaaDoor.Seg
