/- Segments: SegmentBack: the first insert, each later one, what is undone: with the program. -/
import Derived.Test.YtcpdoicbekcpeaaDoorBk
import Derived.Test.YtcpdoicbekcpeaaDoorUp
import Derived.Test.YtcpdoicbekcpeaaDoorQs
set_option linter.unusedVariables false
set_option maxRecDepth 100000
namespace Go.Proofs.YtcpdoicbekcpeaaDoor.Seg
open Go.RowKit Go.Lib Go.Proofs.YtcpdoicbekcpeaaDoor.Rt Go.Proofs.YtcpdoicbekcpeaaDoor.Rig

theorem dropS_lenw5 (S : List Sp) (mk : Int) : (dropS S mk).length ≤ S.length := List.length_filter_le _ _
theorem dropT_lenw5 (T : List St) (mk : Int) : (dropT T mk).length ≤ T.length := List.length_filter_le _ _
theorem unT_len5 (T : List St) : ∀ X : List Sp, (unT T X).length ≤ T.length
  | [] => Nat.le_refl _
  | x :: X => Nat.le_trans (pTakeT_len0 (unT T X) x.f x.t) (unT_len5 T X)
/-- The first insert: what it gives, what is undone of it. -/
theorem back_first {i l : Int} {L M : Bytes} {S : List Sp} {T : List St} (da dm : Int) (hL : L.length ≤ 1500) (hM : M.length ≤ 1500) (hT : T.length ≤ 300) (hRS : RS 0 0 (Let.cnt L) S) (hRT : RT (Let.cnt L) T) (hr : Let.right L = true) (hrM : Let.right M = true) (ga : i64 da) (gm : i64 dm) (hd : 0 < dm) (hn : hasB S T dm = false) :
    ∃ (L2 : Bytes) (S2 : List Sp) (T2 : List St), (∀ w v u, Sg w v i l L S T → IsRope w M u → Calls Tryd.prog 12 #[v, .int .i64 da, u, .int .i64 dm, .int .i64 1073741824] w (GiveIns w true i l L2 S2 T2)) ∧ BK dm (Let.cnt M) L2 S2 T2 ∧ L2.length ≤ 3000 ∧ T2.length ≤ 300 ∧ unL L2 (ofS S2 dm) = L := by
  obtain ⟨p, hp, hpc⟩ := place_nat (Let.cnt L) da
  have h4 := pPutT_len5 T p (Let.cnt M)
  exact ⟨_, _, _, fun w v u hv hu => insert_yes p da dm 1073741824 w hv hu hRS hRT hp ga.1 ga.2 gm (by omega) (by omega) (by omega) (by omega) (by omega) (decide_eq_true (by omega)), BK.first hRS hRT hr hrM hpc hd (hasB_nil hn).1, by rw [Con.put_len]; omega, by omega, first_back hr hrM hpc hd (hasB_nil hn).1⟩
/-- A later one. -/
theorem back_next {i l dm n0 : Int} {L M : Bytes} {S : List Sp} {T : List St} (da m : Int) (h : BK dm n0 L S T) (hL : L.length ≤ 6000) (hM : M.length ≤ 100) (hT : T.length ≤ 300) (hrM : Let.right M = true) (ga : i64 da) (gm : i64 m) (hd : m ≠ dm) :
    ∃ (L2 : Bytes) (S2 : List Sp) (T2 : List St), (∀ w v u, Sg w v i l L S T → IsRope w M u → Calls Tryd.prog 12 #[v, .int .i64 da, u, .int .i64 m, .int .i64 1073741824] w (GiveIns w true i l L2 S2 T2)) ∧ BK dm n0 L2 S2 T2 ∧ L2.length ≤ L.length + 100 ∧ T2.length ≤ 300 := by
  obtain ⟨p, hp, hpc⟩ := place_nat (Let.cnt L) da
  have h4 := pPutT_len5 T p (Let.cnt M)
  exact ⟨_, _, _, fun w v u hv hu => insert_yes p da m 1073741824 w hv hu h.rs h.rt hp ga.1 ga.2 gm (by omega) (by omega) (by omega) (by omega) (by omega) (decide_eq_true (by omega)), BK.put h hrM hpc hd, by rw [Con.put_len]; omega, by omega⟩
/-- What is undone. -/
theorem back_undone {i l dm n0 : Int} {L : Bytes} {S : List Sp} {T : List St} (h : BK dm n0 L S T) (hL : L.length ≤ 6100) (hT : T.length ≤ 300) (gm : i64 dm) :
    ∃ (S3 : List Sp) (T3 : List St), (∀ w v, Sg w v i l L S T → Calls Tryd.prog 14 #[v, .int .i64 dm] w (GiveSg w i l (unL L (ofS S dm)) S3 T3)) ∧ hasB S3 T3 dm = false ∧ (unL L (ofS S dm)).length ≤ 6100 ∧ S3.length ≤ 10000 ∧ T3.length ≤ 10000 ∧ (Let.cnt (unL L (ofS S dm)) : Int) = Let.cnt L - n0 := by
  have hcl := Let.cnt_len L
  have ho : Ord 0 (Let.cnt L) (ofS S dm) := ofS_ord h.rs.ord rfl
  have h1 := unS_ok ho (by omega) (by omega) h.rs
  have h3 := (unL_ok ho (by omega) (by omega) h.rr).2.2
  have h4 := Ord.tot ho (by omega)
  have h5 := RS_len h1 (by omega)
  have h6 := unT_len5 T (ofS S dm)
  have h7 := dropS_lenw5 (unS S (ofS S dm)) dm
  have h8 := dropT_lenw5 (unT T (ofS S dm)) dm
  exact ⟨_, _, fun w v hv => unput_any dm w hv h.rs h.rt gm (by omega) (by omega), hasB_drop _ _ _, by omega, by omega, by omega, h.undone⟩
end Go.Proofs.YtcpdoicbekcpeaaDoor.Seg
