/- Contract: Of, of the plain text: a mark's spans, and the places of its sites. -/
import Derived.Test.YtengmiolcfgdiaaDoorMsite
set_option linter.unusedVariables false
namespace Go.Proofs.YtengmiolcfgdiaaDoor.Rig
open Go.RowKit Go.Lib Go.Proofs.YtengmiolcfgdiaaDoor.Rt

def ofS (S : List Sp) (mk : Int) : List Sp := S.filter fun s => decide (s.m = mk)
def ofT (T : List St) (mk : Int) : List Int := (T.filter fun s => decide (s.m = mk)).map (·.a)
theorem ofS_take {S : List Sp} {k : Nat} (mk : Int) (h : k < S.length) : ofS (S.take (k + 1)) mk = ofS (S.take k) mk ++ (if (sp S k).m = mk then [sp S k] else []) := by
  unfold ofS
  rw [List.take_succ_eq_append_getElem h, List.filter_append, sp_get h]
  by_cases e : S[k].m = mk
  · rw [if_pos e]; simp [e]
  · rw [if_neg e]; simp [e]
theorem ofT_take {T : List St} {k : Nat} (mk : Int) (h : k < T.length) : ofT (T.take (k + 1)) mk = ofT (T.take k) mk ++ (if (st T k).m = mk then [(st T k).a] else []) := by
  unfold ofT
  rw [List.take_succ_eq_append_getElem h, List.filter_append, List.map_append, st_get h]
  by_cases e : T[k].m = mk
  · rw [if_pos e]; simp [e]
  · rw [if_neg e]; simp [e]
theorem ofS_len (S : List Sp) (mk : Int) (k : Nat) : (ofS (S.take k) mk).length ≤ k := by
  unfold ofS
  have h1 := List.length_filter_le (fun s : Sp => decide (s.m = mk)) (S.take k)
  have h2 := List.length_take_le k S
  omega
theorem ofT_len (T : List St) (mk : Int) (k : Nat) : (ofT (T.take k) mk).length ≤ k := by
  unfold ofT
  rw [List.length_map]
  have h1 := List.length_filter_le (fun s : St => decide (s.m = mk)) (T.take k)
  have h2 := List.length_take_le k T
  omega
theorem OwnF.ints {base : Nat} {w : World} {v : Value} {zs : List Int} (h : OwnF 3 base w v zs.length 1 zs) : Ints w v zs := OwnI.ints (base := base) h

/-- It hands spans and places back. -/
def GivesOf (w : World) (S : List Sp) (T : List Int) (e : Ending) (w' : World) : Prop := ∃ v1 v2, e = .returned (.tuple #[v1, v2]) ∧ Spans w' v1 S ∧ Ints w' v2 T ∧ Below w.heap.size w w'

end Go.Proofs.YtengmiolcfgdiaaDoor.Rig
