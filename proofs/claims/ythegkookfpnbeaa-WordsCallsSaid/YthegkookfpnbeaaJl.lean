/- Words: the program's reader: a call. -/
import Derived.Test.YthegkookfpnbeaaJk
set_option linter.unusedVariables false
set_option linter.unusedSimpArgs false
set_option maxRecDepth 100000
namespace Go.Proofs.Ythegkookfpnbeaa.Wds
open Go.RowKit Go.Lib Go.Proofs.Ythegkookfpnbeaa.Bx Go.Proofs.Ythegkookfpnbeaa.Frm

/-- What is read behind the number of a call. -/
def tailR (k : Nat) (r : Rd) : Pl × Rd :=
  let q4 := numsR (countN k) r
  let q5 := skipT ((k : Int) = 1 ∨ (k : Int) = 4) q4.2
  let q6 := skipT ((k : Int) = 1) q5.2
  let q7 := skipF ((k : Int) = 14) q6.2
  let q8 := skipF ((k : Int) = 14) q7.2
  (⟨k, [], 0, q4.1 ++ List.replicate (6 - countN k) 0, q5.1, q6.1, q7.1, q8.1⟩, q8.2)
def tailW (k : Nat) (r : Rd) : Rd := if k = 0 ∨ 15 < k then ⟨r.s, true⟩ else (tailR k r).2
theorem pask_rd {B : Nat} {w : World} (k : Nat) (hk : k ≤ 255) (r : Rd) (hb : r.bad = false) (hl : r.s.length ≤ 9223372036854775807) (h : At1 w B r.s) : Calls Try.prog 61 #[.pointer (some ⟨B, 0, none⟩), .int .u8 (k : Nat)] w (Got w B (askV (tailR k r).1) (tailW k r)) := by
  unfold tailW
  by_cases ho : k = 0 ∨ 15 < k
  · rw [if_pos ho]
    exact prd_none k hk ho _ _ rfl
  · rw [if_neg ho]
    match k, ho with
    | 0, h => exact absurd (.inl rfl) h
    | 1, _ => exact prd1 r _ _ _ _ rfl rfl hb hl h
    | 2, _ => exact prd2 r    hb hl h
    | 3, _ => exact prd3 r _ _ rfl hb hl h
    | 4, _ => exact prd4 r _ _ _ _ _ _ _ _ rfl rfl rfl rfl hb hl h
    | 5, _ => exact prd5 r _ _ _ _ _ _ _ _ rfl rfl rfl rfl hb hl h
    | 6, _ => exact prd6 r _ _ _ _ _ _ _ _ _ _ rfl rfl rfl rfl rfl hb hl h
    | 7, _ => exact prd7 r _ _ _ _ _ _ _ _ _ _ _ _ rfl rfl rfl rfl rfl rfl hb hl h
    | 8, _ => exact prd8 r _ _ rfl hb hl h
    | 9, _ => exact prd9 r _ _ rfl hb hl h
    | 10, _ => exact prd10 r _ _ rfl hb hl h
    | 11, _ => exact prd11 r _ _ _ _ _ _ rfl rfl rfl hb hl h
    | 12, _ => exact prd12 r _ _ _ _ rfl rfl hb hl h
    | 13, _ => exact prd13 r _ _ _ _ _ _ rfl rfl rfl hb hl h
    | 14, _ => exact prd14 r _ _ _ _ _ _ _ _ rfl rfl rfl rfl hb hl h
    | 15, _ => exact prd15 r _ _ _ _ rfl rfl hb hl h
    | n + 16, h => exact absurd (.inr (by omega)) h
end Go.Proofs.Ythegkookfpnbeaa.Wds
