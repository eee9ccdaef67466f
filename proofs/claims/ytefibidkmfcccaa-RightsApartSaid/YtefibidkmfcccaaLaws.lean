/- What the laws of grants have in common. -/
import Derived.Test.YtefibidkmfcccaaRgrant
import Derived.Test.YtefibidkmfcccaaMay
import Derived.Test.YtefibidkmfcccaaSame
set_option linter.unusedVariables false
namespace Go.Proofs.Ytefibidkmfcccaa.Rig
open Go.RowKit Go.Lib Go.Proofs.Ytefibidkmfcccaa.Rt

theorem Labs.is_slice {w : World} {v : Value} {L : List Lb} (h : Labs w v L) : ∃ a c, v = .slice a L.length c := by
  obtain ⟨a, c, rfl, _⟩ := h
  exact ⟨a, c, rfl⟩
def twoG : List Lb := grantL two 0 2 false true
theorem twoG_may : mayB twoG 2 1 false = true := by decide
theorem two_right : rightP two 8 := by decide
theorem two_grant (w : World) (v : Value) (h : Labs w v two) : Calls Try.prog 16 #[v, .int .i64 0, .int .i64 0, .int .i64 2, .bool false, .bool true] w (Grants w twoG) :=
  grant_ok (k := 0) (u := 2) (wr := false) (on := true) w h two_right (by decide) (by decide) (by decide)
theorem two_may (w : World) (v : Value) (h : Labs w v twoG) : Calls Try.prog 13 #[v, .int .i64 2, .int .i64 1, .bool false] w fun e w' => e = .returned (.bool true) ∧ Below w.heap.size w w' := by
  have := may_any 2 1 false w h ⟨by decide, by decide⟩ ⟨by decide, by decide⟩
  rw [twoG_may] at this
  exact this

/-- The labels behind a deed that is done. -/
def doneL (L : List Lb) (D : Dd) (on : Bool) : List Lb := grantL L D.label.toNat D.user D.write on
theorem why_zero {L : List Lb} {b l u : Int} (h : whyG L b l u = 0) : 0 ≤ l ∧ l < (L.length : Int) ∧ 0 ≤ u ∧ u < 8 ∧ b = (lb L l.toNat).o := by
  unfold whyG at h
  by_cases h1 : 0 ≤ l ∧ l < (L.length : Int) ∧ 0 ≤ u ∧ u < 8
  · rw [if_pos h1] at h
    by_cases h2 : b = (lb L l.toNat).o
    · exact ⟨h1.1, h1.2.1, h1.2.2.1, h1.2.2.2, h2⟩
    · rw [if_neg h2] at h; omega
  · rw [if_neg h1] at h; omega
theorem why_range (L : List Lb) (b l u : Int) : whyG L b l u = 0 ∨ whyG L b l u = 3 ∨ whyG L b l u = 5 := by
  unfold whyG
  split
  · split
    · exact .inl rfl
    · exact .inr (.inl rfl)
  · exact .inr (.inr rfl)
theorem grant_done {v : Value} {L : List Lb} {b l u : Int} {wr on : Bool} (w : World) (h : Labs w v L) (hr : rightP L 8) (hz : whyG L b l u = 0) :
    Calls Try.prog 16 #[v, .int .i64 b, .int .i64 l, .int .i64 u, .bool wr, .bool on] w (Grants w (grantL L l.toNat u wr on)) := by
  obtain ⟨h1, h2, h3, h4, rfl⟩ := why_zero hz
  obtain ⟨k, rfl⟩ : ∃ k : Nat, l = (k : Int) := ⟨l.toNat, by omega⟩
  exact grant_ok w h hr (by rw [Int.toNat_natCast]; omega) h3 h4
theorem rgrant_done {v : Value} {L : List Lb} {b l u : Int} {wr on : Bool} (w : World) (h : Labs w v L) (hr : rightP L 8) (hz : whyG L b l u = 0) :
    Calls Try.prog 18 #[v, .int .i64 b, .int .i64 l, .int .i64 u, .bool wr, .bool on] w (Grants w (grantL L l.toNat u wr on)) := by
  obtain ⟨h1, h2, h3, h4, rfl⟩ := why_zero hz
  obtain ⟨k, rfl⟩ : ∃ k : Nat, l = (k : Int) := ⟨l.toNat, by omega⟩
  exact rgrant_ok w h hr (by rw [Int.toNat_natCast]; omega) h3 h4
theorem rcopy_right {v : Value} {L : List Lb} (w : World) (h : Labs w v L) (hr : rightP L 8) : Calls Try.prog 17 #[v] w (Gives w L) :=
  (copy_any w h hr.1 hr.2.1 (fun m hm => by have := (grant_len hr m hm).1; omega)).mono fun e w' ⟨v', h1, h2, h3⟩ => ⟨v', h1, h2.labs h.good, h3⟩
end Go.Proofs.Ytefibidkmfcccaa.Rig
