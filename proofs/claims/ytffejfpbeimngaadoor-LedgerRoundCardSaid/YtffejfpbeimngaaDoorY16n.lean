/- Plate: the program's calls, as calls of a disk; awake. -/
import Derived.Test.YtffejfpbeimngaaDoorY16m
set_option linter.unusedVariables false
set_option linter.unusedSimpArgs false
set_option maxRecDepth 100000
namespace Go.Proofs.YtffejfpbeimngaaDoor.Plt
open Go.RowKit Go.Lib Go.Proofs.YtffejfpbeimngaaDoor.Bx

section
variable {base B : Nat} {w : World} {F : Nat → Prop} {D : DK}
theorem getX (i : Int) (h : Disk base w B F D) : Calls Tryd.prog 8 #[.pointer (some ⟨B, 0, none⟩), .int .i64 i] w fun e w' => e = .returned (.tuple #[.string (getS D i), .bool (getB D i)]) ∧ w = w' := by
  obtain ⟨G, v, u, L, h, _⟩ := h
  exact get_any i h
theorem sizeX (h : Disk base w B F D) : Calls Tryd.prog 23 #[.pointer (some ⟨B, 0, none⟩)] w fun e w' => e = .returned (.int .i64 (D.n : Nat)) ∧ w = w' := by
  obtain ⟨G, v, u, L, h, _⟩ := h
  exact size_any w (Dx.cells h).1
theorem onX (h : Disk base w B F D) : Calls Tryd.prog 18 #[.pointer (some ⟨B, 0, none⟩)] w fun e w' => e = .returned (.bool (!D.off)) ∧ w = w' := by
  obtain ⟨G, v, u, L, h, _⟩ := h
  exact on_any w (Dx.cells h).2.2.1
theorem looseX (h : Disk base w B F D) : Calls Tryd.prog 28 #[.pointer (some ⟨B, 0, none⟩)] w (Listed w (looseL D)) := by
  obtain ⟨G, v, u, L, h, _⟩ := h
  exact loose_any h
def Short (D : DK) (k : Nat) : Prop := ∀ j, j < D.n → (D.P j).l.length ≤ k
theorem layX (i : Int) (s : ByteArray) (hs : s.size ≤ 9223372036854775807) (h : Disk base w B F D) (hl : Short D 90000) : Calls Tryd.prog 7 #[.pointer (some ⟨B, 0, none⟩), .int .i64 i, .string s] w (Did base w B F (layD D i s) (.bool (layB D i s))) := by
  have hh := h
  obtain ⟨G, v, u, L, h, rfl⟩ := h
  cases hc : canLay D i s with
  | false =>
    have e1 : layD D i s = D := by unfold layD; rw [hc]; rfl
    have e2 : layB D i s = false := by unfold layB; rw [hc]; rfl
    rw [e1, e2]
    refine (lay_no i s hs h hc).mono ?_
    rintro e w' ⟨rfl, rfl⟩
    exact ⟨rfl, _, hh, Chg.refl _ _, fun g q => .inl q⟩
  | true =>
    by_cases h0 : D.left = 0
    · have e1 : layD D i s = ⟨D.n, D.P, true, D.left⟩ := by unfold layD; rw [hc, if_pos rfl, if_pos h0]
      have e2 : layB D i s = false := by unfold layB; rw [hc, decide_eq_true h0]; rfl
      rw [e1, e2]
      refine (lay_off i s h hc h0).mono ?_
      rintro e w' ⟨rfl, d, c⟩
      exact ⟨rfl, _, ⟨G, v, u, L, d, rfl⟩, c.mono Ft_one, fun g q => .inl q⟩
    · have e1 : layD D i s = ⟨D.n, laidP D i.toNat s, D.off, dec D.left⟩ := by unfold layD; rw [hc, if_pos rfl, if_neg h0]
      have e2 : layB D i s = true := by unfold layB; rw [hc, decide_eq_false h0]; rfl
      rw [e1, e2]
      refine (lay_yes i s h hc h0 hl).mono ?_
      rintro e w' ⟨rfl, v', u', L', d, c, n⟩
      exact ⟨rfl, _, ⟨G, v', u', L', d, rfl⟩, c, n⟩
theorem barX (h : Disk base w B F D) : Calls Tryd.prog 35 #[.pointer (some ⟨B, 0, none⟩)] w (Did base w B F (barD D) (.bool (barB D))) := by
  have hh := h
  obtain ⟨G, v, u, L, h, rfl⟩ := h
  cases hc : D.off with
  | true =>
    have e1 : barD D = D := by unfold barD; rw [hc]; rfl
    have e2 : barB D = false := by unfold barB; rw [hc]; rfl
    rw [e1, e2]
    refine (bar_no h hc).mono ?_
    rintro e w' ⟨rfl, rfl⟩
    exact ⟨rfl, _, hh, Chg.refl _ _, fun g q => .inl q⟩
  | false =>
    by_cases h0 : D.left = 0
    · have e1 : barD D = ⟨D.n, D.P, true, D.left⟩ := by unfold barD; rw [hc, if_pos h0]; rfl
      have e2 : barB D = false := by unfold barB; rw [hc, decide_eq_true h0]; rfl
      rw [e1, e2]
      refine (bar_off h hc h0).mono ?_
      rintro e w' ⟨rfl, d, c⟩
      exact ⟨rfl, _, ⟨G, v, u, L, d, rfl⟩, c.mono Ft_one, fun g q => .inl q⟩
    · have e1 : barD D = ⟨D.n, fun j => (D.P j).settle, D.off, dec D.left⟩ := by unfold barD; rw [hc, if_neg h0]; rfl
      have e2 : barB D = true := by unfold barB; rw [hc, decide_eq_false h0]; rfl
      rw [e1, e2]
      refine (bar_yes h hc h0).mono ?_
      rintro e w' ⟨rfl, v', u', L', d, c, n⟩
      exact ⟨rfl, _, ⟨G, v', u', L', d, rfl⟩, c, n⟩
theorem fallX {pv : Value} (pk : List Int) (hp : Rk.RowK 1 w pv (cellsZ pk)) (hz : ∀ x ∈ pk, -9223372036854775808 ≤ x ∧ x ≤ 9223372036854775807) (hpb : pk ≠ [] → ∀ b, pv.ownBlock = some b → ¬ F b) (h : Disk base w B F D) (hl : Short D 90000) : Calls Tryd.prog 16 #[.pointer (some ⟨B, 0, none⟩), pv] w (Did base w B F (fallD D pk) (.tuple #[])) := by
  obtain ⟨G, v, u, L, h, rfl⟩ := h
  refine (fall_any pk hp hz hpb h hl).mono ?_
  rintro e w' ⟨rfl, v', u', L', d, c, n⟩
  exact ⟨rfl, _, ⟨G, v', u', L', d, rfl⟩, c, n⟩
def MadeX (w : World) (n : Nat) : Ending → World → Prop := fun e w' => ∃ B F, e = .returned (.tuple #[.pointer (some ⟨B, 0, none⟩), .bool true]) ∧ Disk w.heap.size w' B F (newD n) ∧ Below w.heap.size w w'
theorem newX (n : Nat) (w : World) (h1 : 1 ≤ n) (h2 : n ≤ 16384) : Calls Tryd.prog 6 #[.int .i64 (n : Nat)] w (MadeX w n) := by
  refine (new_yes n w h1 h2).mono ?_
  rintro e w' ⟨B, G, rfl, d, b⟩
  exact ⟨B, _, rfl, ⟨G, _, _, _, d, rfl⟩, b⟩
end
/-- What a disk has that was made behind w0. -/
theorem Did.low {base B : Nat} {w w' w0 : World} {F : Nat → Prop} {D : DK} {A : Nat} (h : Disk base w B F D) (c : Chg F w w') (hb : Below A w0 w) (hA : A ≤ base) (hw : A ≤ w.heap.size) : Below A w0 w' :=
  hb.trans (c.below (fun g hg => Nat.le_trans hA (h.lt g hg).1) hw)
def sA : ByteArray := ⟨#[97]⟩
def sB : ByteArray := ⟨#[98]⟩
def sC : ByteArray := ⟨#[99]⟩
def aw1 : DK := layD (newD 9) 3 sA
def aw2 : DK := barD aw1
def aw3 : DK := layD aw2 3 sB
def aw4 : DK := layD aw3 3 sC
def aw5 : DK := fallD aw4 [1]
theorem aw_ok : layB (newD 9) 3 sA = true ∧ barB aw1 = true ∧ layB aw2 3 sB = true ∧ layB aw3 3 sC = true ∧ getB aw5 3 = true ∧ getS aw5 3 = fullB sB ∧ aw5.n = 9 := ⟨by kernel_rfl, by kernel_rfl, by kernel_rfl, by kernel_rfl, by kernel_rfl, by kernel_rfl, by kernel_rfl⟩
theorem aw_short : Short (newD 9) 90000 ∧ Short aw2 90000 ∧ Short aw3 90000 ∧ Short aw4 90000 := by
  have h : ∀ D : DK, D.n = 9 → ((List.range 9).all fun j => decide ((D.P j).l.length ≤ 90000)) = true → Short D 90000 := fun D e h j hj => by
    rw [List.all_eq_true] at h
    have := h j (List.mem_range.2 (by omega))
    simpa using this
  exact ⟨h _ (by kernel_rfl) (by kernel_rfl), h _ (by kernel_rfl) (by kernel_rfl), h _ (by kernel_rfl) (by kernel_rfl), h _ (by kernel_rfl) (by kernel_rfl)⟩
end Go.Proofs.YtffejfpbeimngaaDoor.Plt
