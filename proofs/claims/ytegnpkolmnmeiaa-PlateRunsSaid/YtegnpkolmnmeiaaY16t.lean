/- Plate: PlateFirm's own memory, act by act. -/
import Derived.Test.YtegnpkolmnmeiaaY16s
set_option linter.unusedVariables false
set_option linter.unusedSimpArgs false
set_option maxRecDepth 100000
namespace Go.Proofs.Ytegnpkolmnmeiaa.Plt
open Go.RowKit Go.Lib Go.Proofs.Ytegnpkolmnmeiaa.Bx

/-- What is known between acts. -/
def FR (w w1 : World) (a0 B t : Nat) (wr : World) : Prop := ∃ f l H D F, Disk w1.heap.size wr B F D ∧ (∀ g, F g → g < a0 ∨ a0 + 12 ≤ g) ∧ Loc a0 9 (t + 1) wr f l H ∧ Inv D f l H t ∧ Below w.heap.size w wr
section
variable {base B a0 N A : Nat} {w W4 w5 w7 : World} {F F' : Nat → Prop} {D D' : DK} {f l : Nat → ByteArray} {H : Nat → List ByteArray}
theorem fr_did (hD : Disk base W4 B F D) (hF : ∀ g, F g → g < a0 ∨ a0 + 12 ≤ g) (hL : Loc a0 9 N W4 f l H) (hB : Below A w W4) (hA : A ≤ base) (hAs : A ≤ W4.heap.size) (c : Chg F W4 w5) (n : ∀ g, F' g → F g ∨ W4.heap.size ≤ g) :
    Loc a0 9 N w5 f l H ∧ (∀ g, F' g → g < a0 ∨ a0 + 12 ≤ g) ∧ Below A w w5 := by
  refine ⟨hL.chg c hF, fun g hg => ?_, Did.low hD c hB hA hAs⟩
  rcases n g hg with h | h
  · exact hF g h
  · have := hL.lt
    omega
def Own12 (a0 : Nat) (g : Nat) : Prop := a0 ≤ g ∧ g < a0 + 12
theorem disk_own (hD : Disk base w5 B F D) (hF : ∀ g, F g → g < a0 ∨ a0 + 12 ≤ g) (c : Chg (Own12 a0) w5 w7) : Disk base w7 B F D := hD.chg c (fun g hg q => by have := hF g hg; have := q.1; have := q.2; omega)
theorem below_own (hB : Below A w w5) (hA : A ≤ a0) (hAs : A ≤ w5.heap.size) (c : Chg (Own12 a0) w5 w7) : Below A w w7 := hB.trans (c.below (fun g q => Nat.le_trans hA q.1) hAs)
theorem lay_round (h : Loc a0 9 N w5 f l H) {k : Nat} (hk : k < 9) {s : ByteArray} (hs : s.size = 128) (hN : N ≤ 1000) :
    w5.cell? ⟨a0 + 1, k, none⟩ = some (.string (l k)) ∧ w5.frozen? ⟨a0 + 1, k, none⟩ = false ∧ (w5.setCell ⟨a0 + 1, k, none⟩ (.string s)).cell? ⟨a0 + 2, k, none⟩ = some (.map (some (a0 + 3 + k))) ∧
    ∃ w7, (Instr.mapUpdate 47 (.map (some (a0 + 3 + k))) (.string s) (.bool true)).run Try.prog (w5.setCell ⟨a0 + 1, k, none⟩ (.string s)) = .ok () w7 ∧ Hid (Loc a0 9 (N + 1) w7 f (upd l k s) (upd H k (s :: H k)) ∧ Chg (Own12 a0) w5 w7) := by
  obtain ⟨c6, f6⟩ := h.s6.cell hk
  have h7 := (h.s7.other (A' := a0 + 1) (by omega) k (.string s)).cell hk
  have e2 : mapV a0 9 k = .map (some (a0 + 3 + k)) := if_pos hk
  rw [e2] at h7
  have hm : MapF Try.prog 9 (w5.setCell ⟨a0 + 1, k, none⟩ (.string s)) (a0 + 3 + k) N (setF (H k)) := (h.mp k hk).same (Below.heap_setCell _ _ _ _ (by show a0 + 3 + k ≠ a0 + 1; omega))
  obtain ⟨w7, hr, q1, q2, q3⟩ := hm.put klawS Try.underlying47 (by unfold maxLen; omega) (.bool true) (keyS (s := s) (by unfold maxLen; omega)) (isKeyS _)
  rw [setF_put] at q1
  have hsz := h.lt
  have hs7 : ∀ g, g < w5.heap.size → g ≠ a0 + 3 + k → w7.heap[g]? = (w5.setCell ⟨a0 + 1, k, none⟩ (.string s)).heap[g]? := fun g hg hne => q2.block g (by simpa [World.setCell] using hg) (fun e => hne (by injection e))
  have hc : ∀ g, g ≠ a0 + 1 → (w5.setCell ⟨a0 + 1, k, none⟩ (.string s)).heap[g]? = w5.heap[g]? := fun g hg => Below.heap_setCell _ _ _ _ hg
  refine ⟨c6, f6, h7.1, w7, hr, ⟨?_, ?_, ?_, ?_⟩, ?_⟩
  · exact (h.s5.other (A' := a0 + 1) (by omega) k (.string s)).same (hs7 _ (by omega) (by omega))
  · refine ((h.s6.set k (.string s)).same (hs7 _ (by omega) (by omega))).congr (fun i _ => ?_)
    by_cases e : i = k
    · subst e; rw [upd_same]; unfold strV; rw [upd_same]
    · rw [upd_other _ _ e]; unfold strV; rw [upd_other _ _ e]
  · exact (h.s7.other (A' := a0 + 1) (by omega) k (.string s)).same (hs7 _ (by omega) (by omega))
  · intro i hi
    by_cases e : i = k
    · subst e
      rw [upd_same]
      exact q1
    · rw [upd_other _ _ e]
      exact ((h.mp i hi).same ((hs7 _ (by omega) (by omega)).trans (hc _ (by omega)))).mono (Nat.le_succ _)
  · refine ⟨q2.os, q2.tape, q2.output, by rw [q3]; simp [World.setCell], fun g hg hn => ?_⟩
    have : ¬ (a0 ≤ g ∧ g < a0 + 12) := hn
    rw [hs7 g hg (by omega), hc g (by omega)]
/-- An array of nine texts, stored over another one. -/
def put9 (w : World) (a : Nat) (l : Nat → ByteArray) : World := ((((((((w.setCell ⟨a, 0, none⟩ (.string (l 0))).setCell ⟨a, 1, none⟩ (.string (l 1))).setCell ⟨a, 2, none⟩ (.string (l 2))).setCell ⟨a, 3, none⟩ (.string (l 3))).setCell ⟨a, 4, none⟩ (.string (l 4))).setCell ⟨a, 5, none⟩ (.string (l 5))).setCell ⟨a, 6, none⟩ (.string (l 6))).setCell ⟨a, 7, none⟩ (.string (l 7))).setCell ⟨a, 8, none⟩ (.string (l 8))
theorem bar_round (h : Loc a0 9 N w5 f l H) : Loc a0 9 N (put9 w5 a0 l) l l H ∧ Chg (Own12 a0) w5 (put9 w5 a0 l) := by
  have hne : ∀ g, g ≠ a0 → (put9 w5 a0 l).heap[g]? = w5.heap[g]? := fun g hg => by
    unfold put9
    repeat rw [Below.heap_setCell _ _ _ _ hg]
  refine ⟨⟨?_, h.s6.same (hne _ (by omega)), h.s7.same (hne _ (by omega)), fun i hi => (h.mp i hi).same (hne _ (by omega))⟩, ?_⟩
  · refine (((((((((h.s5.set 0 _).set 1 _).set 2 _).set 3 _).set 4 _).set 5 _).set 6 _).set 7 _).set 8 _).congr (fun i hi => ?_)
    have : i = 0 ∨ i = 1 ∨ i = 2 ∨ i = 3 ∨ i = 4 ∨ i = 5 ∨ i = 6 ∨ i = 7 ∨ i = 8 := by omega
    rcases this with rfl | rfl | rfl | rfl | rfl | rfl | rfl | rfl | rfl <;> rfl
  · have h1 : Own12 a0 a0 := ⟨Nat.le_refl _, by omega⟩
    exact (((((((((Chg.refl (Own12 a0) w5).set (.inl h1) _).set (.inl h1) _).set (.inl h1) _).set (.inl h1) _).set (.inl h1) _).set (.inl h1) _).set (.inl h1) _).set (.inl h1) _).set (.inl h1) _
theorem fall_round (h : Loc a0 9 N w5 f l H) {k : Nat} (hk : k < 9) (s : ByteArray) : Loc a0 9 N ((w5.setCell ⟨a0, k, none⟩ (.string s)).setCell ⟨a0 + 1, k, none⟩ (.string s)) (upd f k s) (upd l k s) H ∧ Chg (Own12 a0) w5 ((w5.setCell ⟨a0, k, none⟩ (.string s)).setCell ⟨a0 + 1, k, none⟩ (.string s)) := by
  have hne : ∀ g, g ≠ a0 → g ≠ a0 + 1 → ((w5.setCell ⟨a0, k, none⟩ (.string s)).setCell ⟨a0 + 1, k, none⟩ (.string s)).heap[g]? = w5.heap[g]? := fun g hg hg' => (Below.heap_setCell _ _ _ _ hg').trans (Below.heap_setCell _ _ _ _ hg)
  have hup : ∀ (f : Nat → ByteArray) i, strV (upd f k s) i = upd (strV f) k (.string s) i := fun f i => by
    by_cases e : i = k
    · subst e; rw [upd_same]; unfold strV; rw [upd_same]
    · rw [upd_other _ _ e]; unfold strV; rw [upd_other _ _ e]
  refine ⟨⟨?_, ?_, h.s7.same (hne _ (by omega) (by omega)), fun i hi => (h.mp i hi).same (hne _ (by omega) (by omega))⟩, ?_⟩
  · exact ((h.s5.set k (.string s)).other (by omega) _ _).congr (fun i _ => hup f i)
  · exact ((h.s6.other (A' := a0) (by omega) k (.string s)).set k (.string s)).congr (fun i _ => hup l i)
  · exact ((Chg.refl (Own12 a0) w5).set (.inl ⟨Nat.le_refl _, by omega⟩) _).set (.inl ⟨by omega, by omega⟩) _
end
theorem slice_full {s : ByteArray} (hs : s.size ≤ 128) (w : World) : (Instr.slice 9 (.string (fullB s)) none (some (.int .i64 (s.size : Nat))) none).run Try.prog w = .ok (.string s) w := by
  rw [run_slice_string_to_if w 9 (fullB s) .i64 (s.size : Nat) Try.underlying9, if_pos ⟨by omega, by rw [full_size hs]; omega⟩]
  show Result.ok (Value.string ((fullB s).extract 0 ((s.size : Nat) : Int).toNat)) w = _
  rw [Int.toNat_natCast]
  congr 2
  apply bytes_inj
  rw [ByteArray.data_extract, Array.toList_extract, List.extract_eq_take_drop, List.drop_zero, Nat.sub_zero]
  show ((fullL s).toArray.toList).take s.size = _
  unfold fullL
  show (s.data.toList ++ _).take s.size = _
  rw [List.take_append_of_le_length (Nat.le_of_eq (size_dl s).symm), List.take_of_length_le (Nat.le_of_eq (size_dl s))]
theorem str_self (s : ByteArray) : (s.toList == s.toList) = true := by simp
def mixS (k : Nat) (g f : Nat → ByteArray) (i : Nat) : ByteArray := if i < k then g i else f i
theorem Loc.congr {a0 N : Nat} {w : World} {f l f' l' : Nat → ByteArray} {H : Nat → List ByteArray} (h : Loc a0 9 N w f l H) (hf : ∀ i, i < 9 → f' i = f i) (hl : ∀ i, i < 9 → l' i = l i) : Loc a0 9 N w f' l' H :=
  ⟨h.s5.congr (fun i hi => by unfold strV; rw [hf i hi]), h.s6.congr (fun i hi => by unfold strV; rw [hl i hi]), h.s7, h.mp⟩
theorem mix_step {k : Nat} (g f : Nat → ByteArray) (i : Nat) : mixS (k + 1) g f i = upd (mixS k g f) k (g k) i := by
  unfold mixS
  by_cases e : i = k
  · subst e; rw [upd_same, if_pos (by omega)]
  · rw [upd_other _ _ e]
    by_cases h : i < k
    · rw [if_pos h, if_pos (by omega)]
    · rw [if_neg h, if_neg (by omega)]
theorem held_look {a0 N : Nat} {w : World} {f l : Nat → ByteArray} {H : Nat → List ByteArray} (h : Loc a0 9 N w f l H) {k : Nat} (hk : k < 9) {s : ByteArray} (hs : s ∈ H k) (hz : s.size = 128) : w.cell? ⟨a0 + 2, k, none⟩ = some (.map (some (a0 + 3 + k))) ∧ (Instr.lookup 47 (.map (some (a0 + 3 + k))) (.string s) false).run Try.prog w = .ok (.bool true) w := by
  have h1 := (h.s7.cell hk).1
  have e2 : mapV a0 9 k = .map (some (a0 + 3 + k)) := if_pos hk
  rw [e2] at h1
  refine ⟨h1, ?_⟩
  have := (h.mp k hk).look klawS Try.underlying47 (zeroB w) (keyS (s := s) (by unfold maxLen; omega)) (isKeyS _)
  rw [setF_in hs] at this
  exact this
end Go.Proofs.Ytegnpkolmnmeiaa.Plt
