/- Ledger: a disk as records are laid, on plain values; what a call leaves that lays. -/
import Derived.Test.YtffejfpbeimngaaDoorLg
import Derived.Test.YtffejfpbeimngaaDoorLh
set_option linter.unusedVariables false
set_option linter.unusedSimpArgs false
set_option maxRecDepth 100000
namespace Go.Proofs.YtffejfpbeimngaaDoor.Ldg
open Go.RowKit Go.Lib Go.Proofs.YtffejfpbeimngaaDoor.Bx Go.Proofs.YtffejfpbeimngaaDoor.Frm Go.Proofs.YtffejfpbeimngaaDoor.Wds Go.Proofs.YtffejfpbeimngaaDoor.Plt

structure Fine (D : DK) : Prop where
  on : D.off = false
  left : D.left = -1
def Clean (D : DK) : Prop := ∀ j, (D.P j).l = []
theorem last_snoc (f : ByteArray) (l : List ByteArray) (x : ByteArray) : PL.last ⟨f, l ++ [x]⟩ = x := by
  unfold PL.last
  simp
theorem fullB_mk (x : List UInt8) : (fullB (mkB x)).data.toList = pad x := by
  show fullL (mkB x) = pad x
  unfold fullL pad
  rw [mkB_size]
  rfl
theorem lay_one {D : DK} (h : Fine D) {first q : Nat} (hq : first + q < D.n) {x : List UInt8} (hx : x.length ≤ 128) :
    layB D ((first + q : Nat) : Int) (mkB x) = true ∧ Fine (layD D ((first + q : Nat) : Int) (mkB x)) ∧ (layD D ((first + q : Nat) : Int) (mkB x)).n = D.n ∧ ring (layD D ((first + q : Nat) : Int) (mkB x)) first = put (ring D first) q (pad x) ∧ ∀ k, Short D k → Short (layD D ((first + q : Nat) : Int) (mkB x)) (k + 1) := by
  have hc : canLay D ((first + q : Nat) : Int) (mkB x) = true := by
    unfold canLay
    rw [h.on, decide_eq_true (by omega), decide_eq_true (by omega), mkB_size, decide_eq_true hx]
    rfl
  have hl : ¬ D.left = 0 := by rw [h.left]; omega
  have e : layD D ((first + q : Nat) : Int) (mkB x) = ⟨D.n, laidP D (first + q) (mkB x), D.off, dec D.left⟩ := by
    unfold layD
    rw [hc, if_pos rfl, if_neg hl]
    rfl
  refine ⟨?_, ?_, ?_, ?_, ?_⟩
  · unfold layB
    rw [hc, decide_eq_false hl]
    rfl
  · rw [e]
    exact ⟨h.on, by show dec D.left = -1; rw [h.left]; rfl⟩
  · rw [e]
  · rw [e]
    funext j
    show (laidP D (first + q) (mkB x) (first + j)).last.data.toList = put (ring D first) q (pad x) j
    unfold put laidP
    by_cases ej : j = q
    · subst ej
      rw [if_pos rfl, upd_same, last_snoc]
      exact fullB_mk x
    · rw [if_neg ej, upd_other _ _ (by omega)]
      rfl
  · intro k hk j hj
    rw [e] at hj ⊢
    show (laidP D (first + q) (mkB x) j).l.length ≤ k + 1
    unfold laidP
    by_cases ej : j = first + q
    · subst ej
      rw [upd_same, List.length_append]
      have := hk _ hj
      simp
      exact this
    · rw [upd_other _ _ ej]
      have := hk j hj
      omega
theorem bar_one {D : DK} (h : Fine D) (first : Nat) : barB D = true ∧ Fine (barD D) ∧ (barD D).n = D.n ∧ ring (barD D) first = ring D first ∧ Clean (barD D) := by
  have hl : ¬ D.left = 0 := by rw [h.left]; omega
  have e : barD D = ⟨D.n, fun j => (D.P j).settle, D.off, dec D.left⟩ := by
    unfold barD
    rw [h.on, if_neg hl]
    rfl
  refine ⟨?_, ?_, ?_, ?_, ?_⟩
  · unfold barB
    rw [h.on, decide_eq_false hl]
    rfl
  · rw [e]
    exact ⟨h.on, by show dec D.left = -1; rw [h.left]; rfl⟩
  · rw [e]
  · rw [e]
    rfl
  · rw [e]
    exact fun j => rfl
def layN (D : DK) (first n p : Nat) (s : List UInt8) : Nat → DK
  | 0 => D
  | i + 1 => layD (layN D first n p s i) ((first + plc n p i : Nat) : Int) (mkB (plateP s i))
theorem layN_ok {D : DK} (h : Fine D) (hc : Clean D) {first n p : Nat} (hn : 0 < n) (hf : first + n ≤ D.n) (s : List UInt8) : ∀ k, Fine (layN D first n p s k) ∧ (layN D first n p s k).n = D.n ∧ ring (layN D first n p s k) first = putBody (ring D first) n p s k ∧ Short (layN D first n p s k) k
  | 0 => ⟨h, rfl, rfl, fun j _ => by show (D.P j).l.length ≤ 0; rw [hc j]; exact Nat.le_refl _⟩
  | k + 1 => by
    obtain ⟨a, b, c, d⟩ := layN_ok h hc hn hf s k
    have hq : first + plc n p k < (layN D first n p s k).n := by rw [b]; have := plc_lt (p := p) (i := k) hn; omega
    obtain ⟨_, a2, b2, c2, d2⟩ := lay_one a hq (plateP_le s k)
    exact ⟨a2, b2.trans b, c2.trans (by rw [c]; rfl), d2 k d⟩
/-- The disk behind a record that was laid. -/
def layAll (D : DK) (first n p number : Nat) (s : List UInt8) : DK := barD (layD (barD (layN D first n p s (bodN s.length))) ((first + p : Nat) : Int) (mkB (headL number s.length)))
theorem layAll_ok {D : DK} (h : Fine D) (hc : Clean D) {first n p number : Nat} (hp : p < n) (hf : first + n ≤ D.n) (s : List UInt8) :
    Fine (layAll D first n p number s) ∧ (layAll D first n p number s).n = D.n ∧ ring (layAll D first n p number s) first = putRec (ring D first) n p number s ∧ Clean (layAll D first n p number s) := by
  obtain ⟨a, b, c, d⟩ := layN_ok h hc (p := p) (show 0 < n by omega) hf s (bodN s.length)
  obtain ⟨_, a1, b1, c1, d1⟩ := bar_one a first
  have hq : first + p < (barD (layN D first n p s (bodN s.length))).n := by rw [b1, b]; omega
  obtain ⟨_, a2, b2, c2, d2⟩ := lay_one (q := p) a1 hq (x := headL number s.length) (by rw [headL_len]; exact Nat.le_refl _)
  obtain ⟨_, a3, b3, c3, d3⟩ := bar_one a2 first
  refine ⟨a3, by rw [layAll, b3, b2, b1, b], ?_, d3⟩
  rw [layAll, c3, c2, c1, c]
  have e : pad (headL number s.length) = headL number s.length := by
    unfold pad
    rw [headL_len]
    simp
  rw [e]
  rfl

theorem disk_not {base X B C : Nat} {w : World} {F : Nat → Prop} {D : DK} {l : LS} (h : Disk base w B F D) (hl : Led w X C l) : ¬ F X := by
  obtain ⟨G, v, u, L, h, rfl⟩ := h
  rintro (rfl | rfl | e | ⟨i, hi, e⟩)
  · have := h.blk
    rw [hl] at this
    injection this with this
    injection this with _ q
    exact absurd q (by decide)
  · obtain ⟨cs, h1, _⟩ := h.pl
    rw [hl] at h1
    injection h1 with h1
    injection h1 with _ q
    exact absurd q (by decide)
  · exact absurd (own_apart h.own e hl) (by decide)
  · exact absurd (own_apart (h.row i hi) e hl) (by decide)
/-- The disk as it is then, the ledger's block as it was, all else as it was. -/
def St (base : Nat) (w : World) (F : Nat → Prop) (X B : Nat) (l : LS) (D : DK) (w' : World) : Prop :=
  ∃ F', Disk base w' B F' D ∧ Chg F w w' ∧ (∀ g, F' g → F g ∨ w.heap.size ≤ g) ∧ Led w' X B l
section
variable {base X B : Nat} {w w1 w2 : World} {F : Nat → Prop} {D : DK} {l : LS}
theorem St.start (h : Disk base w B F D) (hl : Led w X B l) : St base w F X B l D w := ⟨F, h, Chg.refl _ _, fun g q => .inl q, hl⟩
theorem St.below (h : St base w F X B l D w1) (hb : Below w1.heap.size w1 w2) : St base w F X B l D w2 := by
  obtain ⟨F', a, b, c, d⟩ := h
  exact ⟨F', a.below hb, b.trans (Chg.of_below (F := F) hb) (fun g q => .inl q), c, d.below hb d.lt⟩
theorem St.drew (h : St base w F X B l D w1) : St base w F X B l D w1.drew := h.below (Below.refl _ _).drew
theorem St.drews (h : St base w F X B l D w1) (n : Nat) : St base w F X B l D (w1.drewN n) := h.below (Wds.d_drews (Below.refl _ _) n)
theorem St.cells (h : St base w F X B l D w1) : w1.cell? ⟨X, 0, none⟩ = some (.pointer (some ⟨B, 0, none⟩)) ∧ w1.cell? ⟨X, 4, none⟩ = some (.int .i64 (l.number : Nat)) := by
  obtain ⟨F', a, b, c, d⟩ := h
  exact ⟨d.cells.1, d.cells.2.2.2.2.1⟩
theorem St.plate (h : St base w F X B l D w1) (ok : l.Ok) (i : Nat) (hi : i ≤ 100000) : Calls Tryd.prog 34 #[.pointer (some ⟨X, 0, none⟩), .int .i64 (i : Nat)] w1 fun e w' => e = .returned (.int .i64 ((l.first + (l.p + i) % l.n : Nat) : Int)) ∧ St base w F X B l D w' := by
  have hh := h
  obtain ⟨F', a, b, c, d⟩ := h
  refine (plate_any d ok i hi).mono ?_
  rintro e w' ⟨rfl, q, rfl⟩
  exact ⟨rfl, hh.drews q⟩
theorem St.did {D2 : DK} {F' : Nat → Prop} {r : Value} {e : Ending} (a : Disk base w1 B F' D) (b : Chg F w w1) (c : ∀ g, F' g → F g ∨ w.heap.size ≤ g) (d : Led w1 X B l) (k : Did base w1 B F' D2 r e w2) : e = .returned r ∧ St base w F X B l D2 w2 := by
  obtain ⟨rfl, F2, a2, b2, c2⟩ := k
  refine ⟨rfl, F2, a2, b.trans b2 c, fun g q => ?_, d.same (b2.block X d.lt (disk_not a d))⟩
  rcases c2 g q with q | q
  · exact c g q
  · exact .inr (Nat.le_trans b.size q)
theorem St.lay (h : St base w F X B l D w1) (hF : Fine D) {first q : Nat} (hq : first + q < D.n) {x : List UInt8} (hx : x.length ≤ 128) (hs : Short D 90000) : Calls Tryd.prog 7 #[.pointer (some ⟨B, 0, none⟩), .int .i64 ((first + q : Nat) : Int), .string (mkB x)] w1 fun e w' => e = .returned (.bool true) ∧ St base w F X B l (layD D ((first + q : Nat) : Int) (mkB x)) w' := by
  obtain ⟨F', a, b, c, d⟩ := h
  refine (layX ((first + q : Nat) : Int) (mkB x) (by rw [mkB_size]; omega) a hs).mono ?_
  intro e w' k
  rw [(lay_one hF hq hx).1] at k
  exact St.did a b c d k
theorem St.bar (h : St base w F X B l D w1) (hF : Fine D) : Calls Tryd.prog 35 #[.pointer (some ⟨B, 0, none⟩)] w1 fun e w' => e = .returned (.bool true) ∧ St base w F X B l (barD D) w' := by
  obtain ⟨F', a, b, c, d⟩ := h
  refine (barX a).mono ?_
  intro e w' k
  rw [(bar_one hF 0).1] at k
  exact St.did a b c d k
end
end Go.Proofs.YtffejfpbeimngaaDoor.Ldg
