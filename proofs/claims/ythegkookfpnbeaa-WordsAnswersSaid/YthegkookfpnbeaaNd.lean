/- Entries of an audit: what one is; rows of them, read and the call's own; opened out of an argument's reading. -/
import Derived.Test.YthegkookfpnbeaaRo
import Derived.Test.YthegkookfpnbeaaInts
import Derived.BigQuiet
import Derived.Deep.Draws
import Derived.Test.YthegkookfpnbeaaBx
import Derived.Deep.RegionHeld3
import Derived.Deep.DeepCutAuto
import Derived.Deep.CutBlock
import Derived.Deep.LoopGhost
set_option linter.unusedVariables false
set_option linter.unusedSimpArgs false
set_option maxRecDepth 100000
namespace Go.Proofs.Ythegkookfpnbeaa.Aud
open Go.RowKit Go.Lib Go.Proofs.Ythegkookfpnbeaa.Rig Go.Proofs.Ythegkookfpnbeaa.Rt

/-- An entry. -/
structure En where
  u : Int
  o : Int
  s : Int
  S : List Int
  L : List Int
/-- Ints that lie in a block of which P holds. -/
def IntsP (P : Nat → Prop) (w : World) (v : Value) (xs : List Int) : Prop := Ints w v xs ∧ (xs = [] ∨ ∃ b off n c, v = .slice (some ⟨b, off, none⟩) n c ∧ P b)
theorem IntsP.kept {P Q : Nat → Prop} {w w' : World} {v : Value} {xs : List Int} {row : Option Nat} (h : IntsP P w v xs) (hg : w.grownBy w' row) (hr : ∀ b, P b → some b ≠ row) (hq : ∀ b, b < w.heap.size → P b → Q b) : IntsP Q w' v xs := by
  obtain ⟨⟨h0, a, cap, rfl, h1, h2, h3⟩, h4⟩ := h
  rcases h3 with rfl | ⟨b, off, rfl, hlt, hc⟩
  · exact ⟨⟨h0, a, cap, rfl, h1, h2, .inl rfl⟩, .inl rfl⟩
  · by_cases hx : xs = []
    · subst hx
      exact ⟨⟨h0, _, cap, rfl, h1, h2, .inl rfl⟩, .inl rfl⟩
    · rcases h4 with h4 | ⟨b', off', n, c, e, hP⟩
      · exact absurd h4 hx
      · injection e with e1 _ _
        injection e1 with e1
        injection e1 with e1 _ _
        subst e1
        refine ⟨⟨h0, _, cap, rfl, h1, h2, .inr ⟨b, off, rfl, Nat.lt_of_lt_of_le hlt hg.size, fun j hj => ?_⟩⟩, .inr ⟨b, off, _, cap, rfl, hq b hlt hP⟩⟩
        exact hg.cell (hc j hj) (hr b hP)
theorem IntsP.below {P : Nat → Prop} {w w' : World} {v : Value} {xs : List Int} (h : IntsP P w v xs) (hb : Below w.heap.size w w') : IntsP P w' v xs := h.kept (Rk.grown_of_below hb none) (fun _ _ => by simp) (fun _ _ h => h)
theorem IntsP.mono {P Q : Nat → Prop} {w : World} {v : Value} {xs : List Int} (h : IntsP P w v xs) (hq : ∀ b, b < w.heap.size → P b → Q b) : IntsP Q w v xs := h.kept (Rk.grown_of_below (Below.refl _ _) none) (fun _ _ => by simp) hq
theorem IntsP.of {w : World} {v : Value} {xs : List Int} (h : Ints w v xs) : IntsP (· < w.heap.size) w v xs := by
  have h' := h
  obtain ⟨h0, a, cap, rfl, h1, h2, h3⟩ := h
  rcases h3 with rfl | ⟨b, off, rfl, hlt, hc⟩
  · exact ⟨h', .inl rfl⟩
  · exact ⟨h', .inr ⟨b, off, _, cap, rfl, hlt⟩⟩
theorem IntsP.nil_ (P : Nat → Prop) (w : World) : IntsP P w (.slice none 0 0) [] := ⟨Ints.nil_ _, .inl rfl⟩
/-- An entry's five cells. -/
def EnP (P : Nat → Prop) (w : World) (x : List Value) (y : En) : Prop := ∃ sv lv, x = [.int .i64 y.u, .int .i64 y.o, .int .i64 y.s, sv, lv] ∧ (i64 y.u ∧ i64 y.o ∧ i64 y.s) ∧ IntsP P w sv y.S ∧ IntsP P w lv y.L
theorem EnP.kept {P Q : Nat → Prop} {w w' : World} {x : List Value} {y : En} {row : Option Nat} (h : EnP P w x y) (hg : w.grownBy w' row) (hr : ∀ b, P b → some b ≠ row) (hq : ∀ b, b < w.heap.size → P b → Q b) : EnP Q w' x y := by
  obtain ⟨sv, lv, e, hi, h1, h2⟩ := h
  exact ⟨sv, lv, e, hi, h1.kept hg hr hq, h2.kept hg hr hq⟩
theorem EnP.below {P : Nat → Prop} {w w' : World} {x : List Value} {y : En} (h : EnP P w x y) (hb : Below w.heap.size w w') : EnP P w' x y := h.kept (Rk.grown_of_below hb none) (fun _ _ => by simp) (fun _ _ h => h)
theorem EnP.mono {P Q : Nat → Prop} {w : World} {x : List Value} {y : En} (h : EnP P w x y) (hq : ∀ b, b < w.heap.size → P b → Q b) : EnP Q w x y := h.kept (Rk.grown_of_below (Below.refl _ _) none) (fun _ _ => by simp) hq
theorem EnP.one {P : Nat → Prop} {w : World} {x : List Value} {y : En} (h : EnP P w x y) : ∀ q ∈ x, q.oneCell' = true := by
  obtain ⟨sv, lv, rfl, _, h1, h2⟩ := h
  obtain ⟨a, c, rfl⟩ := h1.1.is_slice
  obtain ⟨b, d, rfl⟩ := h2.1.is_slice
  intro q hq
  simp at hq
  rcases hq with rfl | rfl | rfl | rfl | rfl <;> rfl
theorem EnP.len {P : Nat → Prop} {w : World} {x : List Value} {y : En} (h : EnP P w x y) : x.length = 5 := by
  obtain ⟨sv, lv, rfl, _⟩ := h
  rfl
/-- Entries that are read. -/
def EnsP (P : Nat → Prop) (w : World) (v : Value) (A : List En) : Prop := Rk.Rows 5 (EnP P) w v A
theorem EnsP.below {P : Nat → Prop} {w w' : World} {v : Value} {A : List En} (h : EnsP P w v A) (hb : Below w.heap.size w w') : EnsP P w' v A := Rk.Rows.below (R := EnP P) (fun h hb => h.below hb) h hb
theorem EnsP.mono {P Q : Nat → Prop} {w : World} {v : Value} {A : List En} (h : EnsP P w v A) (hq : ∀ b, b < w.heap.size → P b → Q b) : EnsP Q w v A := by
  obtain ⟨p, h1, h2, h3⟩ := h
  exact ⟨p, h1, h2, fun x hx => (h3 x hx).mono hq⟩
theorem EnsP.nil_ (P : Nat → Prop) (w : World) : EnsP P w (.slice none 0 0) [] := Rk.Rows.nil_ _ _ _
theorem EnsP.is_slice {P : Nat → Prop} {w : World} {v : Value} {A : List En} (h : EnsP P w v A) : ∃ a cap, v = .slice a A.length cap ∧ A.length ≤ cap ∧ cap ≤ maxLen := by
  obtain ⟨a, cap, rfl⟩ := Rk.Rows.is_slice h
  exact ⟨a, cap, rfl, (Rk.Rows.len h).2⟩
theorem EnsP.get {P : Nat → Prop} {w : World} {a : Option Addr} {n cap : Nat} {A : List En} (h : EnsP P w (.slice a n cap) A) {j : Nat} (hj : j < A.length) :
    ∃ b off sa sn sc la ln lc, a = some ⟨b, off, none⟩ ∧ b < w.heap.size ∧ EnP P w [.int .i64 A[j].u, .int .i64 A[j].o, .int .i64 A[j].s, .slice sa sn sc, .slice la ln lc] A[j] ∧
      w.cell? ⟨b, off + j * 5, none⟩ = some (.int .i64 A[j].u) ∧ w.cell? ⟨b, off + j * 5 + 1, none⟩ = some (.int .i64 A[j].o) ∧ w.cell? ⟨b, off + j * 5 + 2, none⟩ = some (.int .i64 A[j].s) ∧ w.cell? ⟨b, off + j * 5 + 3, none⟩ = some (.slice sa sn sc) ∧ w.cell? ⟨b, off + j * 5 + 4, none⟩ = some (.slice la ln lc) ∧
      sn = A[j].S.length ∧ ln = A[j].L.length := by
  obtain ⟨b, off, x, rfl, hb, hl, hx, hc⟩ := Rk.Rows.get h hj
  have hx' := hx
  obtain ⟨sv, lv, rfl, hi, h1, h2⟩ := hx
  obtain ⟨sa, sc, rfl⟩ := h1.1.is_slice
  obtain ⟨la, lc, rfl⟩ := h2.1.is_slice
  exact ⟨b, off, sa, _, sc, la, _, lc, rfl, hb, hx', hc 0 _ rfl, hc 1 _ rfl, hc 2 _ rfl, hc 3 _ rfl, hc 4 _ rfl, rfl, rfl⟩
/-- Entries of the call's own: no element's ints lie in the row's own block. -/
def OEn (P : Nat → Prop) (base : Nat) (w : World) (v : Value) (A : List En) : Prop := ∃ p : List (List Value × En), p.map Prod.snd = A ∧ Rk.OwnK 119 5 base w v (p.map Prod.fst) ∧ ∀ x ∈ p, EnP (fun b => P b ∧ some b ≠ v.ownBlock) w x.1 x.2
theorem OEn.nil_ (P : Nat → Prop) (base : Nat) (w : World) : OEn P base w (.slice none 0 0) [] := ⟨[], rfl, Rk.OwnK.nil_ _ _ _ _, fun _ h => by simp at h⟩
theorem OEn.below {P : Nat → Prop} {base : Nat} {w w' : World} {v : Value} {A : List En} (h : OEn P base w v A) (hb : Below w.heap.size w w') : OEn P base w' v A := by
  obtain ⟨p, h1, h2, h3⟩ := h
  exact ⟨p, h1, h2.below hb, fun x hx => (h3 x hx).below hb⟩
theorem OEn.mono {P Q : Nat → Prop} {base : Nat} {w : World} {v : Value} {A : List En} (h : OEn P base w v A) (hq : ∀ b, b < w.heap.size → P b → Q b) : OEn Q base w v A := by
  obtain ⟨p, h1, h2, h3⟩ := h
  exact ⟨p, h1, h2, fun x hx => (h3 x hx).mono fun b hb h => ⟨hq b hb h.1, h.2⟩⟩
theorem OEn.ens {P : Nat → Prop} {base : Nat} {w : World} {v : Value} {A : List En} (h : OEn P base w v A) : EnsP P w v A := by
  obtain ⟨p, h1, h2, h3⟩ := h
  exact ⟨p, h1, h2.row, fun x hx => (h3 x hx).mono fun b _ h => h.1⟩
theorem OEn.is_slice {P : Nat → Prop} {base : Nat} {w : World} {v : Value} {A : List En} (h : OEn P base w v A) : ∃ a cap, v = .slice a A.length cap := by
  obtain ⟨a, cap, e, _⟩ := h.ens.is_slice
  exact ⟨a, cap, e⟩
/-- More elements: what the append asks, and gives. -/
theorem OEn.row {P : Nat → Prop} {base : Nat} {w : World} {v : Value} {A : List En} (h : OEn P base w v A) : ∃ xs : List (List Value), xs.length = A.length ∧ Rk.OwnK 119 5 base w v xs ∧
    ∀ (q : List (List Value × En)) (v' : Value) (w' : World), Rk.OwnK 119 5 base w' v' (xs ++ q.map Prod.fst) → w.grownBy w' v.ownBlock → (v'.ownBlock = v.ownBlock ∨ v'.ownBlock = some w.heap.size) → (∀ x ∈ q, EnP (fun b => P b ∧ some b ≠ v.ownBlock) w x.1 x.2) → OEn P base w' v' (A ++ q.map Prod.snd) := by
  obtain ⟨p, h1, h2, h3⟩ := h
  refine ⟨p.map Prod.fst, by rw [← h1, List.length_map, List.length_map], h2, fun q v' w' h5 hg hk hq => ⟨p ++ q, by rw [List.map_append, h1], by rw [List.map_append]; exact h5, fun x hx => ?_⟩⟩
  have hx' : EnP (fun b => P b ∧ some b ≠ v.ownBlock) w x.1 x.2 := by
    rcases List.mem_append.1 hx with hx | hx
    · exact h3 x hx
    · exact hq x hx
  refine hx'.kept hg (fun b h => h.2) fun b hb h => ⟨h.1, ?_⟩
  rcases hk with e | e
  · rw [e]; exact h.2
  · rw [e]
    intro e2
    injection e2 with e2
    omega
theorem OEn.own {P : Nat → Prop} {base : Nat} {w : World} {v : Value} {A : List En} (h : OEn P base w v A) : ∀ g, v.ownBlock = some g → base ≤ g ∧ g < w.heap.size := by
  obtain ⟨p, h1, h2, h3⟩ := h
  exact h2.block
theorem infoEn : (Try.prog.info? 119).map (fun i => (i.zero, i.size, i.bytes)) = some (some (.agg #[.int .i64 0, .int .i64 0, .int .i64 0, .slice none 0 0, .slice none 0 0]), 5, 72) := by kernel_rfl

section
open Go.ChangeShapes Go.WideShapes Go.Deep
variable {H : Type} {enc : TypeId × Value → H}
theorem cellsOf_entry : Try.prog.cellsOf 119 = 5 := by kernel_rfl
theorem en_of {W : World} {m : Nat} {x : DataW H × List MemPlace} {cs : List Value} (hl : cs.length = 5) (ht : DataW.trod enc Try.prog W 0 (fun _ => true) true m 119 cs = some x) : ∃ y : En, EnP (· < W.heap.size) W cs y := by
  obtain ⟨xs, m, _, hx, _, hxl, hg⟩ := DataW.trod_struct Try.underlying119 ht
  match cs, hl with
  | [c0, c1, c2, c3, c4], _ =>
    have hxs : xs.length = 5 := hxl
    match xs, hxs with
    | [x0, x1, x2, x3, x4], _ =>
      have g0 : DataW.trod enc Try.prog W 0 (fun _ => true) true m 3 (([c0, c1, c2, c3, c4].drop 0).take (Try.prog.cellsOf 3)) = some x0 := hg 0 _ rfl
      have g1 : DataW.trod enc Try.prog W 0 (fun _ => true) true m 3 (([c0, c1, c2, c3, c4].drop 1).take (Try.prog.cellsOf 3)) = some x1 := hg 1 _ rfl
      have g2 : DataW.trod enc Try.prog W 0 (fun _ => true) true m 3 (([c0, c1, c2, c3, c4].drop 2).take (Try.prog.cellsOf 3)) = some x2 := hg 2 _ rfl
      have g3 : DataW.trod enc Try.prog W 0 (fun _ => true) true m 117 (([c0, c1, c2, c3, c4].drop 3).take (Try.prog.cellsOf 117)) = some x3 := hg 3 _ rfl
      have g4 : DataW.trod enc Try.prog W 0 (fun _ => true) true m 117 (([c0, c1, c2, c3, c4].drop 4).take (Try.prog.cellsOf 117)) = some x4 := hg 4 _ rfl
      rw [cellsOf_int] at g0 g1 g2
      rw [cellsOf_ints] at g3 g4
      obtain ⟨a0, e0, -, w0⟩ := DataW.trod_int Try.underlying3 g0
      obtain ⟨a1, e1, -, w1⟩ := DataW.trod_int Try.underlying3 g1
      obtain ⟨a2, e2, -, w2⟩ := DataW.trod_int Try.underlying3 g2
      simp at e0 e1 e2
      subst e0 e1 e2
      obtain ⟨S, hS⟩ := ints_of (c := c3) (by simpa using g3)
      obtain ⟨L, hL⟩ := ints_of (c := c4) (by simpa using g4)
      exact ⟨⟨a0, a1, a2, S, L⟩, c3, c4, rfl, ⟨int_bounds w0, int_bounds w1, int_bounds w2⟩, .of hS, .of hL⟩
theorem open_entries {W : World} {v : Value} {d : DataW H} {p : List MemPlace} {base : Nat} (hv : Value.okWide Try.prog W .any base 44 v) (h : DataW.Trod enc Try.prog W 0 (fun _ => true) true 44 v d p) : ∃ A : List En, EnsP (· < W.heap.size) W v A :=
  Rk.open_rows Try.underlying44 cellsOf_entry (by decide) hv h fun m cs x hl ht => en_of hl ht
theorem open_entry {W : World} {v : Value} {d : DataW H} {p : List MemPlace} {base : Nat} (hv : Value.okWide Try.prog W .any base 119 v) (h : DataW.Trod enc Try.prog W 0 (fun _ => true) true 119 v d p) :
    ∃ (y : En) (sv lv : Value), v = .agg #[.int .i64 y.u, .int .i64 y.o, .int .i64 y.s, sv, lv] ∧ EnP (· < W.heap.size) W [.int .i64 y.u, .int .i64 y.o, .int .i64 y.s, sv, lv] y := by
  obtain ⟨cs, rfl, hsz⟩ := okWide_struct Try.underlying119 hv
  obtain ⟨fuel, hf⟩ := h
  obtain ⟨l⟩ := cs
  have hl5 : l.length = 5 := hsz.trans cellsOf_entry
  obtain ⟨y, hy⟩ := en_of (cs := l) hl5 hf
  have hy' := hy
  obtain ⟨sv, lv, rfl, _⟩ := hy
  exact ⟨y, sv, lv, rfl, hy'⟩
theorem cellsOf_entries : Try.prog.cellsOf 44 = 1 := by kernel_rfl
end
end Go.Proofs.Ythegkookfpnbeaa.Aud
/- Contract: Ints of the plain text, of the same ints. -/
set_option linter.unusedVariables false
namespace Go.Proofs.Ythegkookfpnbeaa.Rig
open Go.RowKit Go.Lib Go.Proofs.Ythegkookfpnbeaa.Rt

set_option maxRecDepth 100000 in
set_option maxHeartbeats 1000000 in
theorem ints_same {v1 v2 : Value} {xs : List Int} (w : World) (h1 : Ints w v1 xs) (h2 : Ints w v2 xs) :
    Calls Try.prog 70 #[v1, v2] w fun e w' => e = .returned (.bool true) ∧ ∃ q, w' = w.drewN q := by
  obtain ⟨a, ca, rfl, hla, hca, hc1⟩ := h1.open_
  obtain ⟨b, cb, rfl, hlb, hcb, hc2⟩ := h2.open_
  have H1 := Lib.hid hc1
  have H2 := Lib.hid hc2
  obtain ⟨n, hn⟩ : ∃ n, n = xs.length := ⟨_, rfl⟩
  rw [← hn] at hla hlb ⊢
  replace hn := Lib.hid hn
  clear hc1 hc2 h1 h2
  go_enter Try.func70, Try.ntmps70
  go_wp2_with fail
  go_loopw [5] (fun i wr => ∃ k q : Nat, k ≤ n ∧ i = .int .i64 k ∧ wr = w.drewN q) (fun i _ => n - (RowKit.intOf i).toNat)
  case atStart => exact ⟨0, 0, Nat.zero_le _, rfl, rfl⟩
  case round =>
    obtain ⟨k, q, hk, rfl, rfl⟩ := hrel
    by_cases hlt : k < n
    · have hkl : k < xs.length := by rw [← hn.out]; exact hlt
      obtain ⟨b1, f1, rfl, hb1, ⟨x1, x2⟩, c1⟩ := H1.out k hkl
      obtain ⟨b2, f2, rfl, hb2, _, c2⟩ := H2.out k hkl
      generalize at_ xs k = x at *
      have i0 : (0 : Int) ≤ (k : Int) := by omega
      have i1 : (k : Int) < (n : Int) := by omega
      have e0 : (x != x) = false := by simp
      clear H1 H2
      go_wp2_with fail
      go_quiet (fail)
      go_wp2
      go_roundw
      case rel => exact ⟨k + 1, _, by omega, by go_num, rfl⟩
      case measure => simp [RowKit.intOf]; omega
    · clear H1 H2
      go_wp2
      go_ret
      exact ⟨rfl, q, rfl⟩

end Go.Proofs.Ythegkookfpnbeaa.Rig
/- Entries: Same of the plain text. -/
set_option linter.unusedVariables false
set_option linter.unusedSimpArgs false
set_option maxRecDepth 100000
namespace Go.Proofs.Ythegkookfpnbeaa.Aud
open Go.RowKit Go.Lib Go.Proofs.Ythegkookfpnbeaa.Rig Go.Proofs.Ythegkookfpnbeaa.Rt Go.Proofs.Ythegkookfpnbeaa.Bx

set_option maxHeartbeats 8000000 in
theorem esame_any {u v : Value} {A : List En} {P Q : Nat → Prop} (w : World) (h1 : EnsP P w u A) (h2 : EnsP Q w v A) :
    Calls Try.prog 50 #[u, v] w fun e w' => e = .returned (.bool true) ∧ Below w.heap.size w w' := by
  obtain ⟨a1, k1, rfl, l1, m1⟩ := h1.is_slice
  obtain ⟨a2, k2, rfl, l2, m2⟩ := h2.is_slice
  obtain ⟨n, hn⟩ : ∃ n, n = A.length := ⟨_, rfl⟩
  have H1 : Hid (∀ w', Below w.heap.size w w' → EnsP P w' (.slice a1 n k1) A) := fun w' hb => by rw [hn]; exact h1.below hb
  have H2 : Hid (∀ w', Below w.heap.size w w' → EnsP Q w' (.slice a2 n k2) A) := fun w' hb => by rw [hn]; exact h2.below hb
  rw [← hn] at l1 l2 ⊢
  unfold maxLen at m1 m2
  have HN := Lib.hid hn
  clear h1 h2 hn
  go_enter Try.func50, Try.ntmps50
  go_wp2_with fail
  go_loopg [5] n (fun g i wr => ∃ k : Nat, k ≤ n ∧ n - k ≤ g ∧ i = .int .i64 k ∧ Below w.heap.size w wr)
  case atStart => exact ⟨0, Nat.zero_le _, by omega, rfl, Below.refl _ _⟩
  case round =>
    obtain ⟨k, hk, hg, rfl, hbel⟩ := hrel
    have HB := Lib.hid hbel
    by_cases hlt : k < n
    · have hkl : k < A.length := by rw [← HN.out]; exact hlt
      obtain ⟨b, off, sa, sn, sc, la', ln, lc, rfl, hb, hv, c0, c1, c2, c3, c4, hsn, hln⟩ := (H1.out _ hbel).get hkl
      obtain ⟨b', off', sa', sn', sc', la2, ln', lc', rfl, hb', hv', d0, d1, d2, d3, d4, hsn', hln'⟩ := (H2.out _ hbel).get hkl
      obtain rfl : sn = sn' := by rw [hsn, hsn']
      obtain rfl : ln = ln' := by rw [hln, hln']
      clear hsn hln hsn' hln'
      generalize A[k] = y at *
      obtain ⟨yu, yo, ys, S, L⟩ := y
      simp only at c0 c1 c2 c3 c4 d0 d1 d2 d3 d4 hv hv'
      obtain ⟨_, _, e, _, iS, iL⟩ := hv
      obtain ⟨rfl, rfl⟩ : _ ∧ _ := by simpa using e
      obtain ⟨_, _, e', _, iS', iL'⟩ := hv'
      obtain ⟨rfl, rfl⟩ : _ ∧ _ := by simpa using e'
      have CS : Hid (∀ w', Below wr.heap.size wr w' → Calls Try.prog 70 #[.slice sa sn sc, .slice sa' sn sc'] w' fun e w'' => e = .returned (.bool true) ∧ Below w'.heap.size w' w'') := fun w' hb => (ints_same w' (iS.1.below hb (Nat.le_refl _)) (iS'.1.below hb (Nat.le_refl _))).mono fun e w'' h => ⟨h.1, by obtain ⟨q, rfl⟩ := h.2; exact below_drews (Below.refl _ _) q⟩
      have CL : Hid (∀ w', Below wr.heap.size wr w' → Calls Try.prog 70 #[.slice la' ln lc, .slice la2 ln lc'] w' fun e w'' => e = .returned (.bool true) ∧ Below w'.heap.size w' w'') := fun w' hb => (ints_same w' (iL.1.below hb (Nat.le_refl _)) (iL'.1.below hb (Nat.le_refl _))).mono fun e w'' h => ⟨h.1, by obtain ⟨q, rfl⟩ := h.2; exact below_drews (Below.refl _ _) q⟩
      obtain ⟨B1, R1, L1⟩ := box1 wr #[.int .i64 yu, .int .i64 yo, .int .i64 ys, .slice sa sn sc, .slice la' ln lc] 119
      obtain ⟨W1, hW1⟩ : ∃ W1, W1 = wr.alloc (.cells #[.int .i64 yu, .int .i64 yo, .int .i64 ys, .slice sa sn sc, .slice la' ln lc] 119) := ⟨_, rfl⟩
      rw [← hW1] at B1 R1 L1
      have HW1 := Lib.hid hW1
      obtain ⟨b6, hb6⟩ : ∃ b6, b6 = wr.heap.size := ⟨_, rfl⟩
      rw [← hb6] at R1 L1
      obtain ⟨B2, R2, L2⟩ := box1 W1 #[.int .i64 yu, .int .i64 yo, .int .i64 ys, .slice sa' sn sc', .slice la2 ln lc'] 119
      obtain ⟨W2, hW2⟩ : ∃ W2, W2 = W1.alloc (.cells #[.int .i64 yu, .int .i64 yo, .int .i64 ys, .slice sa' sn sc', .slice la2 ln lc'] 119) := ⟨_, rfl⟩
      rw [← hW2] at B2 R2 L2
      have HW2 := Lib.hid hW2
      obtain ⟨b7, hb7⟩ : ∃ b7, b7 = W1.heap.size := ⟨_, rfl⟩
      rw [← hb7] at R2 L2
      have HL6 : Hid (b6 < W2.heap.size) := by show _ < _; omega
      have HL7 : Hid (b7 < W2.heap.size) := by show _ < _; omega
      have R1' := (B2.block _ (show b6 < W1.heap.size by omega)).trans R1
      have BX : Hid (∀ w', Below W2.heap.size W2 w' → (w'.cell? ⟨b6, 0, none⟩ = some (.int .i64 yu) ∧ w'.cell? ⟨b6, 1, none⟩ = some (.int .i64 yo) ∧ w'.cell? ⟨b6, 2, none⟩ = some (.int .i64 ys) ∧ w'.cell? ⟨b6, 3, none⟩ = some (.slice sa sn sc) ∧ w'.cell? ⟨b6, 4, none⟩ = some (.slice la' ln lc)) ∧ (w'.cell? ⟨b7, 0, none⟩ = some (.int .i64 yu) ∧ w'.cell? ⟨b7, 1, none⟩ = some (.int .i64 yo) ∧ w'.cell? ⟨b7, 2, none⟩ = some (.int .i64 ys) ∧ w'.cell? ⟨b7, 3, none⟩ = some (.slice sa' sn sc') ∧ w'.cell? ⟨b7, 4, none⟩ = some (.slice la2 ln lc'))) := fun w' hb =>
        ⟨five_cells ((hb.block _ HL6.out).trans R1'), five_cells ((hb.block _ HL7.out).trans R2)⟩
      replace d0 := vcell B1 hb' d0
      replace d1 := vcell B1 hb' d1
      replace d2 := vcell B1 hb' d2
      replace d3 := vcell B1 hb' d3
      replace d4 := vcell B1 hb' d4
      have K2 := Lib.hid (below_more B1 B2)
      have HK2 := Lib.hid (below_more HB.out K2.out)
      have i1 : (k : Int) < (n : Int) := by omega
      clear hbel e e' iS iL iS' iL' B1 R1 L1 B2 R2 L2 R1' hW1 hW2 H1 H2
      go_upto_region 7 with fail
      rw [← hb6, ← HW1.out]
      clear c0 c1 c2 c3 c4 hb6
      go_upto_region 8 with fail
      rw [← hb7, ← HW2.out]
      clear d0 d1 d2 d3 d4 hb7
      obtain ⟨⟨c0, c1, c2, c3, c4⟩, ⟨d0, d1, d2, d3, d4⟩⟩ := BX.out W2 (Below.refl _ _)
      have CS1 := Lib.hid (CS.out W2 K2.out)
      go_wp2_with fail
      refine (CS1.out).mono ?_
      rintro e w3 ⟨rfl, b3⟩
      have K3 := Lib.hid b3
      clear b3 CS1 CS c0 c1 c2 c3 c4 d0 d1 d2 d3 d4
      obtain ⟨⟨c0, c1, c2, c3, c4⟩, ⟨d0, d1, d2, d3, d4⟩⟩ := BX.out w3 K3.out
      have CL1 := Lib.hid (CL.out w3 (below_more K2.out K3.out))
      go_wp2_with fail
      refine (CL1.out).mono ?_
      rintro e w4 ⟨rfl, b4⟩
      have K4 := Lib.hid (below_more HK2.out (below_more K3.out b4))
      clear b4 CL1 CL c0 c1 c2 c3 c4 d0 d1 d2 d3 d4
      go_wp2_with fail
      go_roundg (n - (k + 1))
      case measure => omega
      case rel => exact ⟨k + 1, by omega, Nat.le_refl _, by go_num, K4.out⟩
    · obtain rfl : k = n := by omega
      have i1 : ¬ (k : Int) < (k : Int) := by omega
      clear hbel
      go_wp2_with fail
      go_ret
      exact ⟨by first | rfl | (simp; done), HB.out⟩

end Go.Proofs.Ythegkookfpnbeaa.Aud
