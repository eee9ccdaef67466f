/- Segments in memory: a segment, its plain values; slices.Clone of spans and of sites; clone. -/
import Derived.Test.YtccaiippoephbaaGreatDoorWs
import Derived.Test.YtccaiippoephbaaGreatDoorPk
import Derived.Test.YtccaiippoephbaaGreatDoorWx
import Derived.Deep.RegionHeld3
import Derived.StillTailTactics
set_option linter.unusedVariables false
set_option maxRecDepth 100000
namespace Go.Proofs.YtccaiippoephbaaGreatDoor.Seg
open Go.RowKit Go.Lib Go.Proofs.YtccaiippoephbaaGreatDoor.Rt Go.Proofs.YtccaiippoephbaaGreatDoor.Rig

abbrev IsRope := Con.IsRope
abbrev Bytes := List UInt8
theorem rope_ptr {w : World} {L : Bytes} {v : Value} (h : IsRope w L v) : ∃ q, v = .pointer q := by
  obtain ⟨t, h1, h2, h3⟩ := h
  by_cases hn : t = .nil
  · subst hn
    exact ⟨none, h1⟩
  · obtain ⟨b, vl, vr, e, _⟩ := Con.Rp.unfold h1 hn
    exact ⟨_, e⟩
/-- A segment. -/
def Sg (w : World) (v : Value) (i l : Int) (L : Bytes) (S : List Sp) (T : List St) : Prop :=
  ∃ tp sv tv, v = .agg #[.int .i64 i, .int .i64 l, tp, sv, tv] ∧ IsRope w L tp ∧ Spans w sv S ∧ Sites w tv T
theorem Sg.below {w w' : World} {v : Value} {i l : Int} {L : Bytes} {S : List Sp} {T : List St} (h : Sg w v i l L S T) {B : Nat} (hb : Below B w w') (hB : w.heap.size ≤ B) : Sg w' v i l L S T := by
  obtain ⟨tp, sv, tv, e, h1, h2, h3⟩ := h
  exact ⟨tp, sv, tv, e, h1.below hb hB, h2.below hb hB, h3.below hb hB⟩
theorem Sg.open_ {w : World} {v : Value} {i l : Int} {L : Bytes} {S : List Sp} {T : List St} (h : Sg w v i l L S T) :
    ∃ q sa sc ta tc, v = .agg #[.int .i64 i, .int .i64 l, .pointer q, .slice sa S.length sc, .slice ta T.length tc] ∧ IsRope w L (.pointer q) ∧ Spans w (.slice sa S.length sc) S ∧ Sites w (.slice ta T.length tc) T := by
  obtain ⟨tp, sv, tv, e, h1, h2, h3⟩ := h
  obtain ⟨q, rfl⟩ := rope_ptr h1
  obtain ⟨sa, sc, rfl⟩ := h2.is_slice
  obtain ⟨ta, tc, rfl⟩ := h3.is_slice
  exact ⟨q, sa, sc, ta, tc, e, h1, h2, h3⟩
/-- The plain values. -/
def Pl (w : World) (v : Value) (i l : Int) (L : Bytes) (S : List Sp) (T : List St) : Prop :=
  ∃ sv tv, v = .agg #[.int .i64 i, .int .i64 l, .string (Let.mk L), sv, tv] ∧ Spans w sv S ∧ Sites w tv T
theorem Pl.below {w w' : World} {v : Value} {i l : Int} {L : Bytes} {S : List Sp} {T : List St} (h : Pl w v i l L S T) {B : Nat} (hb : Below B w w') (hB : w.heap.size ≤ B) : Pl w' v i l L S T := by
  obtain ⟨sv, tv, e, h2, h3⟩ := h
  exact ⟨sv, tv, e, h2.below hb hB, h3.below hb hB⟩
theorem Pl.open_ {w : World} {v : Value} {i l : Int} {L : Bytes} {S : List Sp} {T : List St} (h : Pl w v i l L S T) :
    ∃ sa sc ta tc, v = .agg #[.int .i64 i, .int .i64 l, .string (Let.mk L), .slice sa S.length sc, .slice ta T.length tc] ∧ Spans w (.slice sa S.length sc) S ∧ Sites w (.slice ta T.length tc) T := by
  obtain ⟨sv, tv, e, h2, h3⟩ := h
  obtain ⟨sa, sc, rfl⟩ := h2.is_slice
  obtain ⟨ta, tc, rfl⟩ := h3.is_slice
  exact ⟨sa, sc, ta, tc, e, h2, h3⟩
def GiveSp (w : World) (S : List Sp) (e : Ending) (w' : World) : Prop := ∃ v, e = .returned v ∧ Spans w' v S ∧ Below w.heap.size w w'
def GiveSt (w : World) (T : List St) (e : Ending) (w' : World) : Prop := ∃ v, e = .returned v ∧ Sites w' v T ∧ Below w.heap.size w w'

theorem fl_cells {w : World} {ad : Addr} {n c k : Nat} {zs : List Int} (h : Fl w (.slice (some ad) n c) n k zs) : ∀ j u, (ints zs)[j]? = some u → w.cell? (ad.add j) = some u := by
  intro j u hj
  obtain ⟨h0, hg, a, cap, hv, h1, h2, h3⟩ := h
  have hj' : j < zs.length := by rw [← ints_len zs]; exact (List.getElem?_eq_some_iff.1 hj).1
  injection hv with e1 e2 e3
  rcases h3 with h3 | ⟨b, off, e, hlt, hc⟩
  · rw [h3, Nat.zero_mul] at h0
    omega
  · rw [← e1] at e
    injection e with e
    subst e
    rw [ints_get hj'] at hj
    have hadd : (⟨b, off, none⟩ : Addr).add j = ⟨b, off + j, none⟩ := by unfold Addr.add; split <;> simp_all
    rw [hadd, hc j (by omega)]
    exact hj

set_option maxHeartbeats 2000000 in
theorem csp_any {v : Value} {S : List Sp} (w : World) (h : Spans w v S) (hl : S.length ≤ 100000) : Calls Tryz.prog 103 #[v] w (GiveSp w S) := by
  have hF := h
  obtain ⟨h0, hg, a, cap, rfl, h1, h2, h3⟩ := h
  obtain ⟨i0, hi, hz0, hz1, hz2⟩ := info_parts infoSpan
  have q22 : ∀ (w : World) (a : Option Addr) (n c n' c' : Nat), (binOp .eql 64 (.slice a n c) (.slice none n' c')).run Tryz.prog w = .ok (.bool a.isNone) w := fun w a n c n' c' => Lib.run_eql_slice_nil w _ _ a n c n' c' Tryz.underlying64
  cases a with
  | none =>
    have hz : S.length = 0 := by
      rcases h3 with h3 | ⟨b, off, e, _⟩
      · exact h3
      · cases e
    obtain rfl := List.eq_nil_of_length_eq_zero hz
    clear hF h3 hg h0
    go_enter Tryz.func103, Tryz.ntmps103
    go_wp2
    go_ret
    exact ⟨_, rfl, Spans.nil_ _, Below.refl _ _⟩
  | some ad =>
    have HC := Lib.hid (fl_cells hF)
    have K1 : Hid ((ints (fl3 S)).length = S.length * 3) := by show _ = _; rw [ints_len]; exact h0
    have HG : Hid (∀ x ∈ fl3 S, i64 x) := hg
    obtain ⟨news, hnews⟩ : ∃ news, news = ints (fl3 S) := ⟨_, rfl⟩
    have K2 : Hid (∀ u ∈ news, u.oneCell' = true) := by show ∀ u ∈ news, _; rw [hnews]; exact ints_one
    rw [← hnews] at HC K1
    have HN := Lib.hid hnews
    obtain ⟨n, hn⟩ : ∃ n, n = S.length := ⟨_, rfl⟩
    have HNL := Lib.hid hn
    rw [← hn] at K1 h1 hl ⊢
    clear hF h3 hg h0 hnews hn
    go_enter Tryz.func103, Tryz.ntmps103
    go_wp2_with (at_builtin; refine wpList_append_own _ rfl _ _ 64 rfl w.heap.size 108 i0 _ 3 24 Tryz.underlying64 hi hz0 hz1 hz2 rfl (by decide) _ _ _ rfl (World.ownsRow_made w #[] 0 (Nat.le_refl _) (Nat.zero_le _) (by simp)) ad n cap news rfl ?qc1 ?qc2 ?qc3 ?qc4 ?qc5 ?qc6 ?_)
    case qc1 => exact K1.out
    case qc2 =>
      intro j u hj
      exact Lib.cell?_alloc_some _ (HC.out j u hj)
    case qc3 => exact K2.out
    case qc4 => rw [Nat.zero_add]; unfold maxLen; omega
    case qc5 => rw [Nat.zero_add]; omega
    case qc6 => simp
    intro v' w1 hown hgrow hnil
    go_wp2
    go_ret
    refine ⟨v', rfl, ?_, ((Below.refl _ w).alloc (Nat.le_refl _) _).grown hgrow (by simp) (by intro k hk; simp [Value.ownBlock] at hk; omega)⟩
    have hO : OwnF 108 w.heap.size w1 v' S.length 3 (fl3 S) := ⟨by rw [← HNL.out, ← HN.out]; simpa using hown, HG.out⟩
    exact hO.fl

set_option maxHeartbeats 2000000 in
theorem cst_any {v : Value} {S : List St} (w : World) (h : Sites w v S) (hl : S.length ≤ 100000) : Calls Tryz.prog 104 #[v] w (GiveSt w S) := by
  have hF := h
  obtain ⟨h0, hg, a, cap, rfl, h1, h2, h3⟩ := h
  obtain ⟨i0, hi, hz0, hz1, hz2⟩ := info_parts infoSite
  have q22 : ∀ (w : World) (a : Option Addr) (n c n' c' : Nat), (binOp .eql 65 (.slice a n c) (.slice none n' c')).run Tryz.prog w = .ok (.bool a.isNone) w := fun w a n c n' c' => Lib.run_eql_slice_nil w _ _ a n c n' c' Tryz.underlying65
  cases a with
  | none =>
    have hz : S.length = 0 := by
      rcases h3 with h3 | ⟨b, off, e, _⟩
      · exact h3
      · cases e
    obtain rfl := List.eq_nil_of_length_eq_zero hz
    clear hF h3 hg h0
    go_enter Tryz.func104, Tryz.ntmps104
    go_wp2
    go_ret
    exact ⟨_, rfl, Sites.nil_ _, Below.refl _ _⟩
  | some ad =>
    have HC := Lib.hid (fl_cells hF)
    have K1 : Hid ((ints (fl2 S)).length = S.length * 2) := by show _ = _; rw [ints_len]; exact h0
    have HG : Hid (∀ x ∈ fl2 S, i64 x) := hg
    obtain ⟨news, hnews⟩ : ∃ news, news = ints (fl2 S) := ⟨_, rfl⟩
    have K2 : Hid (∀ u ∈ news, u.oneCell' = true) := by show ∀ u ∈ news, _; rw [hnews]; exact ints_one
    rw [← hnews] at HC K1
    have HN := Lib.hid hnews
    obtain ⟨n, hn⟩ : ∃ n, n = S.length := ⟨_, rfl⟩
    have HNL := Lib.hid hn
    rw [← hn] at K1 h1 hl ⊢
    clear hF h3 hg h0 hnews hn
    go_enter Tryz.func104, Tryz.ntmps104
    go_wp2_with (at_builtin; refine wpList_append_own _ rfl _ _ 65 rfl w.heap.size 112 i0 _ 2 16 Tryz.underlying65 hi hz0 hz1 hz2 rfl (by decide) _ _ _ rfl (World.ownsRow_made w #[] 0 (Nat.le_refl _) (Nat.zero_le _) (by simp)) ad n cap news rfl ?qc1 ?qc2 ?qc3 ?qc4 ?qc5 ?qc6 ?_)
    case qc1 => exact K1.out
    case qc2 =>
      intro j u hj
      exact Lib.cell?_alloc_some _ (HC.out j u hj)
    case qc3 => exact K2.out
    case qc4 => rw [Nat.zero_add]; unfold maxLen; omega
    case qc5 => rw [Nat.zero_add]; omega
    case qc6 => simp
    intro v' w1 hown hgrow hnil
    go_wp2
    go_ret
    refine ⟨v', rfl, ?_, ((Below.refl _ w).alloc (Nat.le_refl _) _).grown hgrow (by simp) (by intro k hk; simp [Value.ownBlock] at hk; omega)⟩
    have hO : OwnF 112 w.heap.size w1 v' S.length 2 (fl2 S) := ⟨by rw [← HNL.out, ← HN.out]; simpa using hown, HG.out⟩
    exact hO.fl
end Go.Proofs.YtccaiippoephbaaGreatDoor.Seg
/- Segments: what a store of five cells does; clone. -/
set_option linter.unusedVariables false
set_option maxRecDepth 100000
namespace Go.Proofs.YtccaiippoephbaaGreatDoor.Seg
open Go.RowKit Go.Lib Go.Proofs.YtccaiippoephbaaGreatDoor.Rt Go.Proofs.YtccaiippoephbaaGreatDoor.Rig

/-- A store of five cells. -/
def set5 (w : World) (B : Nat) (a0 a1 a2 a3 a4 : Value) : World := ((((w.setCell ⟨B, 0, none⟩ a0).setCell ⟨B, 1, none⟩ a1).setCell ⟨B, 2, none⟩ a2).setCell ⟨B, 3, none⟩ a3).setCell ⟨B, 4, none⟩ a4
theorem set5_block {w : World} {B : Nat} {x0 x1 x2 x3 x4 a0 a1 a2 a3 a4 : Value} {ty : TypeId} (r : w.heap[B]? = some (.cells #[x0, x1, x2, x3, x4] ty (0, 0))) : (set5 w B a0 a1 a2 a3 a4).heap[B]? = some (.cells #[a0, a1, a2, a3, a4] ty (0, 0)) := by
  have h0 := set_block (i := 0) (u := a0) r
  have h1 := set_block (i := 1) (u := a1) h0
  have h2 := set_block (i := 2) (u := a2) h1
  have h3 := set_block (i := 3) (u := a3) h2
  exact set_block (i := 4) (u := a4) h3
theorem set5_other (w : World) {B b : Nat} (a0 a1 a2 a3 a4 : Value) (h : b ≠ B) : (set5 w B a0 a1 a2 a3 a4).heap[b]? = w.heap[b]? := by
  unfold set5
  rw [Below.heap_setCell _ _ _ _ h, Below.heap_setCell _ _ _ _ h, Below.heap_setCell _ _ _ _ h, Below.heap_setCell _ _ _ _ h, Below.heap_setCell _ _ _ _ h]
theorem set5_size (w : World) (B : Nat) (a0 a1 a2 a3 a4 : Value) : (set5 w B a0 a1 a2 a3 a4).heap.size = w.heap.size := by
  unfold set5
  simp
theorem set5_below {w W : World} {base B : Nat} (a0 a1 a2 a3 a4 : Value) (hb : Below base w W) (hB : base ≤ B) : Below base w (set5 W B a0 a1 a2 a3 a4) :=
  ((((hb.setCell (p := ⟨B, 0, none⟩) hB _).setCell (p := ⟨B, 1, none⟩) hB _).setCell (p := ⟨B, 2, none⟩) hB _).setCell (p := ⟨B, 3, none⟩) hB _).setCell (p := ⟨B, 4, none⟩) hB _
theorem set5_cells {w : World} {B : Nat} {x0 x1 x2 x3 x4 a0 a1 a2 a3 a4 : Value} {ty : TypeId} (r : w.heap[B]? = some (.cells #[x0, x1, x2, x3, x4] ty (0, 0))) :
    (set5 w B a0 a1 a2 a3 a4).cell? ⟨B, 0, none⟩ = some a0 ∧ (set5 w B a0 a1 a2 a3 a4).cell? ⟨B, 1, none⟩ = some a1 ∧ (set5 w B a0 a1 a2 a3 a4).cell? ⟨B, 2, none⟩ = some a2 ∧ (set5 w B a0 a1 a2 a3 a4).cell? ⟨B, 3, none⟩ = some a3 ∧ (set5 w B a0 a1 a2 a3 a4).cell? ⟨B, 4, none⟩ = some a4 := by
  have h := set5_block (a0 := a0) (a1 := a1) (a2 := a2) (a3 := a3) (a4 := a4) r
  refine ⟨?_, ?_, ?_, ?_, ?_⟩ <;> (rw [cell_of_row _ _ _ _ _ _ h]; rfl)
/-- A row of structs in block B stays, if all of the cells that hold ints stay. -/
theorem Fl.one {w w' : World} {v : Value} {n k B : Nat} {zs : List Int} (h : Fl w v n k zs) (hs : w.heap.size ≤ w'.heap.size) (ho : ∀ b, b ≠ B → b < w.heap.size → w'.heap[b]? = w.heap[b]?) (hB : ∀ (b o j : Nat), b = B → j < n * k → w.cell? ⟨b, o + j, none⟩ = some (.int .i64 (at_ zs j)) → (∀ i, i < n * k → w.cell? ⟨b, o + i, none⟩ = some (.int .i64 (at_ zs i))) → w'.cell? ⟨b, o + j, none⟩ = some (.int .i64 (at_ zs j))) : Fl w' v n k zs := by
  obtain ⟨h0, hg, a, cap, rfl, h1, h2, h3⟩ := h
  refine ⟨h0, hg, a, cap, rfl, h1, h2, ?_⟩
  rcases h3 with h3 | ⟨b, off, rfl, hlt, hc⟩
  · exact .inl h3
  · refine .inr ⟨b, off, rfl, Nat.lt_of_lt_of_le hlt hs, fun j hj => ?_⟩
    by_cases e : b = B
    · exact hB b off j e hj (hc j hj) hc
    · have := ho b e hlt
      rw [← hc j hj]
      unfold World.cell?
      rw [this]
theorem Spans.set5 {w : World} {B : Nat} {x0 x1 x2 x3 x4 a0 a1 a2 a3 a4 v : Value} {ty : TypeId} {S : List Sp} (h : Spans w v S) (r : w.heap[B]? = some (.cells #[x0, x1, x2, x3, x4] ty (0, 0))) (n2 : ∀ z, x2 ≠ .int .i64 z) (n3 : ∀ z, x3 ≠ .int .i64 z) (n4 : ∀ z, x4 ≠ .int .i64 z) : Spans (set5 w B a0 a1 a2 a3 a4) v S := by
  refine Fl.one (B := B) h (by rw [set5_size]; exact Nat.le_refl _) (fun b e _ => set5_other w a0 a1 a2 a3 a4 e) (fun b o j e hj h1 h2 => ?_)
  exfalso
  subst e
  have hn : 3 ≤ S.length * 3 := by omega
  -- one of the cells off, off + 1, off + 2 holds no int
  have q0 := h2 0 (by omega)
  have q1 := h2 1 (by omega)
  have q2 := h2 2 (by omega)
  rw [cell_of_row _ _ _ _ _ _ r] at q0 q1 q2
  rcases o with _ | _ | _ | _ | _ | o
  · exact n2 _ (Option.some.inj q2)
  · exact n2 _ (Option.some.inj q1)
  · exact n2 _ (Option.some.inj q0)
  · exact n3 _ (Option.some.inj q0)
  · exact n4 _ (Option.some.inj q0)
  · simp at q0
theorem Sites.set5 {w : World} {B : Nat} {x2 x3 x4 a0 a1 a2 a3 a4 v : Value} {ty : TypeId} {T : List St} (h : Sites w v T) (hp : ∀ s ∈ T, 0 < s.m) (r : w.heap[B]? = some (.cells #[.int .i64 0, .int .i64 0, x2, x3, x4] ty (0, 0))) (n2 : ∀ z, x2 ≠ .int .i64 z) (n3 : ∀ z, x3 ≠ .int .i64 z) (n4 : ∀ z, x4 ≠ .int .i64 z) : Sites (set5 w B a0 a1 a2 a3 a4) v T := by
  refine Fl.one (B := B) h (by rw [set5_size]; exact Nat.le_refl _) (fun b e _ => set5_other w a0 a1 a2 a3 a4 e) (fun b o j e hj h1 h2 => ?_)
  exfalso
  subst e
  have hT : 0 < T.length := by omega
  have q0 := h2 0 (by omega)
  have q1 := h2 1 (by omega)
  have m0 := (fl2_at T 0 hT).1
  have hm := hp (st T 0) (by rw [st_get hT]; exact List.getElem_mem hT)
  rw [Nat.zero_mul] at m0
  rw [m0] at q0
  rw [cell_of_row _ _ _ _ _ _ r] at q0 q1
  rcases o with _ | _ | _ | _ | _ | o
  · have e := Option.some.inj q0
    injection e with _ e
    omega
  · exact n2 _ (Option.some.inj q1)
  · exact n2 _ (Option.some.inj q0)
  · exact n3 _ (Option.some.inj q0)
  · exact n4 _ (Option.some.inj q0)
  · simp at q0
theorem rope_kept {w w' : World} {B : Nat} {cs : Array Value} {ty : TypeId} {L : Bytes} {v : Value} (h : IsRope w L v) (r : w.heap[B]? = some (.cells cs ty (0, 0))) (hty : ty ≠ 169) (ho : ∀ b, b ≠ B → w'.heap[b]? = w.heap[b]?) (hs : w.heap.size ≤ w'.heap.size) : IsRope w' L v := by
  obtain ⟨t, h1, h2, h3⟩ := h
  refine ⟨t, Con.Rp.same (fun b hb => ho b fun e => ?_) hs h1, h2, h3⟩
  obtain ⟨cs', h'⟩ := hb
  subst e
  rw [r] at h'
  injection h' with h'
  injection h' with _ q
  exact hty q
theorem ptr_ni (q : Option Addr) : ∀ z, Value.pointer q ≠ .int .i64 z := fun z h => by cases h
theorem sl_ni (a : Option Addr) (n c : Nat) : ∀ z, Value.slice a n c ≠ .int .i64 z := fun z h => by cases h
def ZSeg (w : World) (B : Nat) : Prop := w.heap[B]? = some (.cells #[.int .i64 0, .int .i64 0, .pointer none, .slice none 0 0, .slice none 0 0] 119 (0, 0))
theorem ZSeg.below {w w' : World} {B b : Nat} (h : ZSeg w B) (hb : Below b w w') (hB : B < b) : ZSeg w' B := (hb.block B hB).trans h
/-- A segment is stored as the result. -/
theorem give_sg {w W : World} {B : Nat} {i l : Int} {L : Bytes} {S : List Sp} {T : List St} {q sa ta : Option Addr} {n1 n2 sc tc : Nat} (hB : w.heap.size ≤ B) (z : ZSeg W B) (h1 : IsRope W L (.pointer q)) (h2 : Spans W (.slice sa n1 sc) S) (h3 : Sites W (.slice ta n2 tc) T) (hp : ∀ s ∈ T, 0 < s.m) (hb : Below w.heap.size w W) :
    Sg (set5 W B (.int .i64 i) (.int .i64 l) (.pointer q) (.slice sa n1 sc) (.slice ta n2 tc)) (.agg #[.int .i64 i, .int .i64 l, .pointer q, .slice sa n1 sc, .slice ta n2 tc]) i l L S T ∧ Below w.heap.size w (set5 W B (.int .i64 i) (.int .i64 l) (.pointer q) (.slice sa n1 sc) (.slice ta n2 tc)) :=
  ⟨⟨_, _, _, rfl, rope_kept h1 z (by decide) (fun b e => set5_other _ _ _ _ _ _ e) (by rw [set5_size]; exact Nat.le_refl _), Spans.set5 h2 z (ptr_ni _) (sl_ni _ _ _) (sl_ni _ _ _), Sites.set5 h3 hp z (ptr_ni _) (sl_ni _ _ _) (sl_ni _ _ _)⟩, set5_below _ _ _ _ _ hb hB⟩
theorem zseg_cells {W : World} {B : Nat} (z : ZSeg W B) : W.cell? ⟨B, 0, none⟩ = some (.int .i64 0) ∧ W.cell? ⟨B, 1, none⟩ = some (.int .i64 0) ∧ W.cell? ⟨B, 2, none⟩ = some (.pointer none) ∧ W.cell? ⟨B, 3, none⟩ = some (.slice none 0 0) ∧ W.cell? ⟨B, 4, none⟩ = some (.slice none 0 0) ∧ W.frozen? ⟨B, 0, none⟩ = false ∧ W.frozen? ⟨B, 1, none⟩ = false ∧ W.frozen? ⟨B, 2, none⟩ = false ∧ W.frozen? ⟨B, 3, none⟩ = false ∧ W.frozen? ⟨B, 4, none⟩ = false := by
  refine ⟨?_, ?_, ?_, ?_, ?_, block_frozen z, block_frozen z, block_frozen z, block_frozen z, block_frozen z⟩ <;> (rw [cell_of_row _ _ _ _ _ _ z]; rfl)

theorem two_cells {w : World} {B : Nat} {x y : Value} {ty : TypeId} (z : w.heap[B]? = some (.cells #[x, y] ty (0, 0))) : w.cell? ⟨B, 0, none⟩ = some x ∧ w.cell? ⟨B, 1, none⟩ = some y ∧ w.frozen? ⟨B, 0, none⟩ = false ∧ w.frozen? ⟨B, 1, none⟩ = false := by
  refine ⟨?_, ?_, block_frozen z, block_frozen z⟩ <;> (rw [cell_of_row _ _ _ _ _ _ z]; rfl)
/-- Below, from behind the box. -/
theorem below_box {w W0 w' : World} (b0 : Below w.heap.size w W0) (hb : Below (w.heap.size + 1) W0 w') : Below w.heap.size w w' := b0.trans (hb.mono (Nat.le_succ _))
theorem below_call {W0 w1 w2 : World} {B : Nat} (h : Below B W0 w1) (hB : B ≤ W0.heap.size) (h2 : Below w1.heap.size w1 w2) : Below B W0 w2 := h.trans (h2.mono (Nat.le_trans hB h.size))
theorem below_put {W0 w1 : World} {B C j : Nat} (h : Below B W0 w1) (hC : B ≤ C) (u : Value) : Below B W0 (w1.setCell ⟨C, j, none⟩ u) := h.setCell (p := ⟨C, j, none⟩) hC u
theorem two_put {w : World} {B : Nat} {x y u v : Value} {ty : TypeId} (z : w.heap[B]? = some (.cells #[x, y] ty (0, 0))) : ((w.setCell ⟨B, 0, none⟩ u).setCell ⟨B, 1, none⟩ v).heap[B]? = some (.cells #[u, v] ty (0, 0)) := set_block (i := 1) (u := v) (set_block (i := 0) (u := u) z)
theorem Fl.two {w : World} {v x y u1 u2 : Value} {n k B : Nat} {zs : List Int} {ty : TypeId} (h : Fl w v n k zs) (z : w.heap[B]? = some (.cells #[x, y] ty (0, 0))) (n1 : ∀ z, x ≠ .int .i64 z) (n2 : ∀ z, y ≠ .int .i64 z) : Fl ((w.setCell ⟨B, 0, none⟩ u1).setCell ⟨B, 1, none⟩ u2) v n k zs := by
  refine Fl.one (B := B) h (by simp) (fun b e _ => by rw [Below.heap_setCell _ _ _ _ e, Below.heap_setCell _ _ _ _ e]) (fun b o j e hj h1 h2 => ?_)
  exfalso
  subst e
  rw [cell_of_row _ _ _ _ _ _ z] at h1
  generalize o + j = i at h1
  rcases i with _ | _ | i
  · exact n1 _ (Option.some.inj h1)
  · exact n2 _ (Option.some.inj h1)
  · simp at h1
theorem give_m {w W : World} {B : Nat} {S : List Sp} {T : List St} {a1 a2 x1 x2 : Option Addr} {n1 c1 n2 c2 m1 d1 m2 d2 : Nat} {ty : TypeId} (hB : w.heap.size ≤ B) (z : W.heap[B]? = some (.cells #[.slice x1 m1 d1, .slice x2 m2 d2] ty (0, 0))) (h1 : Spans W (.slice a1 n1 c1) S) (h2 : Sites W (.slice a2 n2 c2) T) (hb : Below w.heap.size w W) :
    GivesM w S T (.returned (.agg #[.slice a1 n1 c1, .slice a2 n2 c2])) ((W.setCell ⟨B, 0, none⟩ (.slice a1 n1 c1)).setCell ⟨B, 1, none⟩ (.slice a2 n2 c2)) :=
  ⟨_, _, rfl, Fl.two h1 z (sl_ni _ _ _) (sl_ni _ _ _), Fl.two h2 z (sl_ni _ _ _) (sl_ni _ _ _), below_put (below_put hb hB _) hB _⟩

set_option maxHeartbeats 2000000 in
theorem clone_any {sv tv : Value} {S : List Sp} {T : List St} (w : World) (hS : Spans w sv S) (hT : Sites w tv T) (l1 : S.length ≤ 100000) (l2 : T.length ≤ 100000) :
    Calls Tryz.prog 86 #[.agg #[sv, tv]] w (GivesM w S T) := by
  obtain ⟨W0, hW0⟩ : ∃ W0, W0 = (w.alloc (.cells #[sv, tv] 117)).alloc (.cells #[.slice none 0 0, .slice none 0 0] 117) := ⟨_, rfl⟩
  have b0 : Below w.heap.size w W0 := by rw [hW0]; exact ((Below.refl _ _).alloc (Nat.le_refl _) _).alloc (by simp) _
  have r0 : W0.heap[w.heap.size]? = some (.cells #[sv, tv] 117 (0, 0)) := by rw [hW0]; simp only [alloc_at, World.size_alloc]; repeat (first | rw [if_pos (by first | trivial | omega)] | rw [if_neg (by omega)])
  have r1 : W0.heap[w.heap.size + 1]? = some (.cells #[.slice none 0 0, .slice none 0 0] 117 (0, 0)) := by rw [hW0]; simp only [alloc_at, World.size_alloc]; repeat (first | rw [if_pos (by first | trivial | omega)] | rw [if_neg (by omega)])
  have l0 : W0.heap.size = w.heap.size + 1 + 1 := by rw [hW0]; simp
  have CS : Hid (∀ w', Below (w.heap.size + 1) W0 w' → Calls Tryz.prog 103 #[sv] w' (GiveSp w' S)) := fun w' hb => csp_any w' (hS.below (below_box b0 hb) (Nat.le_refl _)) l1
  have CT : Hid (∀ w', Below (w.heap.size + 1) W0 w' → Calls Tryz.prog 104 #[tv] w' (GiveSt w' T)) := fun w' hb => cst_any w' (hT.below (below_box b0 hb) (Nat.le_refl _)) l2
  obtain ⟨sa, sc, rfl⟩ := hS.is_slice
  obtain ⟨ta, tc, rfl⟩ := hT.is_slice
  generalize S.length = ls at *
  generalize T.length = lt at *
  have BX : Hid (∀ w', Below (w.heap.size + 1) W0 w' → Below (w.heap.size + 1) W0 w' ∧ w'.cell? ⟨w.heap.size, 0, none⟩ = some (.slice sa ls sc) ∧ w'.cell? ⟨w.heap.size, 1, none⟩ = some (.slice ta lt tc)) := fun w' hb => by
    have q0 : w'.heap[w.heap.size]? = _ := (hb.block _ (by omega)).trans r0
    exact ⟨hb, by rw [cell_of_row _ _ _ _ _ _ q0]; rfl, by rw [cell_of_row _ _ _ _ _ _ q0]; rfl⟩
  have BR : Hid (∀ w', Below W0.heap.size W0 w' → w'.heap[w.heap.size + 1]? = some (.cells #[.slice none 0 0, .slice none 0 0] 117 (0, 0))) := fun w' hb => (hb.block _ (by omega)).trans r1
  have BL : Hid (w.heap.size + 1 ≤ W0.heap.size) := by show _ ≤ _; omega
  have HW0 := Lib.hid hW0
  have B0 := Lib.hid b0
  have HR := Lib.hid (Below.refl W0.heap.size W0)
  have HR1 := Lib.hid (Below.refl (w.heap.size + 1) W0)
  clear hS hT b0 r0 r1 hW0 l0
  go_enter Tryz.func86, Tryz.ntmps86
  go_upto_region 1 with fail
  rw [← HW0.out]
  go_region_held3 (fun w' => Below (w.heap.size + 1) W0 w' ∧ w'.cell? ⟨w.heap.size, 0, none⟩ = some (.slice sa ls sc) ∧ w'.cell? ⟨w.heap.size, 1, none⟩ = some (.slice ta lt tc))
    ((refine BX.out _ ?_; focus ((repeat first | assumption | exact HR1.out | apply Below.drew | apply below_drews | (refine below_put ?_ (Nat.le_refl _) _)); done)))
    (first
      | (go_at_call 103; (with_reducible refine (CS.out _ ?_).mono ?_); (focus ((repeat first | assumption | exact HR1.out | apply Below.drew | apply below_drews); done)); rintro e w1 ⟨v1, rfl, o1, b1⟩; obtain ⟨a1, c1, rfl⟩ := o1.is_slice; have e1 := below_more (B := W0.heap.size) (w := W0) (by (repeat first | assumption | exact HR.out | apply Below.drew | apply below_drews)) b1; have d1 := fun h => below_call (W0 := W0) (B := w.heap.size + 1) h BL.out b1; replace d1 := d1 (by (repeat first | assumption | exact HR1.out | apply Below.drew | apply below_drews)))
      | (go_at_call 104; (with_reducible refine (CT.out _ ?_).mono ?_); (focus ((repeat first | assumption | exact HR1.out | apply Below.drew | apply below_drews); done)); rintro e w2 ⟨v2, rfl, o2, b2⟩; obtain ⟨a2, c2, rfl⟩ := o2.is_slice; have e2 := below_more (B := W0.heap.size) (w := W0) (by (repeat first | assumption | exact HR.out | apply Below.drew | apply below_drews)) b2; have d2 := fun h => below_call (W0 := W0) (B := w.heap.size + 1) h BL.out b2; replace d2 := d2 (by (repeat first | assumption | exact HR1.out | apply Below.drew | apply below_drews)); have z := BR.out _ e2; obtain ⟨u0, u1, f0, f1⟩ := two_cells z))
  have FIN := Lib.hid (give_m (w := w) (Nat.le_add_right _ 1) z (o1.below b2 (Nat.le_refl _)) o2 (below_box B0.out d2))
  obtain ⟨y0, y1, _, _⟩ := two_cells (two_put (u := .slice a1 S.length c1) (v := .slice a2 T.length c2) z)
  generalize S.length = ls at *
  generalize T.length = lt at *
  clear o1 o2 b1 b2
  go_wp2_with fail
  exact bodyPost_ret (v := .agg #[.slice a1 ls c1, .slice a2 lt c2]) (by simp [results, Tryz.results86, go_sem, y0, y1]) rfl FIN.out
end Go.Proofs.YtccaiippoephbaaGreatDoor.Seg
/- Segments: New, Id, Label, Rope, fits, place, stretch. -/
set_option linter.unusedVariables false
set_option maxRecDepth 100000
namespace Go.Proofs.YtccaiippoephbaaGreatDoor.Seg
open Go.RowKit Go.Lib Go.Proofs.YtccaiippoephbaaGreatDoor.Rt Go.Proofs.YtccaiippoephbaaGreatDoor.Rig

theorem five_cells {w : World} {B : Nat} {x0 x1 x2 x3 x4 : Value} {ty : TypeId} (z : w.heap[B]? = some (.cells #[x0, x1, x2, x3, x4] ty (0, 0))) : w.cell? ⟨B, 0, none⟩ = some x0 ∧ w.cell? ⟨B, 1, none⟩ = some x1 ∧ w.cell? ⟨B, 2, none⟩ = some x2 ∧ w.cell? ⟨B, 3, none⟩ = some x3 ∧ w.cell? ⟨B, 4, none⟩ = some x4 := by
  refine ⟨?_, ?_, ?_, ?_, ?_⟩ <;> (rw [cell_of_row _ _ _ _ _ _ z]; rfl)
theorem box1 (w : World) (cs : Array Value) (ty : TypeId) : Below w.heap.size w (w.alloc (.cells cs ty)) ∧ (w.alloc (.cells cs ty)).heap[w.heap.size]? = some (.cells cs ty (0, 0)) ∧ (w.alloc (.cells cs ty)).heap.size = w.heap.size + 1 :=
  ⟨(Below.refl _ _).alloc (Nat.le_refl _) _, heap_alloc_new _ _, by simp⟩
theorem box2 (w : World) (cs zs : Array Value) (ty tz : TypeId) : Below w.heap.size w ((w.alloc (.cells cs ty)).alloc (.cells zs tz)) ∧ ((w.alloc (.cells cs ty)).alloc (.cells zs tz)).heap[w.heap.size]? = some (.cells cs ty (0, 0)) ∧ ((w.alloc (.cells cs ty)).alloc (.cells zs tz)).heap[w.heap.size + 1]? = some (.cells zs tz (0, 0)) ∧ ((w.alloc (.cells cs ty)).alloc (.cells zs tz)).heap.size = w.heap.size + 1 + 1 := by
  refine ⟨((Below.refl _ _).alloc (Nat.le_refl _) _).alloc (by simp) _, ?_, ?_, by simp⟩ <;> (simp only [alloc_at, World.size_alloc]; repeat (first | rw [if_pos (by first | trivial | omega)] | rw [if_neg (by omega)]))

set_option maxHeartbeats 2000000 in
theorem id_any {v : Value} {i l : Int} {L : Bytes} {S : List Sp} {T : List St} (w : World) (h : Sg w v i l L S T) : Calls Tryz.prog 87 #[v] w fun e w' => e = .returned (.int .i64 i) ∧ Below w.heap.size w w' := by
  obtain ⟨q, sa, sc, ta, tc, rfl, _, _, _⟩ := h.open_
  generalize S.length = ls at *
  generalize T.length = lt at *
  clear h
  have FIN := Lib.hid (box1 w #[.int .i64 i, .int .i64 l, .pointer q, .slice sa ls sc, .slice ta lt tc] 119).1
  go_enter Tryz.func87, Tryz.ntmps87
  go_wp2_with fail
  go_ret
  exact ⟨rfl, FIN.out⟩
theorem rlen_is {x : Bytes} {v : Value} (w : World) (h : IsRope w x v) : Calls Tryz.prog 85 #[v] w fun e w' => e = .returned (.int .i64 (Let.cnt x)) ∧ w = w' := by
  obtain ⟨t, h1, h2, h3, h4⟩ := Con.IsRope.by h
  have := Con.len_any w h1
  rw [Tree.T.cn_txtn h2, h3] at this
  exact this
end Go.Proofs.YtccaiippoephbaaGreatDoor.Seg
/- Segments: stretch, put, Insert. -/
set_option linter.unusedVariables false
set_option maxRecDepth 100000
namespace Go.Proofs.YtccaiippoephbaaGreatDoor.Seg
open Go.RowKit Go.Lib Go.Proofs.YtccaiippoephbaaGreatDoor.Rt Go.Proofs.YtccaiippoephbaaGreatDoor.Rig

theorem RT_pos {T : List St} {n : Int} (h : RT n T) : ∀ s ∈ T, 0 < s.m := fun s hs => (h.2 s hs).1
theorem rope_put {w : World} {B j : Nat} {cs : Array Value} {ty : TypeId} {L : Bytes} {v u : Value} (h : IsRope w L v) (r : w.heap[B]? = some (.cells cs ty (0, 0))) (hty : ty ≠ 169) : IsRope (w.setCell ⟨B, j, none⟩ u) L v :=
  rope_kept h r hty (fun b e => Below.heap_setCell _ _ _ _ e) (by simp)

end Go.Proofs.YtccaiippoephbaaGreatDoor.Seg
/- Segments: Insert; the law's own of and text. -/
set_option linter.unusedVariables false
set_option maxRecDepth 100000
namespace Go.Proofs.YtccaiippoephbaaGreatDoor.Seg
open Go.RowKit Go.Lib Go.Proofs.YtccaiippoephbaaGreatDoor.Rt Go.Proofs.YtccaiippoephbaaGreatDoor.Rig

def GiveIns (w : World) (ok : Bool) (i l : Int) (L : Bytes) (S : List Sp) (T : List St) (e : Ending) (w' : World) : Prop := ∃ v, e = .returned (.tuple #[v, .bool ok]) ∧ Sg w' v i l L S T ∧ Below w.heap.size w w'

end Go.Proofs.YtccaiippoephbaaGreatDoor.Seg
/- Segments: what is kept around a result's block; Plain, Load. -/
set_option linter.unusedVariables false
set_option maxRecDepth 100000
namespace Go.Proofs.YtccaiippoephbaaGreatDoor.Seg
open Go.RowKit Go.Lib Go.Proofs.YtccaiippoephbaaGreatDoor.Rt Go.Proofs.YtccaiippoephbaaGreatDoor.Rig

/-- All blocks of W but those in R are as they were. -/
structure Kp (R : Nat → Prop) (W w' : World) : Prop where
  b0 : Below 0 W w'
  blk : ∀ k, k < W.heap.size → ¬ R k → w'.heap[k]? = W.heap[k]?
theorem Kp.refl (R : Nat → Prop) (W : World) : Kp R W W := ⟨Below.refl _ _, fun _ _ _ => rfl⟩
theorem Kp.call {R : Nat → Prop} {W w1 w2 : World} (h : Kp R W w1) (h2 : Below w1.heap.size w1 w2) : Kp R W w2 :=
  ⟨h.b0.trans (h2.mono (Nat.zero_le _)), fun k hk hR => (h2.block k (Nat.lt_of_lt_of_le hk h.b0.size)).trans (h.blk k hk hR)⟩
theorem Kp.put {R : Nat → Prop} {W w1 : World} {B j : Nat} (h : Kp R W w1) (hB : R B) (u : Value) : Kp R W (w1.setCell ⟨B, j, none⟩ u) :=
  ⟨h.b0.setCell (p := ⟨B, j, none⟩) (Nat.zero_le _) u, fun k hk hR => (Below.heap_setCell _ _ _ _ (fun e => hR (by rw [e]; exact hB))).trans (h.blk k hk hR)⟩
theorem Kp.putR {W w1 : World} {B j : Nat} {u : Value} (h : Kp (fun k => k = B) W w1) : Kp (fun k => k = B) W (w1.setCell ⟨B, j, none⟩ u) := h.put rfl u
theorem Kp.alloc {R : Nat → Prop} {W w1 : World} (h : Kp R W w1) (o : Obj) : Kp R W (w1.alloc o) := h.call ((Below.refl _ _).alloc (Nat.le_refl _) _)
theorem Kp.drew {R : Nat → Prop} {W w1 : World} (h : Kp R W w1) : Kp R W w1.drew := ⟨h.b0.drew, h.blk⟩
theorem Kp.drews {R : Nat → Prop} {W w1 : World} (h : Kp R W w1) (n : Nat) : Kp R W (w1.drewN n) := ⟨below_drews h.b0 n, h.blk⟩
theorem Kp.below {R : Nat → Prop} {base : Nat} {w W w' : World} (h : Kp R W w') (hb : Below base w W) (hR : ∀ k, k < base → ¬ R k) (hs : base ≤ W.heap.size) : Below base w w' :=
  ⟨h.b0.os.trans hb.os, h.b0.tape.trans hb.tape, h.b0.output.trans hb.output, Nat.le_trans hb.size h.b0.size, fun k hk => (h.blk k (Nat.lt_of_lt_of_le hk hs) (hR k hk)).trans (hb.block k hk)⟩
theorem Kp.row {R : Nat → Prop} {W w' : World} {k : Nat} {x : Obj} (h : Kp R W w') (r : W.heap[k]? = some x) (hR : ¬ R k) : w'.heap[k]? = some x :=
  (h.blk k (Array.getElem?_eq_some_iff.1 r).1 hR).trans r
theorem mright_of {S : List Sp} {T : List St} {n : Int} (h : mrightB S T n = true) : RS 0 0 n S ∧ RT n T := mright_iff.1 h

end Go.Proofs.YtccaiippoephbaaGreatDoor.Seg
/- Segments: Load. -/
set_option linter.unusedVariables false
set_option maxRecDepth 100000
namespace Go.Proofs.YtccaiippoephbaaGreatDoor.Seg
open Go.RowKit Go.Lib Go.Proofs.YtccaiippoephbaaGreatDoor.Rt Go.Proofs.YtccaiippoephbaaGreatDoor.Rig

theorem new_is (L : Bytes) (w : World) (hl : L.length ≤ 1073741824) (hr : Let.right L = true) (hT : Con.Tabs w) : Calls Tryz.prog 83 #[.string (Let.mk L)] w fun e w' => ∃ q, e = .returned (.tuple #[.pointer q, .bool true]) ∧ IsRope w' L (.pointer q) ∧ Below w.heap.size w w' := by
  have := Con.new_yes (Let.mk L) w (by rw [Let.mk_size]; exact hl) (by rw [Let.mk_data]; exact hr) hT
  rw [Let.mk_data] at this
  refine this.mono ?_
  rintro e w' ⟨v, rfl, h1, h2⟩
  obtain ⟨q, rfl⟩ := rope_ptr h1
  exact ⟨q, rfl, h1, h2⟩
theorem new_isnt (L : Bytes) (w : World) (hl : L.length ≤ 1073741824) (hr : Let.right L = false) (hT : Con.Tabs w) : Calls Tryz.prog 83 #[.string (Let.mk L)] w fun e w' => e = .returned (.tuple #[.pointer none, .bool false]) ∧ Below w.heap.size w w' :=
  Con.new_no (Let.mk L) w (by rw [Let.mk_size]; exact hl) (by rw [Let.mk_data]; exact hr) hT

set_option maxHeartbeats 1600000 in
theorem load_yes {v : Value} {i l : Int} {L : Bytes} {S : List Sp} {T : List St} (w : World) (h : Pl w v i l L S T) (hr : Let.right L = true) (hm : mrightB S T (Let.cnt L) = true) (b1 : L.length ≤ 10000) (l1 : S.length ≤ 100000) (l2 : T.length ≤ 100000) (hTb : Con.Tabs w) :
    Calls Tryz.prog 61 #[v] w (GiveIns w true i l L S T) := by
  obtain ⟨sa, sc, ta, tc, rfl, hS, hT⟩ := h.open_
  have CN : Hid (∀ w', Below w.heap.size w w' → Calls Tryz.prog 83 #[.string (Let.mk L)] w' fun e w'' => ∃ q, e = .returned (.tuple #[.pointer q, .bool true]) ∧ IsRope w'' L (.pointer q) ∧ Below w'.heap.size w' w'') := fun w' hb => new_is L w' (by omega) hr (hTb.below hb)
  have CR : Hid (∀ w', Below w.heap.size w w' → Calls Tryz.prog 84 #[.agg #[.slice sa S.length sc, .slice ta T.length tc], .int .i64 (Let.cnt L)] w' fun e w'' => e = .returned (.bool true) ∧ Below w'.heap.size w' w'') := fun w' hb => by
    have := mkright_any (Let.cnt L) w' (hS.below hb (Nat.le_refl _)) (hT.below hb (Nat.le_refl _)) (by have := Let.cnt_len L; exact ⟨by omega, by omega⟩)
    rwa [hm] at this
  have CC : Hid (∀ w', Below w.heap.size w w' → Calls Tryz.prog 86 #[.agg #[.slice sa S.length sc, .slice ta T.length tc]] w' (GivesM w' S T)) := fun w' hb => clone_any w' (hS.below hb (Nat.le_refl _)) (hT.below hb (Nat.le_refl _)) l1 l2
  have HP : Hid (∀ s ∈ T, 0 < s.m) := RT_pos (mright_of hm).2
  obtain ⟨ls, hls⟩ : ∃ ls, ls = S.length := ⟨_, rfl⟩
  obtain ⟨lt, hlt⟩ : ∃ lt, lt = T.length := ⟨_, rfl⟩
  simp only [← hls, ← hlt] at CR CC ⊢
  obtain ⟨W0, hW0⟩ : ∃ W0, W0 = (w.alloc (.cells #[.int .i64 i, .int .i64 l, .string (Let.mk L), .slice sa ls sc, .slice ta lt tc] 67)).alloc (.cells #[.int .i64 0, .int .i64 0, .pointer none, .slice none 0 0, .slice none 0 0] 119) := ⟨_, rfl⟩
  obtain ⟨b0, r0, z0, l0⟩ := box2 w #[.int .i64 i, .int .i64 l, .string (Let.mk L), .slice sa ls sc, .slice ta lt tc] #[.int .i64 0, .int .i64 0, .pointer none, .slice none 0 0, .slice none 0 0] 67 119
  rw [← hW0] at b0 r0 z0 l0
  have B0 := Lib.hid b0
  have HW0 := Lib.hid hW0
  have HR0 := Lib.hid r0
  have HZ0 : Hid (ZSeg W0 (w.heap.size + 1)) := z0
  have HL0 : Hid (W0.heap.size = w.heap.size + 1 + 1) := l0
  clear h hS hT b0 r0 z0 l0 hW0 b1 hr hm hTb hls hlt l1 l2
  obtain ⟨c0, c1, c2, c3, c4⟩ := five_cells HR0.out
  go_enter Tryz.func61, Tryz.ntmps61
  go_upto_region 1 with fail
  rw [← HW0.out]
  go_wp2_with fail
  refine (CN.out _ B0.out).mono ?_
  rintro e w1 ⟨q, rfl, hn, hb1⟩
  clear c0 c1 c2 c3 c4
  have hw1 : Below W0.heap.size W0 w1 := hb1
  have HR1 : Hid (w1.heap[w.heap.size]? = some (.cells #[.int .i64 i, .int .i64 l, .string (Let.mk L), .slice sa ls sc, .slice ta lt tc] 67 (0, 0))) := (hb1.block _ (by have := HL0.out; omega)).trans HR0.out
  obtain ⟨c0, c1, c2, c3, c4⟩ := five_cells HR1.out
  obtain ⟨W1, hW1⟩ : ∃ W1, W1 = w1.alloc (.cells #[.slice sa ls sc, .slice ta lt tc] 117) := ⟨_, rfl⟩
  obtain ⟨b2, r2, l2'⟩ := box1 w1 #[.slice sa ls sc, .slice ta lt tc] 117
  rw [← hW1] at b2 r2 l2'
  have s1 : W0.heap.size ≤ w1.heap.size := hb1.size
  have BA := below_more B0.out hb1
  have B1 := Lib.hid (below_more BA b2)
  have RB : W1.heap[w.heap.size]? = some (.cells #[.int .i64 i, .int .i64 l, .string (Let.mk L), .slice sa ls sc, .slice ta lt tc] 67 (0, 0)) := (b2.block _ (by have := HL0.out; omega)).trans HR1.out
  have ZB : ZSeg W1 (w.heap.size + 1) := (HZ0.out.below hb1 (by have := HL0.out; omega)).below b2 (by have := HL0.out; omega)
  have hne : w1.heap.size ≠ w.heap.size + 1 := by have := HL0.out; omega
  have BX : Hid (∀ w', Kp (fun k => k = w.heap.size + 1) W1 w' → Kp (fun k => k = w.heap.size + 1) W1 w' ∧ w'.cell? ⟨w.heap.size, 0, none⟩ = some (.int .i64 i) ∧ w'.cell? ⟨w.heap.size, 1, none⟩ = some (.int .i64 l) ∧ w'.cell? ⟨w1.heap.size, 0, none⟩ = some (.slice sa ls sc) ∧ w'.cell? ⟨w1.heap.size, 1, none⟩ = some (.slice ta lt tc)) := fun w' hk => by
    obtain ⟨x0, x1, x2, _⟩ := five_cells (hk.row RB (by omega))
    obtain ⟨x3, x4, _⟩ := two_cells (hk.row r2 hne)
    exact ⟨hk, x0, x1, x3, x4⟩
  have BZ : Hid (∀ w', Below W1.heap.size W1 w' → ZSeg w' (w.heap.size + 1)) := fun w' hb => ZSeg.below ZB hb (row_lt ZB)
  have KB : Hid (∀ w', Kp (fun k => k = w.heap.size + 1) W1 w' → Below w.heap.size w w') := fun w' hk => hk.below B1.out (fun k hk' => by omega) (by have := HL0.out; omega)
  have HW1 := Lib.hid hW1
  have KR := Lib.hid (Kp.refl (fun k => k = w.heap.size + 1) W1)
  have KB1 := Lib.hid (Below.refl W1.heap.size W1)
  have CL : Hid (∀ w', Below W1.heap.size W1 w' → Calls Tryz.prog 85 #[.pointer q] w' fun e w'' => e = .returned (.int .i64 (Let.cnt L)) ∧ w' = w'') := fun w' hb => rlen_is w' (hn.below (below_more b2 hb) (Nat.le_refl _))
  have HN : Hid (∀ w', Below W1.heap.size W1 w' → IsRope w' L (.pointer q)) := fun w' hb => hn.below (below_more b2 hb) (Nat.le_refl _)
  clear hW1 hn hb1 b2 r2 l2' s1 BA RB ZB CN HR0 HZ0 HL0 hne B0 hw1 HR1
  go_upto_region 3 with fail
  rw [← HW1.out]
  obtain ⟨_, c0, c1, c3, c4⟩ := BX.out W1 KR.out
  go_region_held3 (fun w' => Kp (fun k => k = w.heap.size + 1) W1 w' ∧ w'.cell? ⟨w.heap.size, 0, none⟩ = some (.int .i64 i) ∧ w'.cell? ⟨w.heap.size, 1, none⟩ = some (.int .i64 l) ∧ w'.cell? ⟨w1.heap.size, 0, none⟩ = some (.slice sa ls sc) ∧ w'.cell? ⟨w1.heap.size, 1, none⟩ = some (.slice ta lt tc))
    ((refine BX.out _ ?_; focus ((repeat first | assumption | exact KR.out | apply Kp.drew | apply Kp.drews | apply Kp.putR); done)))
    (first
      | (go_at_call 85; (with_reducible refine (CL.out _ ?_).mono ?_); (focus ((repeat first | assumption | exact KB1.out | apply Below.drew | apply below_drews); done)); rintro e w2 ⟨rfl, rfl⟩)
      | (go_at_call 84; (with_reducible refine (CR.out _ (KB.out _ ?_)).mono ?_); (focus ((repeat first | assumption | exact KR.out | apply Kp.drew | apply Kp.drews | apply Kp.putR); done)); rintro e w3 ⟨rfl, b3⟩; have m3 := below_more (B := W1.heap.size) (w := W1) (by (repeat first | assumption | exact KB1.out | apply Below.drew | apply below_drews)) b3; have k3 := fun h => Kp.call (R := fun k => k = w.heap.size + 1) (W := W1) h b3; replace k3 := k3 (by (repeat first | assumption | exact KR.out | apply Kp.drew | apply Kp.drews | apply Kp.putR))))
  clear b3 c0 c1 c3 c4
  obtain ⟨_, c0, c1, c3, c4⟩ := BX.out w3 k3
  go_upto_region 5 with fail
  go_region_held3 (fun w' => Kp (fun k => k = w.heap.size + 1) W1 w' ∧ w'.cell? ⟨w.heap.size, 0, none⟩ = some (.int .i64 i) ∧ w'.cell? ⟨w.heap.size, 1, none⟩ = some (.int .i64 l) ∧ w'.cell? ⟨w1.heap.size, 0, none⟩ = some (.slice sa ls sc) ∧ w'.cell? ⟨w1.heap.size, 1, none⟩ = some (.slice ta lt tc))
    ((refine BX.out _ ?_; focus ((repeat first | assumption | exact KR.out | apply Kp.drew | apply Kp.drews | apply Kp.putR); done)))
    (first
      | (go_at_call 86; (with_reducible refine (CC.out _ (KB.out _ ?_)).mono ?_); (focus ((repeat first | assumption | exact KR.out | apply Kp.drew | apply Kp.drews | apply Kp.putR); done)); rintro e w4 ⟨v1, v2, rfl, g1, g2, b4⟩; obtain ⟨a1, d1, rfl⟩ := g1.is_slice; obtain ⟨a2, d2, rfl⟩ := g2.is_slice; have m4 := below_more (B := W1.heap.size) (w := W1) (by (repeat first | assumption | exact KB1.out | apply Below.drew | apply below_drews)) b4; have k4 := fun h => Kp.call (R := fun k => k = w.heap.size + 1) (W := W1) h b4; replace k4 := k4 (by (repeat first | assumption | exact KR.out | apply Kp.drew | apply Kp.drews | apply Kp.putR)); have z := BZ.out _ m4; obtain ⟨k0, k1', k2, k3', k4', f0, f1, f2, f3, f4⟩ := zseg_cells z))
  have FIN := Lib.hid (give_sg (w := w) (i := i) (l := l) (Nat.le_add_right _ 1) z (HN.out _ m4) g1 g2 HP.out (KB.out _ k4))
  obtain ⟨y0, y1, y2, y3, y4⟩ := set5_cells (a0 := .int .i64 i) (a1 := .int .i64 l) (a2 := .pointer q) (a3 := .slice a1 S.length d1) (a4 := .slice a2 T.length d2) z
  clear g1 g2 b4
  generalize S.length = n1 at *
  generalize T.length = n2 at *
  go_wp2_with fail
  exact bodyPost_ret (v := .tuple #[.agg #[.int .i64 i, .int .i64 l, .pointer q, .slice a1 n1 d1, .slice a2 n2 d2], .bool true]) (by simp only [set5] at y0 y1 y2 y3 y4; simp [results, Tryz.results61, go_sem, y0, y1, y2, y3, y4]) rfl ⟨_, rfl, FIN.out.1, FIN.out.2⟩

set_option maxHeartbeats 1600000 in
theorem load_no2 {v : Value} {i l : Int} {L : Bytes} {S : List Sp} {T : List St} (w : World) (h : Pl w v i l L S T) (hr : Let.right L = true) (hm : mrightB S T (Let.cnt L) = false) (b1 : L.length ≤ 10000) (l1 : S.length ≤ 100000) (l2 : T.length ≤ 100000) (hTb : Con.Tabs w) :
    Calls Tryz.prog 61 #[v] w (GiveIns w false 0 0 [] [] []) := by
  obtain ⟨sa, sc, ta, tc, rfl, hS, hT⟩ := h.open_
  have CN : Hid (∀ w', Below w.heap.size w w' → Calls Tryz.prog 83 #[.string (Let.mk L)] w' fun e w'' => ∃ q, e = .returned (.tuple #[.pointer q, .bool true]) ∧ IsRope w'' L (.pointer q) ∧ Below w'.heap.size w' w'') := fun w' hb => new_is L w' (by omega) hr (hTb.below hb)
  have CR : Hid (∀ w', Below w.heap.size w w' → Calls Tryz.prog 84 #[.agg #[.slice sa S.length sc, .slice ta T.length tc], .int .i64 (Let.cnt L)] w' fun e w'' => e = .returned (.bool false) ∧ Below w'.heap.size w' w'') := fun w' hb => by
    have := mkright_any (Let.cnt L) w' (hS.below hb (Nat.le_refl _)) (hT.below hb (Nat.le_refl _)) (by have := Let.cnt_len L; exact ⟨by omega, by omega⟩)
    rwa [hm] at this
  obtain ⟨ls, hls⟩ : ∃ ls, ls = S.length := ⟨_, rfl⟩
  obtain ⟨lt, hlt⟩ : ∃ lt, lt = T.length := ⟨_, rfl⟩
  simp only [← hls, ← hlt] at CR ⊢
  obtain ⟨W0, hW0⟩ : ∃ W0, W0 = (w.alloc (.cells #[.int .i64 i, .int .i64 l, .string (Let.mk L), .slice sa ls sc, .slice ta lt tc] 67)).alloc (.cells #[.int .i64 0, .int .i64 0, .pointer none, .slice none 0 0, .slice none 0 0] 119) := ⟨_, rfl⟩
  obtain ⟨b0, r0, z0, l0⟩ := box2 w #[.int .i64 i, .int .i64 l, .string (Let.mk L), .slice sa ls sc, .slice ta lt tc] #[.int .i64 0, .int .i64 0, .pointer none, .slice none 0 0, .slice none 0 0] 67 119
  rw [← hW0] at b0 r0 z0 l0
  have B0 := Lib.hid b0
  have HW0 := Lib.hid hW0
  have HR0 := Lib.hid r0
  have HZ0 : Hid (ZSeg W0 (w.heap.size + 1)) := z0
  have HL0 : Hid (W0.heap.size = w.heap.size + 1 + 1) := l0
  clear h hS hT b0 r0 z0 l0 hW0 b1 hr hm hTb hls hlt l1 l2
  obtain ⟨c0, c1, c2, c3, c4⟩ := five_cells HR0.out
  go_enter Tryz.func61, Tryz.ntmps61
  go_upto_region 1 with fail
  rw [← HW0.out]
  go_wp2_with fail
  refine (CN.out _ B0.out).mono ?_
  rintro e w1 ⟨q, rfl, hn, hb1⟩
  clear c0 c1 c2 c3 c4
  have hw1 : Below W0.heap.size W0 w1 := hb1
  have HR1 : Hid (w1.heap[w.heap.size]? = some (.cells #[.int .i64 i, .int .i64 l, .string (Let.mk L), .slice sa ls sc, .slice ta lt tc] 67 (0, 0))) := (hb1.block _ (by have := HL0.out; omega)).trans HR0.out
  obtain ⟨c0, c1, c2, c3, c4⟩ := five_cells HR1.out
  obtain ⟨W1, hW1⟩ : ∃ W1, W1 = w1.alloc (.cells #[.slice sa ls sc, .slice ta lt tc] 117) := ⟨_, rfl⟩
  obtain ⟨b2, r2, l2'⟩ := box1 w1 #[.slice sa ls sc, .slice ta lt tc] 117
  rw [← hW1] at b2 r2 l2'
  have s1 : W0.heap.size ≤ w1.heap.size := hb1.size
  have BA := below_more B0.out hb1
  have B1 := Lib.hid (below_more BA b2)
  have RB : W1.heap[w.heap.size]? = some (.cells #[.int .i64 i, .int .i64 l, .string (Let.mk L), .slice sa ls sc, .slice ta lt tc] 67 (0, 0)) := (b2.block _ (by have := HL0.out; omega)).trans HR1.out
  have ZB : ZSeg W1 (w.heap.size + 1) := (HZ0.out.below hb1 (by have := HL0.out; omega)).below b2 (by have := HL0.out; omega)
  have hne : w1.heap.size ≠ w.heap.size + 1 := by have := HL0.out; omega
  have BX : Hid (∀ w', Kp (fun k => k = w.heap.size + 1) W1 w' → Kp (fun k => k = w.heap.size + 1) W1 w' ∧ w'.cell? ⟨w.heap.size, 0, none⟩ = some (.int .i64 i) ∧ w'.cell? ⟨w.heap.size, 1, none⟩ = some (.int .i64 l) ∧ w'.cell? ⟨w1.heap.size, 0, none⟩ = some (.slice sa ls sc) ∧ w'.cell? ⟨w1.heap.size, 1, none⟩ = some (.slice ta lt tc)) := fun w' hk => by
    obtain ⟨x0, x1, x2, _⟩ := five_cells (hk.row RB (by omega))
    obtain ⟨x3, x4, _⟩ := two_cells (hk.row r2 hne)
    exact ⟨hk, x0, x1, x3, x4⟩
  have BZ : Hid (∀ w', Below W1.heap.size W1 w' → ZSeg w' (w.heap.size + 1)) := fun w' hb => ZSeg.below ZB hb (row_lt ZB)
  have KB : Hid (∀ w', Kp (fun k => k = w.heap.size + 1) W1 w' → Below w.heap.size w w') := fun w' hk => hk.below B1.out (fun k hk' => by omega) (by have := HL0.out; omega)
  have HW1 := Lib.hid hW1
  have KR := Lib.hid (Kp.refl (fun k => k = w.heap.size + 1) W1)
  have KB1 := Lib.hid (Below.refl W1.heap.size W1)
  have CL : Hid (∀ w', Below W1.heap.size W1 w' → Calls Tryz.prog 85 #[.pointer q] w' fun e w'' => e = .returned (.int .i64 (Let.cnt L)) ∧ w' = w'') := fun w' hb => rlen_is w' (hn.below (below_more b2 hb) (Nat.le_refl _))
  clear hW1 hn hb1 b2 r2 l2' s1 BA RB ZB CN HR0 HZ0 HL0 hne B0 hw1 HR1
  go_upto_region 3 with fail
  rw [← HW1.out]
  obtain ⟨_, c0, c1, c3, c4⟩ := BX.out W1 KR.out
  go_region_held3 (fun w' => Kp (fun k => k = w.heap.size + 1) W1 w' ∧ w'.cell? ⟨w.heap.size, 0, none⟩ = some (.int .i64 i) ∧ w'.cell? ⟨w.heap.size, 1, none⟩ = some (.int .i64 l) ∧ w'.cell? ⟨w1.heap.size, 0, none⟩ = some (.slice sa ls sc) ∧ w'.cell? ⟨w1.heap.size, 1, none⟩ = some (.slice ta lt tc))
    ((refine BX.out _ ?_; focus ((repeat first | assumption | exact KR.out | apply Kp.drew | apply Kp.drews | apply Kp.putR); done)))
    (first
      | (go_at_call 85; (with_reducible refine (CL.out _ ?_).mono ?_); (focus ((repeat first | assumption | exact KB1.out | apply Below.drew | apply below_drews); done)); rintro e w2 ⟨rfl, rfl⟩)
      | (go_at_call 84; (with_reducible refine (CR.out _ (KB.out _ ?_)).mono ?_); (focus ((repeat first | assumption | exact KR.out | apply Kp.drew | apply Kp.drews | apply Kp.putR); done)); rintro e w3 ⟨rfl, b3⟩; have m3 := below_more (B := W1.heap.size) (w := W1) (by (repeat first | assumption | exact KB1.out | apply Below.drew | apply below_drews)) b3; have k3 := fun h => Kp.call (R := fun k => k = w.heap.size + 1) (W := W1) h b3; replace k3 := k3 (by (repeat first | assumption | exact KR.out | apply Kp.drew | apply Kp.drews | apply Kp.putR))))
  clear b3 c0 c1 c3 c4
  have z := BZ.out _ m3
  have kz := k3
  have FIN := Lib.hid (give_sg (w := w) (i := 0) (l := 0) (Nat.le_add_right _ 1) z (Con.nil_is _) (Spans.nil_ _) (Sites.nil_ _) (by simp) (KB.out _ kz))
  obtain ⟨y0, y1, y2, y3, y4⟩ := set5_cells (a0 := .int .i64 0) (a1 := .int .i64 0) (a2 := .pointer none) (a3 := .slice none 0 0) (a4 := .slice none 0 0) z
  obtain ⟨k0, k1', k2, k3', k4', f0, f1, f2, f3, f4⟩ := zseg_cells z
  go_wp2_with fail
  exact bodyPost_ret (v := .tuple #[.agg #[.int .i64 0, .int .i64 0, .pointer none, .slice none 0 0, .slice none 0 0], .bool false]) (by simp only [set5] at y0 y1 y2 y3 y4; simp [results, Tryz.results61, go_sem, y0, y1, y2, y3, y4]) rfl ⟨_, rfl, FIN.out.1, FIN.out.2⟩

set_option maxHeartbeats 1600000 in
theorem load_no1 {v : Value} {i l : Int} {L : Bytes} {S : List Sp} {T : List St} (w : World) (h : Pl w v i l L S T) (hr : Let.right L = false) (b1 : L.length ≤ 10000) (l1 : S.length ≤ 100000) (l2 : T.length ≤ 100000) (hTb : Con.Tabs w) :
    Calls Tryz.prog 61 #[v] w (GiveIns w false 0 0 [] [] []) := by
  obtain ⟨sa, sc, ta, tc, rfl, hS, hT⟩ := h.open_
  have CN : Hid (∀ w', Below w.heap.size w w' → Calls Tryz.prog 83 #[.string (Let.mk L)] w' fun e w'' => e = .returned (.tuple #[.pointer none, .bool false]) ∧ Below w'.heap.size w' w'') := fun w' hb => new_isnt L w' (by omega) hr (hTb.below hb)
  obtain ⟨ls, hls⟩ : ∃ ls, ls = S.length := ⟨_, rfl⟩
  obtain ⟨lt, hlt⟩ : ∃ lt, lt = T.length := ⟨_, rfl⟩
  simp only [← hls, ← hlt]
  obtain ⟨W0, hW0⟩ : ∃ W0, W0 = (w.alloc (.cells #[.int .i64 i, .int .i64 l, .string (Let.mk L), .slice sa ls sc, .slice ta lt tc] 67)).alloc (.cells #[.int .i64 0, .int .i64 0, .pointer none, .slice none 0 0, .slice none 0 0] 119) := ⟨_, rfl⟩
  obtain ⟨b0, r0, z0, l0⟩ := box2 w #[.int .i64 i, .int .i64 l, .string (Let.mk L), .slice sa ls sc, .slice ta lt tc] #[.int .i64 0, .int .i64 0, .pointer none, .slice none 0 0, .slice none 0 0] 67 119
  rw [← hW0] at b0 r0 z0 l0
  have B0 := Lib.hid b0
  have HW0 := Lib.hid hW0
  have HR0 := Lib.hid r0
  have HZ0 : Hid (ZSeg W0 (w.heap.size + 1)) := z0
  have HL0 : Hid (W0.heap.size = w.heap.size + 1 + 1) := l0
  clear h hS hT b0 r0 z0 l0 hW0 b1 hr hTb hls hlt l1 l2
  obtain ⟨c0, c1, c2, c3, c4⟩ := five_cells HR0.out
  go_enter Tryz.func61, Tryz.ntmps61
  go_upto_region 1 with fail
  rw [← HW0.out]
  go_wp2_with fail
  refine (CN.out _ B0.out).mono ?_
  rintro e w1 ⟨rfl, hb1⟩
  clear c0 c1 c2 c3 c4
  have hw1 : Below W0.heap.size W0 w1 := hb1
  have HR1 : Hid (w1.heap[w.heap.size]? = some (.cells #[.int .i64 i, .int .i64 l, .string (Let.mk L), .slice sa ls sc, .slice ta lt tc] 67 (0, 0))) := (hb1.block _ (by have := HL0.out; omega)).trans HR0.out
  obtain ⟨c0, c1, c2, c3, c4⟩ := five_cells HR1.out
  obtain ⟨W1, hW1⟩ : ∃ W1, W1 = w1.alloc (.cells #[.slice sa ls sc, .slice ta lt tc] 117) := ⟨_, rfl⟩
  obtain ⟨b2, r2, l2'⟩ := box1 w1 #[.slice sa ls sc, .slice ta lt tc] 117
  rw [← hW1] at b2 r2 l2'
  have s1 : W0.heap.size ≤ w1.heap.size := hb1.size
  have BA := below_more B0.out hb1
  have B1 := Lib.hid (below_more BA b2)
  have RB : W1.heap[w.heap.size]? = some (.cells #[.int .i64 i, .int .i64 l, .string (Let.mk L), .slice sa ls sc, .slice ta lt tc] 67 (0, 0)) := (b2.block _ (by have := HL0.out; omega)).trans HR1.out
  have ZB : ZSeg W1 (w.heap.size + 1) := (HZ0.out.below hb1 (by have := HL0.out; omega)).below b2 (by have := HL0.out; omega)
  have hne : w1.heap.size ≠ w.heap.size + 1 := by have := HL0.out; omega
  have BX : Hid (∀ w', Kp (fun k => k = w.heap.size + 1) W1 w' → Kp (fun k => k = w.heap.size + 1) W1 w' ∧ w'.cell? ⟨w.heap.size, 0, none⟩ = some (.int .i64 i) ∧ w'.cell? ⟨w.heap.size, 1, none⟩ = some (.int .i64 l) ∧ w'.cell? ⟨w1.heap.size, 0, none⟩ = some (.slice sa ls sc) ∧ w'.cell? ⟨w1.heap.size, 1, none⟩ = some (.slice ta lt tc)) := fun w' hk => by
    obtain ⟨x0, x1, x2, _⟩ := five_cells (hk.row RB (by omega))
    obtain ⟨x3, x4, _⟩ := two_cells (hk.row r2 hne)
    exact ⟨hk, x0, x1, x3, x4⟩
  have BZ : Hid (∀ w', Below W1.heap.size W1 w' → ZSeg w' (w.heap.size + 1)) := fun w' hb => ZSeg.below ZB hb (row_lt ZB)
  have KB : Hid (∀ w', Kp (fun k => k = w.heap.size + 1) W1 w' → Below w.heap.size w w') := fun w' hk => hk.below B1.out (fun k hk' => by omega) (by have := HL0.out; omega)
  have HW1 := Lib.hid hW1
  have KR := Lib.hid (Kp.refl (fun k => k = w.heap.size + 1) W1)
  have KB1 := Lib.hid (Below.refl W1.heap.size W1)
  clear hW1 hb1 b2 r2 l2' s1 BA RB ZB CN HR0 HZ0 HL0 hne B0 hw1 HR1
  go_upto_region 3 with fail
  rw [← HW1.out]
  obtain ⟨_, c0, c1, c3, c4⟩ := BX.out W1 KR.out
  go_quiet (fail)
  clear c0 c1 c3 c4
  obtain ⟨W2, hW2⟩ : ∃ W2, W2 = W1.drewN nq := ⟨_, rfl⟩
  have z : ZSeg W2 (w.heap.size + 1) := by rw [hW2]; exact BZ.out _ (below_drews KB1.out _)
  have kz : Kp (fun k => k = w.heap.size + 1) W1 W2 := by rw [hW2]; exact KR.out.drews _
  rw [← hW2]
  clear hW2
  have FIN := Lib.hid (give_sg (w := w) (i := 0) (l := 0) (Nat.le_add_right _ 1) z (Con.nil_is _) (Spans.nil_ _) (Sites.nil_ _) (by simp) (KB.out _ kz))
  obtain ⟨y0, y1, y2, y3, y4⟩ := set5_cells (a0 := .int .i64 0) (a1 := .int .i64 0) (a2 := .pointer none) (a3 := .slice none 0 0) (a4 := .slice none 0 0) z
  obtain ⟨k0, k1', k2, k3', k4', f0, f1, f2, f3, f4⟩ := zseg_cells z
  go_wp2_with fail
  exact bodyPost_ret (v := .tuple #[.agg #[.int .i64 0, .int .i64 0, .pointer none, .slice none 0 0, .slice none 0 0], .bool false]) (by simp only [set5] at y0 y1 y2 y3 y4; simp [results, Tryz.results61, go_sem, y0, y1, y2, y3, y4]) rfl ⟨_, rfl, FIN.out.1, FIN.out.2⟩

end Go.Proofs.YtccaiippoephbaaGreatDoor.Seg
/- Segments, the plain text: marks, Right, Same, small; the law's of. -/
set_option linter.unusedVariables false
set_option maxRecDepth 100000
namespace Go.Proofs.YtccaiippoephbaaGreatDoor.Seg
open Go.RowKit Go.Lib Go.Proofs.YtccaiippoephbaaGreatDoor.Rt Go.Proofs.YtccaiippoephbaaGreatDoor.Rig

set_option maxHeartbeats 1600000 in
/-- The marks of plain values: in one agg. -/
theorem marks5_any {i l : Int} {L : Bytes} {S : List Sp} {T : List St} {sa ta : Option Addr} {sc tc n1 n2 : Nat} (w : World) (hS : Spans w (.slice sa n1 sc) S) (hT : Sites w (.slice ta n2 tc) T) :
    Calls Tryz.prog 94 #[.agg #[.int .i64 i, .int .i64 l, .string (Let.mk L), .slice sa n1 sc, .slice ta n2 tc]] w fun e w' => e = .returned (.agg #[.slice sa n1 sc, .slice ta n2 tc]) ∧ Below w.heap.size w w' := by
  obtain ⟨W0, hW0⟩ : ∃ W0, W0 = (w.alloc (.cells #[.int .i64 i, .int .i64 l, .string (Let.mk L), .slice sa n1 sc, .slice ta n2 tc] 67)).alloc (.cells #[.slice none 0 0, .slice none 0 0] 157) := ⟨_, rfl⟩
  obtain ⟨b0, r0, z0, l0⟩ := box2 w #[.int .i64 i, .int .i64 l, .string (Let.mk L), .slice sa n1 sc, .slice ta n2 tc] #[.slice none 0 0, .slice none 0 0] 67 157
  rw [← hW0] at b0 r0 z0 l0
  obtain ⟨c0, c1, c2, c3, c4⟩ := five_cells r0
  obtain ⟨k0, k1, f0, f1⟩ := two_cells z0
  have B0 := Lib.hid (below_put (j := 1) (below_put (j := 0) b0 (Nat.le_add_right _ 1) (.slice sa n1 sc)) (Nat.le_add_right _ 1) (.slice ta n2 tc))
  obtain ⟨y0, y1, _, _⟩ := two_cells (two_put (u := .slice sa n1 sc) (v := .slice ta n2 tc) z0)
  have HW0 := Lib.hid hW0
  clear hS hT b0 r0 z0 l0 hW0
  go_enter Tryz.func94, Tryz.ntmps94
  go_upto_region 1 with fail
  rw [← HW0.out]
  go_wp2_with fail
  exact bodyPost_ret (v := .agg #[.slice sa n1 sc, .slice ta n2 tc]) (by simp [results, Tryz.results94, go_sem, y0, y1]) rfl ⟨rfl, B0.out⟩

/-- Is it small? -/
def smallB (L : Bytes) (S : List Sp) (T : List St) : Bool := decide (L.length ≤ 1500 ∧ S.length ≤ 300 ∧ T.length ≤ 300)
end Go.Proofs.YtccaiippoephbaaGreatDoor.Seg
/- Segments: Right of plain values; has; the text of a law's witness. -/
set_option linter.unusedVariables false
set_option maxRecDepth 100000
namespace Go.Proofs.YtccaiippoephbaaGreatDoor.Seg
open Go.RowKit Go.Lib Go.Proofs.YtccaiippoephbaaGreatDoor.Rt Go.Proofs.YtccaiippoephbaaGreatDoor.Rig

theorem right1_any (L : Bytes) (w : World) (hl : L.length ≤ maxLen) : Calls Tryz.prog 70 #[.string (Let.mk L)] w fun e w' => e = .returned (.bool (Let.right L)) ∧ w = w' := by
  have := Con.rright_any (Let.mk L) w (by rw [Let.mk_size]; exact hl)
  rwa [Let.mk_data] at this
theorem count1_any (L : Bytes) (w : World) (hl : L.length ≤ 1073741824) : Calls Tryz.prog 95 #[.string (Let.mk L)] w fun e w' => e = .returned (.int .i64 (Let.cnt L)) ∧ Below w.heap.size w w' := by
  have := Con.rcount_any (Let.mk L) w (by rw [Let.mk_size]; exact hl)
  rwa [Let.mk_data] at this
def right5 (L : Bytes) (S : List Sp) (T : List St) : Bool := Let.right L && mrightB S T (Let.cnt L)

set_option maxHeartbeats 1600000 in
theorem right5_any {v : Value} {i l : Int} {L : Bytes} {S : List Sp} {T : List St} (w : World) (h : Pl w v i l L S T) (hl : L.length ≤ 10000) :
    Calls Tryz.prog 69 #[v] w fun e w' => e = .returned (.bool (right5 L S T)) ∧ Below w.heap.size w w' := by
  obtain ⟨sa, sc, ta, tc, rfl, hS, hT⟩ := h.open_
  have CR : Hid (∀ w', Calls Tryz.prog 70 #[.string (Let.mk L)] w' fun e w'' => e = .returned (.bool (Let.right L)) ∧ w'' = w') := fun w' => (right1_any L w' (by unfold maxLen; omega)).mono fun e w'' h => ⟨h.1, h.2.symm⟩
  have CC : Hid (∀ w', Below w.heap.size w w' → Calls Tryz.prog 95 #[.string (Let.mk L)] w' fun e w'' => e = .returned (.int .i64 (Let.cnt L)) ∧ Below w'.heap.size w' w'') := fun w' hb => count1_any L w' (by omega)
  have CM : Hid (∀ w', Below w.heap.size w w' → Calls Tryz.prog 94 #[.agg #[.int .i64 i, .int .i64 l, .string (Let.mk L), .slice sa S.length sc, .slice ta T.length tc]] w' fun e w'' => e = .returned (.agg #[.slice sa S.length sc, .slice ta T.length tc]) ∧ Below w'.heap.size w' w'') := fun w' hb => marks5_any w' (hS.below hb (Nat.le_refl _)) (hT.below hb (Nat.le_refl _))
  have CX : Hid (∀ w', Below w.heap.size w w' → Calls Tryz.prog 93 #[.agg #[.slice sa S.length sc, .slice ta T.length tc], .int .i64 (Let.cnt L)] w' fun e w'' => e = .returned (.bool (mrightB S T (Let.cnt L))) ∧ Below w'.heap.size w' w'') := fun w' hb => rmright_any (Let.cnt L) w' (hS.below hb (Nat.le_refl _)) (hT.below hb (Nat.le_refl _)) (by have := Let.cnt_len L; exact ⟨by omega, by omega⟩)
  have EB : Hid (right5 L S T = (Let.right L && mrightB S T (Let.cnt L))) := rfl
  generalize right5 L S T = rs at *
  generalize mrightB S T (Let.cnt L) = rm at *
  generalize Let.cnt L = c at *
  generalize S.length = ls at *
  generalize T.length = lt at *
  obtain ⟨W0, hW0⟩ : ∃ W0, W0 = w.alloc (.cells #[.int .i64 i, .int .i64 l, .string (Let.mk L), .slice sa ls sc, .slice ta lt tc] 67) := ⟨_, rfl⟩
  obtain ⟨b0, r0, l0⟩ := box1 w #[.int .i64 i, .int .i64 l, .string (Let.mk L), .slice sa ls sc, .slice ta lt tc] 67
  rw [← hW0] at b0 r0 l0
  have BX : Hid (∀ w', Kp (fun _ => False) W0 w' → Kp (fun _ => False) W0 w' ∧ w'.cell? ⟨w.heap.size, 0, none⟩ = some (.int .i64 i) ∧ w'.cell? ⟨w.heap.size, 1, none⟩ = some (.int .i64 l) ∧ w'.cell? ⟨w.heap.size, 2, none⟩ = some (.string (Let.mk L)) ∧ w'.cell? ⟨w.heap.size, 3, none⟩ = some (.slice sa ls sc) ∧ w'.cell? ⟨w.heap.size, 4, none⟩ = some (.slice ta lt tc)) := fun w' hk => ⟨hk, five_cells (hk.row r0 (fun h => h))⟩
  have KB : Hid (∀ w', Kp (fun _ => False) W0 w' → Below w.heap.size w w') := fun w' hk => hk.below b0 (fun k _ h => h) (by omega)
  have KR := Lib.hid (Kp.refl (fun _ => False) W0)
  have HW0 := Lib.hid hW0
  obtain ⟨c0, c1, c2, c3, c4⟩ := five_cells r0
  clear h hS hT b0 r0 l0 hW0 hl
  cases hr : Let.right L with
  | false =>
    rw [hr] at CR EB
    have E := Lib.hid (EB.out.trans (Bool.false_and _))
    clear hr EB CC CM CX
    go_enter Tryz.func69, Tryz.ntmps69
    go_upto_region 1 with fail
    rw [← HW0.out]
    go_quiet ((go_at_call 70; with_reducible exact Calls.quiet_of_same (CR.out _)))
    go_wp2
    go_ret
    exact ⟨ret_bool E.out.symm, KB.out _ (KR.out.drews _)⟩
  | true =>
    rw [hr] at CR EB
    have E := Lib.hid (EB.out.trans (Bool.true_and _))
    clear hr EB
    go_enter Tryz.func69, Tryz.ntmps69
    go_upto_region 1 with fail
    rw [← HW0.out]
    go_region_held3 (fun w' => Kp (fun _ => False) W0 w' ∧ w'.cell? ⟨w.heap.size, 0, none⟩ = some (.int .i64 i) ∧ w'.cell? ⟨w.heap.size, 1, none⟩ = some (.int .i64 l) ∧ w'.cell? ⟨w.heap.size, 2, none⟩ = some (.string (Let.mk L)) ∧ w'.cell? ⟨w.heap.size, 3, none⟩ = some (.slice sa ls sc) ∧ w'.cell? ⟨w.heap.size, 4, none⟩ = some (.slice ta lt tc))
      ((refine BX.out _ ?_; focus ((repeat first | assumption | exact KR.out | apply Kp.drew | apply Kp.drews); done)))
      (first
        | (go_at_call 70; (with_reducible refine (CR.out _).mono ?_); rintro e w2 ⟨rfl, rfl⟩)
        | (go_at_call 94; (with_reducible refine (CM.out _ (KB.out _ ?_)).mono ?_); (focus ((repeat first | assumption | exact KR.out | apply Kp.drew | apply Kp.drews); done)); rintro e w3 ⟨rfl, b3⟩; have k3 := fun h => Kp.call (R := fun _ => False) (W := W0) h b3; replace k3 := k3 (by (repeat first | assumption | exact KR.out | apply Kp.drew | apply Kp.drews)))
        | (go_at_call 95; (with_reducible refine (CC.out _ (KB.out _ ?_)).mono ?_); (focus ((repeat first | assumption | exact KR.out | apply Kp.drew | apply Kp.drews); done)); rintro e w4 ⟨rfl, b4⟩; have k4 := fun h => Kp.call (R := fun _ => False) (W := W0) h b4; replace k4 := k4 (by (repeat first | assumption | exact KR.out | apply Kp.drew | apply Kp.drews)))
        | (go_at_call 93; (with_reducible refine (CX.out _ (KB.out _ ?_)).mono ?_); (focus ((repeat first | assumption | exact KR.out | apply Kp.drew | apply Kp.drews); done)); rintro e w5 ⟨rfl, b5⟩; have k5 := fun h => Kp.call (R := fun _ => False) (W := W0) h b5; replace k5 := k5 (by (repeat first | assumption | exact KR.out | apply Kp.drew | apply Kp.drews))))
    go_wp2_with fail
    go_ret
    exact ⟨ret_bool E.out.symm, KB.out _ (by (repeat first | assumption | exact KR.out | apply Kp.drew | apply Kp.drews))⟩

end Go.Proofs.YtccaiippoephbaaGreatDoor.Seg
