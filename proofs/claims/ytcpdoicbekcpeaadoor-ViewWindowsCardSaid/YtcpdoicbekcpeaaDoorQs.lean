/- Segments in memory: a segment, its plain values; slices.Clone of spans and of sites; clone. Segments: what a store of five cells does; clone. Segments: New, Id, Label, Rope, fits, place, stretch. Segments: stretch, put, Insert. Segments: Insert; the law's own of and text. Segments: what is kept around a result's block; Plain, Load. Segments: Load. Segments, the plain text: marks, Right, Same, small; the law's of. Segments: Right of plain values; has; the text of a law's witness. Segments: the laws' arguments opened: plain values of a segment; what is asked of one. -/
import Derived.Test.YtcpdoicbekcpeaaDoorQa
import Derived.Test.YtcpdoicbekcpeaaDoorQP2
import Derived.Test.YtcpdoicbekcpeaaDoorQP1
import Derived.Test.YtcpdoicbekcpeaaDoorQb
import Derived.Test.YtcpdoicbekcpeaaDoorQc
import Derived.Deep.RegionHeld3
import Derived.StillTailTactics
set_option linter.unusedVariables false
set_option maxRecDepth 100000
namespace Go.Proofs.YtcpdoicbekcpeaaDoor.Seg
open Go.RowKit Go.Lib Go.Proofs.YtcpdoicbekcpeaaDoor.Rt Go.Proofs.YtcpdoicbekcpeaaDoor.Rig

abbrev IsRope := Con.IsRope
abbrev Bytes := List UInt8
theorem rope_ptr {w : World} {L : Bytes} {v : Value} (h : IsRope w L v) : ∃ q, v = .pointer q := by
  obtain ⟨t, h1, h2, h3⟩ := h
  by_cases hn : t = .nil
  · subst hn
    exact ⟨none, h1⟩
  · obtain ⟨b, vl, vr, e, _⟩ := Con.Rp.unfold h1 hn
    exact ⟨_, e⟩
/-- A segment. -/
def Sg (w : World) (v : Value) (i l : Int) (L : Bytes) (S : List Sp) (T : List St) : Prop :=
  ∃ tp sv tv, v = .agg #[.int .i64 i, .int .i64 l, tp, sv, tv] ∧ IsRope w L tp ∧ Spans w sv S ∧ Sites w tv T
theorem Sg.below {w w' : World} {v : Value} {i l : Int} {L : Bytes} {S : List Sp} {T : List St} (h : Sg w v i l L S T) {B : Nat} (hb : Below B w w') (hB : w.heap.size ≤ B) : Sg w' v i l L S T := by
  obtain ⟨tp, sv, tv, e, h1, h2, h3⟩ := h
  exact ⟨tp, sv, tv, e, h1.below hb hB, h2.below hb hB, h3.below hb hB⟩
theorem Sg.open_ {w : World} {v : Value} {i l : Int} {L : Bytes} {S : List Sp} {T : List St} (h : Sg w v i l L S T) :
    ∃ q sa sc ta tc, v = .agg #[.int .i64 i, .int .i64 l, .pointer q, .slice sa S.length sc, .slice ta T.length tc] ∧ IsRope w L (.pointer q) ∧ Spans w (.slice sa S.length sc) S ∧ Sites w (.slice ta T.length tc) T := by
  obtain ⟨tp, sv, tv, e, h1, h2, h3⟩ := h
  obtain ⟨q, rfl⟩ := rope_ptr h1
  obtain ⟨sa, sc, rfl⟩ := h2.is_slice
  obtain ⟨ta, tc, rfl⟩ := h3.is_slice
  exact ⟨q, sa, sc, ta, tc, e, h1, h2, h3⟩
/-- The plain values. -/
def Pl (w : World) (v : Value) (i l : Int) (L : Bytes) (S : List Sp) (T : List St) : Prop :=
  ∃ sv tv, v = .agg #[.int .i64 i, .int .i64 l, .string (Let.mk L), sv, tv] ∧ Spans w sv S ∧ Sites w tv T
theorem Pl.below {w w' : World} {v : Value} {i l : Int} {L : Bytes} {S : List Sp} {T : List St} (h : Pl w v i l L S T) {B : Nat} (hb : Below B w w') (hB : w.heap.size ≤ B) : Pl w' v i l L S T := by
  obtain ⟨sv, tv, e, h2, h3⟩ := h
  exact ⟨sv, tv, e, h2.below hb hB, h3.below hb hB⟩
theorem Pl.open_ {w : World} {v : Value} {i l : Int} {L : Bytes} {S : List Sp} {T : List St} (h : Pl w v i l L S T) :
    ∃ sa sc ta tc, v = .agg #[.int .i64 i, .int .i64 l, .string (Let.mk L), .slice sa S.length sc, .slice ta T.length tc] ∧ Spans w (.slice sa S.length sc) S ∧ Sites w (.slice ta T.length tc) T := by
  obtain ⟨sv, tv, e, h2, h3⟩ := h
  obtain ⟨sa, sc, rfl⟩ := h2.is_slice
  obtain ⟨ta, tc, rfl⟩ := h3.is_slice
  exact ⟨sa, sc, ta, tc, e, h2, h3⟩
def GiveSg (w : World) (i l : Int) (L : Bytes) (S : List Sp) (T : List St) (e : Ending) (w' : World) : Prop := ∃ v, e = .returned v ∧ Sg w' v i l L S T ∧ Below w.heap.size w w'
def GivePl (w : World) (i l : Int) (L : Bytes) (S : List Sp) (T : List St) (e : Ending) (w' : World) : Prop := ∃ v, e = .returned v ∧ Pl w' v i l L S T ∧ Below w.heap.size w w'
def GiveSp (w : World) (S : List Sp) (e : Ending) (w' : World) : Prop := ∃ v, e = .returned v ∧ Spans w' v S ∧ Below w.heap.size w w'
def GiveSt (w : World) (T : List St) (e : Ending) (w' : World) : Prop := ∃ v, e = .returned v ∧ Sites w' v T ∧ Below w.heap.size w w'

theorem fl_cells {w : World} {ad : Addr} {n c k : Nat} {zs : List Int} (h : Fl w (.slice (some ad) n c) n k zs) : ∀ j u, (ints zs)[j]? = some u → w.cell? (ad.add j) = some u := by
  intro j u hj
  obtain ⟨h0, hg, a, cap, hv, h1, h2, h3⟩ := h
  have hj' : j < zs.length := by rw [← ints_len zs]; exact (List.getElem?_eq_some_iff.1 hj).1
  injection hv with e1 e2 e3
  rcases h3 with h3 | ⟨b, off, e, hlt, hc⟩
  · rw [h3, Nat.zero_mul] at h0
    omega
  · rw [← e1] at e
    injection e with e
    subst e
    rw [ints_get hj'] at hj
    have hadd : (⟨b, off, none⟩ : Addr).add j = ⟨b, off + j, none⟩ := by unfold Addr.add; split <;> simp_all
    rw [hadd, hc j (by omega)]
    exact hj

set_option maxHeartbeats 2000000 in
theorem csp_any {v : Value} {S : List Sp} (w : World) (h : Spans w v S) (hl : S.length ≤ 100000) : Calls Tryd.prog 109 #[v] w (GiveSp w S) := by
  have hF := h
  obtain ⟨h0, hg, a, cap, rfl, h1, h2, h3⟩ := h
  obtain ⟨i0, hi, hz0, hz1, hz2⟩ := info_parts infoSpan
  have q22 : ∀ (w : World) (a : Option Addr) (n c n' c' : Nat), (binOp .eql 22 (.slice a n c) (.slice none n' c')).run Tryd.prog w = .ok (.bool a.isNone) w := fun w a n c n' c' => Lib.run_eql_slice_nil w _ _ a n c n' c' Tryd.underlying22
  cases a with
  | none =>
    have hz : S.length = 0 := by
      rcases h3 with h3 | ⟨b, off, e, _⟩
      · exact h3
      · cases e
    obtain rfl := List.eq_nil_of_length_eq_zero hz
    clear hF h3 hg h0
    go_enter Tryd.func109, Tryd.ntmps109
    go_wp2
    go_ret
    exact ⟨_, rfl, Spans.nil_ _, Below.refl _ _⟩
  | some ad =>
    have HC := Lib.hid (fl_cells hF)
    have K1 : Hid ((ints (fl3 S)).length = S.length * 3) := by show _ = _; rw [ints_len]; exact h0
    have HG : Hid (∀ x ∈ fl3 S, i64 x) := hg
    obtain ⟨news, hnews⟩ : ∃ news, news = ints (fl3 S) := ⟨_, rfl⟩
    have K2 : Hid (∀ u ∈ news, u.oneCell' = true) := by show ∀ u ∈ news, _; rw [hnews]; exact ints_one
    rw [← hnews] at HC K1
    have HN := Lib.hid hnews
    obtain ⟨n, hn⟩ : ∃ n, n = S.length := ⟨_, rfl⟩
    have HNL := Lib.hid hn
    rw [← hn] at K1 h1 hl ⊢
    clear hF h3 hg h0 hnews hn
    go_enter Tryd.func109, Tryd.ntmps109
    go_wp2_with (at_builtin; refine wpList_append_own _ rfl _ _ 22 rfl w.heap.size 110 i0 _ 3 24 Tryd.underlying22 hi hz0 hz1 hz2 rfl (by decide) _ _ _ rfl (World.ownsRow_made w #[] 0 (Nat.le_refl _) (Nat.zero_le _) (by simp)) ad n cap news rfl ?qc1 ?qc2 ?qc3 ?qc4 ?qc5 ?qc6 ?_)
    case qc1 => exact K1.out
    case qc2 =>
      intro j u hj
      exact Lib.cell?_alloc_some _ (HC.out j u hj)
    case qc3 => exact K2.out
    case qc4 => rw [Nat.zero_add]; unfold maxLen; omega
    case qc5 => rw [Nat.zero_add]; omega
    case qc6 => simp
    intro v' w1 hown hgrow hnil
    go_wp2
    go_ret
    refine ⟨v', rfl, ?_, ((Below.refl _ w).alloc (Nat.le_refl _) _).grown hgrow (by simp) (by intro k hk; simp [Value.ownBlock] at hk; omega)⟩
    have hO : OwnF 110 w.heap.size w1 v' S.length 3 (fl3 S) := ⟨by rw [← HNL.out, ← HN.out]; simpa using hown, HG.out⟩
    exact hO.fl

set_option maxHeartbeats 2000000 in
theorem cst_any {v : Value} {S : List St} (w : World) (h : Sites w v S) (hl : S.length ≤ 100000) : Calls Tryd.prog 110 #[v] w (GiveSt w S) := by
  have hF := h
  obtain ⟨h0, hg, a, cap, rfl, h1, h2, h3⟩ := h
  obtain ⟨i0, hi, hz0, hz1, hz2⟩ := info_parts infoSite
  have q22 : ∀ (w : World) (a : Option Addr) (n c n' c' : Nat), (binOp .eql 23 (.slice a n c) (.slice none n' c')).run Tryd.prog w = .ok (.bool a.isNone) w := fun w a n c n' c' => Lib.run_eql_slice_nil w _ _ a n c n' c' Tryd.underlying23
  cases a with
  | none =>
    have hz : S.length = 0 := by
      rcases h3 with h3 | ⟨b, off, e, _⟩
      · exact h3
      · cases e
    obtain rfl := List.eq_nil_of_length_eq_zero hz
    clear hF h3 hg h0
    go_enter Tryd.func110, Tryd.ntmps110
    go_wp2
    go_ret
    exact ⟨_, rfl, Sites.nil_ _, Below.refl _ _⟩
  | some ad =>
    have HC := Lib.hid (fl_cells hF)
    have K1 : Hid ((ints (fl2 S)).length = S.length * 2) := by show _ = _; rw [ints_len]; exact h0
    have HG : Hid (∀ x ∈ fl2 S, i64 x) := hg
    obtain ⟨news, hnews⟩ : ∃ news, news = ints (fl2 S) := ⟨_, rfl⟩
    have K2 : Hid (∀ u ∈ news, u.oneCell' = true) := by show ∀ u ∈ news, _; rw [hnews]; exact ints_one
    rw [← hnews] at HC K1
    have HN := Lib.hid hnews
    obtain ⟨n, hn⟩ : ∃ n, n = S.length := ⟨_, rfl⟩
    have HNL := Lib.hid hn
    rw [← hn] at K1 h1 hl ⊢
    clear hF h3 hg h0 hnews hn
    go_enter Tryd.func110, Tryd.ntmps110
    go_wp2_with (at_builtin; refine wpList_append_own _ rfl _ _ 23 rfl w.heap.size 148 i0 _ 2 16 Tryd.underlying23 hi hz0 hz1 hz2 rfl (by decide) _ _ _ rfl (World.ownsRow_made w #[] 0 (Nat.le_refl _) (Nat.zero_le _) (by simp)) ad n cap news rfl ?qc1 ?qc2 ?qc3 ?qc4 ?qc5 ?qc6 ?_)
    case qc1 => exact K1.out
    case qc2 =>
      intro j u hj
      exact Lib.cell?_alloc_some _ (HC.out j u hj)
    case qc3 => exact K2.out
    case qc4 => rw [Nat.zero_add]; unfold maxLen; omega
    case qc5 => rw [Nat.zero_add]; omega
    case qc6 => simp
    intro v' w1 hown hgrow hnil
    go_wp2
    go_ret
    refine ⟨v', rfl, ?_, ((Below.refl _ w).alloc (Nat.le_refl _) _).grown hgrow (by simp) (by intro k hk; simp [Value.ownBlock] at hk; omega)⟩
    have hO : OwnF 148 w.heap.size w1 v' S.length 2 (fl2 S) := ⟨by rw [← HNL.out, ← HN.out]; simpa using hown, HG.out⟩
    exact hO.fl
end Go.Proofs.YtcpdoicbekcpeaaDoor.Seg

namespace Go.Proofs.YtcpdoicbekcpeaaDoor.Seg
open Go.RowKit Go.Lib Go.Proofs.YtcpdoicbekcpeaaDoor.Rt Go.Proofs.YtcpdoicbekcpeaaDoor.Rig

/-- A store of five cells. -/
def set5 (w : World) (B : Nat) (a0 a1 a2 a3 a4 : Value) : World := ((((w.setCell ⟨B, 0, none⟩ a0).setCell ⟨B, 1, none⟩ a1).setCell ⟨B, 2, none⟩ a2).setCell ⟨B, 3, none⟩ a3).setCell ⟨B, 4, none⟩ a4
theorem set5_block {w : World} {B : Nat} {x0 x1 x2 x3 x4 a0 a1 a2 a3 a4 : Value} {ty : TypeId} (r : w.heap[B]? = some (.cells #[x0, x1, x2, x3, x4] ty (0, 0))) : (set5 w B a0 a1 a2 a3 a4).heap[B]? = some (.cells #[a0, a1, a2, a3, a4] ty (0, 0)) := by
  have h0 := set_block (i := 0) (u := a0) r
  have h1 := set_block (i := 1) (u := a1) h0
  have h2 := set_block (i := 2) (u := a2) h1
  have h3 := set_block (i := 3) (u := a3) h2
  exact set_block (i := 4) (u := a4) h3
theorem set5_other (w : World) {B b : Nat} (a0 a1 a2 a3 a4 : Value) (h : b ≠ B) : (set5 w B a0 a1 a2 a3 a4).heap[b]? = w.heap[b]? := by
  unfold set5
  rw [Below.heap_setCell _ _ _ _ h, Below.heap_setCell _ _ _ _ h, Below.heap_setCell _ _ _ _ h, Below.heap_setCell _ _ _ _ h, Below.heap_setCell _ _ _ _ h]
theorem set5_size (w : World) (B : Nat) (a0 a1 a2 a3 a4 : Value) : (set5 w B a0 a1 a2 a3 a4).heap.size = w.heap.size := by
  unfold set5
  simp
theorem set5_below {w W : World} {base B : Nat} (a0 a1 a2 a3 a4 : Value) (hb : Below base w W) (hB : base ≤ B) : Below base w (set5 W B a0 a1 a2 a3 a4) :=
  ((((hb.setCell (p := ⟨B, 0, none⟩) hB _).setCell (p := ⟨B, 1, none⟩) hB _).setCell (p := ⟨B, 2, none⟩) hB _).setCell (p := ⟨B, 3, none⟩) hB _).setCell (p := ⟨B, 4, none⟩) hB _
theorem set5_cells {w : World} {B : Nat} {x0 x1 x2 x3 x4 a0 a1 a2 a3 a4 : Value} {ty : TypeId} (r : w.heap[B]? = some (.cells #[x0, x1, x2, x3, x4] ty (0, 0))) :
    (set5 w B a0 a1 a2 a3 a4).cell? ⟨B, 0, none⟩ = some a0 ∧ (set5 w B a0 a1 a2 a3 a4).cell? ⟨B, 1, none⟩ = some a1 ∧ (set5 w B a0 a1 a2 a3 a4).cell? ⟨B, 2, none⟩ = some a2 ∧ (set5 w B a0 a1 a2 a3 a4).cell? ⟨B, 3, none⟩ = some a3 ∧ (set5 w B a0 a1 a2 a3 a4).cell? ⟨B, 4, none⟩ = some a4 := by
  have h := set5_block (a0 := a0) (a1 := a1) (a2 := a2) (a3 := a3) (a4 := a4) r
  refine ⟨?_, ?_, ?_, ?_, ?_⟩ <;> (rw [cell_of_row _ _ _ _ _ _ h]; rfl)
/-- A row of structs in block B stays, if all of the cells that hold ints stay. -/
theorem Fl.one {w w' : World} {v : Value} {n k B : Nat} {zs : List Int} (h : Fl w v n k zs) (hs : w.heap.size ≤ w'.heap.size) (ho : ∀ b, b ≠ B → b < w.heap.size → w'.heap[b]? = w.heap[b]?) (hB : ∀ (b o j : Nat), b = B → j < n * k → w.cell? ⟨b, o + j, none⟩ = some (.int .i64 (at_ zs j)) → (∀ i, i < n * k → w.cell? ⟨b, o + i, none⟩ = some (.int .i64 (at_ zs i))) → w'.cell? ⟨b, o + j, none⟩ = some (.int .i64 (at_ zs j))) : Fl w' v n k zs := by
  obtain ⟨h0, hg, a, cap, rfl, h1, h2, h3⟩ := h
  refine ⟨h0, hg, a, cap, rfl, h1, h2, ?_⟩
  rcases h3 with h3 | ⟨b, off, rfl, hlt, hc⟩
  · exact .inl h3
  · refine .inr ⟨b, off, rfl, Nat.lt_of_lt_of_le hlt hs, fun j hj => ?_⟩
    by_cases e : b = B
    · exact hB b off j e hj (hc j hj) hc
    · have := ho b e hlt
      rw [← hc j hj]
      unfold World.cell?
      rw [this]
theorem fl3_zero {S : List Sp} (h : 0 < S.length) : S.length * 3 ≥ 3 := by omega
theorem Spans.set5 {w : World} {B : Nat} {x0 x1 x2 x3 x4 a0 a1 a2 a3 a4 v : Value} {ty : TypeId} {S : List Sp} (h : Spans w v S) (r : w.heap[B]? = some (.cells #[x0, x1, x2, x3, x4] ty (0, 0))) (n2 : ∀ z, x2 ≠ .int .i64 z) (n3 : ∀ z, x3 ≠ .int .i64 z) (n4 : ∀ z, x4 ≠ .int .i64 z) : Spans (set5 w B a0 a1 a2 a3 a4) v S := by
  refine Fl.one (B := B) h (by rw [set5_size]; exact Nat.le_refl _) (fun b e _ => set5_other w a0 a1 a2 a3 a4 e) (fun b o j e hj h1 h2 => ?_)
  exfalso
  subst e
  have hn : 3 ≤ S.length * 3 := by omega
  -- one of the cells off, off + 1, off + 2 holds no int
  have q0 := h2 0 (by omega)
  have q1 := h2 1 (by omega)
  have q2 := h2 2 (by omega)
  rw [cell_of_row _ _ _ _ _ _ r] at q0 q1 q2
  rcases o with _ | _ | _ | _ | _ | o
  · exact n2 _ (Option.some.inj q2)
  · exact n2 _ (Option.some.inj q1)
  · exact n2 _ (Option.some.inj q0)
  · exact n3 _ (Option.some.inj q0)
  · exact n4 _ (Option.some.inj q0)
  · simp at q0
theorem Sites.set5 {w : World} {B : Nat} {x2 x3 x4 a0 a1 a2 a3 a4 v : Value} {ty : TypeId} {T : List St} (h : Sites w v T) (hp : ∀ s ∈ T, 0 < s.m) (r : w.heap[B]? = some (.cells #[.int .i64 0, .int .i64 0, x2, x3, x4] ty (0, 0))) (n2 : ∀ z, x2 ≠ .int .i64 z) (n3 : ∀ z, x3 ≠ .int .i64 z) (n4 : ∀ z, x4 ≠ .int .i64 z) : Sites (set5 w B a0 a1 a2 a3 a4) v T := by
  refine Fl.one (B := B) h (by rw [set5_size]; exact Nat.le_refl _) (fun b e _ => set5_other w a0 a1 a2 a3 a4 e) (fun b o j e hj h1 h2 => ?_)
  exfalso
  subst e
  have hT : 0 < T.length := by omega
  have q0 := h2 0 (by omega)
  have q1 := h2 1 (by omega)
  have m0 := (fl2_at T 0 hT).1
  have hm := hp (st T 0) (by rw [st_get hT]; exact List.getElem_mem hT)
  rw [Nat.zero_mul] at m0
  rw [m0] at q0
  rw [cell_of_row _ _ _ _ _ _ r] at q0 q1
  rcases o with _ | _ | _ | _ | _ | o
  · have e := Option.some.inj q0
    injection e with _ e
    omega
  · exact n2 _ (Option.some.inj q1)
  · exact n2 _ (Option.some.inj q0)
  · exact n3 _ (Option.some.inj q0)
  · exact n4 _ (Option.some.inj q0)
  · simp at q0
theorem rope_kept {w w' : World} {B : Nat} {cs : Array Value} {ty : TypeId} {L : Bytes} {v : Value} (h : IsRope w L v) (r : w.heap[B]? = some (.cells cs ty (0, 0))) (hty : ty ≠ 126) (ho : ∀ b, b ≠ B → w'.heap[b]? = w.heap[b]?) (hs : w.heap.size ≤ w'.heap.size) : IsRope w' L v := by
  obtain ⟨t, h1, h2, h3⟩ := h
  refine ⟨t, Con.Rp.same (fun b hb => ho b fun e => ?_) hs h1, h2, h3⟩
  obtain ⟨cs', h'⟩ := hb
  subst e
  rw [r] at h'
  injection h' with h'
  injection h' with _ q
  exact hty q
theorem ptr_ni (q : Option Addr) : ∀ z, Value.pointer q ≠ .int .i64 z := fun z h => by cases h
theorem sl_ni (a : Option Addr) (n c : Nat) : ∀ z, Value.slice a n c ≠ .int .i64 z := fun z h => by cases h
theorem str_ni (s : ByteArray) : ∀ z, Value.string s ≠ .int .i64 z := fun z h => by cases h
def ZSeg (w : World) (B : Nat) : Prop := w.heap[B]? = some (.cells #[.int .i64 0, .int .i64 0, .pointer none, .slice none 0 0, .slice none 0 0] 33 (0, 0))
theorem ZSeg.below {w w' : World} {B b : Nat} (h : ZSeg w B) (hb : Below b w w') (hB : B < b) : ZSeg w' B := (hb.block B hB).trans h
/-- A segment is stored as the result. -/
theorem give_sg {w W : World} {B : Nat} {i l : Int} {L : Bytes} {S : List Sp} {T : List St} {q sa ta : Option Addr} {n1 n2 sc tc : Nat} (hB : w.heap.size ≤ B) (z : ZSeg W B) (h1 : IsRope W L (.pointer q)) (h2 : Spans W (.slice sa n1 sc) S) (h3 : Sites W (.slice ta n2 tc) T) (hp : ∀ s ∈ T, 0 < s.m) (hb : Below w.heap.size w W) :
    Sg (set5 W B (.int .i64 i) (.int .i64 l) (.pointer q) (.slice sa n1 sc) (.slice ta n2 tc)) (.agg #[.int .i64 i, .int .i64 l, .pointer q, .slice sa n1 sc, .slice ta n2 tc]) i l L S T ∧ Below w.heap.size w (set5 W B (.int .i64 i) (.int .i64 l) (.pointer q) (.slice sa n1 sc) (.slice ta n2 tc)) :=
  ⟨⟨_, _, _, rfl, rope_kept h1 z (by decide) (fun b e => set5_other _ _ _ _ _ _ e) (by rw [set5_size]; exact Nat.le_refl _), Spans.set5 h2 z (ptr_ni _) (sl_ni _ _ _) (sl_ni _ _ _), Sites.set5 h3 hp z (ptr_ni _) (sl_ni _ _ _) (sl_ni _ _ _)⟩, set5_below _ _ _ _ _ hb hB⟩
theorem zseg_cells {W : World} {B : Nat} (z : ZSeg W B) : W.cell? ⟨B, 0, none⟩ = some (.int .i64 0) ∧ W.cell? ⟨B, 1, none⟩ = some (.int .i64 0) ∧ W.cell? ⟨B, 2, none⟩ = some (.pointer none) ∧ W.cell? ⟨B, 3, none⟩ = some (.slice none 0 0) ∧ W.cell? ⟨B, 4, none⟩ = some (.slice none 0 0) ∧ W.frozen? ⟨B, 0, none⟩ = false ∧ W.frozen? ⟨B, 1, none⟩ = false ∧ W.frozen? ⟨B, 2, none⟩ = false ∧ W.frozen? ⟨B, 3, none⟩ = false ∧ W.frozen? ⟨B, 4, none⟩ = false := by
  refine ⟨?_, ?_, ?_, ?_, ?_, block_frozen z, block_frozen z, block_frozen z, block_frozen z, block_frozen z⟩ <;> (rw [cell_of_row _ _ _ _ _ _ z]; rfl)

theorem two_cells {w : World} {B : Nat} {x y : Value} {ty : TypeId} (z : w.heap[B]? = some (.cells #[x, y] ty (0, 0))) : w.cell? ⟨B, 0, none⟩ = some x ∧ w.cell? ⟨B, 1, none⟩ = some y ∧ w.frozen? ⟨B, 0, none⟩ = false ∧ w.frozen? ⟨B, 1, none⟩ = false := by
  refine ⟨?_, ?_, block_frozen z, block_frozen z⟩ <;> (rw [cell_of_row _ _ _ _ _ _ z]; rfl)
/-- Below, from behind the box. -/
theorem below_box {w W0 w' : World} (b0 : Below w.heap.size w W0) (hb : Below (w.heap.size + 1) W0 w') : Below w.heap.size w w' := b0.trans (hb.mono (Nat.le_succ _))
theorem below_call {W0 w1 w2 : World} {B : Nat} (h : Below B W0 w1) (hB : B ≤ W0.heap.size) (h2 : Below w1.heap.size w1 w2) : Below B W0 w2 := h.trans (h2.mono (Nat.le_trans hB h.size))
theorem below_put {W0 w1 : World} {B C j : Nat} (h : Below B W0 w1) (hC : B ≤ C) (u : Value) : Below B W0 (w1.setCell ⟨C, j, none⟩ u) := h.setCell (p := ⟨C, j, none⟩) hC u
theorem two_put {w : World} {B : Nat} {x y u v : Value} {ty : TypeId} (z : w.heap[B]? = some (.cells #[x, y] ty (0, 0))) : ((w.setCell ⟨B, 0, none⟩ u).setCell ⟨B, 1, none⟩ v).heap[B]? = some (.cells #[u, v] ty (0, 0)) := set_block (i := 1) (u := v) (set_block (i := 0) (u := u) z)
theorem Fl.two {w : World} {v x y u1 u2 : Value} {n k B : Nat} {zs : List Int} {ty : TypeId} (h : Fl w v n k zs) (z : w.heap[B]? = some (.cells #[x, y] ty (0, 0))) (n1 : ∀ z, x ≠ .int .i64 z) (n2 : ∀ z, y ≠ .int .i64 z) : Fl ((w.setCell ⟨B, 0, none⟩ u1).setCell ⟨B, 1, none⟩ u2) v n k zs := by
  refine Fl.one (B := B) h (by simp) (fun b e _ => by rw [Below.heap_setCell _ _ _ _ e, Below.heap_setCell _ _ _ _ e]) (fun b o j e hj h1 h2 => ?_)
  exfalso
  subst e
  rw [cell_of_row _ _ _ _ _ _ z] at h1
  generalize o + j = i at h1
  rcases i with _ | _ | i
  · exact n1 _ (Option.some.inj h1)
  · exact n2 _ (Option.some.inj h1)
  · simp at h1
theorem give_m {w W : World} {B : Nat} {S : List Sp} {T : List St} {a1 a2 x1 x2 : Option Addr} {n1 c1 n2 c2 m1 d1 m2 d2 : Nat} {ty : TypeId} (hB : w.heap.size ≤ B) (z : W.heap[B]? = some (.cells #[.slice x1 m1 d1, .slice x2 m2 d2] ty (0, 0))) (h1 : Spans W (.slice a1 n1 c1) S) (h2 : Sites W (.slice a2 n2 c2) T) (hb : Below w.heap.size w W) :
    GivesM w S T (.returned (.agg #[.slice a1 n1 c1, .slice a2 n2 c2])) ((W.setCell ⟨B, 0, none⟩ (.slice a1 n1 c1)).setCell ⟨B, 1, none⟩ (.slice a2 n2 c2)) :=
  ⟨_, _, rfl, Fl.two h1 z (sl_ni _ _ _) (sl_ni _ _ _), Fl.two h2 z (sl_ni _ _ _) (sl_ni _ _ _), below_put (below_put hb hB _) hB _⟩

set_option maxHeartbeats 2000000 in
theorem clone_any {sv tv : Value} {S : List Sp} {T : List St} (w : World) (hS : Spans w sv S) (hT : Sites w tv T) (l1 : S.length ≤ 100000) (l2 : T.length ≤ 100000) :
    Calls Tryd.prog 83 #[.agg #[sv, tv]] w (GivesM w S T) := by
  obtain ⟨W0, hW0⟩ : ∃ W0, W0 = (w.alloc (.cells #[sv, tv] 31)).alloc (.cells #[.slice none 0 0, .slice none 0 0] 31) := ⟨_, rfl⟩
  have b0 : Below w.heap.size w W0 := by rw [hW0]; exact ((Below.refl _ _).alloc (Nat.le_refl _) _).alloc (by simp) _
  have r0 : W0.heap[w.heap.size]? = some (.cells #[sv, tv] 31 (0, 0)) := by rw [hW0]; simp only [alloc_at, World.size_alloc]; repeat (first | rw [if_pos (by first | trivial | omega)] | rw [if_neg (by omega)])
  have r1 : W0.heap[w.heap.size + 1]? = some (.cells #[.slice none 0 0, .slice none 0 0] 31 (0, 0)) := by rw [hW0]; simp only [alloc_at, World.size_alloc]; repeat (first | rw [if_pos (by first | trivial | omega)] | rw [if_neg (by omega)])
  have l0 : W0.heap.size = w.heap.size + 1 + 1 := by rw [hW0]; simp
  have CS : Hid (∀ w', Below (w.heap.size + 1) W0 w' → Calls Tryd.prog 109 #[sv] w' (GiveSp w' S)) := fun w' hb => csp_any w' (hS.below (below_box b0 hb) (Nat.le_refl _)) l1
  have CT : Hid (∀ w', Below (w.heap.size + 1) W0 w' → Calls Tryd.prog 110 #[tv] w' (GiveSt w' T)) := fun w' hb => cst_any w' (hT.below (below_box b0 hb) (Nat.le_refl _)) l2
  obtain ⟨sa, sc, rfl⟩ := hS.is_slice
  obtain ⟨ta, tc, rfl⟩ := hT.is_slice
  generalize S.length = ls at *
  generalize T.length = lt at *
  have BX : Hid (∀ w', Below (w.heap.size + 1) W0 w' → Below (w.heap.size + 1) W0 w' ∧ w'.cell? ⟨w.heap.size, 0, none⟩ = some (.slice sa ls sc) ∧ w'.cell? ⟨w.heap.size, 1, none⟩ = some (.slice ta lt tc)) := fun w' hb => by
    have q0 : w'.heap[w.heap.size]? = _ := (hb.block _ (by omega)).trans r0
    exact ⟨hb, by rw [cell_of_row _ _ _ _ _ _ q0]; rfl, by rw [cell_of_row _ _ _ _ _ _ q0]; rfl⟩
  have BR : Hid (∀ w', Below W0.heap.size W0 w' → w'.heap[w.heap.size + 1]? = some (.cells #[.slice none 0 0, .slice none 0 0] 31 (0, 0))) := fun w' hb => (hb.block _ (by omega)).trans r1
  have BL : Hid (w.heap.size + 1 ≤ W0.heap.size) := by show _ ≤ _; omega
  have HW0 := Lib.hid hW0
  have B0 := Lib.hid b0
  have HR := Lib.hid (Below.refl W0.heap.size W0)
  have HR1 := Lib.hid (Below.refl (w.heap.size + 1) W0)
  clear hS hT b0 r0 r1 hW0 l0
  go_enter Tryd.func83, Tryd.ntmps83
  go_upto_region 1 with fail
  rw [← HW0.out]
  go_region_held3 (fun w' => Below (w.heap.size + 1) W0 w' ∧ w'.cell? ⟨w.heap.size, 0, none⟩ = some (.slice sa ls sc) ∧ w'.cell? ⟨w.heap.size, 1, none⟩ = some (.slice ta lt tc))
    ((refine BX.out _ ?_; focus ((repeat first | assumption | exact HR1.out | apply Below.drew | apply below_drews | (refine below_put ?_ (Nat.le_refl _) _)); done)))
    (first
      | (go_at_call 109; (with_reducible refine (CS.out _ ?_).mono ?_); (focus ((repeat first | assumption | exact HR1.out | apply Below.drew | apply below_drews); done)); rintro e w1 ⟨v1, rfl, o1, b1⟩; obtain ⟨a1, c1, rfl⟩ := o1.is_slice; have e1 := below_more (B := W0.heap.size) (w := W0) (by (repeat first | assumption | exact HR.out | apply Below.drew | apply below_drews)) b1; have d1 := fun h => below_call (W0 := W0) (B := w.heap.size + 1) h BL.out b1; replace d1 := d1 (by (repeat first | assumption | exact HR1.out | apply Below.drew | apply below_drews)))
      | (go_at_call 110; (with_reducible refine (CT.out _ ?_).mono ?_); (focus ((repeat first | assumption | exact HR1.out | apply Below.drew | apply below_drews); done)); rintro e w2 ⟨v2, rfl, o2, b2⟩; obtain ⟨a2, c2, rfl⟩ := o2.is_slice; have e2 := below_more (B := W0.heap.size) (w := W0) (by (repeat first | assumption | exact HR.out | apply Below.drew | apply below_drews)) b2; have d2 := fun h => below_call (W0 := W0) (B := w.heap.size + 1) h BL.out b2; replace d2 := d2 (by (repeat first | assumption | exact HR1.out | apply Below.drew | apply below_drews)); have z := BR.out _ e2; obtain ⟨u0, u1, f0, f1⟩ := two_cells z))
  have FIN := Lib.hid (give_m (w := w) (Nat.le_add_right _ 1) z (o1.below b2 (Nat.le_refl _)) o2 (below_box B0.out d2))
  obtain ⟨y0, y1, _, _⟩ := two_cells (two_put (u := .slice a1 S.length c1) (v := .slice a2 T.length c2) z)
  generalize S.length = ls at *
  generalize T.length = lt at *
  clear o1 o2 b1 b2
  go_wp2_with fail
  exact bodyPost_ret (v := .agg #[.slice a1 ls c1, .slice a2 lt c2]) (by simp [results, Tryd.results83, go_sem, y0, y1]) rfl FIN.out
end Go.Proofs.YtcpdoicbekcpeaaDoor.Seg

namespace Go.Proofs.YtcpdoicbekcpeaaDoor.Seg
open Go.RowKit Go.Lib Go.Proofs.YtcpdoicbekcpeaaDoor.Rt Go.Proofs.YtcpdoicbekcpeaaDoor.Rig

theorem five_cells {w : World} {B : Nat} {x0 x1 x2 x3 x4 : Value} {ty : TypeId} (z : w.heap[B]? = some (.cells #[x0, x1, x2, x3, x4] ty (0, 0))) : w.cell? ⟨B, 0, none⟩ = some x0 ∧ w.cell? ⟨B, 1, none⟩ = some x1 ∧ w.cell? ⟨B, 2, none⟩ = some x2 ∧ w.cell? ⟨B, 3, none⟩ = some x3 ∧ w.cell? ⟨B, 4, none⟩ = some x4 := by
  refine ⟨?_, ?_, ?_, ?_, ?_⟩ <;> (rw [cell_of_row _ _ _ _ _ _ z]; rfl)
theorem box1 (w : World) (cs : Array Value) (ty : TypeId) : Below w.heap.size w (w.alloc (.cells cs ty)) ∧ (w.alloc (.cells cs ty)).heap[w.heap.size]? = some (.cells cs ty (0, 0)) ∧ (w.alloc (.cells cs ty)).heap.size = w.heap.size + 1 :=
  ⟨(Below.refl _ _).alloc (Nat.le_refl _) _, heap_alloc_new _ _, by simp⟩
theorem box2 (w : World) (cs zs : Array Value) (ty tz : TypeId) : Below w.heap.size w ((w.alloc (.cells cs ty)).alloc (.cells zs tz)) ∧ ((w.alloc (.cells cs ty)).alloc (.cells zs tz)).heap[w.heap.size]? = some (.cells cs ty (0, 0)) ∧ ((w.alloc (.cells cs ty)).alloc (.cells zs tz)).heap[w.heap.size + 1]? = some (.cells zs tz (0, 0)) ∧ ((w.alloc (.cells cs ty)).alloc (.cells zs tz)).heap.size = w.heap.size + 1 + 1 := by
  refine ⟨((Below.refl _ _).alloc (Nat.le_refl _) _).alloc (by simp) _, ?_, ?_, by simp⟩ <;> (simp only [alloc_at, World.size_alloc]; repeat (first | rw [if_pos (by first | trivial | omega)] | rw [if_neg (by omega)]))

set_option maxHeartbeats 2000000 in
theorem new_any (i l : Int) (w : World) : Calls Tryd.prog 41 #[.int .i64 i, .int .i64 l] w (GiveSg w i l [] [] []) := by
  obtain ⟨W0, hW0⟩ : ∃ W0, W0 = w.alloc (.cells #[.int .i64 0, .int .i64 0, .pointer none, .slice none 0 0, .slice none 0 0] 33) := ⟨_, rfl⟩
  obtain ⟨b0, r0, l0⟩ := box1 w #[.int .i64 0, .int .i64 0, .pointer none, .slice none 0 0, .slice none 0 0] 33
  rw [← hW0] at b0 r0 l0
  have z : ZSeg W0 w.heap.size := r0
  obtain ⟨c0, c1, c2, c3, c4, f0, f1, f2, f3, f4⟩ := zseg_cells z
  have FIN := Lib.hid (give_sg (w := w) (i := i) (l := l) (Nat.le_refl _) z (Con.nil_is W0) (Spans.nil_ W0) (Sites.nil_ W0) (by simp) b0)
  obtain ⟨y0, y1, y2, y3, y4⟩ := set5_cells (a0 := .int .i64 i) (a1 := .int .i64 l) (a2 := .pointer none) (a3 := .slice none 0 0) (a4 := .slice none 0 0) z
  have HW0 := Lib.hid hW0
  clear hW0 b0 r0 z
  go_enter Tryd.func41, Tryd.ntmps41
  go_upto_region 1 with fail
  rw [← HW0.out]
  go_wp2_with fail
  exact bodyPost_ret (v := .agg #[.int .i64 i, .int .i64 l, .pointer none, .slice none 0 0, .slice none 0 0]) (by simp only [set5] at y0 y1 y2 y3 y4; simp [results, Tryd.results41, go_sem, y0, y1, y2, y3, y4]) rfl ⟨_, rfl, FIN.out.1, FIN.out.2⟩

set_option maxHeartbeats 2000000 in
theorem id_any {v : Value} {i l : Int} {L : Bytes} {S : List Sp} {T : List St} (w : World) (h : Sg w v i l L S T) : Calls Tryd.prog 45 #[v] w fun e w' => e = .returned (.int .i64 i) ∧ Below w.heap.size w w' := by
  obtain ⟨q, sa, sc, ta, tc, rfl, _, _, _⟩ := h.open_
  generalize S.length = ls at *
  generalize T.length = lt at *
  clear h
  have FIN := Lib.hid (box1 w #[.int .i64 i, .int .i64 l, .pointer q, .slice sa ls sc, .slice ta lt tc] 33).1
  go_enter Tryd.func45, Tryd.ntmps45
  go_wp2_with fail
  go_ret
  exact ⟨rfl, FIN.out⟩
set_option maxHeartbeats 2000000 in
theorem label_any {v : Value} {i l : Int} {L : Bytes} {S : List Sp} {T : List St} (w : World) (h : Sg w v i l L S T) : Calls Tryd.prog 91 #[v] w fun e w' => e = .returned (.int .i64 l) ∧ Below w.heap.size w w' := by
  obtain ⟨q, sa, sc, ta, tc, rfl, _, _, _⟩ := h.open_
  generalize S.length = ls at *
  generalize T.length = lt at *
  clear h
  have FIN := Lib.hid (box1 w #[.int .i64 i, .int .i64 l, .pointer q, .slice sa ls sc, .slice ta lt tc] 33).1
  go_enter Tryd.func91, Tryd.ntmps91
  go_wp2_with fail
  go_ret
  exact ⟨rfl, FIN.out⟩
set_option maxHeartbeats 2000000 in
theorem rope_any {v : Value} {i l : Int} {L : Bytes} {S : List Sp} {T : List St} (w : World) (h : Sg w v i l L S T) : Calls Tryd.prog 15 #[v] w fun e w' => ∃ q, e = .returned (.pointer q) ∧ IsRope w' L (.pointer q) ∧ Below w.heap.size w w' := by
  obtain ⟨q, sa, sc, ta, tc, rfl, hR, _, _⟩ := h.open_
  generalize S.length = ls at *
  generalize T.length = lt at *
  clear h
  have FIN := Lib.hid (box1 w #[.int .i64 i, .int .i64 l, .pointer q, .slice sa ls sc, .slice ta lt tc] 33).1
  have HR := Lib.hid (hR.below FIN.out (Nat.le_refl _))
  clear hR
  go_enter Tryd.func15, Tryd.ntmps15
  go_wp2_with fail
  go_ret
  exact ⟨_, rfl, HR.out, FIN.out⟩
theorem rlen_is {x : Bytes} {v : Value} (w : World) (h : IsRope w x v) : Calls Tryd.prog 20 #[v] w fun e w' => e = .returned (.int .i64 (Let.cnt x)) ∧ w = w' := by
  obtain ⟨t, h1, h2, h3, h4⟩ := Con.IsRope.by h
  have := Con.len_any w h1
  rw [Tree.T.cn_txtn h2, h3] at this
  exact this
theorem rbytes_is {x : Bytes} {v : Value} (w : World) (h : IsRope w x v) : Calls Tryd.prog 69 #[v] w fun e w' => e = .returned (.int .i64 x.length) ∧ w = w' := by
  obtain ⟨t, h1, h2, h3, h4⟩ := Con.IsRope.by h
  have := Con.bytes_any w h1
  rw [h4] at this
  exact this
/-- Is there room? -/
def fitB (a b : Nat) (q : Int) : Bool := decide ((a : Int) + b ≤ q)
set_option maxHeartbeats 2000000 in
theorem fits_any {v u : Value} {i l : Int} {L M : Bytes} {S : List Sp} {T : List St} (q : Int) (w : World) (h : Sg w v i l L S T) (hu : IsRope w M u) (q1 : -9223372036854775808 ≤ q) (q2 : q ≤ 9223372036854775807) (b1 : L.length ≤ 1073741824) (b2 : M.length ≤ 1073741824) :
    Calls Tryd.prog 60 #[v, u, .int .i64 q] w fun e w' => e = .returned (.bool (fitB L.length M.length q)) ∧ Below w.heap.size w w' := by
  obtain ⟨p, sa, sc, ta, tc, rfl, hR, _, _⟩ := h.open_
  generalize S.length = ls at *
  generalize T.length = lt at *
  clear h
  obtain ⟨pu, rfl⟩ := rope_ptr hu
  have FIN := Lib.hid (box1 w #[.int .i64 i, .int .i64 l, .pointer p, .slice sa ls sc, .slice ta lt tc] 33).1
  have C1 : Hid (∀ w', Below w.heap.size w w' → Calls Tryd.prog 69 #[.pointer p] w' fun e w'' => e = .returned (.int .i64 L.length) ∧ w' = w'') := fun w' hb => rbytes_is w' (hR.below hb (Nat.le_refl _))
  have C2 : Hid (∀ w', Below w.heap.size w w' → Calls Tryd.prog 69 #[.pointer pu] w' fun e w'' => e = .returned (.int .i64 M.length) ∧ w' = w'') := fun w' hb => rbytes_is w' (hu.below hb (Nat.le_refl _))
  have EF : Hid (∀ b : Bool, (b = true ↔ (L.length : Int) + (M.length : Int) ≤ q) → b = fitB L.length M.length q) := fun b hb => by
    unfold fitB
    cases b with
    | true => rw [decide_eq_true (hb.1 rfl)]
    | false => rw [decide_eq_false (fun h => by have := hb.2 h; cases this)]
  generalize hm : L.length = m at *
  generalize hn : M.length = n at *
  clear hR hu hm hn
  go_enter Tryd.func60, Tryd.ntmps60
  go_wp2_with fail
  refine (C1.out _ FIN.out).mono ?_
  rintro e w1 ⟨rfl, rfl⟩
  by_cases h1 : (m : Int) ≤ q
  · have z1 : IntKind.i64.wrap (q - (m : Int)) = q - (m : Int) := IntWalk.i64_in _ (by omega)
    have d1 : decide ((m : Int) ≤ q) = true := decide_eq_true h1
    go_wp2_with fail
    refine (C2.out _ FIN.out).mono ?_
    rintro e w2 ⟨rfl, rfl⟩
    go_wp2_with fail
    go_ret
    exact ⟨congrArg Ending.returned (congrArg Value.bool (EF.out _ (by simp; omega))), FIN.out⟩
  · have d1 : decide ((m : Int) ≤ q) = false := decide_eq_false h1
    go_wp2_with fail
    go_ret
    exact ⟨congrArg Ending.returned (congrArg Value.bool (EF.out _ (by simp; omega))), FIN.out⟩
def placeI (c : Nat) (a : Int) : Int := min (max a 0) c
set_option maxHeartbeats 2000000 in
theorem place_any {v : Value} {i l : Int} {L : Bytes} {S : List Sp} {T : List St} (a : Int) (w : World) (h : Sg w v i l L S T) (a1 : -9223372036854775808 ≤ a) (a2 : a ≤ 9223372036854775807) :
    Calls Tryd.prog 62 #[v, .int .i64 a] w fun e w' => e = .returned (.int .i64 (placeI (Let.cnt L) a)) ∧ Below w.heap.size w w' := by
  obtain ⟨p, sa, sc, ta, tc, rfl, hR, _, _⟩ := h.open_
  generalize S.length = ls at *
  generalize T.length = lt at *
  clear h
  have FIN := Lib.hid (box1 w #[.int .i64 i, .int .i64 l, .pointer p, .slice sa ls sc, .slice ta lt tc] 33).1
  have C1 : Hid (∀ w', Below w.heap.size w w' → Calls Tryd.prog 20 #[.pointer p] w' fun e w'' => e = .returned (.int .i64 (Let.cnt L)) ∧ w' = w'') := fun w' hb => rlen_is w' (hR.below hb (Nat.le_refl _))
  have EN : Hid (placeI (Let.cnt L) a = min (max a 0) (Let.cnt L)) := rfl
  generalize placeI (Let.cnt L) a = r at *
  generalize Let.cnt L = c at *
  clear hR
  go_enter Tryd.func62, Tryd.ntmps62
  go_wp2_with fail
  refine (C1.out _ FIN.out).mono ?_
  rintro e w1 ⟨rfl, rfl⟩
  go_wp2_with fail
  go_ret
  exact ⟨congrArg Ending.returned (congrArg (Value.int .i64) EN.out.symm), FIN.out⟩
end Go.Proofs.YtcpdoicbekcpeaaDoor.Seg

namespace Go.Proofs.YtcpdoicbekcpeaaDoor.Seg
open Go.RowKit Go.Lib Go.Proofs.YtcpdoicbekcpeaaDoor.Rt Go.Proofs.YtcpdoicbekcpeaaDoor.Rig

theorem ord_len : ∀ {S : List Sp} {lo n : Int}, Ord lo n S → lo ≤ n → lo + S.length ≤ n
  | [], _, _, _, h => by simpa using h
  | s :: S, _, _, ⟨_, b, c, d, e⟩, h => by
    have := ord_len e d
    rw [List.length_cons]
    omega
theorem RS_len {S : List Sp} {n : Int} (h : RS 0 0 n S) (hn : 0 ≤ n) : (S.length : Int) ≤ n := by
  have := ord_len h.ord hn
  omega
theorem RT_pos {T : List St} {n : Int} (h : RT n T) : ∀ s ∈ T, 0 < s.m := fun s hs => (h.2 s hs).1
theorem Fl.put1 {w : World} {v x u : Value} {n k B j : Nat} {zs : List Int} (h : Fl w v n k zs) (c : w.cell? ⟨B, j, none⟩ = some x) (hx : ∀ z, x ≠ .int .i64 z) : Fl (w.setCell ⟨B, j, none⟩ u) v n k zs := by
  refine Fl.one (B := B) h (by simp) (fun b e _ => Below.heap_setCell _ _ _ _ e) (fun b o i e hi h1 h2 => ?_)
  subst e
  by_cases hj : o + i = j
  · rw [hj, c] at h1
    exact absurd (Option.some.inj h1) (hx _)
  · rw [World.cell?_setCell_other (w := w) (a := ⟨b, j, none⟩) (b := ⟨b, o + i, none⟩) (h := fun e => hj (by injection e with _ e; exact e.symm))]
    exact h1
theorem rope_put {w : World} {B j : Nat} {cs : Array Value} {ty : TypeId} {L : Bytes} {v u : Value} (h : IsRope w L v) (r : w.heap[B]? = some (.cells cs ty (0, 0))) (hty : ty ≠ 126) : IsRope (w.setCell ⟨B, j, none⟩ u) L v :=
  rope_kept h r hty (fun b e => Below.heap_setCell _ _ _ _ e) (by simp)

def strTo (c : Nat) (a n : Int) : Int := placeI c a + min (max n 0) ((c : Int) - placeI c a)
theorem place_nat (c : Nat) (a : Int) : ∃ p : Nat, placeI c a = p ∧ p ≤ c := ⟨(placeI c a).toNat, by unfold placeI; omega, by unfold placeI; omega⟩
theorem str_nat (c : Nat) (a n : Int) : ∃ p e : Nat, placeI c a = p ∧ strTo c a n = e ∧ p ≤ e ∧ e ≤ c := ⟨(placeI c a).toNat, (strTo c a n).toNat, by unfold placeI; omega, by unfold strTo placeI; omega, by unfold strTo placeI; omega, by unfold strTo placeI; omega⟩

set_option maxHeartbeats 4000000 in
theorem sput_any {v u : Value} {i l : Int} {L M : Bytes} {S : List Sp} {T : List St} (p : Nat) (mk : Int) (w : World) (h : Sg w v i l L S T) (hu : IsRope w M u) (hRS : RS 0 0 (Let.cnt L) S) (hRT : RT (Let.cnt L) T) (hp : p ≤ Let.cnt L) (hmk : i64 mk) (b1 : L.length ≤ 10000) (b2 : M.length ≤ 10000) (hlt : T.length ≤ 10000) :
    Calls Tryd.prog 61 #[v, .int .i64 p, u, .int .i64 mk] w (GiveSg w i l (Let.put L p M) (pPut S p (Let.cnt M) mk) (pPutT T p (Let.cnt M))) := by
  obtain ⟨q, sa, sc, ta, tc, rfl, hR, hS, hT⟩ := h.open_
  obtain ⟨pu, rfl⟩ := rope_ptr hu
  have hc := Let.cnt_len L
  have hcm := Let.cnt_len M
  have hls := RS_len hRS (by omega)
  have POS : Hid (∀ s ∈ pPutT T p (Let.cnt M), 0 < s.m) := RT_pos (pPutT_right hRT (p := p) (k := Let.cnt M) (by omega) (by omega))
  have CP : Hid (∀ w', Below w.heap.size w w' → Calls Tryd.prog 94 #[.pointer q, .int .i64 p, .pointer pu] w' (Con.Roped w' (Let.put L p M))) := fun w' hb => Con.put_is w' p (hR.below hb (Nat.le_refl _)) (hu.below hb (Nat.le_refl _)) (by omega) (by omega) (by omega)
  have CL : Hid (∀ w', Below w.heap.size w w' → Calls Tryd.prog 20 #[.pointer pu] w' fun e w'' => e = .returned (.int .i64 (Let.cnt M)) ∧ w'' = w') := fun w' hb => (rlen_is w' (hu.below hb (Nat.le_refl _))).mono fun e w'' h => ⟨h.1, h.2.symm⟩
  have CM : Hid (∀ w', Below w.heap.size w w' → Calls Tryd.prog 95 #[.agg #[.slice sa S.length sc, .slice ta T.length tc], .int .i64 p, .int .i64 (Let.cnt M), .int .i64 mk] w' (GivesM w' (pPut S p (Let.cnt M) mk) (pPutT T p (Let.cnt M)))) := fun w' hb => Rig.put_any (Let.cnt L) p (Let.cnt M) mk w' (hS.below hb (Nat.le_refl _)) (hT.below hb (Nat.le_refl _)) hRS hRT (by omega) (by omega) (by omega) (by omega) (by omega) hmk (by omega) hlt
  generalize pPut S p (Let.cnt M) mk = S1 at *
  generalize pPutT T p (Let.cnt M) = T1 at *
  generalize Let.put L p M = L1 at *
  generalize Let.cnt M = k at *
  generalize S.length = ls at *
  generalize T.length = lt at *
  obtain ⟨W0, hW0⟩ : ∃ W0, W0 = (w.alloc (.cells #[.int .i64 i, .int .i64 l, .pointer q, .slice sa ls sc, .slice ta lt tc] 33)).alloc (.cells #[.int .i64 0, .int .i64 0, .pointer none, .slice none 0 0, .slice none 0 0] 33) := ⟨_, rfl⟩
  obtain ⟨b0, r0, z0, l0⟩ := box2 w #[.int .i64 i, .int .i64 l, .pointer q, .slice sa ls sc, .slice ta lt tc] #[.int .i64 0, .int .i64 0, .pointer none, .slice none 0 0, .slice none 0 0] 33 33
  rw [← hW0] at b0 r0 z0 l0
  have B0 := Lib.hid b0
  have HW0 := Lib.hid hW0
  have HR0 := Lib.hid r0
  have HZ0 : Hid (ZSeg W0 (w.heap.size + 1)) := z0
  have HL0 : Hid (W0.heap.size = w.heap.size + 1 + 1) := l0
  clear h hu hR hS hT hRS hRT b0 r0 z0 l0 hW0 hls hc hcm b1 b2 hlt hp
  obtain ⟨c0, c1, c2, c3, c4⟩ := five_cells HR0.out
  obtain ⟨mk1, mk2⟩ := hmk
  go_enter Tryd.func61, Tryd.ntmps61
  go_upto_region 1 with fail
  rw [← HW0.out]
  go_wp2_with fail
  refine (CP.out _ B0.out).mono ?_
  rintro e w1 ⟨vn, rfl, hn, hb1⟩
  obtain ⟨qn, rfl⟩ := rope_ptr hn
  have HR1 : Hid (w1.heap[w.heap.size]? = some (.cells #[.int .i64 i, .int .i64 l, .pointer q, .slice sa ls sc, .slice ta lt tc] 33 (0, 0))) := (hb1.block _ (by have := HL0.out; omega)).trans HR0.out
  have HZ1 : Hid (ZSeg w1 (w.heap.size + 1)) := HZ0.out.below hb1 (by have := HL0.out; omega)
  have B1 := Lib.hid (below_more B0.out hb1)
  have HN1 := Lib.hid hn
  clear c0 c1 c2 c3 c4 hn hb1 CP HZ0 HR0
  obtain ⟨c0, c1, c2, c3, c4⟩ := five_cells HR1.out
  have f2 : w1.frozen? ⟨w.heap.size, 2, none⟩ = false := block_frozen HR1.out
  obtain ⟨W1, hW1⟩ : ∃ W1, W1 = w1.setCell ⟨w.heap.size, 2, none⟩ (.pointer qn) := ⟨_, rfl⟩
  have HR2 : Hid (W1.heap[w.heap.size]? = some (.cells #[.int .i64 i, .int .i64 l, .pointer qn, .slice sa ls sc, .slice ta lt tc] 33 (0, 0))) := by show _ = _; rw [hW1]; exact set_block HR1.out
  have HZ2 : Hid (ZSeg W1 (w.heap.size + 1)) := by show ZSeg _ _; rw [hW1]; exact (Below.heap_setCell _ _ _ _ (by show w.heap.size + 1 ≠ w.heap.size; omega)).trans HZ1.out
  have B2 : Hid (Below w.heap.size w W1) := by show Below _ _ _; rw [hW1]; exact below_put B1.out (Nat.le_refl _) _
  have HN2 : Hid (IsRope W1 L1 (.pointer qn)) := by show IsRope _ _ _; rw [hW1]; exact rope_put HN1.out HR1.out (by decide)
  have HL2 : Hid (w.heap.size + 1 < W1.heap.size) := row_lt HZ2.out
  have HW1 := Lib.hid hW1
  clear hW1
  go_upto_region 2 with fail
  rw [← HW1.out]
  clear c0 c1 c2 c3 c4 f2 HR1 HZ1 HN1 B1 HW1
  refine still_tail 6 (by kernel_rfl) (by kernel_rfl) ?_
  simp only [List.take_succ_cons, List.take_zero, List.drop_succ_cons, List.drop_zero]
  obtain ⟨W2, hW2⟩ : ∃ W2, W2 = W1.drew := ⟨_, rfl⟩
  rw [← hW2]
  have B3 : Hid (Below w.heap.size w W2) := by show Below _ _ _; rw [hW2]; exact B2.out.drew
  have HR3 : Hid (W2.heap[w.heap.size]? = some (.cells #[.int .i64 i, .int .i64 l, .pointer qn, .slice sa ls sc, .slice ta lt tc] 33 (0, 0))) := by show _ = _; rw [hW2]; exact HR2.out
  have HZ3 : Hid (ZSeg W2 (w.heap.size + 1)) := by show ZSeg _ _; rw [hW2]; exact HZ2.out
  have HN3 : Hid (IsRope W2 L1 (.pointer qn)) := by show IsRope _ _ _; rw [hW2]; exact HN2.out.below (Below.refl _ _).drew (Nat.le_refl _)
  have HL3 : Hid (w.heap.size + 1 < W2.heap.size) := row_lt HZ3.out
  clear hW2 HR2 HZ2 HN2 B2 HL2
  obtain ⟨c0, c1, c2, c3, c4⟩ := five_cells HR3.out
  repeat still_step
  still_call (CL.out _ B3.out)
  repeat still_step
  refine wpStill_nil ?_
  go_wp2_with fail
  refine (CM.out _ B3.out).mono ?_
  rintro e w3 ⟨u1, u2, rfl, g1, g2, hb3⟩
  obtain ⟨a1, d1, rfl⟩ := g1.is_slice
  obtain ⟨a2, d2, rfl⟩ := g2.is_slice
  have HR4 : Hid (w3.heap[w.heap.size]? = some (.cells #[.int .i64 i, .int .i64 l, .pointer qn, .slice sa ls sc, .slice ta lt tc] 33 (0, 0))) := (hb3.block _ (by have := HL3.out; omega)).trans HR3.out
  have HZ4 : Hid (ZSeg w3 (w.heap.size + 1)) := HZ3.out.below hb3 HL3.out
  have B4 := Lib.hid (below_more B3.out hb3)
  have HN4 := Lib.hid (HN3.out.below hb3 (Nat.le_refl _))
  have G1 := Lib.hid g1
  have G2 := Lib.hid g2
  clear c0 c1 c2 c3 c4 g1 g2 hb3 CM HR3 HZ3 HN3 HL3
  generalize S1.length = n1 at *
  generalize T1.length = n2 at *
  obtain ⟨c0, c1, c2, c3, c4⟩ := five_cells HR4.out
  have f3 : w3.frozen? ⟨w.heap.size, 3, none⟩ = false := block_frozen HR4.out
  have f4 : w3.frozen? ⟨w.heap.size, 4, none⟩ = false := block_frozen HR4.out
  obtain ⟨W5, hW5⟩ : ∃ W5, W5 = (w3.setCell ⟨w.heap.size, 3, none⟩ (.slice a1 n1 d1)).setCell ⟨w.heap.size, 4, none⟩ (.slice a2 n2 d2) := ⟨_, rfl⟩
  have R4a : (w3.setCell ⟨w.heap.size, 3, none⟩ (.slice a1 n1 d1)).heap[w.heap.size]? = some (.cells #[.int .i64 i, .int .i64 l, .pointer qn, .slice a1 n1 d1, .slice ta lt tc] 33 (0, 0)) := set_block HR4.out
  have HR5 : Hid (W5.heap[w.heap.size]? = some (.cells #[.int .i64 i, .int .i64 l, .pointer qn, .slice a1 n1 d1, .slice a2 n2 d2] 33 (0, 0))) := by show _ = _; rw [hW5]; exact set_block R4a
  have HZ5 : Hid (ZSeg W5 (w.heap.size + 1)) := by
    show ZSeg _ _
    rw [hW5]
    exact (Below.heap_setCell _ _ _ _ (by show w.heap.size + 1 ≠ w.heap.size; omega)).trans ((Below.heap_setCell _ _ _ _ (by show w.heap.size + 1 ≠ w.heap.size; omega)).trans HZ4.out)
  have B5 : Hid (Below w.heap.size w W5) := by show Below _ _ _; rw [hW5]; exact below_put (below_put B4.out (Nat.le_refl _) _) (Nat.le_refl _) _
  have HN5 : Hid (IsRope W5 L1 (.pointer qn)) := by show IsRope _ _ _; rw [hW5]; exact rope_put (rope_put HN4.out HR4.out (by decide)) R4a (by decide)
  have G3 : Hid (Spans W5 (.slice a1 n1 d1) S1) := by show Spans _ _ _; rw [hW5]; exact Fl.put1 (Fl.put1 G1.out c3 (sl_ni _ _ _)) (five_cells R4a).2.2.2.2 (sl_ni _ _ _)
  have G4 : Hid (Sites W5 (.slice a2 n2 d2) T1) := by show Sites _ _ _; rw [hW5]; exact Fl.put1 (Fl.put1 G2.out c3 (sl_ni _ _ _)) (five_cells R4a).2.2.2.2 (sl_ni _ _ _)
  have HW5 := Lib.hid hW5
  clear hW5 R4a HZ4 B4 HN4 G1 G2
  go_upto_region 3 with fail
  rw [← HW5.out]
  clear c0 c1 c2 c3 c4 f3 f4 HW5 HR4
  obtain ⟨c0, c1, c2, c3, c4⟩ := five_cells HR5.out
  obtain ⟨k0, k1, k2, k3, k4, f0, f1, f2, f3, f4⟩ := zseg_cells HZ5.out
  have FIN := Lib.hid (give_sg (w := w) (i := i) (l := l) (Nat.le_add_right _ 1) HZ5.out HN5.out G3.out G4.out POS.out B5.out)
  obtain ⟨y0, y1, y2, y3, y4⟩ := set5_cells (a0 := .int .i64 i) (a1 := .int .i64 l) (a2 := .pointer qn) (a3 := .slice a1 n1 d1) (a4 := .slice a2 n2 d2) HZ5.out
  go_wp2_with fail
  exact bodyPost_ret (v := .agg #[.int .i64 i, .int .i64 l, .pointer qn, .slice a1 n1 d1, .slice a2 n2 d2]) (by simp only [set5] at y0 y1 y2 y3 y4; simp [results, Tryd.results61, go_sem, y0, y1, y2, y3, y4]) rfl ⟨_, rfl, FIN.out.1, FIN.out.2⟩
end Go.Proofs.YtcpdoicbekcpeaaDoor.Seg

namespace Go.Proofs.YtcpdoicbekcpeaaDoor.Seg
open Go.RowKit Go.Lib Go.Proofs.YtcpdoicbekcpeaaDoor.Rt Go.Proofs.YtcpdoicbekcpeaaDoor.Rig

def GiveIns (w : World) (ok : Bool) (i l : Int) (L : Bytes) (S : List Sp) (T : List St) (e : Ending) (w' : World) : Prop := ∃ v, e = .returned (.tuple #[v, .bool ok]) ∧ Sg w' v i l L S T ∧ Below w.heap.size w w'

set_option maxHeartbeats 4000000 in
theorem insert_no {v u : Value} {i l : Int} {L M : Bytes} {S : List Sp} {T : List St} (at0 mk quota : Int) (w : World) (h : Sg w v i l L S T) (hu : IsRope w M u) (hp : ∀ s ∈ T, 0 < s.m) (q1 : -9223372036854775808 ≤ quota) (q2 : quota ≤ 9223372036854775807) (b1 : L.length ≤ 10000) (b2 : M.length ≤ 10000) (hf : fitB L.length M.length quota = false) :
    Calls Tryd.prog 12 #[v, .int .i64 at0, u, .int .i64 mk, .int .i64 quota] w (GiveIns w false i l L S T) := by
  have CF : Hid (∀ w', Below w.heap.size w w' → Calls Tryd.prog 60 #[v, u, .int .i64 quota] w' fun e w'' => e = .returned (.bool false) ∧ Below w'.heap.size w' w'') := fun w' hb => by
    have := fits_any quota w' (h.below hb (Nat.le_refl _)) (hu.below hb (Nat.le_refl _)) q1 q2 (by omega) (by omega)
    rwa [hf] at this
  obtain ⟨q, sa, sc, ta, tc, rfl, hR, hS, hT⟩ := h.open_
  obtain ⟨pu, rfl⟩ := rope_ptr hu
  have HRR : Hid (∀ w', Below w.heap.size w w' → IsRope w' L (.pointer q) ∧ Spans w' (.slice sa S.length sc) S ∧ Sites w' (.slice ta T.length tc) T) := fun w' hb => ⟨hR.below hb (Nat.le_refl _), hS.below hb (Nat.le_refl _), hT.below hb (Nat.le_refl _)⟩
  generalize S.length = ls at *
  generalize T.length = lt at *
  obtain ⟨W0, hW0⟩ : ∃ W0, W0 = (w.alloc (.cells #[.int .i64 i, .int .i64 l, .pointer q, .slice sa ls sc, .slice ta lt tc] 33)).alloc (.cells #[.int .i64 0, .int .i64 0, .pointer none, .slice none 0 0, .slice none 0 0] 33) := ⟨_, rfl⟩
  obtain ⟨b0, r0, z0, l0⟩ := box2 w #[.int .i64 i, .int .i64 l, .pointer q, .slice sa ls sc, .slice ta lt tc] #[.int .i64 0, .int .i64 0, .pointer none, .slice none 0 0, .slice none 0 0] 33 33
  rw [← hW0] at b0 r0 z0 l0
  have B0 := Lib.hid b0
  have HW0 := Lib.hid hW0
  have HR0 := Lib.hid r0
  have HZ0 : Hid (ZSeg W0 (w.heap.size + 1)) := z0
  have HL0 : Hid (W0.heap.size = w.heap.size + 1 + 1) := l0
  have HP : Hid (∀ s ∈ T, 0 < s.m) := hp
  clear h hu hR hS hT b0 r0 z0 l0 hW0 b1 b2 hf hp
  obtain ⟨c0, c1, c2, c3, c4⟩ := five_cells HR0.out
  go_enter Tryd.func12, Tryd.ntmps12
  go_upto_region 1 with fail
  rw [← HW0.out]
  go_wp2_with fail
  refine (CF.out _ B0.out).mono ?_
  rintro e w1 ⟨rfl, hb1⟩
  have HR1 : Hid (w1.heap[w.heap.size]? = some (.cells #[.int .i64 i, .int .i64 l, .pointer q, .slice sa ls sc, .slice ta lt tc] 33 (0, 0))) := (hb1.block _ (by have := HL0.out; omega)).trans HR0.out
  have HZ1 : Hid (ZSeg w1 (w.heap.size + 1)) := HZ0.out.below hb1 (by have := HL0.out; omega)
  have B1 := Lib.hid (below_more B0.out hb1)
  clear c0 c1 c2 c3 c4 hb1 CF HZ0 HR0
  obtain ⟨c0, c1, c2, c3, c4⟩ := five_cells HR1.out
  obtain ⟨g1, g2, g3⟩ := HRR.out w1 B1.out
  obtain ⟨k0, k1, k2, k3, k4, f0, f1, f2, f3, f4⟩ := zseg_cells HZ1.out
  have FIN := Lib.hid (give_sg (w := w) (i := i) (l := l) (Nat.le_add_right _ 1) HZ1.out g1 g2 g3 HP.out B1.out)
  obtain ⟨y0, y1, y2, y3, y4⟩ := set5_cells (a0 := .int .i64 i) (a1 := .int .i64 l) (a2 := .pointer q) (a3 := .slice sa ls sc) (a4 := .slice ta lt tc) HZ1.out
  clear g1 g2 g3
  go_wp2_with fail
  exact bodyPost_ret (v := .tuple #[.agg #[.int .i64 i, .int .i64 l, .pointer q, .slice sa ls sc, .slice ta lt tc], .bool false]) (by simp only [set5] at y0 y1 y2 y3 y4; simp [results, Tryd.results12, go_sem, y0, y1, y2, y3, y4]) rfl ⟨_, rfl, FIN.out.1, FIN.out.2⟩

set_option maxHeartbeats 4000000 in
theorem insert_yes {v u : Value} {i l : Int} {L M : Bytes} {S : List Sp} {T : List St} (p : Nat) (at0 mk quota : Int) (w : World) (h : Sg w v i l L S T) (hu : IsRope w M u) (hRS : RS 0 0 (Let.cnt L) S) (hRT : RT (Let.cnt L) T) (hp : placeI (Let.cnt L) at0 = p) (a1 : -9223372036854775808 ≤ at0) (a2 : at0 ≤ 9223372036854775807) (hmk : i64 mk) (q1 : -9223372036854775808 ≤ quota) (q2 : quota ≤ 9223372036854775807) (b1 : L.length ≤ 10000) (b2 : M.length ≤ 10000) (hlt : T.length ≤ 10000) (hf : fitB L.length M.length quota = true) :
    Calls Tryd.prog 12 #[v, .int .i64 at0, u, .int .i64 mk, .int .i64 quota] w (GiveIns w true i l (Let.put L p M) (pPut S p (Let.cnt M) mk) (pPutT T p (Let.cnt M))) := by
  have hpc : p ≤ Let.cnt L := by unfold placeI at hp; omega
  have CF : Hid (∀ w', Below w.heap.size w w' → Calls Tryd.prog 60 #[v, u, .int .i64 quota] w' fun e w'' => e = .returned (.bool true) ∧ Below w'.heap.size w' w'') := fun w' hb => by
    have := fits_any quota w' (h.below hb (Nat.le_refl _)) (hu.below hb (Nat.le_refl _)) q1 q2 (by omega) (by omega)
    rwa [hf] at this
  have CA : Hid (∀ w', Below w.heap.size w w' → Calls Tryd.prog 62 #[v, .int .i64 at0] w' fun e w'' => e = .returned (.int .i64 p) ∧ Below w'.heap.size w' w'') := fun w' hb => by
    have := place_any at0 w' (h.below hb (Nat.le_refl _)) a1 a2
    rwa [hp] at this
  have CP : Hid (∀ w', Below w.heap.size w w' → Calls Tryd.prog 61 #[v, .int .i64 p, u, .int .i64 mk] w' (GiveSg w' i l (Let.put L p M) (pPut S p (Let.cnt M) mk) (pPutT T p (Let.cnt M)))) := fun w' hb => sput_any p mk w' (h.below hb (Nat.le_refl _)) (hu.below hb (Nat.le_refl _)) hRS hRT hpc hmk b1 b2 hlt
  have POS : Hid (∀ s ∈ pPutT T p (Let.cnt M), 0 < s.m) := RT_pos (pPutT_right hRT (p := p) (k := Let.cnt M) (by omega) (by omega))
  generalize pPut S p (Let.cnt M) mk = S1 at *
  generalize pPutT T p (Let.cnt M) = T1 at *
  generalize Let.put L p M = L1 at *
  obtain ⟨q, sa, sc, ta, tc, rfl, hR, hS, hT⟩ := h.open_
  obtain ⟨pu, rfl⟩ := rope_ptr hu
  generalize S.length = ls at *
  generalize T.length = lt at *
  obtain ⟨W0, hW0⟩ : ∃ W0, W0 = (w.alloc (.cells #[.int .i64 i, .int .i64 l, .pointer q, .slice sa ls sc, .slice ta lt tc] 33)).alloc (.cells #[.int .i64 0, .int .i64 0, .pointer none, .slice none 0 0, .slice none 0 0] 33) := ⟨_, rfl⟩
  obtain ⟨b0, r0, z0, l0⟩ := box2 w #[.int .i64 i, .int .i64 l, .pointer q, .slice sa ls sc, .slice ta lt tc] #[.int .i64 0, .int .i64 0, .pointer none, .slice none 0 0, .slice none 0 0] 33 33
  rw [← hW0] at b0 r0 z0 l0
  have BX : Hid (∀ w', Below (w.heap.size + 1) W0 w' → Below (w.heap.size + 1) W0 w' ∧ w'.cell? ⟨w.heap.size, 0, none⟩ = some (.int .i64 i) ∧ w'.cell? ⟨w.heap.size, 1, none⟩ = some (.int .i64 l) ∧ w'.cell? ⟨w.heap.size, 2, none⟩ = some (.pointer q) ∧ w'.cell? ⟨w.heap.size, 3, none⟩ = some (.slice sa ls sc) ∧ w'.cell? ⟨w.heap.size, 4, none⟩ = some (.slice ta lt tc)) := fun w' hb => ⟨hb, five_cells ((hb.block _ (by omega)).trans r0)⟩
  have BZ : Hid (∀ w', Below W0.heap.size W0 w' → ZSeg w' (w.heap.size + 1)) := fun w' hb => ZSeg.below z0 hb (by omega)
  have BL : Hid (w.heap.size + 1 ≤ W0.heap.size) := by show _ ≤ _; omega
  have KB : Hid (∀ w', Below (w.heap.size + 1) W0 w' → Below w.heap.size w w') := fun w' hb => below_box b0 hb
  have HW0 := Lib.hid hW0
  have HRF := Lib.hid (Below.refl W0.heap.size W0)
  clear h hu hR hS hT hRS hRT b0 r0 z0 l0 hW0 b1 b2 hlt hf hpc
  obtain ⟨mk1, mk2⟩ := hmk
  obtain ⟨_, c0, c1, c2, c3, c4⟩ := BX.out W0 (Below.refl _ _)
  go_enter Tryd.func12, Tryd.ntmps12
  go_upto_region 1 with fail
  rw [← HW0.out]
  go_wp2_with fail
  refine (CF.out _ (KB.out _ (Below.refl _ _))).mono ?_
  rintro e w1 ⟨rfl, hb1⟩
  have e1 : Below W0.heap.size W0 w1 := hb1
  have d1 : Below (w.heap.size + 1) W0 w1 := below_call (Below.refl _ _) BL.out hb1
  clear c0 c1 c2 c3 c4 hb1 CF
  obtain ⟨_, c0, c1, c2, c3, c4⟩ := BX.out w1 d1
  go_upto_region 3 with fail
  go_region_held3 (fun w' => Below (w.heap.size + 1) W0 w' ∧ w'.cell? ⟨w.heap.size, 0, none⟩ = some (.int .i64 i) ∧ w'.cell? ⟨w.heap.size, 1, none⟩ = some (.int .i64 l) ∧ w'.cell? ⟨w.heap.size, 2, none⟩ = some (.pointer q) ∧ w'.cell? ⟨w.heap.size, 3, none⟩ = some (.slice sa ls sc) ∧ w'.cell? ⟨w.heap.size, 4, none⟩ = some (.slice ta lt tc))
    ((refine BX.out _ ?_; focus ((repeat first | assumption | apply Below.drew | apply below_drews | (refine below_put ?_ (Nat.le_refl _) _)); done)))
    (first
      | (go_at_call 62; (with_reducible refine (CA.out _ (KB.out _ ?_)).mono ?_); (focus ((repeat first | assumption | apply Below.drew | apply below_drews); done)); rintro e w2 ⟨rfl, b2⟩; have e2 := below_more (B := W0.heap.size) (w := W0) (by (repeat first | assumption | apply Below.drew | apply below_drews)) b2; have d2 := below_call (W0 := W0) (B := w.heap.size + 1) (by (repeat first | assumption | apply Below.drew | apply below_drews)) BL.out b2)
      | (go_at_call 61; (with_reducible refine (CP.out _ (KB.out _ ?_)).mono ?_); (focus ((repeat first | assumption | apply Below.drew | apply below_drews); done)); rintro e w3 ⟨v3, rfl, o3, b3⟩; obtain ⟨q3, a3, x3, a4, x4, rfl, g1, g2, g3⟩ := o3.open_; have e3 := below_more (B := W0.heap.size) (w := W0) (by (repeat first | assumption | apply Below.drew | apply below_drews)) b3; have d3 := below_call (W0 := W0) (B := w.heap.size + 1) (by (repeat first | assumption | apply Below.drew | apply below_drews)) BL.out b3; have z := BZ.out _ e3; obtain ⟨k0, k1, k2, k3, k4, f0, f1, f2, f3, f4⟩ := zseg_cells z))
  have FIN := Lib.hid (give_sg (w := w) (i := i) (l := l) (Nat.le_add_right _ 1) z g1 g2 g3 POS.out (KB.out _ d3))
  obtain ⟨y0, y1, y2, y3, y4⟩ := set5_cells (a0 := .int .i64 i) (a1 := .int .i64 l) (a2 := .pointer q3) (a3 := .slice a3 S1.length x3) (a4 := .slice a4 T1.length x4) z
  clear g1 g2 g3 o3 b3 b2
  generalize S1.length = n1 at *
  generalize T1.length = n2 at *
  go_wp2_with fail
  exact bodyPost_ret (v := .tuple #[.agg #[.int .i64 i, .int .i64 l, .pointer q3, .slice a3 n1 x3, .slice a4 n2 x4], .bool true]) (by simp only [set5] at y0 y1 y2 y3 y4; simp [results, Tryd.results12, go_sem, y0, y1, y2, y3, y4]) rfl ⟨_, rfl, FIN.out.1, FIN.out.2⟩
end Go.Proofs.YtcpdoicbekcpeaaDoor.Seg

namespace Go.Proofs.YtcpdoicbekcpeaaDoor.Seg
open Go.RowKit Go.Lib Go.Proofs.YtcpdoicbekcpeaaDoor.Rt Go.Proofs.YtcpdoicbekcpeaaDoor.Rig

/-- All blocks of W but those in R are as they were. -/
structure Kp (R : Nat → Prop) (W w' : World) : Prop where
  b0 : Below 0 W w'
  blk : ∀ k, k < W.heap.size → ¬ R k → w'.heap[k]? = W.heap[k]?
theorem Kp.refl (R : Nat → Prop) (W : World) : Kp R W W := ⟨Below.refl _ _, fun _ _ _ => rfl⟩
theorem Kp.call {R : Nat → Prop} {W w1 w2 : World} (h : Kp R W w1) (h2 : Below w1.heap.size w1 w2) : Kp R W w2 :=
  ⟨h.b0.trans (h2.mono (Nat.zero_le _)), fun k hk hR => (h2.block k (Nat.lt_of_lt_of_le hk h.b0.size)).trans (h.blk k hk hR)⟩
theorem Kp.put {R : Nat → Prop} {W w1 : World} {B j : Nat} (h : Kp R W w1) (hB : R B) (u : Value) : Kp R W (w1.setCell ⟨B, j, none⟩ u) :=
  ⟨h.b0.setCell (p := ⟨B, j, none⟩) (Nat.zero_le _) u, fun k hk hR => (Below.heap_setCell _ _ _ _ (fun e => hR (by rw [e]; exact hB))).trans (h.blk k hk hR)⟩
theorem Kp.putR {W w1 : World} {B j : Nat} {u : Value} (h : Kp (fun k => k = B) W w1) : Kp (fun k => k = B) W (w1.setCell ⟨B, j, none⟩ u) := h.put rfl u
theorem Kp.alloc {R : Nat → Prop} {W w1 : World} (h : Kp R W w1) (o : Obj) : Kp R W (w1.alloc o) := h.call ((Below.refl _ _).alloc (Nat.le_refl _) _)
theorem Kp.drew {R : Nat → Prop} {W w1 : World} (h : Kp R W w1) : Kp R W w1.drew := ⟨h.b0.drew, h.blk⟩
theorem Kp.drews {R : Nat → Prop} {W w1 : World} (h : Kp R W w1) (n : Nat) : Kp R W (w1.drewN n) := ⟨below_drews h.b0 n, h.blk⟩
theorem Kp.below {R : Nat → Prop} {base : Nat} {w W w' : World} (h : Kp R W w') (hb : Below base w W) (hR : ∀ k, k < base → ¬ R k) (hs : base ≤ W.heap.size) : Below base w w' :=
  ⟨h.b0.os.trans hb.os, h.b0.tape.trans hb.tape, h.b0.output.trans hb.output, Nat.le_trans hb.size h.b0.size, fun k hk => (h.blk k (Nat.lt_of_lt_of_le hk hs) (hR k hk)).trans (hb.block k hk)⟩
theorem Kp.row {R : Nat → Prop} {W w' : World} {k : Nat} {x : Obj} (h : Kp R W w') (r : W.heap[k]? = some x) (hR : ¬ R k) : w'.heap[k]? = some x :=
  (h.blk k (Array.getElem?_eq_some_iff.1 r).1 hR).trans r
theorem mright_of {S : List Sp} {T : List St} {n : Int} (h : mrightB S T n = true) : RS 0 0 n S ∧ RT n T := mright_iff.1 h

def ZPl (w : World) (B : Nat) : Prop := w.heap[B]? = some (.cells #[.int .i64 0, .int .i64 0, .string (ByteArray.mk #[]), .slice none 0 0, .slice none 0 0] 25 (0, 0))
theorem ZPl.below {w w' : World} {B b : Nat} (h : ZPl w B) (hb : Below b w w') (hB : B < b) : ZPl w' B := (hb.block B hB).trans h
theorem give_pl {w W : World} {B : Nat} {i l : Int} {L : Bytes} {S : List Sp} {T : List St} {sa ta : Option Addr} {n1 n2 sc tc : Nat} (hB : w.heap.size ≤ B) (z : ZPl W B) (h2 : Spans W (.slice sa n1 sc) S) (h3 : Sites W (.slice ta n2 tc) T) (hp : ∀ s ∈ T, 0 < s.m) (hb : Below w.heap.size w W) :
    Pl (set5 W B (.int .i64 i) (.int .i64 l) (.string (Let.mk L)) (.slice sa n1 sc) (.slice ta n2 tc)) (.agg #[.int .i64 i, .int .i64 l, .string (Let.mk L), .slice sa n1 sc, .slice ta n2 tc]) i l L S T ∧ Below w.heap.size w (set5 W B (.int .i64 i) (.int .i64 l) (.string (Let.mk L)) (.slice sa n1 sc) (.slice ta n2 tc)) :=
  ⟨⟨_, _, rfl, Spans.set5 h2 z (str_ni _) (sl_ni _ _ _) (sl_ni _ _ _), Sites.set5 h3 hp z (str_ni _) (sl_ni _ _ _) (sl_ni _ _ _)⟩, set5_below _ _ _ _ _ hb hB⟩
theorem five_free {w : World} {B : Nat} {cs : Array Value} {ty : TypeId} (z : w.heap[B]? = some (.cells cs ty (0, 0))) : w.frozen? ⟨B, 0, none⟩ = false ∧ w.frozen? ⟨B, 1, none⟩ = false ∧ w.frozen? ⟨B, 2, none⟩ = false ∧ w.frozen? ⟨B, 3, none⟩ = false ∧ w.frozen? ⟨B, 4, none⟩ = false :=
  ⟨block_frozen z, block_frozen z, block_frozen z, block_frozen z, block_frozen z⟩

set_option maxHeartbeats 4000000 in
theorem plain_any {v : Value} {i l : Int} {L : Bytes} {S : List Sp} {T : List St} (w : World) (h : Sg w v i l L S T) (hp : ∀ s ∈ T, 0 < s.m) (b1 : L.length ≤ 1073741824) (l1 : S.length ≤ 100000) (l2 : T.length ≤ 100000) :
    Calls Tryd.prog 36 #[v] w (GivePl w i l L S T) := by
  obtain ⟨q, sa, sc, ta, tc, rfl, hR, hS, hT⟩ := h.open_
  have CC : Hid (∀ w', Below w.heap.size w w' → Calls Tryd.prog 83 #[.agg #[.slice sa S.length sc, .slice ta T.length tc]] w' (GivesM w' S T)) := fun w' hb => clone_any w' (hS.below hb (Nat.le_refl _)) (hT.below hb (Nat.le_refl _)) l1 l2
  have CT : Hid (∀ w', Below w.heap.size w w' → Calls Tryd.prog 16 #[.pointer q] w' fun e w'' => e = .returned (.string (Let.mk L)) ∧ Below w'.heap.size w' w'') := fun w' hb => Con.text_is w' (hR.below hb (Nat.le_refl _)) b1
  generalize S.length = ls at *
  generalize T.length = lt at *
  obtain ⟨W0, hW0⟩ : ∃ W0, W0 = (w.alloc (.cells #[.int .i64 i, .int .i64 l, .pointer q, .slice sa ls sc, .slice ta lt tc] 33)).alloc (.cells #[.int .i64 0, .int .i64 0, .string (ByteArray.mk #[]), .slice none 0 0, .slice none 0 0] 25) := ⟨_, rfl⟩
  obtain ⟨b0, r0, z0, l0⟩ := box2 w #[.int .i64 i, .int .i64 l, .pointer q, .slice sa ls sc, .slice ta lt tc] #[.int .i64 0, .int .i64 0, .string (ByteArray.mk #[]), .slice none 0 0, .slice none 0 0] 33 25
  rw [← hW0] at b0 r0 z0 l0
  have B0 := Lib.hid b0
  have HW0 := Lib.hid hW0
  have HR0 := Lib.hid r0
  have HZ0 : Hid (ZPl W0 (w.heap.size + 1)) := z0
  have HL0 : Hid (W0.heap.size = w.heap.size + 1 + 1) := l0
  have HP : Hid (∀ s ∈ T, 0 < s.m) := hp
  clear h hR hS hT b0 r0 z0 l0 hW0 b1 hp
  obtain ⟨c0, c1, c2, c3, c4⟩ := five_cells HR0.out
  go_enter Tryd.func36, Tryd.ntmps36
  go_upto_region 1 with fail
  rw [← HW0.out]
  go_wp2_with fail
  refine (CC.out _ B0.out).mono ?_
  rintro e w1 ⟨v1, v2, rfl, g1, g2, hb1⟩
  obtain ⟨a1, d1, rfl⟩ := g1.is_slice
  obtain ⟨a2, d2, rfl⟩ := g2.is_slice
  obtain ⟨n1, hn1⟩ : ∃ n1, n1 = S.length := ⟨_, rfl⟩
  obtain ⟨n2, hn2⟩ : ∃ n2, n2 = T.length := ⟨_, rfl⟩
  rw [← hn1] at g1 ⊢
  rw [← hn2] at g2 ⊢
  clear hn1 hn2
  obtain ⟨W1, hW1⟩ : ∃ W1, W1 = w1.alloc (.cells #[.slice a1 n1 d1, .slice a2 n2 d2] 31) := ⟨_, rfl⟩
  obtain ⟨b2, r2, l2'⟩ := box1 w1 #[.slice a1 n1 d1, .slice a2 n2 d2] 31
  rw [← hW1] at b2 r2 l2'
  have s1 : W0.heap.size ≤ w1.heap.size := hb1.size
  have BA := below_more B0.out hb1
  have B1 := Lib.hid (below_more BA b2)
  have G1 : Hid (∀ w', Below w1.heap.size w1 w' → Spans w' (.slice a1 n1 d1) S ∧ Sites w' (.slice a2 n2 d2) T) := fun w' hb => ⟨g1.below hb (Nat.le_refl _), g2.below hb (Nat.le_refl _)⟩
  have RB : W1.heap[w.heap.size]? = some (.cells #[.int .i64 i, .int .i64 l, .pointer q, .slice sa ls sc, .slice ta lt tc] 33 (0, 0)) := (b2.block _ (by have := HL0.out; omega)).trans ((hb1.block _ (by have := HL0.out; omega)).trans HR0.out)
  have ZB : ZPl W1 (w.heap.size + 1) := (HZ0.out.below hb1 (by have := HL0.out; omega)).below b2 (by have := HL0.out; omega)
  have hne : w1.heap.size ≠ w.heap.size + 1 := by have := HL0.out; omega
  have BX : Hid (∀ w', Kp (fun k => k = w.heap.size + 1) W1 w' → Kp (fun k => k = w.heap.size + 1) W1 w' ∧ w'.cell? ⟨w.heap.size, 0, none⟩ = some (.int .i64 i) ∧ w'.cell? ⟨w.heap.size, 1, none⟩ = some (.int .i64 l) ∧ w'.cell? ⟨w.heap.size, 2, none⟩ = some (.pointer q) ∧ w'.cell? ⟨w1.heap.size, 0, none⟩ = some (.slice a1 n1 d1) ∧ w'.cell? ⟨w1.heap.size, 1, none⟩ = some (.slice a2 n2 d2)) := fun w' hk => by
    obtain ⟨x0, x1, x2, _⟩ := five_cells (hk.row RB (by omega))
    obtain ⟨x3, x4, _⟩ := two_cells (hk.row r2 hne)
    exact ⟨hk, x0, x1, x2, x3, x4⟩
  have BZ : Hid (∀ w', Below W1.heap.size W1 w' → ZPl w' (w.heap.size + 1)) := fun w' hb => ZB.below hb (row_lt ZB)
  have KB : Hid (∀ w', Kp (fun k => k = w.heap.size + 1) W1 w' → Below w.heap.size w w') := fun w' hk => hk.below B1.out (fun k hk' => by omega) (by have := HL0.out; omega)
  have KC : Hid (∀ w', Below W1.heap.size W1 w' → Below w1.heap.size w1 w') := fun w' hb => below_more b2 hb
  have HW1 := Lib.hid hW1
  have KR := Lib.hid (Kp.refl (fun k => k = w.heap.size + 1) W1)
  have KB1 := Lib.hid (Below.refl W1.heap.size W1)
  clear hW1 g1 g2 hb1 b2 r2 l2' s1 BA RB ZB CC HR0 HZ0 c0 c1 c2 c3 c4 HL0 hne B0
  go_upto_region 2 with fail
  rw [← HW1.out]
  obtain ⟨_, c0, c1, c2, c3, c4⟩ := BX.out W1 KR.out
  go_region_held3 (fun w' => Kp (fun k => k = w.heap.size + 1) W1 w' ∧ w'.cell? ⟨w.heap.size, 0, none⟩ = some (.int .i64 i) ∧ w'.cell? ⟨w.heap.size, 1, none⟩ = some (.int .i64 l) ∧ w'.cell? ⟨w.heap.size, 2, none⟩ = some (.pointer q) ∧ w'.cell? ⟨w1.heap.size, 0, none⟩ = some (.slice a1 n1 d1) ∧ w'.cell? ⟨w1.heap.size, 1, none⟩ = some (.slice a2 n2 d2))
    ((refine BX.out _ ?_; focus ((repeat first | assumption | exact KR.out | apply Kp.drew | apply Kp.drews | apply Kp.putR); done)))
    (first
      | (go_at_call 16; (with_reducible refine (CT.out _ (KB.out _ ?_)).mono ?_); (focus ((repeat first | assumption | exact KR.out | apply Kp.drew | apply Kp.drews); done)); rintro e w3 ⟨rfl, b3⟩; have m3 := below_more (B := W1.heap.size) (w := W1) (by (repeat first | assumption | exact KB1.out | apply Below.drew | apply below_drews)) b3; have k3 := fun h => Kp.call (R := fun k => k = w.heap.size + 1) (W := W1) h b3; replace k3 := k3 (by (repeat first | assumption | exact KR.out | apply Kp.drew | apply Kp.drews)); have z := BZ.out _ m3; obtain ⟨x0, x1, x2, x3, x4⟩ := five_cells z; obtain ⟨f0, f1, f2, f3, f4⟩ := five_free z))
  obtain ⟨g1, g2⟩ := G1.out _ (KC.out _ m3)
  have FIN := Lib.hid (give_pl (w := w) (i := i) (l := l) (L := L) (Nat.le_add_right _ 1) z g1 g2 HP.out (KB.out _ k3))
  obtain ⟨y0, y1, y2, y3, y4⟩ := set5_cells (a0 := .int .i64 i) (a1 := .int .i64 l) (a2 := .string (Let.mk L)) (a3 := .slice a1 n1 d1) (a4 := .slice a2 n2 d2) z
  clear g1 g2 b3
  go_wp2_with fail
  exact bodyPost_ret (v := .agg #[.int .i64 i, .int .i64 l, .string (Let.mk L), .slice a1 n1 d1, .slice a2 n2 d2]) (by simp only [set5] at y0 y1 y2 y3 y4; simp [results, Tryd.results36, go_sem, y0, y1, y2, y3, y4]) rfl ⟨_, rfl, FIN.out.1, FIN.out.2⟩
end Go.Proofs.YtcpdoicbekcpeaaDoor.Seg

namespace Go.Proofs.YtcpdoicbekcpeaaDoor.Seg
open Go.RowKit Go.Lib Go.Proofs.YtcpdoicbekcpeaaDoor.Rt Go.Proofs.YtcpdoicbekcpeaaDoor.Rig

theorem new_is (L : Bytes) (w : World) (hl : L.length ≤ 1073741824) (hr : Let.right L = true) (hT : Con.Tabs w) : Calls Tryd.prog 63 #[.string (Let.mk L)] w fun e w' => ∃ q, e = .returned (.tuple #[.pointer q, .bool true]) ∧ IsRope w' L (.pointer q) ∧ Below w.heap.size w w' := by
  have := Con.new_yes (Let.mk L) w (by rw [Let.mk_size]; exact hl) (by rw [Let.mk_data]; exact hr) hT
  rw [Let.mk_data] at this
  refine this.mono ?_
  rintro e w' ⟨v, rfl, h1, h2⟩
  obtain ⟨q, rfl⟩ := rope_ptr h1
  exact ⟨q, rfl, h1, h2⟩
theorem new_isnt (L : Bytes) (w : World) (hl : L.length ≤ 1073741824) (hr : Let.right L = false) (hT : Con.Tabs w) : Calls Tryd.prog 63 #[.string (Let.mk L)] w fun e w' => e = .returned (.tuple #[.pointer none, .bool false]) ∧ Below w.heap.size w w' :=
  Con.new_no (Let.mk L) w (by rw [Let.mk_size]; exact hl) (by rw [Let.mk_data]; exact hr) hT

set_option maxHeartbeats 1600000 in
theorem load_yes {v : Value} {i l : Int} {L : Bytes} {S : List Sp} {T : List St} (w : World) (h : Pl w v i l L S T) (hr : Let.right L = true) (hm : mrightB S T (Let.cnt L) = true) (b1 : L.length ≤ 10000) (l1 : S.length ≤ 100000) (l2 : T.length ≤ 100000) (hTb : Con.Tabs w) :
    Calls Tryd.prog 37 #[v] w (GiveIns w true i l L S T) := by
  obtain ⟨sa, sc, ta, tc, rfl, hS, hT⟩ := h.open_
  have CN : Hid (∀ w', Below w.heap.size w w' → Calls Tryd.prog 63 #[.string (Let.mk L)] w' fun e w'' => ∃ q, e = .returned (.tuple #[.pointer q, .bool true]) ∧ IsRope w'' L (.pointer q) ∧ Below w'.heap.size w' w'') := fun w' hb => new_is L w' (by omega) hr (hTb.below hb)
  have CR : Hid (∀ w', Below w.heap.size w w' → Calls Tryd.prog 84 #[.agg #[.slice sa S.length sc, .slice ta T.length tc], .int .i64 (Let.cnt L)] w' fun e w'' => e = .returned (.bool true) ∧ Below w'.heap.size w' w'') := fun w' hb => by
    have := right_any (Let.cnt L) w' (hS.below hb (Nat.le_refl _)) (hT.below hb (Nat.le_refl _)) (by have := Let.cnt_len L; exact ⟨by omega, by omega⟩)
    rwa [hm] at this
  have CC : Hid (∀ w', Below w.heap.size w w' → Calls Tryd.prog 83 #[.agg #[.slice sa S.length sc, .slice ta T.length tc]] w' (GivesM w' S T)) := fun w' hb => clone_any w' (hS.below hb (Nat.le_refl _)) (hT.below hb (Nat.le_refl _)) l1 l2
  have HP : Hid (∀ s ∈ T, 0 < s.m) := RT_pos (mright_of hm).2
  obtain ⟨ls, hls⟩ : ∃ ls, ls = S.length := ⟨_, rfl⟩
  obtain ⟨lt, hlt⟩ : ∃ lt, lt = T.length := ⟨_, rfl⟩
  simp only [← hls, ← hlt] at CR CC ⊢
  obtain ⟨W0, hW0⟩ : ∃ W0, W0 = (w.alloc (.cells #[.int .i64 i, .int .i64 l, .string (Let.mk L), .slice sa ls sc, .slice ta lt tc] 25)).alloc (.cells #[.int .i64 0, .int .i64 0, .pointer none, .slice none 0 0, .slice none 0 0] 33) := ⟨_, rfl⟩
  obtain ⟨b0, r0, z0, l0⟩ := box2 w #[.int .i64 i, .int .i64 l, .string (Let.mk L), .slice sa ls sc, .slice ta lt tc] #[.int .i64 0, .int .i64 0, .pointer none, .slice none 0 0, .slice none 0 0] 25 33
  rw [← hW0] at b0 r0 z0 l0
  have B0 := Lib.hid b0
  have HW0 := Lib.hid hW0
  have HR0 := Lib.hid r0
  have HZ0 : Hid (ZSeg W0 (w.heap.size + 1)) := z0
  have HL0 : Hid (W0.heap.size = w.heap.size + 1 + 1) := l0
  clear h hS hT b0 r0 z0 l0 hW0 b1 hr hm hTb hls hlt l1 l2
  obtain ⟨c0, c1, c2, c3, c4⟩ := five_cells HR0.out
  go_enter Tryd.func37, Tryd.ntmps37
  go_upto_region 1 with fail
  rw [← HW0.out]
  go_wp2_with fail
  refine (CN.out _ B0.out).mono ?_
  rintro e w1 ⟨q, rfl, hn, hb1⟩
  clear c0 c1 c2 c3 c4
  have hw1 : Below W0.heap.size W0 w1 := hb1
  have HR1 : Hid (w1.heap[w.heap.size]? = some (.cells #[.int .i64 i, .int .i64 l, .string (Let.mk L), .slice sa ls sc, .slice ta lt tc] 25 (0, 0))) := (hb1.block _ (by have := HL0.out; omega)).trans HR0.out
  obtain ⟨c0, c1, c2, c3, c4⟩ := five_cells HR1.out
  obtain ⟨W1, hW1⟩ : ∃ W1, W1 = w1.alloc (.cells #[.slice sa ls sc, .slice ta lt tc] 31) := ⟨_, rfl⟩
  obtain ⟨b2, r2, l2'⟩ := box1 w1 #[.slice sa ls sc, .slice ta lt tc] 31
  rw [← hW1] at b2 r2 l2'
  have s1 : W0.heap.size ≤ w1.heap.size := hb1.size
  have BA := below_more B0.out hb1
  have B1 := Lib.hid (below_more BA b2)
  have RB : W1.heap[w.heap.size]? = some (.cells #[.int .i64 i, .int .i64 l, .string (Let.mk L), .slice sa ls sc, .slice ta lt tc] 25 (0, 0)) := (b2.block _ (by have := HL0.out; omega)).trans HR1.out
  have ZB : ZSeg W1 (w.heap.size + 1) := (HZ0.out.below hb1 (by have := HL0.out; omega)).below b2 (by have := HL0.out; omega)
  have hne : w1.heap.size ≠ w.heap.size + 1 := by have := HL0.out; omega
  have BX : Hid (∀ w', Kp (fun k => k = w.heap.size + 1) W1 w' → Kp (fun k => k = w.heap.size + 1) W1 w' ∧ w'.cell? ⟨w.heap.size, 0, none⟩ = some (.int .i64 i) ∧ w'.cell? ⟨w.heap.size, 1, none⟩ = some (.int .i64 l) ∧ w'.cell? ⟨w1.heap.size, 0, none⟩ = some (.slice sa ls sc) ∧ w'.cell? ⟨w1.heap.size, 1, none⟩ = some (.slice ta lt tc)) := fun w' hk => by
    obtain ⟨x0, x1, x2, _⟩ := five_cells (hk.row RB (by omega))
    obtain ⟨x3, x4, _⟩ := two_cells (hk.row r2 hne)
    exact ⟨hk, x0, x1, x3, x4⟩
  have BZ : Hid (∀ w', Below W1.heap.size W1 w' → ZSeg w' (w.heap.size + 1)) := fun w' hb => ZSeg.below ZB hb (row_lt ZB)
  have KB : Hid (∀ w', Kp (fun k => k = w.heap.size + 1) W1 w' → Below w.heap.size w w') := fun w' hk => hk.below B1.out (fun k hk' => by omega) (by have := HL0.out; omega)
  have HW1 := Lib.hid hW1
  have KR := Lib.hid (Kp.refl (fun k => k = w.heap.size + 1) W1)
  have KB1 := Lib.hid (Below.refl W1.heap.size W1)
  have CL : Hid (∀ w', Below W1.heap.size W1 w' → Calls Tryd.prog 20 #[.pointer q] w' fun e w'' => e = .returned (.int .i64 (Let.cnt L)) ∧ w' = w'') := fun w' hb => rlen_is w' (hn.below (below_more b2 hb) (Nat.le_refl _))
  have HN : Hid (∀ w', Below W1.heap.size W1 w' → IsRope w' L (.pointer q)) := fun w' hb => hn.below (below_more b2 hb) (Nat.le_refl _)
  clear hW1 hn hb1 b2 r2 l2' s1 BA RB ZB CN HR0 HZ0 HL0 hne B0 hw1 HR1
  go_upto_region 3 with fail
  rw [← HW1.out]
  obtain ⟨_, c0, c1, c3, c4⟩ := BX.out W1 KR.out
  go_region_held3 (fun w' => Kp (fun k => k = w.heap.size + 1) W1 w' ∧ w'.cell? ⟨w.heap.size, 0, none⟩ = some (.int .i64 i) ∧ w'.cell? ⟨w.heap.size, 1, none⟩ = some (.int .i64 l) ∧ w'.cell? ⟨w1.heap.size, 0, none⟩ = some (.slice sa ls sc) ∧ w'.cell? ⟨w1.heap.size, 1, none⟩ = some (.slice ta lt tc))
    ((refine BX.out _ ?_; focus ((repeat first | assumption | exact KR.out | apply Kp.drew | apply Kp.drews | apply Kp.putR); done)))
    (first
      | (go_at_call 20; (with_reducible refine (CL.out _ ?_).mono ?_); (focus ((repeat first | assumption | exact KB1.out | apply Below.drew | apply below_drews); done)); rintro e w2 ⟨rfl, rfl⟩)
      | (go_at_call 84; (with_reducible refine (CR.out _ (KB.out _ ?_)).mono ?_); (focus ((repeat first | assumption | exact KR.out | apply Kp.drew | apply Kp.drews | apply Kp.putR); done)); rintro e w3 ⟨rfl, b3⟩; have m3 := below_more (B := W1.heap.size) (w := W1) (by (repeat first | assumption | exact KB1.out | apply Below.drew | apply below_drews)) b3; have k3 := fun h => Kp.call (R := fun k => k = w.heap.size + 1) (W := W1) h b3; replace k3 := k3 (by (repeat first | assumption | exact KR.out | apply Kp.drew | apply Kp.drews | apply Kp.putR))))
  clear b3 c0 c1 c3 c4
  obtain ⟨_, c0, c1, c3, c4⟩ := BX.out w3 k3
  go_upto_region 5 with fail
  go_region_held3 (fun w' => Kp (fun k => k = w.heap.size + 1) W1 w' ∧ w'.cell? ⟨w.heap.size, 0, none⟩ = some (.int .i64 i) ∧ w'.cell? ⟨w.heap.size, 1, none⟩ = some (.int .i64 l) ∧ w'.cell? ⟨w1.heap.size, 0, none⟩ = some (.slice sa ls sc) ∧ w'.cell? ⟨w1.heap.size, 1, none⟩ = some (.slice ta lt tc))
    ((refine BX.out _ ?_; focus ((repeat first | assumption | exact KR.out | apply Kp.drew | apply Kp.drews | apply Kp.putR); done)))
    (first
      | (go_at_call 83; (with_reducible refine (CC.out _ (KB.out _ ?_)).mono ?_); (focus ((repeat first | assumption | exact KR.out | apply Kp.drew | apply Kp.drews | apply Kp.putR); done)); rintro e w4 ⟨v1, v2, rfl, g1, g2, b4⟩; obtain ⟨a1, d1, rfl⟩ := g1.is_slice; obtain ⟨a2, d2, rfl⟩ := g2.is_slice; have m4 := below_more (B := W1.heap.size) (w := W1) (by (repeat first | assumption | exact KB1.out | apply Below.drew | apply below_drews)) b4; have k4 := fun h => Kp.call (R := fun k => k = w.heap.size + 1) (W := W1) h b4; replace k4 := k4 (by (repeat first | assumption | exact KR.out | apply Kp.drew | apply Kp.drews | apply Kp.putR)); have z := BZ.out _ m4; obtain ⟨k0, k1', k2, k3', k4', f0, f1, f2, f3, f4⟩ := zseg_cells z))
  have FIN := Lib.hid (give_sg (w := w) (i := i) (l := l) (Nat.le_add_right _ 1) z (HN.out _ m4) g1 g2 HP.out (KB.out _ k4))
  obtain ⟨y0, y1, y2, y3, y4⟩ := set5_cells (a0 := .int .i64 i) (a1 := .int .i64 l) (a2 := .pointer q) (a3 := .slice a1 S.length d1) (a4 := .slice a2 T.length d2) z
  clear g1 g2 b4
  generalize S.length = n1 at *
  generalize T.length = n2 at *
  go_wp2_with fail
  exact bodyPost_ret (v := .tuple #[.agg #[.int .i64 i, .int .i64 l, .pointer q, .slice a1 n1 d1, .slice a2 n2 d2], .bool true]) (by simp only [set5] at y0 y1 y2 y3 y4; simp [results, Tryd.results37, go_sem, y0, y1, y2, y3, y4]) rfl ⟨_, rfl, FIN.out.1, FIN.out.2⟩

set_option maxHeartbeats 1600000 in
theorem load_no2 {v : Value} {i l : Int} {L : Bytes} {S : List Sp} {T : List St} (w : World) (h : Pl w v i l L S T) (hr : Let.right L = true) (hm : mrightB S T (Let.cnt L) = false) (b1 : L.length ≤ 10000) (l1 : S.length ≤ 100000) (l2 : T.length ≤ 100000) (hTb : Con.Tabs w) :
    Calls Tryd.prog 37 #[v] w (GiveIns w false 0 0 [] [] []) := by
  obtain ⟨sa, sc, ta, tc, rfl, hS, hT⟩ := h.open_
  have CN : Hid (∀ w', Below w.heap.size w w' → Calls Tryd.prog 63 #[.string (Let.mk L)] w' fun e w'' => ∃ q, e = .returned (.tuple #[.pointer q, .bool true]) ∧ IsRope w'' L (.pointer q) ∧ Below w'.heap.size w' w'') := fun w' hb => new_is L w' (by omega) hr (hTb.below hb)
  have CR : Hid (∀ w', Below w.heap.size w w' → Calls Tryd.prog 84 #[.agg #[.slice sa S.length sc, .slice ta T.length tc], .int .i64 (Let.cnt L)] w' fun e w'' => e = .returned (.bool false) ∧ Below w'.heap.size w' w'') := fun w' hb => by
    have := right_any (Let.cnt L) w' (hS.below hb (Nat.le_refl _)) (hT.below hb (Nat.le_refl _)) (by have := Let.cnt_len L; exact ⟨by omega, by omega⟩)
    rwa [hm] at this
  obtain ⟨ls, hls⟩ : ∃ ls, ls = S.length := ⟨_, rfl⟩
  obtain ⟨lt, hlt⟩ : ∃ lt, lt = T.length := ⟨_, rfl⟩
  simp only [← hls, ← hlt] at CR ⊢
  obtain ⟨W0, hW0⟩ : ∃ W0, W0 = (w.alloc (.cells #[.int .i64 i, .int .i64 l, .string (Let.mk L), .slice sa ls sc, .slice ta lt tc] 25)).alloc (.cells #[.int .i64 0, .int .i64 0, .pointer none, .slice none 0 0, .slice none 0 0] 33) := ⟨_, rfl⟩
  obtain ⟨b0, r0, z0, l0⟩ := box2 w #[.int .i64 i, .int .i64 l, .string (Let.mk L), .slice sa ls sc, .slice ta lt tc] #[.int .i64 0, .int .i64 0, .pointer none, .slice none 0 0, .slice none 0 0] 25 33
  rw [← hW0] at b0 r0 z0 l0
  have B0 := Lib.hid b0
  have HW0 := Lib.hid hW0
  have HR0 := Lib.hid r0
  have HZ0 : Hid (ZSeg W0 (w.heap.size + 1)) := z0
  have HL0 : Hid (W0.heap.size = w.heap.size + 1 + 1) := l0
  clear h hS hT b0 r0 z0 l0 hW0 b1 hr hm hTb hls hlt l1 l2
  obtain ⟨c0, c1, c2, c3, c4⟩ := five_cells HR0.out
  go_enter Tryd.func37, Tryd.ntmps37
  go_upto_region 1 with fail
  rw [← HW0.out]
  go_wp2_with fail
  refine (CN.out _ B0.out).mono ?_
  rintro e w1 ⟨q, rfl, hn, hb1⟩
  clear c0 c1 c2 c3 c4
  have hw1 : Below W0.heap.size W0 w1 := hb1
  have HR1 : Hid (w1.heap[w.heap.size]? = some (.cells #[.int .i64 i, .int .i64 l, .string (Let.mk L), .slice sa ls sc, .slice ta lt tc] 25 (0, 0))) := (hb1.block _ (by have := HL0.out; omega)).trans HR0.out
  obtain ⟨c0, c1, c2, c3, c4⟩ := five_cells HR1.out
  obtain ⟨W1, hW1⟩ : ∃ W1, W1 = w1.alloc (.cells #[.slice sa ls sc, .slice ta lt tc] 31) := ⟨_, rfl⟩
  obtain ⟨b2, r2, l2'⟩ := box1 w1 #[.slice sa ls sc, .slice ta lt tc] 31
  rw [← hW1] at b2 r2 l2'
  have s1 : W0.heap.size ≤ w1.heap.size := hb1.size
  have BA := below_more B0.out hb1
  have B1 := Lib.hid (below_more BA b2)
  have RB : W1.heap[w.heap.size]? = some (.cells #[.int .i64 i, .int .i64 l, .string (Let.mk L), .slice sa ls sc, .slice ta lt tc] 25 (0, 0)) := (b2.block _ (by have := HL0.out; omega)).trans HR1.out
  have ZB : ZSeg W1 (w.heap.size + 1) := (HZ0.out.below hb1 (by have := HL0.out; omega)).below b2 (by have := HL0.out; omega)
  have hne : w1.heap.size ≠ w.heap.size + 1 := by have := HL0.out; omega
  have BX : Hid (∀ w', Kp (fun k => k = w.heap.size + 1) W1 w' → Kp (fun k => k = w.heap.size + 1) W1 w' ∧ w'.cell? ⟨w.heap.size, 0, none⟩ = some (.int .i64 i) ∧ w'.cell? ⟨w.heap.size, 1, none⟩ = some (.int .i64 l) ∧ w'.cell? ⟨w1.heap.size, 0, none⟩ = some (.slice sa ls sc) ∧ w'.cell? ⟨w1.heap.size, 1, none⟩ = some (.slice ta lt tc)) := fun w' hk => by
    obtain ⟨x0, x1, x2, _⟩ := five_cells (hk.row RB (by omega))
    obtain ⟨x3, x4, _⟩ := two_cells (hk.row r2 hne)
    exact ⟨hk, x0, x1, x3, x4⟩
  have BZ : Hid (∀ w', Below W1.heap.size W1 w' → ZSeg w' (w.heap.size + 1)) := fun w' hb => ZSeg.below ZB hb (row_lt ZB)
  have KB : Hid (∀ w', Kp (fun k => k = w.heap.size + 1) W1 w' → Below w.heap.size w w') := fun w' hk => hk.below B1.out (fun k hk' => by omega) (by have := HL0.out; omega)
  have HW1 := Lib.hid hW1
  have KR := Lib.hid (Kp.refl (fun k => k = w.heap.size + 1) W1)
  have KB1 := Lib.hid (Below.refl W1.heap.size W1)
  have CL : Hid (∀ w', Below W1.heap.size W1 w' → Calls Tryd.prog 20 #[.pointer q] w' fun e w'' => e = .returned (.int .i64 (Let.cnt L)) ∧ w' = w'') := fun w' hb => rlen_is w' (hn.below (below_more b2 hb) (Nat.le_refl _))
  clear hW1 hn hb1 b2 r2 l2' s1 BA RB ZB CN HR0 HZ0 HL0 hne B0 hw1 HR1
  go_upto_region 3 with fail
  rw [← HW1.out]
  obtain ⟨_, c0, c1, c3, c4⟩ := BX.out W1 KR.out
  go_region_held3 (fun w' => Kp (fun k => k = w.heap.size + 1) W1 w' ∧ w'.cell? ⟨w.heap.size, 0, none⟩ = some (.int .i64 i) ∧ w'.cell? ⟨w.heap.size, 1, none⟩ = some (.int .i64 l) ∧ w'.cell? ⟨w1.heap.size, 0, none⟩ = some (.slice sa ls sc) ∧ w'.cell? ⟨w1.heap.size, 1, none⟩ = some (.slice ta lt tc))
    ((refine BX.out _ ?_; focus ((repeat first | assumption | exact KR.out | apply Kp.drew | apply Kp.drews | apply Kp.putR); done)))
    (first
      | (go_at_call 20; (with_reducible refine (CL.out _ ?_).mono ?_); (focus ((repeat first | assumption | exact KB1.out | apply Below.drew | apply below_drews); done)); rintro e w2 ⟨rfl, rfl⟩)
      | (go_at_call 84; (with_reducible refine (CR.out _ (KB.out _ ?_)).mono ?_); (focus ((repeat first | assumption | exact KR.out | apply Kp.drew | apply Kp.drews | apply Kp.putR); done)); rintro e w3 ⟨rfl, b3⟩; have m3 := below_more (B := W1.heap.size) (w := W1) (by (repeat first | assumption | exact KB1.out | apply Below.drew | apply below_drews)) b3; have k3 := fun h => Kp.call (R := fun k => k = w.heap.size + 1) (W := W1) h b3; replace k3 := k3 (by (repeat first | assumption | exact KR.out | apply Kp.drew | apply Kp.drews | apply Kp.putR))))
  clear b3 c0 c1 c3 c4
  have z := BZ.out _ m3
  have kz := k3
  have FIN := Lib.hid (give_sg (w := w) (i := 0) (l := 0) (Nat.le_add_right _ 1) z (Con.nil_is _) (Spans.nil_ _) (Sites.nil_ _) (by simp) (KB.out _ kz))
  obtain ⟨y0, y1, y2, y3, y4⟩ := set5_cells (a0 := .int .i64 0) (a1 := .int .i64 0) (a2 := .pointer none) (a3 := .slice none 0 0) (a4 := .slice none 0 0) z
  obtain ⟨k0, k1', k2, k3', k4', f0, f1, f2, f3, f4⟩ := zseg_cells z
  go_wp2_with fail
  exact bodyPost_ret (v := .tuple #[.agg #[.int .i64 0, .int .i64 0, .pointer none, .slice none 0 0, .slice none 0 0], .bool false]) (by simp only [set5] at y0 y1 y2 y3 y4; simp [results, Tryd.results37, go_sem, y0, y1, y2, y3, y4]) rfl ⟨_, rfl, FIN.out.1, FIN.out.2⟩

set_option maxHeartbeats 1600000 in
theorem load_no1 {v : Value} {i l : Int} {L : Bytes} {S : List Sp} {T : List St} (w : World) (h : Pl w v i l L S T) (hr : Let.right L = false) (b1 : L.length ≤ 10000) (l1 : S.length ≤ 100000) (l2 : T.length ≤ 100000) (hTb : Con.Tabs w) :
    Calls Tryd.prog 37 #[v] w (GiveIns w false 0 0 [] [] []) := by
  obtain ⟨sa, sc, ta, tc, rfl, hS, hT⟩ := h.open_
  have CN : Hid (∀ w', Below w.heap.size w w' → Calls Tryd.prog 63 #[.string (Let.mk L)] w' fun e w'' => e = .returned (.tuple #[.pointer none, .bool false]) ∧ Below w'.heap.size w' w'') := fun w' hb => new_isnt L w' (by omega) hr (hTb.below hb)
  obtain ⟨ls, hls⟩ : ∃ ls, ls = S.length := ⟨_, rfl⟩
  obtain ⟨lt, hlt⟩ : ∃ lt, lt = T.length := ⟨_, rfl⟩
  simp only [← hls, ← hlt]
  obtain ⟨W0, hW0⟩ : ∃ W0, W0 = (w.alloc (.cells #[.int .i64 i, .int .i64 l, .string (Let.mk L), .slice sa ls sc, .slice ta lt tc] 25)).alloc (.cells #[.int .i64 0, .int .i64 0, .pointer none, .slice none 0 0, .slice none 0 0] 33) := ⟨_, rfl⟩
  obtain ⟨b0, r0, z0, l0⟩ := box2 w #[.int .i64 i, .int .i64 l, .string (Let.mk L), .slice sa ls sc, .slice ta lt tc] #[.int .i64 0, .int .i64 0, .pointer none, .slice none 0 0, .slice none 0 0] 25 33
  rw [← hW0] at b0 r0 z0 l0
  have B0 := Lib.hid b0
  have HW0 := Lib.hid hW0
  have HR0 := Lib.hid r0
  have HZ0 : Hid (ZSeg W0 (w.heap.size + 1)) := z0
  have HL0 : Hid (W0.heap.size = w.heap.size + 1 + 1) := l0
  clear h hS hT b0 r0 z0 l0 hW0 b1 hr hTb hls hlt l1 l2
  obtain ⟨c0, c1, c2, c3, c4⟩ := five_cells HR0.out
  go_enter Tryd.func37, Tryd.ntmps37
  go_upto_region 1 with fail
  rw [← HW0.out]
  go_wp2_with fail
  refine (CN.out _ B0.out).mono ?_
  rintro e w1 ⟨rfl, hb1⟩
  clear c0 c1 c2 c3 c4
  have hw1 : Below W0.heap.size W0 w1 := hb1
  have HR1 : Hid (w1.heap[w.heap.size]? = some (.cells #[.int .i64 i, .int .i64 l, .string (Let.mk L), .slice sa ls sc, .slice ta lt tc] 25 (0, 0))) := (hb1.block _ (by have := HL0.out; omega)).trans HR0.out
  obtain ⟨c0, c1, c2, c3, c4⟩ := five_cells HR1.out
  obtain ⟨W1, hW1⟩ : ∃ W1, W1 = w1.alloc (.cells #[.slice sa ls sc, .slice ta lt tc] 31) := ⟨_, rfl⟩
  obtain ⟨b2, r2, l2'⟩ := box1 w1 #[.slice sa ls sc, .slice ta lt tc] 31
  rw [← hW1] at b2 r2 l2'
  have s1 : W0.heap.size ≤ w1.heap.size := hb1.size
  have BA := below_more B0.out hb1
  have B1 := Lib.hid (below_more BA b2)
  have RB : W1.heap[w.heap.size]? = some (.cells #[.int .i64 i, .int .i64 l, .string (Let.mk L), .slice sa ls sc, .slice ta lt tc] 25 (0, 0)) := (b2.block _ (by have := HL0.out; omega)).trans HR1.out
  have ZB : ZSeg W1 (w.heap.size + 1) := (HZ0.out.below hb1 (by have := HL0.out; omega)).below b2 (by have := HL0.out; omega)
  have hne : w1.heap.size ≠ w.heap.size + 1 := by have := HL0.out; omega
  have BX : Hid (∀ w', Kp (fun k => k = w.heap.size + 1) W1 w' → Kp (fun k => k = w.heap.size + 1) W1 w' ∧ w'.cell? ⟨w.heap.size, 0, none⟩ = some (.int .i64 i) ∧ w'.cell? ⟨w.heap.size, 1, none⟩ = some (.int .i64 l) ∧ w'.cell? ⟨w1.heap.size, 0, none⟩ = some (.slice sa ls sc) ∧ w'.cell? ⟨w1.heap.size, 1, none⟩ = some (.slice ta lt tc)) := fun w' hk => by
    obtain ⟨x0, x1, x2, _⟩ := five_cells (hk.row RB (by omega))
    obtain ⟨x3, x4, _⟩ := two_cells (hk.row r2 hne)
    exact ⟨hk, x0, x1, x3, x4⟩
  have BZ : Hid (∀ w', Below W1.heap.size W1 w' → ZSeg w' (w.heap.size + 1)) := fun w' hb => ZSeg.below ZB hb (row_lt ZB)
  have KB : Hid (∀ w', Kp (fun k => k = w.heap.size + 1) W1 w' → Below w.heap.size w w') := fun w' hk => hk.below B1.out (fun k hk' => by omega) (by have := HL0.out; omega)
  have HW1 := Lib.hid hW1
  have KR := Lib.hid (Kp.refl (fun k => k = w.heap.size + 1) W1)
  have KB1 := Lib.hid (Below.refl W1.heap.size W1)
  clear hW1 hb1 b2 r2 l2' s1 BA RB ZB CN HR0 HZ0 HL0 hne B0 hw1 HR1
  go_upto_region 3 with fail
  rw [← HW1.out]
  obtain ⟨_, c0, c1, c3, c4⟩ := BX.out W1 KR.out
  go_quiet (fail)
  clear c0 c1 c3 c4
  obtain ⟨W2, hW2⟩ : ∃ W2, W2 = W1.drewN nq := ⟨_, rfl⟩
  have z : ZSeg W2 (w.heap.size + 1) := by rw [hW2]; exact BZ.out _ (below_drews KB1.out _)
  have kz : Kp (fun k => k = w.heap.size + 1) W1 W2 := by rw [hW2]; exact KR.out.drews _
  rw [← hW2]
  clear hW2
  have FIN := Lib.hid (give_sg (w := w) (i := 0) (l := 0) (Nat.le_add_right _ 1) z (Con.nil_is _) (Spans.nil_ _) (Sites.nil_ _) (by simp) (KB.out _ kz))
  obtain ⟨y0, y1, y2, y3, y4⟩ := set5_cells (a0 := .int .i64 0) (a1 := .int .i64 0) (a2 := .pointer none) (a3 := .slice none 0 0) (a4 := .slice none 0 0) z
  obtain ⟨k0, k1', k2, k3', k4', f0, f1, f2, f3, f4⟩ := zseg_cells z
  go_wp2_with fail
  exact bodyPost_ret (v := .tuple #[.agg #[.int .i64 0, .int .i64 0, .pointer none, .slice none 0 0, .slice none 0 0], .bool false]) (by simp only [set5] at y0 y1 y2 y3 y4; simp [results, Tryd.results37, go_sem, y0, y1, y2, y3, y4]) rfl ⟨_, rfl, FIN.out.1, FIN.out.2⟩

end Go.Proofs.YtcpdoicbekcpeaaDoor.Seg

namespace Go.Proofs.YtcpdoicbekcpeaaDoor.Seg
open Go.RowKit Go.Lib Go.Proofs.YtcpdoicbekcpeaaDoor.Rt Go.Proofs.YtcpdoicbekcpeaaDoor.Rig

theorem of5_any (L : Bytes) (w : World) (hl : L.length ≤ 1073741824) (hr : Let.right L = true) (hT : Con.Tabs w) :
    Calls Tryd.prog 13 #[.string (Let.mk L)] w (Con.Roped w L) := by
  have C := Con.new_yes (Let.mk L) w (by rw [Let.mk_size]; exact hl) (by rw [Let.mk_data]; exact hr) hT
  rw [Let.mk_data] at C
  replace C := Lib.hid C
  clear hr hT
  go_enter Tryd.func13, Tryd.ntmps13
  go_wp2_with fail
  refine C.out.mono ?_
  rintro e w1 ⟨v, rfl, h1, hb1⟩
  go_wp2_with fail
  go_ret
  exact ⟨_, rfl, h1, hb1⟩

set_option maxHeartbeats 1600000 in
/-- The marks of plain values: in one agg. -/
theorem marks5_any {i l : Int} {L : Bytes} {S : List Sp} {T : List St} {sa ta : Option Addr} {sc tc n1 n2 : Nat} (w : World) (hS : Spans w (.slice sa n1 sc) S) (hT : Sites w (.slice ta n2 tc) T) :
    Calls Tryd.prog 81 #[.agg #[.int .i64 i, .int .i64 l, .string (Let.mk L), .slice sa n1 sc, .slice ta n2 tc]] w fun e w' => e = .returned (.agg #[.slice sa n1 sc, .slice ta n2 tc]) ∧ Below w.heap.size w w' := by
  obtain ⟨W0, hW0⟩ : ∃ W0, W0 = (w.alloc (.cells #[.int .i64 i, .int .i64 l, .string (Let.mk L), .slice sa n1 sc, .slice ta n2 tc] 25)).alloc (.cells #[.slice none 0 0, .slice none 0 0] 132) := ⟨_, rfl⟩
  obtain ⟨b0, r0, z0, l0⟩ := box2 w #[.int .i64 i, .int .i64 l, .string (Let.mk L), .slice sa n1 sc, .slice ta n2 tc] #[.slice none 0 0, .slice none 0 0] 25 132
  rw [← hW0] at b0 r0 z0 l0
  obtain ⟨c0, c1, c2, c3, c4⟩ := five_cells r0
  obtain ⟨k0, k1, f0, f1⟩ := two_cells z0
  have B0 := Lib.hid (below_put (j := 1) (below_put (j := 0) b0 (Nat.le_add_right _ 1) (.slice sa n1 sc)) (Nat.le_add_right _ 1) (.slice ta n2 tc))
  obtain ⟨y0, y1, _, _⟩ := two_cells (two_put (u := .slice sa n1 sc) (v := .slice ta n2 tc) z0)
  have HW0 := Lib.hid hW0
  clear hS hT b0 r0 z0 l0 hW0
  go_enter Tryd.func81, Tryd.ntmps81
  go_upto_region 1 with fail
  rw [← HW0.out]
  go_wp2_with fail
  exact bodyPost_ret (v := .agg #[.slice sa n1 sc, .slice ta n2 tc]) (by simp [results, Tryd.results81, go_sem, y0, y1]) rfl ⟨rfl, B0.out⟩

set_option maxHeartbeats 1600000 in
theorem same5_any {v u : Value} {i l : Int} {L : Bytes} {S : List Sp} {T : List St} (w : World) (h : Pl w v i l L S T) (h' : Pl w u i l L S T) :
    Calls Tryd.prog 35 #[v, u] w fun e w' => e = .returned (.bool true) ∧ Below w.heap.size w w' := by
  obtain ⟨sa, sc, ta, tc, rfl, hS, hT⟩ := h.open_
  obtain ⟨sa', sc', ta', tc', rfl, hS', hT'⟩ := h'.open_
  have CS : Hid (∀ w', Below w.heap.size w w' → Calls Tryd.prog 82 #[.slice sa S.length sc, .slice sa' S.length sc', .slice ta T.length tc, .slice ta' T.length tc'] w' fun e w'' => e = .returned (.bool true) ∧ Below w'.heap.size w' w'') := fun w' hb => msame_any w' (hS.below hb (Nat.le_refl _)) (hS'.below hb (Nat.le_refl _)) (hT.below hb (Nat.le_refl _)) (hT'.below hb (Nat.le_refl _))
  generalize S.length = ls at *
  generalize T.length = lt at *
  obtain ⟨W0, hW0⟩ : ∃ W0, W0 = (w.alloc (.cells #[.int .i64 i, .int .i64 l, .string (Let.mk L), .slice sa ls sc, .slice ta lt tc] 25)).alloc (.cells #[.int .i64 i, .int .i64 l, .string (Let.mk L), .slice sa' ls sc', .slice ta' lt tc'] 25) := ⟨_, rfl⟩
  obtain ⟨b0, r0, z0, l0⟩ := box2 w #[.int .i64 i, .int .i64 l, .string (Let.mk L), .slice sa ls sc, .slice ta lt tc] #[.int .i64 i, .int .i64 l, .string (Let.mk L), .slice sa' ls sc', .slice ta' lt tc'] 25 25
  rw [← hW0] at b0 r0 z0 l0
  obtain ⟨c0, c1, c2, c3, c4⟩ := five_cells r0
  obtain ⟨k0, k1, k2, k3, k4⟩ := five_cells z0
  have B0 := Lib.hid b0
  have HW0 := Lib.hid hW0
  have e1 : (i == i) = true := by simp
  have e2 : (l == l) = true := by simp
  clear h h' hS hT hS' hT' b0 r0 z0 l0 hW0
  generalize Let.mk L = s at *
  go_enter Tryd.func35, Tryd.ntmps35
  go_upto_region 1 with fail
  rw [← HW0.out]
  go_wp2_with fail
  refine (CS.out _ B0.out).mono ?_
  rintro e w1 ⟨rfl, b1⟩
  have FIN := Lib.hid (below_more B0.out b1)
  clear b1
  go_wp2_with fail
  go_ret
  exact ⟨rfl, FIN.out⟩
/-- Is it small? -/
def smallB (L : Bytes) (S : List Sp) (T : List St) : Bool := decide (L.length ≤ 1500 ∧ S.length ≤ 300 ∧ T.length ≤ 300)
set_option maxHeartbeats 1600000 in
theorem small_any {v : Value} {i l : Int} {L : Bytes} {S : List Sp} {T : List St} (w : World) (h : Pl w v i l L S T) :
    Calls Tryd.prog 74 #[v] w fun e w' => e = .returned (.bool (smallB L S T)) ∧ Below w.heap.size w w' := by
  obtain ⟨sa, sc, ta, tc, rfl, hS, hT⟩ := h.open_
  have EF : Hid (∀ b : Bool, (b = true ↔ L.length ≤ 1500 ∧ S.length ≤ 300 ∧ T.length ≤ 300) → b = smallB L S T) := fun b hb => by
    unfold smallB
    cases b with
    | true => rw [decide_eq_true (hb.1 rfl)]
    | false => rw [decide_eq_false (fun h => by have := hb.2 h; cases this)]
  have hz : (Let.mk L).size = L.length := Let.mk_size L
  generalize L.length = m at *
  generalize S.length = ls at *
  generalize T.length = lt at *
  obtain ⟨W0, hW0⟩ : ∃ W0, W0 = w.alloc (.cells #[.int .i64 i, .int .i64 l, .string (Let.mk L), .slice sa ls sc, .slice ta lt tc] 25) := ⟨_, rfl⟩
  obtain ⟨b0, r0, l0⟩ := box1 w #[.int .i64 i, .int .i64 l, .string (Let.mk L), .slice sa ls sc, .slice ta lt tc] 25
  rw [← hW0] at b0 r0 l0
  obtain ⟨c0, c1, c2, c3, c4⟩ := five_cells r0
  have FIN := Lib.hid b0
  have HW0 := Lib.hid hW0
  clear h hS hT b0 r0 l0 hW0
  generalize Let.mk L = s at *
  subst hz
  by_cases h1 : s.size ≤ 1500
  · have d1 : decide ((s.size : Int) ≤ 1500) = true := decide_eq_true (by omega)
    by_cases h2 : ls ≤ 300
    · have d2 : decide ((ls : Int) ≤ 300) = true := decide_eq_true (by omega)
      by_cases h3 : lt ≤ 300
      · have d3 : decide ((lt : Int) ≤ 300) = true := decide_eq_true (by omega)
        have E := Lib.hid (EF.out true (by simp; omega))
        clear EF h1 h2 h3
        go_enter Tryd.func74, Tryd.ntmps74
        go_upto_region 1 with fail
        rw [← HW0.out]
        go_wp2_with fail
        go_ret
        exact ⟨congrArg Ending.returned (congrArg Value.bool E.out), FIN.out⟩
      · have d3 : decide ((lt : Int) ≤ 300) = false := decide_eq_false (by omega)
        have E := Lib.hid (EF.out false (by simp; omega))
        clear EF h1 h2 h3
        go_enter Tryd.func74, Tryd.ntmps74
        go_upto_region 1 with fail
        rw [← HW0.out]
        go_wp2_with fail
        go_ret
        exact ⟨congrArg Ending.returned (congrArg Value.bool E.out), FIN.out⟩
    · have d2 : decide ((ls : Int) ≤ 300) = false := decide_eq_false (by omega)
      have E := Lib.hid (EF.out false (by simp; omega))
      clear EF h1 h2
      go_enter Tryd.func74, Tryd.ntmps74
      go_upto_region 1 with fail
      rw [← HW0.out]
      go_wp2_with fail
      go_ret
      exact ⟨congrArg Ending.returned (congrArg Value.bool E.out), FIN.out⟩
  · have d1 : decide ((s.size : Int) ≤ 1500) = false := decide_eq_false (by omega)
    have E := Lib.hid (EF.out false (by simp; omega))
    clear EF h1
    go_enter Tryd.func74, Tryd.ntmps74
    go_upto_region 1 with fail
    rw [← HW0.out]
    go_wp2_with fail
    go_ret
    exact ⟨congrArg Ending.returned (congrArg Value.bool E.out), FIN.out⟩
end Go.Proofs.YtcpdoicbekcpeaaDoor.Seg

namespace Go.Proofs.YtcpdoicbekcpeaaDoor.Seg
open Go.RowKit Go.Lib Go.Proofs.YtcpdoicbekcpeaaDoor.Rt Go.Proofs.YtcpdoicbekcpeaaDoor.Rig

theorem right1_any (L : Bytes) (w : World) (hl : L.length ≤ maxLen) : Calls Tryd.prog 19 #[.string (Let.mk L)] w fun e w' => e = .returned (.bool (Let.right L)) ∧ w = w' := by
  have := Con.rright_any (Let.mk L) w (by rw [Let.mk_size]; exact hl)
  rwa [Let.mk_data] at this
theorem count1_any (L : Bytes) (w : World) (hl : L.length ≤ 1073741824) : Calls Tryd.prog 21 #[.string (Let.mk L)] w fun e w' => e = .returned (.int .i64 (Let.cnt L)) ∧ Below w.heap.size w w' := by
  have := Con.rcount_any (Let.mk L) w (by rw [Let.mk_size]; exact hl)
  rwa [Let.mk_data] at this
def right5 (L : Bytes) (S : List Sp) (T : List St) : Bool := Let.right L && mrightB S T (Let.cnt L)

set_option maxHeartbeats 1600000 in
theorem right5_any {v : Value} {i l : Int} {L : Bytes} {S : List Sp} {T : List St} (w : World) (h : Pl w v i l L S T) (hl : L.length ≤ 10000) :
    Calls Tryd.prog 33 #[v] w fun e w' => e = .returned (.bool (right5 L S T)) ∧ Below w.heap.size w w' := by
  obtain ⟨sa, sc, ta, tc, rfl, hS, hT⟩ := h.open_
  have CR : Hid (∀ w', Calls Tryd.prog 19 #[.string (Let.mk L)] w' fun e w'' => e = .returned (.bool (Let.right L)) ∧ w'' = w') := fun w' => (right1_any L w' (by unfold maxLen; omega)).mono fun e w'' h => ⟨h.1, h.2.symm⟩
  have CC : Hid (∀ w', Below w.heap.size w w' → Calls Tryd.prog 21 #[.string (Let.mk L)] w' fun e w'' => e = .returned (.int .i64 (Let.cnt L)) ∧ Below w'.heap.size w' w'') := fun w' hb => count1_any L w' (by omega)
  have CM : Hid (∀ w', Below w.heap.size w w' → Calls Tryd.prog 81 #[.agg #[.int .i64 i, .int .i64 l, .string (Let.mk L), .slice sa S.length sc, .slice ta T.length tc]] w' fun e w'' => e = .returned (.agg #[.slice sa S.length sc, .slice ta T.length tc]) ∧ Below w'.heap.size w' w'') := fun w' hb => marks5_any w' (hS.below hb (Nat.le_refl _)) (hT.below hb (Nat.le_refl _))
  have CX : Hid (∀ w', Below w.heap.size w w' → Calls Tryd.prog 80 #[.agg #[.slice sa S.length sc, .slice ta T.length tc], .int .i64 (Let.cnt L)] w' fun e w'' => e = .returned (.bool (mrightB S T (Let.cnt L))) ∧ Below w'.heap.size w' w'') := fun w' hb => rmright_any (Let.cnt L) w' (hS.below hb (Nat.le_refl _)) (hT.below hb (Nat.le_refl _)) (by have := Let.cnt_len L; exact ⟨by omega, by omega⟩)
  have EB : Hid (right5 L S T = (Let.right L && mrightB S T (Let.cnt L))) := rfl
  generalize right5 L S T = rs at *
  generalize mrightB S T (Let.cnt L) = rm at *
  generalize Let.cnt L = c at *
  generalize S.length = ls at *
  generalize T.length = lt at *
  obtain ⟨W0, hW0⟩ : ∃ W0, W0 = w.alloc (.cells #[.int .i64 i, .int .i64 l, .string (Let.mk L), .slice sa ls sc, .slice ta lt tc] 25) := ⟨_, rfl⟩
  obtain ⟨b0, r0, l0⟩ := box1 w #[.int .i64 i, .int .i64 l, .string (Let.mk L), .slice sa ls sc, .slice ta lt tc] 25
  rw [← hW0] at b0 r0 l0
  have BX : Hid (∀ w', Kp (fun _ => False) W0 w' → Kp (fun _ => False) W0 w' ∧ w'.cell? ⟨w.heap.size, 0, none⟩ = some (.int .i64 i) ∧ w'.cell? ⟨w.heap.size, 1, none⟩ = some (.int .i64 l) ∧ w'.cell? ⟨w.heap.size, 2, none⟩ = some (.string (Let.mk L)) ∧ w'.cell? ⟨w.heap.size, 3, none⟩ = some (.slice sa ls sc) ∧ w'.cell? ⟨w.heap.size, 4, none⟩ = some (.slice ta lt tc)) := fun w' hk => ⟨hk, five_cells (hk.row r0 (fun h => h))⟩
  have KB : Hid (∀ w', Kp (fun _ => False) W0 w' → Below w.heap.size w w') := fun w' hk => hk.below b0 (fun k _ h => h) (by omega)
  have KR := Lib.hid (Kp.refl (fun _ => False) W0)
  have HW0 := Lib.hid hW0
  obtain ⟨c0, c1, c2, c3, c4⟩ := five_cells r0
  clear h hS hT b0 r0 l0 hW0 hl
  cases hr : Let.right L with
  | false =>
    rw [hr] at CR EB
    have E := Lib.hid (EB.out.trans (Bool.false_and _))
    clear hr EB CC CM CX
    go_enter Tryd.func33, Tryd.ntmps33
    go_upto_region 1 with fail
    rw [← HW0.out]
    go_quiet ((go_at_call 19; with_reducible exact Calls.quiet_of_same (CR.out _)))
    go_wp2
    go_ret
    exact ⟨ret_bool E.out.symm, KB.out _ (KR.out.drews _)⟩
  | true =>
    rw [hr] at CR EB
    have E := Lib.hid (EB.out.trans (Bool.true_and _))
    clear hr EB
    go_enter Tryd.func33, Tryd.ntmps33
    go_upto_region 1 with fail
    rw [← HW0.out]
    go_region_held3 (fun w' => Kp (fun _ => False) W0 w' ∧ w'.cell? ⟨w.heap.size, 0, none⟩ = some (.int .i64 i) ∧ w'.cell? ⟨w.heap.size, 1, none⟩ = some (.int .i64 l) ∧ w'.cell? ⟨w.heap.size, 2, none⟩ = some (.string (Let.mk L)) ∧ w'.cell? ⟨w.heap.size, 3, none⟩ = some (.slice sa ls sc) ∧ w'.cell? ⟨w.heap.size, 4, none⟩ = some (.slice ta lt tc))
      ((refine BX.out _ ?_; focus ((repeat first | assumption | exact KR.out | apply Kp.drew | apply Kp.drews); done)))
      (first
        | (go_at_call 19; (with_reducible refine (CR.out _).mono ?_); rintro e w2 ⟨rfl, rfl⟩)
        | (go_at_call 81; (with_reducible refine (CM.out _ (KB.out _ ?_)).mono ?_); (focus ((repeat first | assumption | exact KR.out | apply Kp.drew | apply Kp.drews); done)); rintro e w3 ⟨rfl, b3⟩; have k3 := fun h => Kp.call (R := fun _ => False) (W := W0) h b3; replace k3 := k3 (by (repeat first | assumption | exact KR.out | apply Kp.drew | apply Kp.drews)))
        | (go_at_call 21; (with_reducible refine (CC.out _ (KB.out _ ?_)).mono ?_); (focus ((repeat first | assumption | exact KR.out | apply Kp.drew | apply Kp.drews); done)); rintro e w4 ⟨rfl, b4⟩; have k4 := fun h => Kp.call (R := fun _ => False) (W := W0) h b4; replace k4 := k4 (by (repeat first | assumption | exact KR.out | apply Kp.drew | apply Kp.drews)))
        | (go_at_call 80; (with_reducible refine (CX.out _ (KB.out _ ?_)).mono ?_); (focus ((repeat first | assumption | exact KR.out | apply Kp.drew | apply Kp.drews); done)); rintro e w5 ⟨rfl, b5⟩; have k5 := fun h => Kp.call (R := fun _ => False) (W := W0) h b5; replace k5 := k5 (by (repeat first | assumption | exact KR.out | apply Kp.drew | apply Kp.drews))))
    go_wp2_with fail
    go_ret
    exact ⟨ret_bool E.out.symm, KB.out _ (by (repeat first | assumption | exact KR.out | apply Kp.drew | apply Kp.drews))⟩

theorem put_nil (L : Bytes) : Let.put [] (0 : Nat) L = L := by
  unfold Let.put
  simp
theorem pPut_nil (k : Int) : pPut [] (0 : Nat) k 0 = [] := rfl
theorem pPutT_nil (k : Int) : pPutT [] (0 : Nat) k = [] := rfl
set_option maxHeartbeats 1600000 in
theorem text_any (L : Bytes) (w : World) (hl : L.length ≤ 1000) (hr : Let.right L = true) (hTb : Con.Tabs w) : Calls Tryd.prog 11 #[.string (Let.mk L)] w (GiveSg w 1 2 L [] []) := by
  have CO : Hid (∀ w', Below w.heap.size w w' → Calls Tryd.prog 13 #[.string (Let.mk L)] w' (Con.Roped w' L)) := fun w' hb => of5_any L w' (by omega) hr (hTb.below hb)
  have CI : Hid (∀ w' v u, Sg w' v 1 2 [] [] [] → IsRope w' L u → Calls Tryd.prog 12 #[v, .int .i64 0, u, .int .i64 0, .int .i64 1000] w' (GiveIns w' true 1 2 L [] [])) := fun w' v u h hu => by
    have := insert_yes 0 0 0 1000 w' h hu trivial ⟨List.Pairwise.nil, by simp⟩ (by unfold placeI; rfl) (by omega) (by omega) ⟨by omega, by omega⟩ (by omega) (by omega) (by simp) (by omega) (by simp) (by unfold fitB; exact decide_eq_true (by simp; omega))
    rw [put_nil, pPut_nil, pPutT_nil] at this
    exact this
  obtain ⟨W0, hW0⟩ : ∃ W0, W0 = w.alloc (.cells #[.int .i64 0, .int .i64 0, .pointer none, .slice none 0 0, .slice none 0 0] 33) := ⟨_, rfl⟩
  obtain ⟨b0, r0, l0⟩ := box1 w #[.int .i64 0, .int .i64 0, .pointer none, .slice none 0 0, .slice none 0 0] 33
  rw [← hW0] at b0 r0 l0
  have HZ0 : Hid (ZSeg W0 w.heap.size) := r0
  have B0 := Lib.hid b0
  have HW0 := Lib.hid hW0
  have CN := Lib.hid (new_any 1 2 W0)
  clear hr hTb b0 r0 l0 hW0
  go_enter Tryd.func11, Tryd.ntmps11
  go_upto_region 1 with fail
  rw [← HW0.out]
  go_wp2_with fail
  refine CN.out.mono ?_
  rintro e w1 ⟨v1, rfl, o1, b1⟩
  obtain ⟨q1, a1, d1, a2, d2, rfl, _, _, _⟩ := o1.open_
  go_wp2_with fail
  refine (CO.out _ (below_more B0.out b1)).mono ?_
  rintro e w2 ⟨v2, rfl, o2, b2⟩
  obtain ⟨q2, rfl⟩ := rope_ptr o2
  go_wp2_with fail
  refine (CI.out _ _ _ (o1.below b2 (Nat.le_refl _)) o2).mono ?_
  rintro e w3 ⟨v3, rfl, o3, b3⟩
  obtain ⟨q3, a3, d3, a4, d4, rfl, g1, g2, g3⟩ := o3.open_
  have bA := below_more (below_more b1 b2) b3
  have Z3 : Hid (ZSeg w3 w.heap.size) := HZ0.out.below bA (row_lt HZ0.out)
  have B3 := Lib.hid (below_more B0.out bA)
  obtain ⟨W4, hW4⟩ : ∃ W4, W4 = w3.alloc (.cells #[.int .i64 1, .int .i64 2, .pointer q3, .slice a3 ([] : List Sp).length d3, .slice a4 ([] : List St).length d4] 33) := ⟨_, rfl⟩
  obtain ⟨b4, r4, l4⟩ := box1 w3 #[.int .i64 1, .int .i64 2, .pointer q3, .slice a3 ([] : List Sp).length d3, .slice a4 ([] : List St).length d4] 33
  rw [← hW4] at b4 r4 l4
  have Z4 : ZSeg W4 w.heap.size := Z3.out.below b4 (row_lt Z3.out)
  have FIN := Lib.hid (give_sg (w := w) (i := 1) (l := 2) (Nat.le_refl _) Z4 (g1.below b4 (Nat.le_refl _)) (g2.below b4 (Nat.le_refl _)) (g3.below b4 (Nat.le_refl _)) (by simp) (below_more B3.out b4))
  obtain ⟨y0, y1, y2, y3, y4⟩ := set5_cells (a0 := .int .i64 1) (a1 := .int .i64 2) (a2 := .pointer q3) (a3 := .slice a3 ([] : List Sp).length d3) (a4 := .slice a4 ([] : List St).length d4) Z4
  obtain ⟨k0, k1, k2, k3, k4, f0, f1, f2, f3, f4⟩ := zseg_cells Z4
  obtain ⟨c0, c1, c2, c3, c4⟩ := five_cells r4
  have HW4 := Lib.hid hW4
  clear b1 b2 b3 b4 bA o1 o2 o3 g1 g2 g3 r4 l4 hW4 Z4 CI CO CN
  go_upto_region 2 with fail
  try simp only [List.length_nil] at HW4 FIN y0 y1 y2 y3 y4 c0 c1 c2 c3 c4
  rw [← HW4.out]
  go_wp2_with fail
  exact bodyPost_ret (v := .agg #[.int .i64 1, .int .i64 2, .pointer q3, .slice a3 0 d3, .slice a4 0 d4]) (by simp only [set5] at y0 y1 y2 y3 y4; simp [results, Tryd.results11, go_sem, y0, y1, y2, y3, y4]) rfl ⟨_, rfl, FIN.out.1, FIN.out.2⟩
end Go.Proofs.YtcpdoicbekcpeaaDoor.Seg

namespace Go.Proofs.YtcpdoicbekcpeaaDoor.Seg
open Go.RowKit Go.Lib Go.Proofs.YtcpdoicbekcpeaaDoor.Rt Go.Proofs.YtcpdoicbekcpeaaDoor.Rig

abbrev Tabs (w : World) : Prop := Con.Tabs w
structure Arg (W : World) (v : Value) (i l : Int) (L : Bytes) (S : List Sp) (T : List St) : Prop where
  pl : Pl W v i l L S T
  gi : i64 i
  gl : i64 l
  gs : L.length ≤ maxLen
/-- What is asked: numbers and a text. -/
structure Deed where
  at_ : Int
  n : Int
  mark : Int
  quota : Int
  t : Bytes
def Deed.good (d : Deed) : Prop := i64 d.at_ ∧ i64 d.n ∧ i64 d.mark ∧ i64 d.quota ∧ d.t.length ≤ maxLen
def Deed.val (d : Deed) : Value := .agg #[.int .i64 d.at_, .int .i64 d.n, .int .i64 d.mark, .int .i64 d.quota, .string (Let.mk d.t)]
section
open Go.ChangeShapes Go.WideShapes
variable {H : Type} {enc : TypeId × Value → H}
theorem cellsOf_seg : Tryd.prog.cellsOf 25 = 5 := by kernel_rfl
theorem cellsOf_sdeed : Tryd.prog.cellsOf 27 = 5 := by kernel_rfl
theorem cellsOf_str : Tryd.prog.cellsOf 9 = 1 := by kernel_rfl
theorem open_seg {W : World} {v : Value} {d : DataW H} {p : List MemPlace} {base : Nat} (hv : Value.okWide Tryd.prog W .any base 25 v) (h : DataW.Trod enc Tryd.prog W 0 (fun _ => true) true 25 v d p) :
    ∃ i l L S T, Arg W v i l L S T := by
  obtain ⟨cs, rfl, hsz⟩ := okWide_struct Tryd.underlying25 hv
  obtain ⟨l⟩ := cs
  match l, hsz.trans cellsOf_seg with
  | [c0, c1, c2, c3, c4], _ =>
    obtain ⟨fuel, hf⟩ := h
    obtain ⟨xs, m, _, hx, _, hlen, hg⟩ := DataW.trod_struct Tryd.underlying25 hf
    have hl5 : xs.length = 5 := hlen
    match xs, hl5 with
    | [x0, x1, x2, x3, x4], _ =>
      have g0 : DataW.trod enc Tryd.prog W 0 (fun _ => true) true m 3 (([c0, c1, c2, c3, c4].drop 0).take (Tryd.prog.cellsOf 3)) = some x0 := hg 0 _ rfl
      have g1 : DataW.trod enc Tryd.prog W 0 (fun _ => true) true m 3 (([c0, c1, c2, c3, c4].drop 1).take (Tryd.prog.cellsOf 3)) = some x1 := hg 1 _ rfl
      have g2 : DataW.trod enc Tryd.prog W 0 (fun _ => true) true m 9 (([c0, c1, c2, c3, c4].drop 2).take (Tryd.prog.cellsOf 9)) = some x2 := hg 2 _ rfl
      have g3 : DataW.trod enc Tryd.prog W 0 (fun _ => true) true m 22 (([c0, c1, c2, c3, c4].drop 3).take (Tryd.prog.cellsOf 22)) = some x3 := hg 3 _ rfl
      have g4 : DataW.trod enc Tryd.prog W 0 (fun _ => true) true m 23 (([c0, c1, c2, c3, c4].drop 4).take (Tryd.prog.cellsOf 23)) = some x4 := hg 4 _ rfl
      rw [cellsOf_int] at g0 g1
      rw [cellsOf_str] at g2
      rw [cellsOf_spans] at g3
      rw [cellsOf_sites] at g4
      obtain ⟨a0, e0, -, w0⟩ := DataW.trod_int Tryd.underlying3 g0
      obtain ⟨a1, e1, -, w1⟩ := DataW.trod_int Tryd.underlying3 g1
      obtain ⟨s, e2, -, w2⟩ := DataW.trod_string Tryd.underlying9 g2
      simp at e0 e1 e2
      subst e0 e1 e2
      obtain ⟨S, hS⟩ := spans_of (c := c3) (by simpa using g3)
      obtain ⟨T, hT⟩ := sites_of (c := c4) (by simpa using g4)
      refine ⟨a0, a1, s.data.toList, S, T, ⟨⟨c3, c4, ?_, hS, hT⟩, int_bounds w0, int_bounds w1, w2⟩⟩
      rw [Let.mk_self]
theorem open_sdeed {W : World} {v : Value} {d : DataW H} {p : List MemPlace} {base : Nat} (hv : Value.okWide Tryd.prog W .any base 27 v) (h : DataW.Trod enc Tryd.prog W 0 (fun _ => true) true 27 v d p) :
    ∃ y : Deed, v = y.val ∧ y.good := by
  obtain ⟨cs, rfl, hsz⟩ := okWide_struct Tryd.underlying27 hv
  obtain ⟨l⟩ := cs
  match l, hsz.trans cellsOf_sdeed with
  | [c0, c1, c2, c3, c4], _ =>
    obtain ⟨fuel, hf⟩ := h
    obtain ⟨xs, m, _, hx, _, hlen, hg⟩ := DataW.trod_struct Tryd.underlying27 hf
    have hl5 : xs.length = 5 := hlen
    match xs, hl5 with
    | [x0, x1, x2, x3, x4], _ =>
      have g0 : DataW.trod enc Tryd.prog W 0 (fun _ => true) true m 3 (([c0, c1, c2, c3, c4].drop 0).take (Tryd.prog.cellsOf 3)) = some x0 := hg 0 _ rfl
      have g1 : DataW.trod enc Tryd.prog W 0 (fun _ => true) true m 3 (([c0, c1, c2, c3, c4].drop 1).take (Tryd.prog.cellsOf 3)) = some x1 := hg 1 _ rfl
      have g2 : DataW.trod enc Tryd.prog W 0 (fun _ => true) true m 3 (([c0, c1, c2, c3, c4].drop 2).take (Tryd.prog.cellsOf 3)) = some x2 := hg 2 _ rfl
      have g3 : DataW.trod enc Tryd.prog W 0 (fun _ => true) true m 3 (([c0, c1, c2, c3, c4].drop 3).take (Tryd.prog.cellsOf 3)) = some x3 := hg 3 _ rfl
      have g4 : DataW.trod enc Tryd.prog W 0 (fun _ => true) true m 9 (([c0, c1, c2, c3, c4].drop 4).take (Tryd.prog.cellsOf 9)) = some x4 := hg 4 _ rfl
      rw [cellsOf_int] at g0 g1 g2 g3
      rw [cellsOf_str] at g4
      obtain ⟨a0, e0, -, w0⟩ := DataW.trod_int Tryd.underlying3 g0
      obtain ⟨a1, e1, -, w1⟩ := DataW.trod_int Tryd.underlying3 g1
      obtain ⟨a2, e2, -, w2⟩ := DataW.trod_int Tryd.underlying3 g2
      obtain ⟨a3, e3, -, w3⟩ := DataW.trod_int Tryd.underlying3 g3
      obtain ⟨s, e4, -, w4⟩ := DataW.trod_string Tryd.underlying9 g4
      simp at e0 e1 e2 e3 e4
      subst e0 e1 e2 e3 e4
      refine ⟨⟨a0, a1, a2, a3, s.data.toList⟩, ?_, int_bounds w0, int_bounds w1, int_bounds w2, int_bounds w3, w4⟩
      unfold Deed.val
      rw [Let.mk_self]
end
end Go.Proofs.YtcpdoicbekcpeaaDoor.Seg
