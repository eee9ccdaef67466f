/- Contract: Grant of the plain text, where it is done; a deed that comes in. -/
import Derived.Test.YtefibidkmfcccaaCopy
set_option linter.unusedVariables false
namespace Go.Proofs.Ytefibidkmfcccaa.Rig
open Go.RowKit Go.Lib Go.Proofs.Ytefibidkmfcccaa.Rt

theorem granted2 {base : Nat} {g cap : Nat} {L : List Lb} {z : Nat → Value} {W2 : World} {v2 : Value} {k : Nat} {u : Int} {wr on : Bool} {B : Nat} (o2 : OwnL base W2 g cap L z) (hI : ∀ m, m < 2 * L.length → OwnI base W2 (z m) (listOf L m))
    (hk : k < L.length) (hv2 : OwnI B W2 v2 (setL (listOf L (which k wr)) u on)) (hgood : GoodL L) :
    Labs (W2.setCell ⟨g, posOf (which k wr), none⟩ v2) (.slice (some ⟨g, 0, none⟩) L.length cap) (grantL L k u wr on) := by
  have hm0 : which k wr < 2 * L.length := by unfold which; split <;> omega
  obtain ⟨s1, s2⟩ := World.ownsRow.stored o2 (posOf (which k wr)) v2
  rw [cells_upd L z _ v2 hm0, ← cells_grant u wr on hk (upd z (which k wr) v2)] at s1
  have s3 : OwnL base (W2.setCell ⟨g, posOf (which k wr), none⟩ v2) g cap (grantL L k u wr on) (upd z (which k wr) v2) := by
    unfold OwnL
    rw [grantL_len]
    exact s1
  have := s3.labs (good_grant u wr on hk hgood) (fun m hm => ?_)
  · rw [grantL_len] at this
    exact this
  · rw [grantL_len] at hm
    rw [listOf_grant u wr on hk]
    unfold upd
    by_cases e : m = which k wr
    · rw [if_pos e, if_pos e, e]
      exact (hv2.kept s2 (.inr (own_apart o2 hv2))).ints
    · rw [if_neg e, if_neg e]
      have q := hI m hm
      exact (q.kept s2 (.inr (own_apart o2 q))).ints

set_option maxRecDepth 100000 in
set_option maxHeartbeats 1600000 in
theorem rgrant_ok {v : Value} {L : List Lb} {k : Nat} {u : Int} {wr on : Bool} (w : World) (h : Labs w v L) (hr : rightP L 8) (hk : k < L.length) (hu1 : 0 ≤ u) (hu2 : u < 8) :
    Calls Try.prog 18 #[v, .int .i64 (lb L k).o, .int .i64 k, .int .i64 u, .bool wr, .bool on] w (Grants w (grantL L k u wr on)) := by
  have hgood := h.good
  have C1 := Lib.hid (copy_any w h hr.1 hr.2.1 (fun m hm => by have := (grant_len hr m hm).1; omega))
  have hm0 : which k wr < 2 * L.length := by unfold which; split <;> omega
  obtain ⟨hlen, hpw⟩ := grant_len hr _ hm0
  have h12 := hr.2.1
  obtain ⟨a, cap, rfl, hlc, hcap, hc⟩ := h.open_
  obtain ⟨b, off, rfl, hb, rv, sv, ⟨p1, p2⟩, ⟨o1, o2⟩, c0, c1, c2, c3, _, _⟩ := hc k hk
  have CS : Hid (∀ w1 s, Ints w1 s (listOf L (which k wr)) → Calls Try.prog 26 #[s, .int .i64 u, .bool on] w1 (NewI w1 (setL (listOf L (which k wr)) u on))) := fun w1 s hs => by
    have := with_any u on w1 hs (by omega) ⟨by omega, by omega⟩
    rw [with_set hpw] at this
    exact this
  obtain ⟨n, hn⟩ : ∃ n, n = L.length := ⟨_, rfl⟩
  rw [← hn] at C1 hlc h12 ⊢
  have hkn : k < n := by omega
  have HN := Lib.hid hn
  have HG := Lib.hid hgood
  have HK := Lib.hid hk
  generalize (lb L k).o = o at *
  generalize (lb L k).p = p at *
  clear hc hr hn hgood hm0 hlen hpw hk c0 c2 c3
  cases wr with
  | true =>
    have hw1 : Hid (k * 4 + 3 = posOf (which k true)) := by show _ = _; simp [posOf, which]; omega
    go_enter Try.func18, Try.ntmps18
    go_wp2_with fail
    refine C1.out.mono ?_
    rintro e w1 ⟨v1, rfl, ⟨g, c1, z, rfl, hO, hI⟩, hb1⟩
    have hbase := hb1.size
    obtain ⟨hg1, hg2⟩ := hO.lt
    have hIm := hI (which k true) (by have := HK.out; simp [which]; omega)
    have y3 : w1.cell? ⟨g, k * 4 + 3, none⟩ = some (z (which k true)) := by
      rw [hO.cell (by have := HK.out; omega), cellAt_s]
      rfl
    have CW := Lib.hid (CS.out w1 _ hIm.ints)
    have fz := hO.frozen (k * 4 + 3)
    have HO := Lib.hid hO
    have HI := Lib.hid hI
    have HB1 := Lib.hid hb1
    obtain ⟨za, zc, hz⟩ := hIm.is_slice
    rw [hz] at y3 CW
    generalize (listOf L (which k true)).length = l1 at *
    rw [← HN.out]
    clear hO hI hIm CS C1 hz hb1
    go_wp2_with fail
    refine CW.out.mono ?_
    rintro e w2 ⟨v2, rfl, hv2, hb2⟩
    have q3 := below_cell hb2 hg2 y3
    have f3 : w2.frozen? ⟨g, k * 4 + 3, none⟩ = false := by
      rw [hb2.frozen (p := ⟨g, k * 4 + 3, none⟩) hg2]
      exact fz
    have HL := Lib.hid (granted2 (HO.out.below hb2) (fun m hm => (HI.out m hm).below hb2) HK.out hv2 HG.out)
    have HB2 := Lib.hid ((below_more HB1.out hb2).setCell (p := ⟨g, k * 4 + 3, none⟩) hg1 v2)
    have l2 : w1.heap.size ≤ w2.heap.size := hb2.size
    obtain ⟨a2, c2', rfl⟩ := hv2.is_slice
    generalize (setL (listOf L (which k true)) u on).length = l2 at *
    rw [← hw1.out] at HL
    clear hv2 hb2 CW y3 fz
    go_wp2_with fail
    go_ret2
    refine ⟨_, rfl, ?_, HB2.out⟩
    rw [HN.out]
    exact HL.out
  | false =>
    have hw1 : Hid (k * 4 + 2 = posOf (which k false)) := by show _ = _; simp [posOf, which]; omega
    go_enter Try.func18, Try.ntmps18
    go_wp2_with fail
    refine C1.out.mono ?_
    rintro e w1 ⟨v1, rfl, ⟨g, c1, z, rfl, hO, hI⟩, hb1⟩
    have hbase := hb1.size
    obtain ⟨hg1, hg2⟩ := hO.lt
    have hIm := hI (which k false) (by have := HK.out; simp [which]; omega)
    have y3 : w1.cell? ⟨g, k * 4 + 2, none⟩ = some (z (which k false)) := by
      rw [hO.cell (by have := HK.out; omega), cellAt_r]
      rfl
    have CW := Lib.hid (CS.out w1 _ hIm.ints)
    have fz := hO.frozen (k * 4 + 2)
    have HO := Lib.hid hO
    have HI := Lib.hid hI
    have HB1 := Lib.hid hb1
    obtain ⟨za, zc, hz⟩ := hIm.is_slice
    rw [hz] at y3 CW
    generalize (listOf L (which k false)).length = l1 at *
    rw [← HN.out]
    clear hO hI hIm CS C1 hz hb1
    go_wp2_with fail
    refine CW.out.mono ?_
    rintro e w2 ⟨v2, rfl, hv2, hb2⟩
    have q3 := below_cell hb2 hg2 y3
    have f3 : w2.frozen? ⟨g, k * 4 + 2, none⟩ = false := by
      rw [hb2.frozen (p := ⟨g, k * 4 + 2, none⟩) hg2]
      exact fz
    have HL := Lib.hid (granted2 (HO.out.below hb2) (fun m hm => (HI.out m hm).below hb2) HK.out hv2 HG.out)
    have HB2 := Lib.hid ((below_more HB1.out hb2).setCell (p := ⟨g, k * 4 + 2, none⟩) hg1 v2)
    have l2 : w1.heap.size ≤ w2.heap.size := hb2.size
    obtain ⟨a2, c2', rfl⟩ := hv2.is_slice
    generalize (setL (listOf L (which k false)) u on).length = l2 at *
    rw [← hw1.out] at HL
    clear hv2 hb2 CW y3 fz
    go_wp2_with fail
    go_ret2
    refine ⟨_, rfl, ?_, HB2.out⟩
    rw [HN.out]
    exact HL.out

theorem ROwn.labs {base : Nat} {w : World} {v : Value} {L : List Lb} (h : ROwn base w v L) (hg : GoodL L) : Labs w v L := by
  obtain ⟨g, cap, z, rfl, h1, h2⟩ := h
  exact h1.labs hg (fun m hm => (h2 m hm).ints)

/-- A deed. -/
structure Dd where
  by' : Int
  label : Int
  user : Int
  write : Bool
  on : Bool
def Dd.good (d : Dd) : Prop := i64 d.by' ∧ i64 d.label ∧ i64 d.user
def Dd.cells (d : Dd) : Array Value := #[.int .i64 d.by', .int .i64 d.label, .int .i64 d.user, .bool d.write, .bool d.on]
section
open Go.ChangeShapes Go.WideShapes Go.Deep
variable {H : Type} {enc : TypeId × Value → H}
theorem cellsOf_deed : Try.prog.cellsOf 29 = 5 := by kernel_rfl
theorem cellsOf_bool : Try.prog.cellsOf 4 = 1 := by kernel_rfl
theorem open_deed {W : World} {v : Value} {d : DataW H} {p : List MemPlace} {base : Nat} (hv : Value.okWide Try.prog W .any base 29 v) (h : DataW.Trod enc Try.prog W 0 (fun _ => true) true 29 v d p) :
    ∃ D : Dd, v = .agg D.cells ∧ D.good := by
  obtain ⟨cs, rfl, hsz⟩ := okWide_struct Try.underlying29 hv
  obtain ⟨l⟩ := cs
  match l, hsz.trans cellsOf_deed with
  | [c0, c1, c2, c3, c4], _ =>
    obtain ⟨fuel, hf⟩ := h
    obtain ⟨xs, m, _, hx, _, hlen, hg⟩ := DataW.trod_struct Try.underlying29 hf
    have hl5 : xs.length = 5 := hlen
    match xs, hl5 with
    | [x0, x1, x2, x3, x4], _ =>
      have g0 : DataW.trod enc Try.prog W 0 (fun _ => true) true m 3 (([c0, c1, c2, c3, c4].drop 0).take (Try.prog.cellsOf 3)) = some x0 := hg 0 _ rfl
      have g1 : DataW.trod enc Try.prog W 0 (fun _ => true) true m 3 (([c0, c1, c2, c3, c4].drop 1).take (Try.prog.cellsOf 3)) = some x1 := hg 1 _ rfl
      have g2 : DataW.trod enc Try.prog W 0 (fun _ => true) true m 3 (([c0, c1, c2, c3, c4].drop 2).take (Try.prog.cellsOf 3)) = some x2 := hg 2 _ rfl
      have g3 : DataW.trod enc Try.prog W 0 (fun _ => true) true m 4 (([c0, c1, c2, c3, c4].drop 3).take (Try.prog.cellsOf 4)) = some x3 := hg 3 _ rfl
      have g4 : DataW.trod enc Try.prog W 0 (fun _ => true) true m 4 (([c0, c1, c2, c3, c4].drop 4).take (Try.prog.cellsOf 4)) = some x4 := hg 4 _ rfl
      rw [cellsOf_int] at g0 g1 g2
      rw [cellsOf_bool] at g3 g4
      obtain ⟨a0, e0, -, w0⟩ := DataW.trod_int Try.underlying3 g0
      obtain ⟨a1, e1, -, w1⟩ := DataW.trod_int Try.underlying3 g1
      obtain ⟨a2, e2, -, w2⟩ := DataW.trod_int Try.underlying3 g2
      obtain ⟨a3, e3, -⟩ := DataW.trod_bool Try.underlying4 g3
      obtain ⟨a4, e4, -⟩ := DataW.trod_bool Try.underlying4 g4
      simp at e0 e1 e2 e3 e4
      subst e0 e1 e2 e3 e4
      exact ⟨⟨a0, a1, a2, a3, a4⟩, rfl, int_bounds w0, int_bounds w1, int_bounds w2⟩
end
end Go.Proofs.Ytefibidkmfcccaa.Rig
