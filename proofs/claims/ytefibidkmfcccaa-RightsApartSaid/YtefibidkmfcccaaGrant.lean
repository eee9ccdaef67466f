/- Contracts: Grant. -/
import Derived.Test.YtefibidkmfcccaaClone
import Derived.Test.YtefibidkmfcccaaRight
set_option linter.unusedVariables false
namespace Go.Proofs.Ytefibidkmfcccaa.Rig
open Go.RowKit Go.Lib Go.Proofs.Ytefibidkmfcccaa.Rt

/-- Which list a grant speaks of. -/
def which (k : Nat) (wr : Bool) : Nat := 2 * k + (if wr then 1 else 0)
theorem listOf_grant {L : List Lb} {k : Nat} (u : Int) (wr on : Bool) (hk : k < L.length) (m : Nat) : listOf (grantL L k u wr on) m = if m = which k wr then setL (listOf L m) u on else listOf L m := by
  unfold grantL
  by_cases he : m % 2 = 0
  · obtain ⟨j, rfl⟩ : ∃ j, m = 2 * j := ⟨m / 2, by omega⟩
    rw [listOf_r, listOf_r]
    by_cases hj : k = j
    · subst hj
      rw [lb_set_self _ hk]
      unfold Lb.set which
      cases wr <;> simp
    · rw [lb_set_other _ hj, if_neg]
      unfold which
      split <;> omega
  · obtain ⟨j, rfl⟩ : ∃ j, m = 2 * j + 1 := ⟨m / 2, by omega⟩
    rw [listOf_s, listOf_s]
    by_cases hj : k = j
    · subst hj
      rw [lb_set_self _ hk]
      unfold Lb.set which
      cases wr <;> simp
    · rw [lb_set_other _ hj, if_neg]
      unfold which
      split <;> omega
theorem po_grant {L : List Lb} {k : Nat} (u : Int) (wr on : Bool) (hk : k < L.length) (j : Nat) : (lb (grantL L k u wr on) j).p = (lb L j).p ∧ (lb (grantL L k u wr on) j).o = (lb L j).o := by
  unfold grantL
  by_cases hj : k = j
  · subst hj
    rw [lb_set_self _ hk]
    unfold Lb.set
    cases wr <;> exact ⟨rfl, rfl⟩
  · rw [lb_set_other _ hj]
    exact ⟨rfl, rfl⟩
theorem cells_grant {L : List Lb} {k : Nat} (u : Int) (wr on : Bool) (hk : k < L.length) (z : Nat → Value) : cellsL (grantL L k u wr on) z = cellsL L z := by
  unfold cellsL
  rw [grantL_len]
  refine List.map_congr_left fun i _ => ?_
  unfold cellAt
  obtain ⟨h1, h2⟩ := po_grant u wr on hk (i / 4)
  rw [h1, h2]
theorem good_grant {L : List Lb} {k : Nat} (u : Int) (wr on : Bool) (hk : k < L.length) (h : GoodL L) : GoodL (grantL L k u wr on) := by
  intro j hj
  rw [grantL_len] at hj
  obtain ⟨h1, h2⟩ := po_grant u wr on hk j
  rw [h1, h2]
  exact h j hj

theorem granted {base : Nat} {g cap : Nat} {L : List Lb} {z : Nat → Value} {W1 W2 : World} {v2 : Value} {k : Nat} {u : Int} {wr on : Bool} (h : OwnL base W1 g cap L z) (hI : ∀ m, m < 2 * L.length → OwnI base W1 (z m) (listOf L m))
    (hd : ∀ i j, i < j → j < 2 * L.length → (z i).ownBlock = none ∨ (z i).ownBlock ≠ (z j).ownBlock) (hk : k < L.length) (hv2 : OwnI base W2 v2 (setL (listOf L (which k wr)) u on)) (hg : W1.grownBy W2 (z (which k wr)).ownBlock) (hgood : GoodL L) :
    Labs (W2.setCell ⟨g, posOf (which k wr), none⟩ v2) (.slice (some ⟨g, 0, none⟩) L.length cap) (grantL L k u wr on) := by
  have hm0 : which k wr < 2 * L.length := by unfold which; split <;> omega
  have ap : ∀ m, m < 2 * L.length → m ≠ which k wr → (z m).ownBlock = none ∨ (z m).ownBlock ≠ (z (which k wr)).ownBlock := fun m hm hne => by
    rcases Nat.lt_or_gt_of_ne hne with hl | hl
    · exact hd m _ hl hm0
    · rcases hd _ m hl hm with h0 | h0
      · rw [h0]
        cases (z m).ownBlock <;> simp
      · exact .inr (fun e => h0 e.symm)
  have o2 : OwnL base W2 g cap L z := World.ownsRow.kept h hg (.inr (fun e => own_apart h (hI _ hm0) e.symm))
  obtain ⟨s1, s2⟩ := World.ownsRow.stored o2 (posOf (which k wr)) v2
  rw [cells_upd L z _ v2 hm0, ← cells_grant u wr on hk (upd z (which k wr) v2)] at s1
  have s3 : OwnL base (W2.setCell ⟨g, posOf (which k wr), none⟩ v2) g cap (grantL L k u wr on) (upd z (which k wr) v2) := by
    unfold OwnL
    rw [grantL_len]
    exact s1
  have := s3.labs (good_grant u wr on hk hgood) (fun m hm => ?_)
  · rw [grantL_len] at this
    exact this
  · rw [grantL_len] at hm
    rw [listOf_grant u wr on hk]
    unfold upd
    by_cases e : m = which k wr
    · rw [if_pos e, if_pos e, e]
      exact (hv2.kept s2 (.inr (own_apart o2 hv2))).ints
    · rw [if_neg e, if_neg e]
      have q := (hI m hm).kept hg (ap m hm e)
      exact (q.kept s2 (.inr (own_apart o2 q))).ints

/-- What a grant hands back where it is done. -/
def Grants (w : World) (L : List Lb) (e : Ending) (w' : World) : Prop := ∃ v, e = .returned (.tuple #[v, .int .i64 0]) ∧ Labs w' v L ∧ Below w.heap.size w w'

theorem grant_len {L : List Lb} (h : rightP L 8) (m : Nat) (hm : m < 2 * L.length) : (listOf L m).length ≤ 8 ∧ (listOf L m).Pairwise (· < ·) := by
  obtain ⟨h1, h2⟩ := right_us h (show m / 2 < L.length by omega)
  unfold listOf
  split
  · exact ⟨us_len h1, h1.1⟩
  · exact ⟨us_len h2, h2.1⟩

set_option maxRecDepth 100000 in
set_option maxHeartbeats 1600000 in
theorem grant_ok {v : Value} {L : List Lb} {k : Nat} {u : Int} {wr on : Bool} (w : World) (h : Labs w v L) (hr : rightP L 8) (hk : k < L.length) (hu1 : 0 ≤ u) (hu2 : u < 8) :
    Calls Try.prog 16 #[v, .int .i64 (lb L k).o, .int .i64 k, .int .i64 u, .bool wr, .bool on] w (Grants w (grantL L k u wr on)) := by
  have hgood := h.good
  have C1 := Lib.hid (clone_any w h hr.1 hr.2.1 (fun m hm => by have := (grant_len hr m hm).1; omega))
  have hm0 : which k wr < 2 * L.length := by unfold which; split <;> omega
  obtain ⟨hlen, hpw⟩ := grant_len hr _ hm0
  have h12 := hr.2.1
  obtain ⟨a, cap, rfl, hlc, hcap, hc⟩ := h.open_
  obtain ⟨b, off, rfl, hb, rv, sv, ⟨p1, p2⟩, ⟨o1, o2⟩, c0, c1, c2, c3, _, _⟩ := hc k hk
  have CS : Hid (∀ w1 s, w.heap.size ≤ w1.heap.size → OwnI w.heap.size w1 s (listOf L (which k wr)) → Calls Try.prog 25 #[s, .int .i64 u, .bool on] w1 (GivesI w.heap.size w1 s.ownBlock (setL (listOf L (which k wr)) u on))) :=
    fun w1 s hb1 hs => set_any u on w1 hs hpw (by omega) ⟨by omega, by omega⟩ hb1
  obtain ⟨n, hn⟩ : ∃ n, n = L.length := ⟨_, rfl⟩
  rw [← hn] at C1 hlc h12 ⊢
  have hkn : k < n := by omega
  have HN := Lib.hid hn
  have HG := Lib.hid hgood
  have HK := Lib.hid hk
  generalize (lb L k).o = o at *
  generalize (lb L k).p = p at *
  have c1' := c1
  clear hc hr hn hgood hm0 hlen hpw hk c0 c2 c3
  cases wr with
  | true =>
    have hw1 : Hid (k * 4 + 3 = posOf (which k true)) := by show _ = _; simp [posOf, which]; omega
    go_enter Try.func16, Try.ntmps16
    go_wp2_with fail
    refine C1.out.mono ?_
    rintro e w1 ⟨v1, rfl, ⟨g, c1, z, rfl, hO, hI, hD⟩, hb1⟩
    have hbase := hb1.size
    obtain ⟨hg1, hg2⟩ := hO.lt
    have hIm := hI (which k true) (by have := HK.out; simp [which]; omega)
    have y3 : w1.cell? ⟨g, k * 4 + 3, none⟩ = some (z (which k true)) := by
      rw [hO.cell (by have := HK.out; omega), cellAt_s]
      rfl
    have CW := Lib.hid (CS.out w1 _ hbase hIm)
    have fz := hO.frozen (k * 4 + 3)
    have hap := Lib.hid (own_apart hO hIm)
    have HO := Lib.hid hO
    have HI := Lib.hid hI
    have HD := Lib.hid hD
    have HB1 := Lib.hid hb1
    have HR := Lib.hid (fun k' e => (hIm.block k' e).1)
    obtain ⟨za, zc, hz⟩ := hIm.is_slice
    rw [hz] at y3 CW
    have HZ := Lib.hid hz
    generalize (listOf L (which k true)).length = l1 at *
    rw [← HN.out]
    clear hO hI hD hIm CS C1 hz hb1
    go_wp2_with fail
    refine CW.out.mono ?_
    rintro e w2 ⟨v2, rfl, hv2, hg⟩
    have hg' : w1.grownBy w2 (z (which k true)).ownBlock := by rw [HZ.out]; exact hg
    have q3 := World.grownBy.cell hg' y3 (fun e => hap.out e.symm)
    have f3 : w2.frozen? ⟨g, k * 4 + 3, none⟩ = false := by
      rw [World.frozen?_of_block (hg'.block g hg2 (fun e => hap.out e.symm))]
      exact fz
    have HL := Lib.hid (granted HO.out HI.out HD.out HK.out hv2 hg' HG.out)
    have HB2 := Lib.hid (((HB1.out.grown hg' hbase HR.out).setCell (p := ⟨g, k * 4 + 3, none⟩) hg1 v2))
    have l2 : (w2.heap.size) ≥ w1.heap.size := hg'.size
    obtain ⟨a2, c2', rfl⟩ := hv2.is_slice
    generalize (setL (listOf L (which k true)) u on).length = l2 at *
    rw [← hw1.out] at HL
    clear hv2 hg hg' CW y3 fz
    go_wp2_with fail
    go_ret2
    refine ⟨_, rfl, ?_, HB2.out⟩
    rw [HN.out]
    exact HL.out
  | false =>
    have hw1 : Hid (k * 4 + 2 = posOf (which k false)) := by show _ = _; simp [posOf, which]; omega
    go_enter Try.func16, Try.ntmps16
    go_wp2_with fail
    refine C1.out.mono ?_
    rintro e w1 ⟨v1, rfl, ⟨g, c1, z, rfl, hO, hI, hD⟩, hb1⟩
    have hbase := hb1.size
    obtain ⟨hg1, hg2⟩ := hO.lt
    have hIm := hI (which k false) (by have := HK.out; simp [which]; omega)
    have y3 : w1.cell? ⟨g, k * 4 + 2, none⟩ = some (z (which k false)) := by
      rw [hO.cell (by have := HK.out; omega), cellAt_r]
      rfl
    have CW := Lib.hid (CS.out w1 _ hbase hIm)
    have fz := hO.frozen (k * 4 + 2)
    have hap := Lib.hid (own_apart hO hIm)
    have HO := Lib.hid hO
    have HI := Lib.hid hI
    have HD := Lib.hid hD
    have HB1 := Lib.hid hb1
    have HR := Lib.hid (fun k' e => (hIm.block k' e).1)
    obtain ⟨za, zc, hz⟩ := hIm.is_slice
    rw [hz] at y3 CW
    have HZ := Lib.hid hz
    generalize (listOf L (which k false)).length = l1 at *
    rw [← HN.out]
    clear hO hI hD hIm CS C1 hz hb1
    go_wp2_with fail
    refine CW.out.mono ?_
    rintro e w2 ⟨v2, rfl, hv2, hg⟩
    have hg' : w1.grownBy w2 (z (which k false)).ownBlock := by rw [HZ.out]; exact hg
    have q3 := World.grownBy.cell hg' y3 (fun e => hap.out e.symm)
    have f3 : w2.frozen? ⟨g, k * 4 + 2, none⟩ = false := by
      rw [World.frozen?_of_block (hg'.block g hg2 (fun e => hap.out e.symm))]
      exact fz
    have HL := Lib.hid (granted HO.out HI.out HD.out HK.out hv2 hg' HG.out)
    have HB2 := Lib.hid (((HB1.out.grown hg' hbase HR.out).setCell (p := ⟨g, k * 4 + 2, none⟩) hg1 v2))
    have l2 : (w2.heap.size) ≥ w1.heap.size := hg'.size
    obtain ⟨a2, c2', rfl⟩ := hv2.is_slice
    generalize (setL (listOf L (which k false)) u on).length = l2 at *
    rw [← hw1.out] at HL
    clear hv2 hg hg' CW y3 fz
    go_wp2_with fail
    go_ret2
    refine ⟨_, rfl, ?_, HB2.out⟩
    rw [HN.out]
    exact HL.out

/-- Why there is no grant. -/
def whyG (L : List Lb) (by' label u : Int) : Int := if 0 ≤ label ∧ label < (L.length : Int) ∧ 0 ≤ u ∧ u < 8 then (if by' = (lb L label.toNat).o then 0 else 3) else 5
/-- None is handed back. -/
def NoGrant (w : World) (s : Int) (e : Ending) (w' : World) : Prop := e = .returned (.tuple #[.slice none 0 0, .int .i64 s]) ∧ Below w.heap.size w w'

set_option maxRecDepth 100000 in
set_option maxHeartbeats 1600000 in
theorem grant_no {v : Value} {L : List Lb} {by' label u : Int} {wr on : Bool} (w : World) (h : Labs w v L) (hb : i64 by') (hl : i64 label) (hu : i64 u) (hs : whyG L by' label u ≠ 0) :
    Calls Try.prog 16 #[v, .int .i64 by', .int .i64 label, .int .i64 u, .bool wr, .bool on] w (NoGrant w (whyG L by' label u)) := by
  obtain ⟨a, cap, rfl, hlc, hcap, hc⟩ := h.open_
  have HC := Lib.hid hc
  obtain ⟨n, hn⟩ : ∃ n, n = L.length := ⟨_, rfl⟩
  rw [← hn] at hlc ⊢
  have hw : Hid (whyG L by' label u = if 0 ≤ label ∧ label < (n : Int) ∧ 0 ≤ u ∧ u < 8 then (if by' = (lb L label.toNat).o then 0 else 3) else 5) := by show _ = _; unfold whyG; rw [← hn]
  have HN := Lib.hid hn
  obtain ⟨hl1, hl2⟩ := hl
  obtain ⟨hu1, hu2⟩ := hu
  obtain ⟨hb1, hb2⟩ := hb
  clear hc h hn
  generalize whyG L by' label u = st at *
  by_cases q1 : label < 0
  · obtain rfl : st = 5 := by have := hw.out; rwa [if_neg (by omega)] at this
    clear hw HC hs
    go_enter Try.func16, Try.ntmps16
    go_wp2_with fail
    go_ret2
    exact ⟨rfl, Below.refl _ _⟩
  by_cases q2 : (n : Int) ≤ label
  · obtain rfl : st = 5 := by have := hw.out; rwa [if_neg (by omega)] at this
    clear hw HC hs
    go_enter Try.func16, Try.ntmps16
    go_wp2_with fail
    go_ret2
    exact ⟨rfl, Below.refl _ _⟩
  by_cases q3 : u < 0
  · obtain rfl : st = 5 := by have := hw.out; rwa [if_neg (by omega)] at this
    clear hw HC hs
    go_enter Try.func16, Try.ntmps16
    go_wp2_with fail
    go_ret2
    exact ⟨rfl, Below.refl _ _⟩
  by_cases q4 : 8 ≤ u
  · obtain rfl : st = 5 := by have := hw.out; rwa [if_neg (by omega)] at this
    clear hw HC hs
    go_enter Try.func16, Try.ntmps16
    go_wp2_with fail
    go_ret2
    exact ⟨rfl, Below.refl _ _⟩
  obtain ⟨k, rfl⟩ : ∃ k : Nat, label = (k : Int) := ⟨label.toNat, by omega⟩
  have hkn : k < n := by omega
  obtain ⟨b, off, rfl, hb, rv, sv, ⟨p1, p2⟩, ⟨o1, o2⟩, c0, c1, c2, c3, _, _⟩ := HC.out k (by rw [← HN.out]; exact hkn)
  have hw2 : st = if by' = (lb L k).o then 0 else 3 := by
    have := hw.out
    rw [if_pos (by omega), Int.toNat_natCast] at this
    exact this
  have hne : ¬ by' = (lb L k).o := fun e => by rw [if_pos e] at hw2; exact hs hw2
  obtain rfl : st = 3 := by rw [hw2, if_neg hne]
  generalize (lb L k).o = o at *
  generalize (lb L k).p = p at *
  have d1 : (by' == o) = false := by simpa using hne
  have d2 : (by' != o) = true := by simpa using hne
  have hne' : ¬ o = by' := fun e => hne e.symm
  have d3 : (o == by') = false := by simpa using hne'
  have d4 : (o != by') = true := by simpa using hne'
  clear hw HC hs hw2 hne hne' HN
  go_enter Try.func16, Try.ntmps16
  go_wp2_with fail
  go_ret2
  exact ⟨rfl, Below.refl _ _⟩

set_option maxRecDepth 100000 in
set_option maxHeartbeats 1600000 in
theorem rgrant_no {v : Value} {L : List Lb} {by' label u : Int} {wr on : Bool} (w : World) (h : Labs w v L) (hb : i64 by') (hl : i64 label) (hu : i64 u) (hs : whyG L by' label u ≠ 0) :
    Calls Try.prog 18 #[v, .int .i64 by', .int .i64 label, .int .i64 u, .bool wr, .bool on] w (NoGrant w (whyG L by' label u)) := by
  obtain ⟨a, cap, rfl, hlc, hcap, hc⟩ := h.open_
  have HC := Lib.hid hc
  obtain ⟨n, hn⟩ : ∃ n, n = L.length := ⟨_, rfl⟩
  rw [← hn] at hlc ⊢
  have hw : Hid (whyG L by' label u = if 0 ≤ label ∧ label < (n : Int) ∧ 0 ≤ u ∧ u < 8 then (if by' = (lb L label.toNat).o then 0 else 3) else 5) := by show _ = _; unfold whyG; rw [← hn]
  have HN := Lib.hid hn
  obtain ⟨hl1, hl2⟩ := hl
  obtain ⟨hu1, hu2⟩ := hu
  obtain ⟨hb1, hb2⟩ := hb
  clear hc h hn
  generalize whyG L by' label u = st at *
  by_cases q1 : label < 0
  · obtain rfl : st = 5 := by have := hw.out; rwa [if_neg (by omega)] at this
    clear hw HC hs
    go_enter Try.func18, Try.ntmps18
    go_wp2_with fail
    go_ret2
    exact ⟨rfl, Below.refl _ _⟩
  by_cases q2 : (n : Int) ≤ label
  · obtain rfl : st = 5 := by have := hw.out; rwa [if_neg (by omega)] at this
    clear hw HC hs
    go_enter Try.func18, Try.ntmps18
    go_wp2_with fail
    go_ret2
    exact ⟨rfl, Below.refl _ _⟩
  by_cases q3 : u < 0
  · obtain rfl : st = 5 := by have := hw.out; rwa [if_neg (by omega)] at this
    clear hw HC hs
    go_enter Try.func18, Try.ntmps18
    go_wp2_with fail
    go_ret2
    exact ⟨rfl, Below.refl _ _⟩
  by_cases q4 : 8 ≤ u
  · obtain rfl : st = 5 := by have := hw.out; rwa [if_neg (by omega)] at this
    clear hw HC hs
    go_enter Try.func18, Try.ntmps18
    go_wp2_with fail
    go_ret2
    exact ⟨rfl, Below.refl _ _⟩
  obtain ⟨k, rfl⟩ : ∃ k : Nat, label = (k : Int) := ⟨label.toNat, by omega⟩
  have hkn : k < n := by omega
  obtain ⟨b, off, rfl, hb, rv, sv, ⟨p1, p2⟩, ⟨o1, o2⟩, c0, c1, c2, c3, _, _⟩ := HC.out k (by rw [← HN.out]; exact hkn)
  have hw2 : st = if by' = (lb L k).o then 0 else 3 := by
    have := hw.out
    rw [if_pos (by omega), Int.toNat_natCast] at this
    exact this
  have hne : ¬ by' = (lb L k).o := fun e => by rw [if_pos e] at hw2; exact hs hw2
  obtain rfl : st = 3 := by rw [hw2, if_neg hne]
  generalize (lb L k).o = o at *
  generalize (lb L k).p = p at *
  have d1 : (by' == o) = false := by simpa using hne
  have d2 : (by' != o) = true := by simpa using hne
  have hne' : ¬ o = by' := fun e => hne e.symm
  have d3 : (o == by') = false := by simpa using hne'
  have d4 : (o != by') = true := by simpa using hne'
  clear hw HC hs hw2 hne hne' HN
  go_enter Try.func18, Try.ntmps18
  go_wp2_with fail
  go_ret2
  exact ⟨rfl, Below.refl _ _⟩
end Go.Proofs.Ytefibidkmfcccaa.Rig
