/- A part of the proof. -/
import Derived.Test.YtccaiippoephbaaGreatDoorWp
import Derived.Test.YtccaiippoephbaaGreatDoorHp
import Derived.Test.YtccaiippoephbaaGreatDoorVa
import Derived.Test.YtccaiippoephbaaGreatDoorVh
set_option linter.unusedVariables false
set_option linter.unusedSimpArgs false
set_option maxRecDepth 100000
namespace Go.Proofs.YtccaiippoephbaaGreatDoor.Sta
open Go.RowKit Go.Lib Go.Proofs.YtccaiippoephbaaGreatDoor.Bx Go.Proofs.YtccaiippoephbaaGreatDoor.Frm Go.Proofs.YtccaiippoephbaaGreatDoor.Wds
theorem fl_row {k : Nat} {w : World} {v : Value} {rows : List (List Int)} (h : Rk.RowK k w v (rows.map fun r => r.map (Value.int .i64))) (hk : ∀ r ∈ rows, r.length = k) (hi : ∀ r ∈ rows, ∀ x ∈ r, Rig.i64 x) (hk0 : 0 < k) : Rig.Fl w v rows.length k rows.flatten := by
  have hlen : ∀ rows : List (List Int), (∀ r ∈ rows, r.length = k) → rows.flatten.length = rows.length * k := fun rows => by
    induction rows with
    | nil => intro _; simp
    | cons r rs ih =>
      intro hk
      rw [List.flatten_cons, List.length_append, hk r List.mem_cons_self, ih (fun q hq => hk q (List.mem_cons_of_mem _ hq)), List.length_cons, Nat.succ_mul]
      omega
  obtain ⟨_, a, cap, e, h1, h2, h3⟩ := h
  rw [List.length_map] at e h1
  refine ⟨hlen rows hk, fun x hx => ?_, a, cap, e, h1, h2, ?_⟩
  · obtain ⟨r, hr, hx⟩ := List.mem_flatten.1 hx
    exact hi r hr x hx
  · rcases h3 with h3 | ⟨b, off, rfl, hb, hc⟩
    · exact .inl (by rw [← List.length_map (f := fun r => r.map (Value.int .i64)), h3]; rfl)
    · refine .inr ⟨b, off, rfl, hb, fun j hj => ?_⟩
      have hq : j / k < rows.length := (Nat.div_lt_iff_lt_mul hk0).2 hj
      have hr : j % k < k := Nat.mod_lt _ hk0
      have hrow : (rows[j / k]).length = k := hk _ (List.getElem_mem hq)
      have e1 : j / k * k + j % k = j := by rw [Nat.mul_comm]; exact Nat.div_add_mod j k
      have e2 : rows.flatten[j]? = some ((rows[j / k])[j % k]'(by omega)) := by
        have hh : ∀ (rows : List (List Int)), (∀ r ∈ rows, r.length = k) → ∀ q r (hq : q < rows.length), r < k → rows.flatten[q * k + r]? = (rows[q])[r]? := fun rows => by
          induction rows with
          | nil => intro _ q r hq; exact absurd hq (by simp)
          | cons x xs ih =>
            intro hk q r hq hr
            have hx : x.length = k := hk x List.mem_cons_self
            rw [List.flatten_cons]
            cases q with
            | zero =>
              rw [Nat.zero_mul, Nat.zero_add, List.getElem?_append_left (by omega)]
              rfl
            | succ q =>
              rw [List.getElem?_append_right (by rw [hx, Nat.succ_mul]; omega), hx, show (q + 1) * k + r - k = q * k + r by rw [Nat.succ_mul]; omega]
              exact ih (fun y hy => hk y (List.mem_cons_of_mem _ hy)) q r (by simpa using hq) hr
        have := hh rows hk (j / k) (j % k) hq hr
        rw [e1] at this
        rw [this, List.getElem?_eq_getElem]
      have hcj := hc (j / k) (by rw [List.length_map]; exact hq) (j % k) (.int .i64 ((rows[j / k])[j % k]'(by omega))) (by
        rw [List.getElem_map, List.getElem?_map, List.getElem?_eq_getElem (by omega)]
        rfl)
      rw [show off + j / k * k + j % k = off + j by omega] at hcj
      have e3 : Rt.at_ rows.flatten j = (rows[j / k])[j % k]'(by omega) := by
        unfold Rt.at_
        rw [List.getD_eq_getElem?_getD, e2]
        rfl
      rw [e3]
      exact hcj
def sp5 (s : Spn) : Rt.Sp := ⟨s.1, s.2.1, s.2.2⟩
def st5 (t : Sit) : Rt.St := ⟨t.1, t.2⟩
theorem spans_of {P : Nat → Prop} {w : World} {v : Value} {X : List Spn} (h : RowP spnM P w v X) (hg : ∀ x ∈ X, spnG x) : Rig.Spans w v (X.map sp5) := by
  obtain ⟨p, h1, h2, _, h4⟩ := h
  have e : p.map Prod.fst = ((X.map fun s => [s.1, s.2.1, s.2.2]).map fun r => r.map (Value.int .i64)) := by
    rw [← h1, List.map_map, List.map_map]
    refine List.map_congr_left fun x hx => ?_
    exact spnM_open (h4 x hx)
  have h2' : Rk.RowK 3 w v (p.map Prod.fst) := h2
  rw [e] at h2'
  have k := fl_row h2' (fun r hr => by obtain ⟨s, _, rfl⟩ := List.mem_map.1 hr; rfl) (fun r hr x hx => by
    obtain ⟨s, hs, rfl⟩ := List.mem_map.1 hr
    obtain ⟨g1, g2, g3⟩ := hg s hs
    simp only [List.mem_cons, List.not_mem_nil, or_false] at hx
    rcases hx with rfl | rfl | rfl
    · exact g1
    · exact g2
    · exact g3) (by decide)
  rw [List.length_map] at k
  unfold Rig.Spans
  rw [List.length_map]
  have ef : Rt.fl3 (X.map sp5) = (X.map fun s => [s.1, s.2.1, s.2.2]).flatten := by
    unfold Rt.fl3
    rw [List.flatMap_map, List.flatMap_def]
    rfl
  rw [ef]
  exact k
theorem sites_of {P : Nat → Prop} {w : World} {v : Value} {X : List Sit} (h : RowP sitM P w v X) (hg : ∀ x ∈ X, sitG x) : Rig.Sites w v (X.map st5) := by
  obtain ⟨p, h1, h2, _, h4⟩ := h
  have e : p.map Prod.fst = ((X.map fun s => [s.1, s.2]).map fun r => r.map (Value.int .i64)) := by
    rw [← h1, List.map_map, List.map_map]
    refine List.map_congr_left fun x hx => ?_
    exact sitM_open (h4 x hx)
  have h2' : Rk.RowK 2 w v (p.map Prod.fst) := h2
  rw [e] at h2'
  have k := fl_row h2' (fun r hr => by obtain ⟨s, _, rfl⟩ := List.mem_map.1 hr; rfl) (fun r hr x hx => by
    obtain ⟨s, hs, rfl⟩ := List.mem_map.1 hr
    obtain ⟨g1, g2⟩ := hg s hs
    simp only [List.mem_cons, List.not_mem_nil, or_false] at hx
    rcases hx with rfl | rfl
    · exact g1
    · exact g2) (by decide)
  rw [List.length_map] at k
  unfold Rig.Sites
  rw [List.length_map]
  have ef : Rt.fl2 (X.map st5) = (X.map fun s => [s.1, s.2]).flatten := by
    unfold Rt.fl2
    rw [List.flatMap_map, List.flatMap_def]
    rfl
  rw [ef]
  exact k
def g5 (y : Seg) : She.G5 := ⟨y.1, y.2.1, y.2.2.1, y.2.2.2.1.map sp5, y.2.2.2.2.map st5⟩
theorem seg_pl {P : Nat → Prop} {w : World} {cs : List Value} {y : Seg} (h : segM.R P w cs y) (hg : segG y) : She.PlC w cs (g5 y) := by
  obtain ⟨u, v, rfl, h3, h4⟩ := segM_open h
  obtain ⟨_, _, _, g3, g4⟩ := hg
  exact ⟨u, v, rfl, u, v, rfl, spans_of h3 g3.2, sites_of h4 g4.2⟩
theorem segs_pl {P : Nat → Prop} {w : World} {v : Value} {X : List Seg} (h : RowP segM P w v X) (hg : ∀ y ∈ X, segG y) : She.Pls w v (X.map g5) := by
  obtain ⟨p, h1, h2, _, h4⟩ := h
  refine ⟨p.map fun x => (x.1, g5 x.2), ?_, ?_, ?_⟩
  · rw [List.map_map, ← h1, List.map_map]
    rfl
  · rw [List.map_map]
    exact h2
  · intro x hx
    obtain ⟨y, hy, rfl⟩ := List.mem_map.1 hx
    exact seg_pl (h4 y hy) (hg y.2 (by rw [← h1]; exact List.mem_map.2 ⟨y, hy, rfl⟩))
def OK5 (y : Seg) : Prop := She.r5 (g5 y) = true
theorem owed_rightG : RightG OK5 := fun P w cs y h hS hG => by
  have hp := seg_pl h hG
  obtain ⟨sv, tv, rfl, hp⟩ := hp
  refine (Seg.right5_any w hp (by have := hS.1; show y.2.2.1.length ≤ 10000; omega)).mono ?_
  rintro e w' ⟨rfl, hb⟩
  exact ⟨⟨_, rfl, Iff.rfl⟩, hb⟩
theorem okG_is (X : List Seg) : She.okG (X.map g5) = true ↔ (∀ y ∈ X, OK5 y) ∧ (X.map fun y => y.1).Nodup := by
  unfold She.okG
  rw [Bool.and_eq_true, decide_eq_true_eq, List.map_map, List.all_map, List.all_eq_true]
  exact Iff.rfl
theorem owed_loadS {w0 : World} (hT : Con.Tabs w0) : LoadS w0 (fun X => (∀ y ∈ X, OK5 y) ∧ (X.map fun y => y.1).Nodup) := fun P f w v X hW h hX hg => by
  have hp := segs_pl h (fun y hy => (hg y hy).2)
  refine (She.sload_any f w hp (fun g hg' => ?_) (by rw [List.length_map]; omega) (hT.below hW)).mono ?_
  · obtain ⟨y, hy, rfl⟩ := List.mem_map.1 hg'
    obtain ⟨s1, s2, s3⟩ := (hg y hy).1
    refine ⟨?_, ?_, ?_⟩
    · show y.2.2.1.length ≤ _; omega
    · show (y.2.2.2.1.map sp5).length ≤ _; rw [List.length_map]; omega
    · show (y.2.2.2.2.map st5).length ≤ _; rw [List.length_map]; omega
  · rintro e w' ⟨s, rfl, hs, hb⟩
    obtain ⟨sa, sc, rfl⟩ := Rk.Rows.is_slice hs
    exact ⟨_, sa, _, sc, _, rfl, okG_is X, hb⟩
def u5 (u : Thg) : Und.U := ⟨u.1, u.2.1, u.2.2.1, u.2.2.2.1, u.2.2.2.2⟩
theorem us_of {P : Nat → Prop} {w : World} {v : Value} {X : List Thg} (h : RowP thgM P w v X) (hg : ∀ u ∈ X, thgG u) : Und.Us w v (X.map u5) := by
  obtain ⟨p, h1, h2, _, h4⟩ := h
  refine ⟨?_, fun y hy => ?_⟩
  · have e : p.map Prod.fst = (X.map u5).map Und.U.cells := by
      rw [← h1, List.map_map, List.map_map]
      refine List.map_congr_left fun x hx => ?_
      exact thgM_open (h4 x hx)
    rw [← e]
    exact h2
  · obtain ⟨u, hu, rfl⟩ := List.mem_map.1 hy
    obtain ⟨g1, g2, g3, g4, g5⟩ := hg u hu
    exact ⟨g1, g2, g3, g4, g5⟩
def OKu (X : List Thg) : Prop := Und.rightU (X.map u5) = true
theorem owed_rightU : RightU OKu := fun P w v X h hn ht hg => by
  refine (Und.uright_any w (us_of h hg)).mono ?_
  rintro e w' ⟨rfl, hb⟩
  exact ⟨⟨_, rfl, Iff.rfl⟩, hb⟩
theorem owed_loadU {w0 : World} (hT : Con.Tabs w0) : LoadU w0 OKu := fun P w v X hW h hn ht hg => by
  have hu := us_of h hg
  have hl : ∀ y ∈ X.map u5, y.t.length ≤ 1073741824 := fun y hy => by
    obtain ⟨u, hu, rfl⟩ := List.mem_map.1 hy
    have := ht u hu
    show u.2.2.2.2.length ≤ _
    omega
  cases hr : Und.rightU (X.map u5) with
  | true =>
    refine (Und.uload_yes w hu hr hl (by rw [List.length_map]; omega) (hT.below hW)).mono ?_
    rintro e w' ⟨s, rfl, hs, hb⟩
    obtain ⟨sa, sc, rfl⟩ := Rk.Rows.is_slice hs
    exact ⟨sa, _, sc, true, rfl, ⟨fun _ => hr, fun _ => rfl⟩, hb⟩
  | false =>
    refine (Und.uload_no w hu hr hl (by rw [List.length_map]; omega) (hT.below hW)).mono ?_
    rintro e w' ⟨rfl, hb⟩
    exact ⟨none, 0, 0, false, rfl, ⟨fun h => (by cases h), fun h => (by have h2 : Und.rightU (X.map u5) = true := h; rw [hr] at h2; cases h2)⟩, hb⟩
end Go.Proofs.YtccaiippoephbaaGreatDoor.Sta
namespace Go.Proofs.YtccaiippoephbaaGreatDoor.Sta
open Go.RowKit Go.Lib Go.Proofs.YtccaiippoephbaaGreatDoor.Bx Go.Proofs.YtccaiippoephbaaGreatDoor.Frm Go.Proofs.YtccaiippoephbaaGreatDoor.Wds
def OKa (s : List UInt8) : Prop := (toldE s).2 = true
theorem an_open {base : Nat} {w : World} {v : Value} {a : An} (h : AnO base w v a) : ∃ (ra ea : Option Addr) (rn rc en ec : Nat), v = .agg #[.int .i64 a.st, .string (mkB a.tok), .int .i64 a.num, .int .i64 a.at', .slice ra rn rc, .slice ea en ec] := by
  obtain ⟨rv, ev, rfl, h1, h2⟩ := h
  obtain ⟨ra, rc, rfl⟩ := Rk.OwnK.is_slice h1
  obtain ⟨ea, ec, rfl⟩ := h2.is_slice
  exact ⟨ra, ea, _, rc, _, ec, rfl⟩
theorem owed_told : ToldK OKa := fun w s hs => by
  refine (told_ok' s w (by omega)).mono ?_
  rintro e w' ⟨v, rfl, ha, hb⟩
  obtain ⟨ra, ea, rn, rc, en, ec, rfl⟩ := an_open ha
  exact ⟨_, _, _, _, ra, ea, rn, rc, en, ec, _, rfl, Iff.rfl, hb⟩
theorem owed_rtold : RToldK OKa := fun w s hs => by
  refine (rtold_any s w).mono ?_
  rintro e w' ⟨v, rfl, ha, hb⟩
  obtain ⟨ra, ea, rn, rc, en, ec, rfl⟩ := an_open ha
  exact ⟨_, _, _, _, ra, ea, rn, rc, en, ec, _, rfl, Iff.rfl, hb⟩
theorem state_right {cs cs' : List Value} {C : Cfg} {S : Sta} {w : World} (h : cfgM.R (fun _ => True) w cs C) (hg : cfgG C) (h' : staM.R (fun _ => True) w cs' S) (hg' : staG S) (hR : Slt.Roots w) (hT : Con.Tabs w) : Calls Tryz.prog 3 #[.agg cs.toArray, .agg cs'.toArray] w fun e w' => e = .returned (.bool true) ∧ Below w.heap.size w w' :=
  right_walk w (owed_loadS hT) (owed_loadU hT) owed_told owed_rightG owed_rightU owed_rtold C S hR h h' hg hg'
end Go.Proofs.YtccaiippoephbaaGreatDoor.Sta
