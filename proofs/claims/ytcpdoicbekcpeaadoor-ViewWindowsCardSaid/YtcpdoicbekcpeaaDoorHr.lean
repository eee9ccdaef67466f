/- Sheets: Small, Right, Same (of the same lists), Ints (of the same ints), ids, two. -/
import Derived.Test.YtcpdoicbekcpeaaDoorHp
import Derived.Test.YtcpdoicbekcpeaaDoorHq
set_option linter.unusedVariables false
set_option linter.unusedSimpArgs false
set_option maxRecDepth 100000
namespace Go.Proofs.YtcpdoicbekcpeaaDoor.She
open Go.RowKit Go.Lib Go.Shelf Go.Proofs.YtcpdoicbekcpeaaDoor.Rk Go.Proofs.YtcpdoicbekcpeaaDoor.Rt Go.Proofs.YtcpdoicbekcpeaaDoor.Rig Go.Proofs.YtcpdoicbekcpeaaDoor.Seg

def G5.n (g : G5) : Nat := g.L.length + g.S.length + g.T.length
def sumG (G : List G5) : Nat := (G.map G5.n).sum
theorem sumG_take (G : List G5) {k : Nat} (hk : k < G.length) : sumG (G.take (k + 1)) = sumG (G.take k) + G[k].n := by
  unfold sumG
  rw [List.take_succ_eq_append_getElem hk, List.map_append, List.sum_append]
  simp
theorem sumG_le (G : List G5) (k : Nat) : sumG (G.take k) ≤ sumG G := by
  conv => rhs; rw [← List.take_append_drop k G]
  unfold sumG
  rw [List.map_append, List.sum_append]
  omega
def smallG (G : List G5) : Bool := decide (sumG G ≤ 3000 ∧ G.length ≤ 40)
theorem mem_sum {G : List G5} {g : G5} (h : g ∈ G) : g.n ≤ sumG G := by
  obtain ⟨k, hk, rfl⟩ := List.getElem_of_mem h
  have h1 := sumG_take G hk
  have h2 := sumG_le G (k + 1)
  omega
theorem small_sz {G : List G5} (h : smallG G = true) : (∀ g ∈ G, g.sz) ∧ G.length ≤ 40 ∧ sumG G ≤ 3000 := by
  unfold smallG at h
  rw [decide_eq_true_iff] at h
  refine ⟨fun g hg => ?_, h.2, h.1⟩
  have := mem_sum hg
  unfold G5.n at this
  unfold G5.sz
  omega
set_option maxHeartbeats 4000000 in
theorem hsmall_any {v : Value} {G : List G5} (w : World) (h : Args w v G) : Calls Tryd.prog 27 #[v] w fun e w' => e = .returned (.bool (smallG G)) ∧ Below w.heap.size w w' := by
  obtain ⟨h, hgd⟩ := h
  obtain ⟨la, lc, rfl⟩ := Rk.Rows.is_slice h
  obtain ⟨_, hcap, hmax⟩ := Rk.Rows.len h
  obtain ⟨n, hnG⟩ : ∃ n, n = G.length := ⟨_, rfl⟩
  have HR : Hid (∀ w', Below w.heap.size w w' → Pls w' (.slice la n lc) G) := fun w' hb => by rw [hnG]; exact h.below hb
  rw [← hnG] at hcap ⊢
  unfold maxLen at hmax
  have HN := Lib.hid hnG
  have HGD := Lib.hid hgd
  have ES : Hid (sumG (G.take n) = sumG G) := by show _ = _; rw [hnG, List.take_length]
  clear h hgd hnG
  go_enter Tryd.func27, Tryd.ntmps27
  go_wp2_with fail
  go_loopg [3, 8] n (fun g s i wr => ∃ k : Nat, k ≤ n ∧ n - k ≤ g ∧ i = .int .i64 k ∧ s = .int .i64 (sumG (G.take k)) ∧ sumG (G.take k) ≤ 3000 ∧ Below w.heap.size w wr)
  case atStart => exact ⟨0, Nat.zero_le _, by omega, rfl, by simp [sumG], by simp [sumG], Below.refl _ _⟩
  case round =>
    obtain ⟨k, hk, hg, rfl, rfl, hs, hbel⟩ := hrel
    by_cases hlt : k < n
    · have hkl : k < G.length := by rw [← HN.out]; exact hlt
      obtain ⟨b, off, a1, e1, a2, e2, rfl, hb, hv, c0, c1, c2, c3, c4⟩ := (HR.out _ hbel).get hkl
      have et := sumG_take G hkl
      have ele := sumG_le G (k + 1)
      obtain ⟨_, _, gL, gS, gT⟩ := HGD.out _ (List.getElem_mem hkl)
      generalize G[k] = y at *
      obtain ⟨yi, yl, yL, yS, yT⟩ := y
      unfold G5.n at et
      simp only at c0 c1 c2 c3 c4 et gL gS gT
      have ms : (Let.mk yL).size = yL.length := Let.mk_size yL
      have HB := Lib.hid (hbel.alloc hbel.size (.cells #[.int .i64 yi, .int .i64 yl, .string (Let.mk yL), .slice a1 yS.length e1, .slice a2 yT.length e2] 25))
      generalize yS.length = n1 at *
      generalize yT.length = n2 at *
      have ET := Lib.hid et
      have EL := Lib.hid ele
      obtain ⟨sk, hsk⟩ : ∃ sk, sk = sumG (G.take k) := ⟨_, rfl⟩
      rw [← hsk] at ET hs ⊢
      have z0 : IntKind.i64.wrap ((yL.length : Int) + (n1 : Int)) = (yL.length : Int) + (n1 : Int) := IntWalk.i64_in _ (by omega)
      have z1 : IntKind.i64.wrap ((yL.length : Int) + (n1 : Int) + (n2 : Int)) = (yL.length : Int) + (n1 : Int) + (n2 : Int) := IntWalk.i64_in _ (by omega)
      have z2 : IntKind.i64.wrap ((sk : Int) + ((yL.length : Int) + (n1 : Int) + (n2 : Int))) = (sk : Int) + ((yL.length : Int) + (n1 : Int) + (n2 : Int)) := IntWalk.i64_in _ (by omega)
      have i1 : (k : Int) < (n : Int) := by omega
      clear hbel hv hsk et ele
      by_cases q : sk + (yL.length + n1 + n2) ≤ 3000
      · have d1 : ¬ (3000 < (sk : Int) + ((yL.length : Int) + (n1 : Int) + (n2 : Int))) := by omega
        have d2 : decide (3000 < (sk : Int) + ((yL.length : Int) + (n1 : Int) + (n2 : Int))) = false := decide_eq_false d1
        go_wp2_with fail
        go_roundg (n - (k + 1))
        case measure => omega
        case rel => exact ⟨k + 1, by omega, Nat.le_refl _, by go_num, by rw [ET.out]; simp, by rw [ET.out]; exact q, HB.out⟩
      · have d1 : (3000 < (sk : Int) + ((yL.length : Int) + (n1 : Int) + (n2 : Int))) := by omega
        have d2 : decide (3000 < (sk : Int) + ((yL.length : Int) + (n1 : Int) + (n2 : Int))) = true := decide_eq_true d1
        go_wp2_with fail
        go_ret
        refine ⟨?_, HB.out⟩
        unfold smallG
        rw [decide_eq_false (fun c => by have := EL.out; rw [ET.out] at this; omega)]
        rfl
    · obtain rfl : k = n := by omega
      have HB := Lib.hid hbel
      have i1 : ¬ ((k : Int) < (k : Int)) := by omega
      by_cases q : k ≤ 40
      · have d2 : decide ((k : Int) ≤ 40) = true := decide_eq_true (by omega)
        clear hbel HR
        go_wp2_with fail
        go_ret
        refine ⟨?_, HB.out⟩
        unfold smallG
        rw [decide_eq_true (by rw [← ES.out, ← HN.out]; exact ⟨hs, q⟩)]
        simp
      · have d2 : decide ((k : Int) ≤ 40) = false := decide_eq_false (by omega)
        clear hbel HR
        go_wp2_with fail
        go_ret
        refine ⟨?_, HB.out⟩
        unfold smallG
        rw [decide_eq_false (fun c => by rw [← HN.out] at c; exact q c.2)]
        simp
/-! Right -/
theorem nodup_place {G : List G5} : (∀ k (hk : k < G.length), placeI G G[k].i = k) ↔ (G.map G5.i).Nodup := by
  unfold List.Nodup
  rw [List.pairwise_iff_getElem]
  constructor
  · intro h i j hi hj hij
    rw [List.length_map] at hi hj
    rw [List.getElem_map, List.getElem_map]
    intro e
    have h1 := h j hj
    cases hp : placeN G G[j].i with
    | none => exact place_none hp j hj rfl
    | some m =>
      obtain ⟨hm, e1, e2⟩ := place_lt hp
      rw [placeI_yes hp] at h1
      have : m = j := by omega
      subst this
      exact e2 i hi hij e
  · intro h k hk
    refine placeI_yes (place_yes hk (fun j hj hjk e => ?_) rfl)
    exact h j k (by rw [List.length_map]; exact hj) (by rw [List.length_map]; exact hk) hjk (by rw [List.getElem_map, List.getElem_map]; exact e)
theorem okG_iff {G : List G5} : okG G = true ↔ ∀ k (hk : k < G.length), r5 G[k] = true ∧ placeI G G[k].i = k := by
  unfold okG
  rw [Bool.and_eq_true, List.all_eq_true, decide_eq_true_iff, ← nodup_place]
  constructor
  · intro h k hk
    exact ⟨h.1 _ (List.getElem_mem hk), h.2 k hk⟩
  · intro h
    refine ⟨fun g hg => ?_, fun k hk => (h k hk).2⟩
    obtain ⟨k, hk, rfl⟩ := List.getElem_of_mem hg
    exact (h k hk).1
theorem okG_no {G : List G5} {k : Nat} (hk : k < G.length) (h : ¬ (r5 G[k] = true ∧ placeI G G[k].i = k)) : okG G = false := by
  cases hq : okG G with
  | false => rfl
  | true => exact absurd (okG_iff.1 hq k hk) h
set_option maxHeartbeats 8000000 in
theorem hright_any {v : Value} {G : List G5} (w : World) (h : Pls w v G) (hsz : ∀ g ∈ G, g.sz) (hn : G.length ≤ 10000) : Calls Tryd.prog 28 #[v] w fun e w' => e = .returned (.bool (okG G)) ∧ Below w.heap.size w w' := by
  obtain ⟨la, lc, rfl⟩ := Rk.Rows.is_slice h
  obtain ⟨_, hcap, hmax⟩ := Rk.Rows.len h
  obtain ⟨n, hnG⟩ : ∃ n, n = G.length := ⟨_, rfl⟩
  have HR : Hid (∀ w', Below w.heap.size w w' → Pls w' (.slice la n lc) G) := fun w' hb => by rw [hnG]; exact h.below hb
  rw [← hnG] at hcap hn ⊢
  unfold maxLen at hmax
  have HN := Lib.hid hnG
  have HSZ := Lib.hid hsz
  clear h hsz hnG
  go_enter Tryd.func28, Tryd.ntmps28
  go_wp2_with fail
  go_loopg [3] n (fun g i wr => ∃ k : Nat, k ≤ n ∧ n - k ≤ g ∧ i = .int .i64 k ∧ Hid (∀ j (hj : j < G.length), j < k → r5 G[j] = true ∧ placeI G G[j].i = j) ∧ Below w.heap.size w wr)
  case atStart => exact ⟨0, Nat.zero_le _, by omega, rfl, fun j hj h => by omega, Below.refl _ _⟩
  case round =>
    obtain ⟨k, hk, hg, rfl, HA, hbel⟩ := hrel
    have HB := Lib.hid hbel
    by_cases hlt : k < n
    · have hkl : k < G.length := by rw [← HN.out]; exact hlt
      obtain ⟨b, off, a1, e1, a2, e2, rfl, hb, hv, c0, c1, c2, c3, c4⟩ := (HR.out _ hbel).get hkl
      have NO : Hid (¬ (r5 G[k] = true ∧ placeI G G[k].i = k) → okG G = false) := fun e => okG_no hkl e
      have HZ : Hid (r5 G[k] = true ∧ placeI G G[k].i = k → ∀ j (hj : j < G.length), j < k + 1 → r5 G[j] = true ∧ placeI G G[j].i = j) := fun e j hj hjk => by
        by_cases q : j = k
        · subst q; exact e
        · exact HA.out j hj (by omega)
      have hz := HSZ.out _ (List.getElem_mem hkl)
      have CR : Hid (∀ w', Below wr.heap.size wr w' → Calls Tryd.prog 33 #[.agg #[.int .i64 G[k].i, .int .i64 G[k].l, .string (Let.mk G[k].L), .slice a1 G[k].S.length e1, .slice a2 G[k].T.length e2]] w' fun e w'' => e = .returned (.bool (r5 G[k])) ∧ Below w'.heap.size w' w'') := fun w' hb => right5_any w' (hv.below hb (Nat.le_refl _)) hz.1
      have CP : Hid (∀ w', Below w.heap.size w w' → Calls Tryd.prog 34 #[.slice (some ⟨b, off, none⟩) n lc, .int .i64 G[k].i] w' fun e w'' => e = .returned (.int .i64 (placeI G G[k].i)) ∧ w'' = w') := fun w' hb => place_any _ w' (HR.out w' hb)
      obtain ⟨rk, hrk⟩ : ∃ rk, rk = r5 G[k] := ⟨_, rfl⟩
      obtain ⟨pk, hpk⟩ : ∃ pk, pk = placeI G G[k].i := ⟨_, rfl⟩
      rw [← hrk, ← hpk] at NO HZ
      rw [← hrk] at CR
      rw [← hpk] at CP
      have HC0 : Hid (∀ w', Below wr.heap.size wr w' → w'.cell? ⟨b, off + k * 5, none⟩ = some (.int .i64 G[k].i)) := fun w' hb' => by rw [hb'.cell (p := ⟨b, off + k * 5, none⟩) hb]; exact c0
      clear hrk hpk
      generalize G[k] = y at *
      obtain ⟨yi, yl, yL, yS, yT⟩ := y
      simp only at c0 c1 c2 c3 c4 CR CP HC0
      generalize yS.length = n1 at *
      generalize yT.length = n2 at *
      have i1 : (k : Int) < (n : Int) := by omega
      clear hbel hv HA hz
      cases rk with
      | false =>
        have E := Lib.hid (NO.out (fun h => by cases h.1))
        clear NO HZ
        go_wp2_with fail
        refine (CR.out _ (Below.refl _ _)).mono ?_
        rintro e w1 ⟨rfl, b1⟩
        have HB1 := Lib.hid (below_more HB.out b1)
        clear b1 c0 c1 c2 c3 c4
        go_wp2_with fail
        go_ret
        exact ⟨by rw [E.out]; simp, HB1.out⟩
      | true =>
        go_wp2_with fail
        refine (CR.out _ (Below.refl _ _)).mono ?_
        rintro e w1 ⟨rfl, b1⟩
        have HB1 := Lib.hid (below_more HB.out b1)
        have x0 := HC0.out _ b1
        clear b1 c0 c1 c2 c3 c4
        go_wp2_with fail
        refine (CP.out _ HB1.out).mono ?_
        rintro e w2 ⟨rfl, rfl⟩
        by_cases hpk : pk = k
        · have HZ2 := Lib.hid (HZ.out ⟨by first | rfl | trivial, hpk⟩)
          have j1 : (pk == (k : Int)) = true := by simp [hpk]
          have j2 : (pk != (k : Int)) = false := by simp [hpk]
          clear NO HZ hpk x0
          go_wp2_with fail
          go_roundg (n - (k + 1))
          case measure => omega
          case rel => exact ⟨k + 1, by omega, Nat.le_refl _, by go_num, HZ2, HB1.out⟩
        · have E := Lib.hid (NO.out (fun h => hpk h.2))
          have j1 : (pk == (k : Int)) = false := by simp [hpk]
          have j2 : (pk != (k : Int)) = true := by simp [hpk]
          clear NO HZ hpk x0
          go_wp2_with fail
          go_ret
          exact ⟨by rw [E.out]; simp, HB1.out⟩
    · obtain rfl : k = n := by omega
      have i1 : ¬ ((k : Int) < (k : Int)) := by omega
      have E : Hid (okG G = true) := okG_iff.2 fun j hj => HA.out j hj (by rw [HN.out]; exact hj)
      clear hbel HA HR
      go_wp2_with fail
      go_ret
      exact ⟨by rw [E.out]; rfl, HB.out⟩
end Go.Proofs.YtcpdoicbekcpeaaDoor.She
