/- Desk: Done of the plain text. -/
import Derived.Test.YtkbjbmhplocdnaaDe2
set_option linter.unusedVariables false
set_option linter.unusedSimpArgs false
set_option maxRecDepth 100000
namespace Go.Proofs.Ytkbjbmhplocdnaa.Dsk
open Go.RowKit Go.Lib Go.Proofs.Ytkbjbmhplocdnaa.Bx

theorem flat_set {k : Nat} : ∀ (xs : List (List Value)), (∀ x ∈ xs, x.length = k) → ∀ (i o : Nat) (u : Value) (hi : i < xs.length), o < k → xs.flatten.set (i * k + o) u = (xs.set i ((xs[i]).set o u)).flatten
  | [], _, i, _, _, hi, _ => absurd hi (Nat.not_lt_zero _)
  | x :: xs, hk, i, o, u, hi, ho => by
    have hx : x.length = k := hk x List.mem_cons_self
    rw [List.flatten_cons]
    cases i with
    | zero =>
      rw [Nat.zero_mul, Nat.zero_add, List.set_append_left _ _ (by omega)]
      rfl
    | succ i =>
      rw [Nat.succ_mul, show i * k + k + o = k + (i * k + o) by omega, List.set_append_right _ _ (by omega), hx, show k + (i * k + o) - k = i * k + o by omega, flat_set xs (fun z hz => hk z (List.mem_cons_of_mem _ hz)) i o u (by simpa using hi) ho]
      rfl
theorem own_set {e : TypeId} {k base : Nat} {w : World} {g n cap : Nat} {xs : List (List Value)} (h : Rk.OwnK e k base w (.slice (some ⟨g, 0, none⟩) n cap) xs) {i o : Nat} {u : Value} (hi : i < xs.length) (ho : o < k) (hu : u.oneCell' = true) :
    Rk.OwnK e k base (w.setCell ⟨g, i * k + o, none⟩ u) (.slice (some ⟨g, 0, none⟩) n cap) (xs.set i ((xs[i]).set o u)) := by
  obtain ⟨h0, h1⟩ := h
  have hlen : (xs.set i ((xs[i]).set o u)).length = xs.length := List.length_set ..
  refine ⟨fun x hx => ?_, ?_⟩
  · rcases List.mem_or_eq_of_mem_set hx with hx | rfl
    · exact h0 x hx
    · obtain ⟨a, b⟩ := h0 xs[i] (List.getElem_mem hi)
      refine ⟨by rw [List.length_set]; exact a, fun q hq => ?_⟩
      rcases List.mem_or_eq_of_mem_set hq with hq | rfl
      · exact b q hq
      · exact hu
  · rw [hlen]
    obtain ⟨h2, h3⟩ := h1
    rcases h3 with ⟨e1, _⟩ | ⟨g', cap', cur, e1, hb, hg, hle, hm, hsz, htake⟩
    · cases e1
    · injection e1 with e1 e2 e3
      injection e1 with e1
      injection e1 with e1 _ _
      subst e1 e2 e3
      refine ⟨by rw [← flat_set xs (fun x hx => (h0 x hx).1) i o u hi ho, List.length_set]; exact h2, .inr ⟨g, cap, _, rfl, hb, set_block hg, hle, hm, by rw [Array.size_setIfInBounds]; exact hsz, ?_⟩⟩
      rw [Array.toList_setIfInBounds, ← flat_set xs (fun x hx => (h0 x hx).1) i o u hi ho, ← htake, List.take_set]
theorem OSe.at_ {base : Nat} {w : World} {v : Value} {X : List Se} (h : OSe base w v X) {i : Nat} (hi : i < X.length) : ∃ g cap, v = .slice (some ⟨g, 0, none⟩) X.length cap ∧ base ≤ g ∧ (∀ o u, (cellsS (se X i))[o]? = some u → w.cell? ⟨g, i * 5 + o, none⟩ = some u) ∧ ∀ o, w.frozen? ⟨g, o, none⟩ = false := by
  have hs := h.seats
  rcases h.1.2.2 with ⟨_, h0⟩ | ⟨g, cap, cur, h1, h2, h3, h4, h5, h6, h7⟩
  · rw [List.length_map] at h0; omega
  · rw [List.length_map] at h1
    refine ⟨g, cap, h1, h2, fun o u hu => ?_, fun o => free_at h3⟩
    obtain ⟨⟨_, a', cap', e, _, _, h9⟩, _⟩ := hs
    rw [h1] at e
    injection e with e1 _ _
    rcases h9 with h9 | ⟨b, off, e2, _, hc⟩
    · simp at h9
      subst h9
      simp at hi
    · rw [← e1] at e2
      injection e2 with e2
      injection e2 with e3 e4 _
      subst e3 e4
      have := hc i (by rw [List.length_map]; exact hi) o u (by rw [List.getElem_map, ← se_at hi]; exact hu)
      rwa [Nat.zero_add] at this
theorem OSe.put3 {base : Nat} {w : World} {g n cap : Nat} {X : List Se} (h : OSe base w (.slice (some ⟨g, 0, none⟩) n cap) X) {i : Nat} (hi : i < X.length) (q d : Int) (a : ByteArray) (hq : i64 q) (hd : i64 d) :
    OSe base (((w.setCell ⟨g, i * 5 + 3, none⟩ (.int .i64 q)).setCell ⟨g, i * 5 + 2, none⟩ (.int .i64 d)).setCell ⟨g, i * 5 + 4, none⟩ (.string a)) (.slice (some ⟨g, 0, none⟩) n cap) (X.set i ⟨(se X i).t, (se X i).u, d, q, a⟩) := by
  have h1 := own_set h.1 (i := i) (o := 3) (u := .int .i64 q) (by rw [List.length_map]; exact hi) (by decide) rfl
  have h2 := own_set h1 (i := i) (o := 2) (u := .int .i64 d) (by rw [List.length_set, List.length_map]; exact hi) (by decide) rfl
  have h3 := own_set h2 (i := i) (o := 4) (u := .string a) (by rw [List.length_set, List.length_set, List.length_map]; exact hi) (by decide) rfl
  refine ⟨?_, fun z hz => ?_⟩
  · have e : ((((X.map cellsS).set i (((X.map cellsS)[i]'(by rw [List.length_map]; exact hi)).set 3 (.int .i64 q))).set i ((((X.map cellsS).set i (((X.map cellsS)[i]'(by rw [List.length_map]; exact hi)).set 3 (.int .i64 q)))[i]'(by rw [List.length_set, List.length_map]; exact hi)).set 2 (.int .i64 d))).set i (((((X.map cellsS).set i (((X.map cellsS)[i]'(by rw [List.length_map]; exact hi)).set 3 (.int .i64 q))).set i ((((X.map cellsS).set i (((X.map cellsS)[i]'(by rw [List.length_map]; exact hi)).set 3 (.int .i64 q)))[i]'(by rw [List.length_set, List.length_map]; exact hi)).set 2 (.int .i64 d)))[i]'(by rw [List.length_set, List.length_set, List.length_map]; exact hi)).set 4 (.string a))) = (X.set i ⟨(se X i).t, (se X i).u, d, q, a⟩).map cellsS := by
      rw [List.set_set, List.set_set, List.getElem_set_self, List.getElem_set_self, List.getElem_map, ← se_at hi, List.map_set]
      rfl
    rw [← e]
    exact h3
  · rcases List.mem_or_eq_of_mem_set hz with hz | rfl
    · exact h.2 z hz
    · have hg := h.2 (se X i) (by rw [se_at hi]; exact List.getElem_mem hi)
      exact ⟨hg.1, hd, hq⟩
theorem own_empty5 {e : TypeId} {k base nb : Nat} {w : World} (hb : base ≤ nb) (h : w.heap[nb]? = some (.cells #[] e (0, 0))) : Rk.OwnK e k base w (.slice (some ⟨nb, 0, none⟩) 0 0) [] :=
  ⟨fun _ h => by simp at h, by simp, .inr ⟨nb, 0, #[], rfl, hb, h, Nat.le_refl _, by unfold maxLen; omega, by simp, by simp⟩⟩
theorem rDone_any {a : Option Addr} {cap : Nat} {A : List Se} (tok : ByteArray) (q now : Int) (ans : ByteArray) (w : World) (h : Seats w (.slice a A.length cap) A) (h60 : A.length ≤ 60) (hq : i64 q) (hnw : i64 now) : Calls Try.prog 17 #[.slice a A.length cap, .string tok, .int .i64 q, .int .i64 now, .string ans] w fun e w' => ∃ v, e = .returned v ∧ OSe w.heap.size w' v (doneE A tok q now ans) ∧ Below w.heap.size w w' := by
  have HDE : Hid (doneE A tok q now ans = match plO A tok with | some i => A.set i ⟨(se A i).t, (se A i).u, now, q, ans⟩ | none => A) := rfl
  have HQ := Lib.hid hq
  have HNW := Lib.hid hnw
  have HGA : Hid (∀ y ∈ A, good y) := h.2
  obtain ⟨_, _, e, hn, hm⟩ := h.is_slice
  injection e with e1 _ e3
  rw [← e3] at hn hm
  clear e1 e3
  have A1 : Hid (Rk.OwnK 28 5 w.heap.size (w.alloc (.cells #[] 28)) (.slice (some ⟨w.heap.size, 0, none⟩) 0 0) []) := own_empty5 (Nat.le_refl _) (heap_alloc_new _ _)
  have A2 : Hid (Rk.RowK 5 (w.alloc (.cells #[] 28)) (.slice a A.length cap) (A.map cellsS)) := (h.below (below_al (Below.refl _ _) _)).1
  have A3 : Hid (∀ y ∈ A.map cellsS, ∀ q ∈ y, q.oneCell' = true) := fun y hy q hq => by
    obtain ⟨z, _, rfl⟩ := List.mem_map.1 hy
    exact cellsS_one z q hq
  have A4 : Hid (([] : List (List Value)).length + (A.map cellsS).length ≤ 100000) := by show _ ≤ _; rw [List.length_map]; show 0 + A.length ≤ _; omega
  have A5 : Hid (w.heap.size ≤ (w.alloc (.cells #[] 28)).heap.size) := by show _ ≤ _; simp
  obtain ⟨n, hnn⟩ : ∃ n, n = A.length := ⟨_, rfl⟩
  have HNL := Lib.hid hnn
  rw [← hnn] at hn h60 A2 ⊢
  obtain ⟨R, hR⟩ : ∃ R, R = doneE A tok q now ans := ⟨_, rfl⟩
  rw [← hR] at HDE ⊢
  unfold maxLen at hm
  clear h hnn hR hq hnw
  go_enter Try.func17, Try.ntmps17
  go_wp2_with (at_builtin; refine Rk.wpList_append_rowk rfl _ _ 22 28 5 56 _ Try.underlying22 infoSe rfl (by decide) (by decide) rfl w.heap.size _ _ [] (A.map cellsS) rfl rfl A1.out A2.out A3.out A4.out A5.out ?_)
  intro v6 w9 h5 g5 k5
  have K9 : Hid (OSe w.heap.size w9 v6 A) := ⟨h5, HGA.out⟩
  have HB9 := Lib.hid (A1.out.belowOf (below_al (Below.refl _ _) _) (Nat.le_refl _) A5.out g5)
  obtain ⟨a6, c6, rfl⟩ := K9.out.is_slice
  obtain ⟨_, hl1, hl2⟩ := K9.out.len
  have CP := Lib.hid (rplace_any tok w9 K9.out.seats.cells hl1 hl2)
  unfold maxLen at hl2
  rw [← HNL.out] at K9 CP hl1 ⊢
  clear h5 g5 k5 A1 A2 A3 A4 A5
  cases hp : plO A tok with
  | none =>
    have hR : R = A := by rw [HDE.out, hp]
    rw [pl_neg hp] at CP
    subst hR
    clear HDE hp
    go_wp2_with fail
    refine CP.out.mono ?_
    rintro e w2 ⟨rfl, rfl⟩
    go_wp2_with fail
    go_ret
    exact ⟨_, rfl, K9.out, HB9.out⟩
  | some i =>
    have hin := (pl_lt hp).1
    have hR : R = A.set i ⟨(se A i).t, (se A i).u, now, q, ans⟩ := by rw [HDE.out, hp]
    rw [pl_int hp] at CP
    obtain ⟨g, cap', e1, hbg, hcell, hfree⟩ := K9.out.at_ hin
    injection e1 with e1 e2 e3
    subst e1 e3
    have HP3 := Lib.hid (K9.out.put3 hin q now ans HQ.out HNW.out)
    rw [← hR] at HP3
    have HBF : Hid (Below w.heap.size w (((w9.setCell ⟨g, i * 5 + 3, none⟩ (.int .i64 q)).setCell ⟨g, i * 5 + 2, none⟩ (.int .i64 now)).setCell ⟨g, i * 5 + 4, none⟩ (.string ans))) := below_put (below_put (below_put HB9.out hbg _) hbg _) hbg _
    have c2 := hcell 2 _ rfl
    have c3 := hcell 3 _ rfl
    have c4 := hcell 4 _ rfl
    have f2 := hfree (i * 5 + 2)
    have f3 := hfree (i * 5 + 3)
    have f4 := hfree (i * 5 + 4)
    have iw : ((i : Nat) : Int) < (n : Int) := by rw [← HNL.out] at hin; omega
    have n0 : (0 : Int) ≤ (i : Int) := by omega
    generalize se A i = y at *
    clear HDE hp hR hcell hfree e2 hin
    go_wp2_with fail
    refine CP.out.mono ?_
    rintro e w2 ⟨rfl, rfl⟩
    go_wp2_with fail
    go_ret
    exact ⟨_, rfl, HP3.out, HBF.out⟩
end Go.Proofs.Ytkbjbmhplocdnaa.Dsk
