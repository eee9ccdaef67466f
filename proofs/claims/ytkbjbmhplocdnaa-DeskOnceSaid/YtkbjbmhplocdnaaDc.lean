/- Desk: Same, Who, Begin of the plain text. -/
import Derived.Test.YtkbjbmhplocdnaaDt
set_option linter.unusedVariables false
set_option linter.unusedSimpArgs false
set_option maxRecDepth 100000
namespace Go.Proofs.Ytkbjbmhplocdnaa.Dsk
open Go.RowKit Go.Lib Go.Proofs.Ytkbjbmhplocdnaa.Bx

theorem eqS_iff (y z : Se) : eqS y z = true ↔ y = z := by
  obtain ⟨t, u, d, q, a⟩ := y
  obtain ⟨t', u', d', q', a'⟩ := z
  unfold eqS
  simp only [Bool.and_eq_true, decide_eq_true_eq, Se.mk.injEq]
  constructor
  · rintro ⟨⟨⟨⟨h1, h2⟩, h3⟩, h4⟩, h5⟩
    exact ⟨h1, h2, h3, h4, h5⟩
  · rintro ⟨h1, h2, h3, h4, h5⟩
    exact ⟨⟨⟨⟨h1, h2⟩, h3⟩, h4⟩, h5⟩
def sameB (A B : List Se) : Bool := decide (A.length = B.length) && (List.range A.length).all fun i => eqS (se A i) (se B i)
theorem same_iff {A B : List Se} : sameB A B = true ↔ A = B := by
  unfold sameB
  rw [Bool.and_eq_true, decide_eq_true_eq, List.all_eq_true]
  constructor
  · rintro ⟨hl, h⟩
    apply List.ext_getElem hl
    intro i h1 h2
    have := (eqS_iff _ _).1 (h i (List.mem_range.2 h1))
    rwa [se_at h1, se_at h2] at this
  · rintro rfl
    exact ⟨rfl, fun i _ => (eqS_iff _ _).2 rfl⟩
theorem rSame_any {a b : Option Addr} {cap cap' : Nat} {A B : List Se} (w : World) (h : SeC w a A.length A) (hn : A.length ≤ cap) (hm : cap ≤ maxLen) (h' : SeC w b B.length B) (hn' : B.length ≤ cap') (hm' : cap' ≤ maxLen) : Calls Try.prog 10 #[.slice a A.length cap, .slice b B.length cap'] w fun e w' => e = .returned (.bool (sameB A B)) ∧ Below w.heap.size w w' := by
  have HE : Hid (∀ k, ∀ j, j < A.length → ∃ b off, a = some ⟨b, off, none⟩ ∧ b < w.heap.size ∧ (w.drewN k).cell? ⟨b, off + j * 5, none⟩ = some (.string (se A j).t) ∧ (w.drewN k).cell? ⟨b, off + j * 5 + 1, none⟩ = some (.int .i64 (se A j).u) ∧ (w.drewN k).cell? ⟨b, off + j * 5 + 2, none⟩ = some (.int .i64 (se A j).d) ∧ (w.drewN k).cell? ⟨b, off + j * 5 + 3, none⟩ = some (.int .i64 (se A j).q) ∧ (w.drewN k).cell? ⟨b, off + j * 5 + 4, none⟩ = some (.string (se A j).a) ∧ good (se A j)) := fun k j hj => h (w.drewN k) (d_drews (Below.refl _ _) k) j hj
  have HE' : Hid (∀ k, ∀ j, j < B.length → ∃ c off, b = some ⟨c, off, none⟩ ∧ c < w.heap.size ∧ (w.drewN k).cell? ⟨c, off + j * 5, none⟩ = some (.string (se B j).t) ∧ (w.drewN k).cell? ⟨c, off + j * 5 + 1, none⟩ = some (.int .i64 (se B j).u) ∧ (w.drewN k).cell? ⟨c, off + j * 5 + 2, none⟩ = some (.int .i64 (se B j).d) ∧ (w.drewN k).cell? ⟨c, off + j * 5 + 3, none⟩ = some (.int .i64 (se B j).q) ∧ (w.drewN k).cell? ⟨c, off + j * 5 + 4, none⟩ = some (.string (se B j).a) ∧ good (se B j)) := fun k j hj => h' (w.drewN k) (d_drews (Below.refl _ _) k) j hj
  unfold maxLen at hm hm'
  by_cases hl : A.length = B.length
  · have HNO : Hid (∀ i, i < A.length → eqS (se A i) (se B i) = false → sameB A B = false) := fun i hi hne => by
      unfold sameB
      rw [Bool.and_eq_false_iff]
      refine .inr ?_
      rw [Bool.eq_false_iff]
      intro h'
      rw [List.all_eq_true] at h'
      have := h' i (List.mem_range.2 hi)
      rw [hne] at this
      cases this
    have HYE : Hid ((∀ i, i < A.length → eqS (se A i) (se B i) = true) → sameB A B = true) := fun h' => by
      unfold sameB
      rw [decide_eq_true hl, Bool.true_and, List.all_eq_true]
      exact fun i hi => h' i (List.mem_range.1 hi)
    rw [← hl] at HE' hn' ⊢
    obtain ⟨n, hnn⟩ : ∃ n, n = A.length := ⟨_, rfl⟩
    rw [← hnn] at HE HE' HNO HYE hn hn' ⊢
    obtain ⟨r, hr⟩ : ∃ r, r = sameB A B := ⟨_, rfl⟩
    rw [← hr] at HNO HYE ⊢
    clear h h' hnn hr hl
    go_enter Try.func10, Try.ntmps10
    go_wp2_with fail
    go_loopg [5] n (fun g i_ wr => ∃ (i : Nat), i ≤ n ∧ n - i ≤ g ∧ i_ = .int .i64 i ∧ Hid (∀ j, j < i → eqS (se A j) (se B j) = true) ∧ ∃ k, wr = w.drewN k)
    case atStart => exact ⟨0, by omega, by omega, rfl, fun j hj => absurd hj (by omega), 0, rfl⟩
    case round =>
      obtain ⟨i, hi, hg, rfl, HH, k, rfl⟩ := hrel
      by_cases hin : i < n
      · have iw : ((i : Nat) : Int) < (n : Int) := by omega
        have n0 : (0 : Int) ≤ (i : Int) := by omega
        obtain ⟨c, off, rfl, hlt, c0, c1, c2, c3, c4, _⟩ := HE.out k i hin
        obtain ⟨c', off', rfl, hlt', d0, d1, d2, d3, d4, _⟩ := HE'.out k i hin
        have HN := Lib.hid (HNO.out i hin)
        have HH2 : Hid (eqS (se A i) (se B i) = true → ∀ j, j < i + 1 → eqS (se A j) (se B j) = true) := fun h j hj => by
          by_cases e : j = i
          · subst e; exact h
          · exact HH.out j (by omega)
        generalize se A i = y at *
        generalize se B i = z at *
        obtain ⟨yt, yu, yd, yq, ya⟩ := y
        obtain ⟨zt, zu, zd, zq, za⟩ := z
        have HV : Hid (eqS ⟨yt, yu, yd, yq, ya⟩ ⟨zt, zu, zd, zq, za⟩ = (decide (yt = zt) && decide (yu = zu) && decide (yd = zd) && decide (yq = zq) && decide (ya = za))) := rfl
        have EQ := fun w => seat_eq ⟨yt, yu, yd, yq, ya⟩ ⟨zt, zu, zd, zq, za⟩ w
        have EG := seat_guard
        generalize eqS ⟨yt, yu, yd, yq, ya⟩ ⟨zt, zu, zd, zq, za⟩ = q at *
        simp only at c0 c1 c2 c3 c4 d0 d1 d2 d3 d4 EQ
        clear HV
        obtain ⟨wo, hwo⟩ : ∃ wo, wo = w.drewN k := ⟨_, rfl⟩
        rw [← hwo] at c0 c1 c2 c3 c4 d0 d1 d2 d3 d4 ⊢
        have HWO := Lib.hid hwo
        clear hwo
        go_upto_region 6 with fail
        go_quiet (fail)
        have HD : Hid (wo.drewN nq = w.drewN (k + nq)) := by show _ = _; rw [HWO.out, World.drewN_drewN]
        have HDB : Hid (Below w.heap.size w (wo.drewN nq)) := by show Below _ _ _; rw [HD.out]; exact d_drews (Below.refl _ _) _
        cases q with
        | true =>
          have HH3 := Lib.hid (HH2.out rfl)
          clear HN HH2 EQ EG
          go_wp2_with fail
          go_roundg (n - (i + 1))
          case measure => omega
          case rel => exact ⟨i + 1, by omega, Nat.le_refl _, by go_num, HH3, _, HD.out⟩
        | false =>
          have hs := HN.out rfl
          clear HN HH2 EQ EG
          go_wp2_with fail
          go_ret
          exact ⟨by first | rfl | (rw [hs]; rfl) | (rw [hs]; done), HDB.out⟩
      · obtain rfl : i = n := by omega
        have iw : ¬ ((i : Int) < (i : Int)) := by omega
        have hs := HYE.out HH.out
        go_wp2_with fail
        go_ret
        exact ⟨by first | rfl | (rw [hs]; rfl) | (rw [hs]; done), d_drews (Below.refl _ _) _⟩
  · have hs : sameB A B = false := by unfold sameB; rw [decide_eq_false hl]; rfl
    have q1 : ¬ ((A.length : Int) = (B.length : Int)) := by omega
    clear h h' HE HE'
    go_enter Try.func10, Try.ntmps10
    go_wp2_with fail
    go_ret
    exact ⟨by first | rfl | (rw [hs]; rfl) | (rw [hs]; done), Below.refl _ _⟩
theorem live_some {A : List Se} {tok : ByteArray} {now ttl : Int} {i : Nat} (h : liveO A tok now ttl = some i) : i < A.length := by
  unfold liveO at h
  cases hp : plO A tok with
  | none => rw [hp] at h; cases h
  | some j =>
    rw [hp] at h
    simp only at h
    split at h
    · cases h
    · injection h with h
      subst h
      exact (pl_lt hp).1
theorem live_int {A : List Se} {tok : ByteArray} {now ttl : Int} {i : Nat} (h : liveO A tok now ttl = some i) : liveI A tok now ttl = (i : Nat) := by unfold liveI; rw [h]
theorem live_neg {A : List Se} {tok : ByteArray} {now ttl : Int} (h : liveO A tok now ttl = none) : liveI A tok now ttl = -1 := by unfold liveI; rw [h]
theorem rWho_any {a : Option Addr} {cap : Nat} {A : List Se} (tok : ByteArray) (now ttl : Int) (w : World) (h : SeC w a A.length A) (hn : A.length ≤ cap) (hm : cap ≤ maxLen) (hr : InR A) (h1 : 0 ≤ now ∧ now ≤ 1099511627776) : Calls Try.prog 12 #[.slice a A.length cap, .string tok, .int .i64 now, .int .i64 ttl] w fun e w' => e = .returned (.tuple #[.int .i64 (whoE A tok now ttl).1, .bool (whoE A tok now ttl).2]) ∧ Below w.heap.size w w' := by
  have CP := Lib.hid (rlive_any tok now ttl w h hn hm hr h1)
  have HE := Lib.hid h
  unfold maxLen at hm
  cases hp : liveO A tok now ttl with
  | none =>
    rw [live_neg hp] at CP
    have hl : whoE A tok now ttl = (0, false) := by unfold whoE; rw [hp]
    rw [hl]
    clear h hr hp hl HE
    go_enter Try.func12, Try.ntmps12
    go_wp2_with fail
    refine CP.out.mono ?_
    rintro e w1 ⟨rfl, b1⟩
    have HB := Lib.hid b1
    clear b1 CP
    go_wp2_with fail
    exact bodyPost_ret (v := .tuple #[.int .i64 0, .bool false]) (by simp [results, Try.results12, go_sem]) rfl ⟨rfl, HB.out⟩
  | some i =>
    rw [live_int hp] at CP
    have hin := live_some hp
    have hl : whoE A tok now ttl = ((se A i).u, true) := by unfold whoE; rw [hp]
    rw [hl]
    obtain ⟨n, hnn⟩ : ∃ n, n = A.length := ⟨_, rfl⟩
    rw [← hnn] at hin hn CP HE ⊢
    have iw : ((i : Nat) : Int) < (n : Int) := by omega
    have n0 : (0 : Int) ≤ (i : Int) := by omega
    have HC : Hid (∀ w', Below w.heap.size w w' → ∃ b off, a = some ⟨b, off, none⟩ ∧ w'.cell? ⟨b, off + i * 5 + 1, none⟩ = some (.int .i64 (se A i).u)) := fun w' hb => by
      obtain ⟨b, off, e, _, _, c1, _⟩ := HE.out w' hb i hin
      exact ⟨b, off, e, c1⟩
    generalize se A i = y at *
    clear h hr hp hl HE hnn
    go_enter Try.func12, Try.ntmps12
    go_wp2_with fail
    refine CP.out.mono ?_
    rintro e w1 ⟨rfl, b1⟩
    obtain ⟨b, off, rfl, c1⟩ := HC.out w1 b1
    have HB := Lib.hid b1
    clear b1 CP HC
    go_wp2_with fail
    exact bodyPost_ret (v := .tuple #[.int .i64 y.u, .bool true]) (by simp [results, Try.results12, go_sem]) rfl ⟨rfl, HB.out⟩
theorem rBegin_any {a : Option Addr} {cap : Nat} {A : List Se} (tok : ByteArray) (q now ttl : Int) (w : World) (h : SeC w a A.length A) (hn : A.length ≤ cap) (hm : cap ≤ maxLen) (hr : InR A) (h1 : 0 ≤ now ∧ now ≤ 1099511627776) : Calls Try.prog 14 #[.slice a A.length cap, .string tok, .int .i64 q, .int .i64 now, .int .i64 ttl] w fun e w' => e = .returned (.tuple #[.string (beginE A tok q now ttl).1, .int .i64 (beginE A tok q now ttl).2]) ∧ Below w.heap.size w w' := by
  have CP := Lib.hid (rlive_any tok now ttl w h hn hm hr h1)
  have HE := Lib.hid h
  unfold maxLen at hm
  cases hp : liveO A tok now ttl with
  | none =>
    rw [live_neg hp] at CP
    have hl : beginE A tok q now ttl = (ByteArray.mk #[], 2) := by unfold beginE; rw [hp]
    rw [hl]
    clear h hr hp hl HE
    go_enter Try.func14, Try.ntmps14
    go_wp2_with fail
    refine CP.out.mono ?_
    rintro e w1 ⟨rfl, b1⟩
    have HB := Lib.hid b1
    clear b1 CP
    go_wp2_with fail
    exact bodyPost_ret (v := .tuple #[.string (ByteArray.mk #[]), .int .i64 2]) (by simp [results, Try.results14, go_sem]) rfl ⟨rfl, HB.out⟩
  | some i =>
    rw [live_int hp] at CP
    have hin := live_some hp
    have hl : beginE A tok q now ttl = if q = (se A i).q then ((se A i).a, 9) else if q < (se A i).q then (ByteArray.mk #[], 8) else (ByteArray.mk #[], 0) := by unfold beginE; rw [hp]
    rw [hl]
    obtain ⟨n, hnn⟩ : ∃ n, n = A.length := ⟨_, rfl⟩
    rw [← hnn] at hin hn CP HE ⊢
    have iw : ((i : Nat) : Int) < (n : Int) := by omega
    have n0 : (0 : Int) ≤ (i : Int) := by omega
    have HC : Hid (∀ w', Below w.heap.size w w' → ∃ b off, a = some ⟨b, off, none⟩ ∧ w'.cell? ⟨b, off + i * 5 + 3, none⟩ = some (.int .i64 (se A i).q) ∧ w'.cell? ⟨b, off + i * 5 + 4, none⟩ = some (.string (se A i).a)) := fun w' hb => by
      obtain ⟨b, off, e, _, _, _, _, c3, c4, _⟩ := HE.out w' hb i hin
      exact ⟨b, off, e, c3, c4⟩
    generalize se A i = y at *
    obtain ⟨yt, yu, yd, yq, ya⟩ := y
    simp only at HC ⊢
    clear h hr hp hl HE hnn
    go_enter Try.func14, Try.ntmps14
    go_wp2_with fail
    refine CP.out.mono ?_
    rintro e w1 ⟨rfl, b1⟩
    obtain ⟨b, off, rfl, c3, c4⟩ := HC.out w1 b1
    have HB := Lib.hid b1
    clear b1 CP HC
    by_cases hq : q = yq
    · subst hq
      go_wp2_with fail
      exact bodyPost_ret (v := .tuple #[.string ya, .int .i64 9]) (by simp [results, Try.results14, go_sem]) rfl ⟨by first | rfl | (rw [if_pos rfl]; done), HB.out⟩
    · by_cases hq2 : q < yq
      · go_wp2_with fail
        exact bodyPost_ret (v := .tuple #[.string (ByteArray.mk #[]), .int .i64 8]) (by simp [results, Try.results14, go_sem]) rfl ⟨by first | rfl | (rw [if_neg hq, if_pos hq2]; done), HB.out⟩
      · have hq3 := hq2
        go_wp2_with fail
        exact bodyPost_ret (v := .tuple #[.string (ByteArray.mk #[]), .int .i64 0]) (by simp [results, Try.results14, go_sem]) rfl ⟨by first | rfl | (rw [if_neg hq, if_neg (by omega)]; done), HB.out⟩
end Go.Proofs.Ytkbjbmhplocdnaa.Dsk
