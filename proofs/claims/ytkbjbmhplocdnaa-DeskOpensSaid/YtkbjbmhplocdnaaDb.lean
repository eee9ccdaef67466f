/- Desk: place, past, live, Right, Same of the plain text. -/
import Derived.Test.YtkbjbmhplocdnaaDa
set_option linter.unusedVariables false
set_option linter.unusedSimpArgs false
set_option maxRecDepth 100000
namespace Go.Proofs.Ytkbjbmhplocdnaa.Dsk
open Go.RowKit Go.Lib Go.Proofs.Ytkbjbmhplocdnaa.Bx

/-- The seats of a slice, as its elements' cells tell them. -/
def SeC (w : World) (a : Option Addr) (n : Nat) (A : List Se) : Prop := ∀ w', Below w.heap.size w w' → ∀ j, j < n → ∃ b off, a = some ⟨b, off, none⟩ ∧ b < w.heap.size ∧ w'.cell? ⟨b, off + j * 5, none⟩ = some (.string (se A j).t) ∧ w'.cell? ⟨b, off + j * 5 + 1, none⟩ = some (.int .i64 (se A j).u) ∧ w'.cell? ⟨b, off + j * 5 + 2, none⟩ = some (.int .i64 (se A j).d) ∧ w'.cell? ⟨b, off + j * 5 + 3, none⟩ = some (.int .i64 (se A j).q) ∧ w'.cell? ⟨b, off + j * 5 + 4, none⟩ = some (.string (se A j).a) ∧ good (se A j)
theorem Seats.cells {w : World} {a : Option Addr} {n cap : Nat} {A : List Se} (h : Seats w (.slice a n cap) A) : SeC w a A.length A := fun w' hb j hj => by
  obtain ⟨b, off, e, hlt, c0, c1, c2, c3, c4, hg⟩ := h.get hj
  exact ⟨b, off, e, hlt, vcell hb hlt c0, vcell hb hlt c1, vcell hb hlt c2, vcell hb hlt c3, vcell hb hlt c4, hg⟩
theorem SeC.below {w w1 : World} {a : Option Addr} {n : Nat} {A : List Se} (h : SeC w a n A) (hb : Below w.heap.size w w1) : SeC w1 a n A := fun w' hb' j hj => by
  obtain ⟨b, off, e, hlt, c⟩ := h w' (below_on hb hb') j hj
  exact ⟨b, off, e, Nat.lt_of_lt_of_le hlt hb.size, c⟩
theorem d_drews {B : Nat} {a w : World} (h : Below B a w) (n : Nat) : Below B a (w.drewN n) := ⟨h.os, h.tape, h.output, h.size, h.block⟩
theorem pl_int {A : List Se} {tok : ByteArray} {i : Nat} (h : plO A tok = some i) : plI A tok = (i : Nat) := by unfold plI; rw [h]
theorem pl_neg {A : List Se} {tok : ByteArray} (h : plO A tok = none) : plI A tok = -1 := by unfold plI; rw [h]
theorem rplace_any {a : Option Addr} {cap : Nat} {A : List Se} (tok : ByteArray) (w : World) (h : SeC w a A.length A) (hn : A.length ≤ cap) (hm : cap ≤ maxLen) : Calls Try.prog 24 #[.slice a A.length cap, .string tok] w fun e w' => e = .returned (.int .i64 (plI A tok)) ∧ w' = w := by
  have HE := Lib.hid (fun j hj => h w (Below.refl _ _) j hj)
  have HS : Hid (∀ i, i < A.length → (se A i).t = tok → (∀ j, j < i → (se A j).t ≠ tok) → plI A tok = (i : Nat)) := fun i hi h h' => pl_int (pl_some hi h h')
  have HN : Hid ((∀ j, j < A.length → (se A j).t ≠ tok) → plI A tok = -1) := fun h => pl_neg (pl_none h)
  obtain ⟨n, hnn⟩ : ∃ n, n = A.length := ⟨_, rfl⟩
  rw [← hnn] at HE HS HN hn ⊢
  unfold maxLen at hm
  obtain ⟨r, hr⟩ : ∃ r, r = plI A tok := ⟨_, rfl⟩
  rw [← hr] at HS HN ⊢
  clear h hnn hr
  go_enter Try.func24, Try.ntmps24
  go_wp2_with fail
  go_loopg [5] n (fun g i_ wr => ∃ (i : Nat), i ≤ n ∧ n - i ≤ g ∧ i_ = .int .i64 i ∧ Hid (∀ j, j < i → (se A j).t ≠ tok) ∧ wr = w)
  case atStart => exact ⟨0, by omega, by omega, rfl, fun j hj => absurd hj (by omega), rfl⟩
  case round =>
    obtain ⟨i, hi, hg, rfl, HH, rfl⟩ := hrel
    by_cases hin : i < n
    · have iw : ((i : Nat) : Int) < (n : Int) := by omega
      have n0 : (0 : Int) ≤ (i : Int) := by omega
      obtain ⟨b, off, rfl, hlt, c0, _⟩ := HE.out i hin
      have SE := str_eq (se A i).t tok
      have HS1 := Lib.hid (fun h => HS.out i hin h HH.out)
      have HH2 : Hid ((se A i).t ≠ tok → ∀ j, j < i + 1 → (se A j).t ≠ tok) := fun h j hj => by
        by_cases e : j = i
        · subst e; exact h
        · exact HH.out j (by omega)
      generalize (se A i).t = t at *
      by_cases hz : t = tok
      · rw [decide_eq_true hz] at SE
        have hr := HS1.out hz
        clear HS1 HH2 hz
        go_wp2_with fail
        go_ret
        exact ⟨by first | rfl | (rw [hr]; rfl), rfl⟩
      · rw [decide_eq_false hz] at SE
        have HH3 := Lib.hid (HH2.out hz)
        clear HS1 HH2 hz
        go_wp2_with fail
        go_roundg (n - (i + 1))
        case measure => omega
        case rel => exact ⟨i + 1, by omega, Nat.le_refl _, by go_num, HH3, rfl⟩
    · obtain rfl : i = n := by omega
      have iw : ¬ ((i : Int) < (i : Int)) := by omega
      have hr := HN.out HH.out
      go_wp2_with fail
      go_ret
      exact ⟨by first | rfl | (rw [hr]; rfl), rfl⟩
theorem rpast_any (y : Se) (now ttl : Int) (w : World) (h1 : 0 ≤ now ∧ now ≤ 1099511627776) (h2 : 0 ≤ y.d ∧ y.d ≤ 1099511627776) : Calls Try.prog 23 #[.agg #[.string y.t, .int .i64 y.u, .int .i64 y.d, .int .i64 y.q, .string y.a], .int .i64 now, .int .i64 ttl] w fun e w' => e = .returned (.bool (pastB now ttl y)) ∧ Below w.heap.size w w' := by
  have HB := Lib.hid (below_al (Below.refl w.heap.size w) (.cells #[.string y.t, .int .i64 y.u, .int .i64 y.d, .int .i64 y.q, .string y.a] 28))
  have HV : Hid (pastB now ttl y = decide (ttl < now - y.d)) := rfl
  obtain ⟨t, u, d, q, a⟩ := y
  simp only at HV h2 HB ⊢
  obtain ⟨h1, h3⟩ := h1
  obtain ⟨h2, h4⟩ := h2
  have ew : IntKind.i64.wrap (now - d) = now - d := IntWalk.i64_in _ (by omega)
  go_enter Try.func23, Try.ntmps23
  go_wp2_with fail
  go_ret
  exact ⟨by rw [HV.out]; first | rfl | (simp; done), HB.out⟩
def InR (A : List Se) : Prop := ∀ i, i < A.length → 0 ≤ (se A i).d ∧ (se A i).d ≤ 1099511627776
def liveI (A : List Se) (tok : ByteArray) (now ttl : Int) : Int := match liveO A tok now ttl with
  | some i => i
  | none => -1
theorem rlive_any {a : Option Addr} {cap : Nat} {A : List Se} (tok : ByteArray) (now ttl : Int) (w : World) (h : SeC w a A.length A) (hn : A.length ≤ cap) (hm : cap ≤ maxLen) (hr : InR A) (h1 : 0 ≤ now ∧ now ≤ 1099511627776) : Calls Try.prog 25 #[.slice a A.length cap, .string tok, .int .i64 now, .int .i64 ttl] w fun e w' => e = .returned (.int .i64 (liveI A tok now ttl)) ∧ Below w.heap.size w w' := by
  have CP := Lib.hid (rplace_any tok w h hn hm)
  have HLO : Hid (liveO A tok now ttl = match plO A tok with | some i => if pastB now ttl (se A i) then none else some i | none => none) := rfl
  have HLI : Hid (liveI A tok now ttl = match liveO A tok now ttl with | some i => (i : Int) | none => -1) := rfl
  have HE := Lib.hid (fun j hj => h w (Below.refl _ _) j hj)
  have HR := Lib.hid hr
  unfold maxLen at hm
  cases hp : plO A tok with
  | none =>
    rw [pl_neg hp] at CP
    have hl : liveI A tok now ttl = -1 := by rw [HLI.out, HLO.out, hp]
    rw [hl]
    clear HLO HLI h hr hp hl HE HR
    go_enter Try.func25, Try.ntmps25
    go_wp2_with fail
    refine CP.out.mono ?_
    rintro e w1 ⟨rfl, rfl⟩
    go_wp2_with fail
    go_ret
    exact ⟨rfl, Below.refl _ _⟩
  | some i =>
    rw [pl_int hp] at CP
    have hin := (pl_lt hp).1
    obtain ⟨b, off, rfl, hlt, c0, c1, c2, c3, c4, _⟩ := HE.out i hin
    have CQ := Lib.hid (rpast_any (se A i) now ttl w h1 (hr i hin))
    have hl : liveI A tok now ttl = if pastB now ttl (se A i) then -1 else (i : Int) := by
      rw [HLI.out, HLO.out, hp]
      show (match (if pastB now ttl (se A i) then none else some i : Option Nat) with | some i => (i : Int) | none => -1) = _
      cases pastB now ttl (se A i) <;> rfl
    rw [hl]
    obtain ⟨n, hnn⟩ : ∃ n, n = A.length := ⟨_, rfl⟩
    rw [← hnn] at hin hn CP ⊢
    have iw : ((i : Nat) : Int) < (n : Int) := by omega
    have n0 : (0 : Int) ≤ (i : Int) := by omega
    generalize pastB now ttl (se A i) = p at *
    generalize se A i = y at *
    obtain ⟨yt, yu, yd, yq, ya⟩ := y
    simp only at c0 c1 c2 c3 c4 CQ
    clear HLO HLI h hr hp hl HE HR hnn
    go_enter Try.func25, Try.ntmps25
    go_wp2_with fail
    refine CP.out.mono ?_
    rintro e w1 ⟨rfl, rfl⟩
    go_wp2_with fail
    refine CQ.out.mono ?_
    rintro e w2 ⟨rfl, b2⟩
    have HB := Lib.hid b2
    clear b2 CQ
    cases p with
    | true =>
      go_wp2_with fail
      go_ret
      exact ⟨by first | rfl | (simp; done), HB.out⟩
    | false =>
      go_wp2_with fail
      go_ret
      exact ⟨by first | rfl | (simp; done), HB.out⟩
def onceB (A : List Se) : Bool := (List.range A.length).all fun i => decide (plI A (se A i).t = (i : Nat))
theorem rRight_any {a : Option Addr} {cap : Nat} {A : List Se} (w : World) (h : SeC w a A.length A) (hn : A.length ≤ cap) (hm : cap ≤ maxLen) : Calls Try.prog 22 #[.slice a A.length cap] w fun e w' => e = .returned (.bool (onceB A)) ∧ w' = w := by
  have CP : Hid (∀ tok, Calls Try.prog 24 #[.slice a A.length cap, .string tok] w fun e w' => e = .returned (.int .i64 (plI A tok)) ∧ w' = w) := fun tok => rplace_any tok w h hn hm
  have HE := Lib.hid (fun j hj => h w (Below.refl _ _) j hj)
  have HNO : Hid (∀ i, i < A.length → plI A (se A i).t ≠ (i : Nat) → onceB A = false) := fun i hi hne => by
    unfold onceB
    rw [Bool.eq_false_iff]
    intro h'
    rw [List.all_eq_true] at h'
    exact hne (of_decide_eq_true (h' i (List.mem_range.2 hi)))
  have HYE : Hid ((∀ i, i < A.length → plI A (se A i).t = (i : Nat)) → onceB A = true) := fun h' => by
    unfold onceB
    rw [List.all_eq_true]
    exact fun i hi => decide_eq_true (h' i (List.mem_range.1 hi))
  obtain ⟨n, hnn⟩ : ∃ n, n = A.length := ⟨_, rfl⟩
  rw [← hnn] at HE HNO HYE hn CP ⊢
  unfold maxLen at hm
  obtain ⟨r, hr⟩ : ∃ r, r = onceB A := ⟨_, rfl⟩
  rw [← hr] at HNO HYE ⊢
  clear h hnn hr
  go_enter Try.func22, Try.ntmps22
  go_wp2_with fail
  go_loopg [3] n (fun g i_ wr => ∃ (i : Nat), i ≤ n ∧ n - i ≤ g ∧ i_ = .int .i64 i ∧ Hid (∀ j, j < i → plI A (se A j).t = (j : Nat)) ∧ wr = w)
  case atStart => exact ⟨0, by omega, by omega, rfl, fun j hj => absurd hj (by omega), rfl⟩
  case round =>
    obtain ⟨i, hi, hg, rfl, HH, rfl⟩ := hrel
    by_cases hin : i < n
    · have iw : ((i : Nat) : Int) < (n : Int) := by omega
      have n0 : (0 : Int) ≤ (i : Int) := by omega
      obtain ⟨b, off, rfl, hlt, c0, _⟩ := HE.out i hin
      have HN := Lib.hid (HNO.out i hin)
      have HH2 : Hid (plI A (se A i).t = (i : Nat) → ∀ j, j < i + 1 → plI A (se A j).t = (j : Nat)) := fun h j hj => by
        by_cases e : j = i
        · subst e; exact h
        · exact HH.out j (by omega)
      have CP1 := Lib.hid (CP.out (se A i).t)
      generalize plI A (se A i).t = k at *
      generalize (se A i).t = t at *
      go_wp2_with fail
      refine CP1.out.mono ?_
      rintro e w1 ⟨rfl, rfl⟩
      clear CP1
      by_cases hz : k = (i : Nat)
      · have HH3 := Lib.hid (HH2.out hz)
        clear HN HH2
        go_wp2_with fail
        go_roundg (n - (i + 1))
        case measure => omega
        case rel => exact ⟨i + 1, by omega, Nat.le_refl _, by go_num, HH3, rfl⟩
      · have hs := HN.out hz
        clear HN HH2
        go_wp2_with fail
        go_ret
        exact ⟨by first | rfl | (rw [hs]; rfl) | (rw [hs]; done), rfl⟩
    · obtain rfl : i = n := by omega
      have iw : ¬ ((i : Int) < (i : Int)) := by omega
      have hs := HYE.out HH.out
      go_wp2_with fail
      go_ret
      exact ⟨by first | rfl | (rw [hs]; rfl) | (rw [hs]; done), rfl⟩
end Go.Proofs.Ytkbjbmhplocdnaa.Dsk
