/- Salt: limbs, above, root of the plain text. -/
import Derived.Test.YtknefflbkaaooaaDoorSt1
set_option linter.unusedVariables false
set_option linter.unusedSimpArgs false
set_option maxRecDepth 100000
namespace Go.Proofs.YtknefflbkaaooaaDoor.Slt
open Go.RowKit Go.Lib Go.Proofs.YtknefflbkaaooaaDoor.Bx

def limbsL (x : Nat) : List Nat := [x % 65536, x / 65536 % 65536, x / 4294967296]
def powL (l : List Nat) : Nat → List Nat
  | 0 => l
  | k + 1 => timesL (powL l k) l
/-- The highest limbs' number, and whether there is something below, of the limbs from the highest on. -/
def topL (m : List Nat) (p2 : Nat) : Nat → Nat × Bool
  | 0 => (0, false)
  | k + 1 => if p2 ≤ m.length - 1 - k then ((topL m p2 k).1 * 65536 + m.getD (m.length - 1 - k) 0, (topL m p2 k).2) else ((topL m p2 k).1, (topL m p2 k).2 || decide (0 < m.getD (m.length - 1 - k) 0))
def aboveL (x power p : Nat) : Bool :=
  decide (p < (topL (powL (limbsL x) (power - 1)) (2 * power) (powL (limbsL x) (power - 1)).length).1) || (decide ((topL (powL (limbsL x) (power - 1)) (2 * power) (powL (limbsL x) (power - 1)).length).1 = p) && (topL (powL (limbsL x) (power - 1)) (2 * power) (powL (limbsL x) (power - 1)).length).2)
theorem limbs_ok {x : Nat} (h : x < 281474976710656) : Limb (limbsL x) := fun i => by
  unfold limbsL
  match i with
  | 0 => show x % 65536 < _; omega
  | 1 => show x / 65536 % 65536 < _; omega
  | 2 => show x / 4294967296 < _; omega
  | i + 3 => show (0 : Nat) < _; omega
theorem times_ok {a b : List Nat} (ha : Limb a) (hb : Limb b) : Limb (timesL a b) := (outT_ok ha hb a.length).1
theorem times_len (a b : List Nat) : (timesL a b).length = a.length + b.length := outT_len a b a.length
theorem pow_ok {l : List Nat} (h : Limb l) : ∀ k, Limb (powL l k)
  | 0 => h
  | k + 1 => times_ok (pow_ok h k) h
theorem pow_len (l : List Nat) : ∀ k, (powL l k).length = (k + 1) * l.length
  | 0 => by rw [powL, Nat.zero_add, Nat.one_mul]
  | k + 1 => by
    show (timesL (powL l k) l).length = _
    rw [times_len, pow_len l k, Nat.succ_mul (k + 1)]
theorem top_lt {m : List Nat} (h : Limb m) {p2 : Nat} : ∀ k, k ≤ m.length - p2 → (topL m p2 k).1 < 65536 ^ k
  | 0, _ => by show 0 < 1; decide
  | k + 1, hk => by
    have ih := top_lt h (p2 := p2) k (by omega)
    unfold topL
    rw [if_pos (by omega)]
    have := h (m.length - 1 - k)
    show (topL m p2 k).1 * 65536 + _ < _
    rw [Nat.pow_succ]
    generalize 65536 ^ k = P at *
    omega
theorem top_stay {m : List Nat} {p2 : Nat} : ∀ k, m.length - p2 ≤ k → k ≤ m.length → (topL m p2 k).1 = (topL m p2 (m.length - p2)).1
  | 0, h, _ => by rw [Nat.le_zero.1 h]
  | k + 1, h, h2 => by
    by_cases e : m.length - p2 = k + 1
    · rw [e]
    · rw [← top_stay k (by omega) (by omega)]
      conv => lhs; unfold topL
      rw [if_neg (by omega)]
theorem top_le {m : List Nat} (h : Limb m) {p2 : Nat} (hp : m.length - p2 ≤ 3) {k : Nat} (hk : k ≤ m.length) : (topL m p2 k).1 < 281474976710656 := by
  by_cases e : k ≤ m.length - p2
  · refine Nat.lt_of_lt_of_le (top_lt h k e) (Nat.le_trans (Nat.pow_le_pow_right (by decide) (show k ≤ 3 by omega)) (by decide))
  · rw [top_stay k (by omega) hk]
    exact Nat.lt_of_lt_of_le (top_lt h _ (Nat.le_refl _)) (Nat.le_trans (Nat.pow_le_pow_right (by decide) hp) (by decide))
theorem top_small {m : List Nat} (h : Limb m) {p2 : Nat} (hp : m.length - p2 ≤ 3) {k : Nat} (hk : k < m.length) (hi : p2 ≤ m.length - 1 - k) : (topL m p2 k).1 < 4294967296 :=
  Nat.lt_of_lt_of_le (top_lt h k (by omega)) (Nat.le_trans (Nat.pow_le_pow_right (by decide) (show k ≤ 2 by omega)) (by decide))

theorem limbs_any (x : Nat) (w : World) (hx : x < 281474976710656) : Calls Tryd.prog 37 #[.int .u64 (x : Nat)] w (GiveN .u64 (limbsL x) w) := by
  obtain ⟨r0, h0⟩ : ∃ r0, r0 = x % 65536 := ⟨_, rfl⟩
  obtain ⟨r1, h1⟩ : ∃ r1, r1 = x / 65536 % 65536 := ⟨_, rfl⟩
  obtain ⟨r2, h2⟩ : ∃ r2, r2 = x / 4294967296 := ⟨_, rfl⟩
  have e0 : Hid ((x : Int) % 65536 = (r0 : Nat)) := by show _ = _; omega
  have e1 : Hid ((x : Int) / 65536 % 65536 = (r1 : Nat)) := by show _ = _; omega
  have e2 : Hid ((x : Int) / 4294967296 = (r2 : Nat)) := by show _ = _; omega
  have z1 : IntKind.u64.wrap ((x : Int) / 65536) = (x : Int) / 65536 := IntWalk.u64_in _ (by omega)
  have z2 : IntKind.u64.wrap ((x : Int) / 4294967296) = (x : Int) / 4294967296 := IntWalk.u64_in _ (by omega)
  have EL : Hid (limbsL x = [r0, r1, r2]) := by show _ = _; rw [h0, h1, h2]; rfl
  clear h0 h1 h2
  go_enter Tryd.func37, Tryd.ntmps37
  go_wp2_with fail
  go_ret
  rw [e0.out, e1.out, e2.out]
  refine ⟨_, rfl, ?_, (Below.refl _ _).alloc (Nat.le_refl _) _⟩
  rw [EL.out]
  exact toC_nums (l := [r0, r1, r2]) (k := .u64) (ty := 34) (heap_alloc_new _ _) (by unfold maxLen; show 3 ≤ _; decide)
set_option maxHeartbeats 8000000 in
theorem above_any (x power p : Nat) (w : World) (hx : x < 281474976710656) (h2 : 1 ≤ power) (h3 : power ≤ 3) (hp : p ≤ 1000000) :
    Calls Tryd.prog 34 #[.int .u64 (x : Nat), .int .i64 (power : Nat), .int .i64 (p : Nat)] w fun e w' => e = .returned (.bool (aboveL x power p)) ∧ Below w.heap.size w w' := by
  obtain ⟨l, hl⟩ : ∃ l, l = limbsL x := ⟨_, rfl⟩
  have hol : Limb l := by rw [hl]; exact limbs_ok hx
  have hll : l.length = 3 := by rw [hl]; rfl
  have HPO : Hid (∀ k, Limb (powL l k)) := fun k => pow_ok hol k
  have HPL : Hid (∀ k, (powL l k).length = (k + 1) * 3) := fun k => by have := pow_len l k; rw [hll] at this; exact this
  have CL : Hid (Calls Tryd.prog 37 #[.int .u64 (x : Nat)] w (GiveN .u64 l w)) := by rw [hl]; exact limbs_any x w hx
  have HOL := Lib.hid hol
  have HLL := Lib.hid hll
  have HRES : Hid (∀ t r, topL (powL l (power - 1)) (2 * power) (powL l (power - 1)).length = (t, r) → aboveL x power p = (decide (p < t) || (decide (t = p) && r))) := fun t r e => by
    unfold aboveL
    rw [← hl, e]
  obtain ⟨R, hR⟩ : ∃ R, R = aboveL x power p := ⟨_, rfl⟩
  rw [← hR] at HRES ⊢
  clear hl hol hll hR hx
  go_enter Tryd.func34, Tryd.ntmps34
  go_wp2_with fail
  refine (CL.out).mono ?_
  rintro e w1 ⟨v1, rfl, n1, b1⟩
  have HL1 : Hid (∀ w', Below w1.heap.size w1 w' → Nums .u64 w' v1 l) := fun w' hb => n1.below hb
  have HB1 := Lib.hid b1
  obtain ⟨la, lc, rfl, _⟩ := n1
  rw [HLL.out] at HL1 ⊢
  clear b1 CL
  go_wp2_with fail
  go_loopg [8, 9] power (fun g m_ i_ wr => ∃ k : Nat, k + 1 ≤ power ∧ power - (k + 1) ≤ g ∧ i_ = .int .i64 ((k + 1 : Nat) : Int) ∧ (∃ a n c, m_ = .slice a n c) ∧ Hid (Nums .u64 wr m_ (powL l k)) ∧ Below w1.heap.size w1 wr)
  case atStart => exact ⟨0, h2, by omega, by simp, ⟨_, _, _, rfl⟩, HL1.out _ (Below.refl _ _), Below.refl _ _⟩
  case round =>
    obtain ⟨k, hk, hg, rfl, ⟨ma, mn, mc, rfl⟩, HM, hbel⟩ := hrel
    have HB := Lib.hid hbel
    by_cases hlt : k + 1 < power
    · have i1 : (((k + 1 : Nat) : Int)) < (power : Int) := by omega
      have CT := Lib.hid (times_any wr HM.out (HL1.out wr hbel) (by rw [HPL.out]; omega) (by rw [HLL.out]; omega) (HPO.out k) HOL.out)
      clear hbel HM
      go_wp2_with fail
      refine (CT.out).mono ?_
      rintro e w3 ⟨v3, rfl, n3, b3⟩
      have K3 := Lib.hid (below_on HB.out b3)
      have HM3 : Hid (Nums .u64 w3 v3 (powL l (k + 1))) := n3
      obtain ⟨a3, c3, rfl, hx3⟩ := n3
      clear hx3
      obtain ⟨m3, hm3⟩ : ∃ m3, m3 = (timesL (powL l k) l).length := ⟨_, rfl⟩
      rw [← hm3] at HM3 ⊢
      clear hm3
      clear b3 CT
      go_wp2_with fail
      go_roundg (power - (k + 1 + 1))
      case measure => omega
      case rel => exact ⟨k + 1, by omega, Nat.le_refl _, by first | rfl | go_num, ⟨_, _, _, rfl⟩, HM3, K3.out⟩
    · obtain rfl : power = k + 1 := by omega
      have i1 : ¬ (((k + 1 : Nat) : Int)) < ((k + 1 : Nat) : Int) := by omega
      have e1 : k + 1 - 1 = k := by omega
      rw [e1] at HRES
      obtain ⟨M, hM⟩ : ∃ M, M = powL l k := ⟨_, rfl⟩
      have HMO : Hid (Limb M) := by rw [hM]; exact HPO.out k
      have hML : M.length = (k + 1) * 3 := by rw [hM]; exact HPL.out k
      rw [← hM] at HM HRES
      obtain ⟨n, hn⟩ : ∃ n, n = M.length := ⟨_, rfl⟩
      rw [← hn] at HRES hML
      have HN := Lib.hid hn
      obtain ⟨ma', mc', e', ml, mm, HMc⟩ := HM.out
      injection e' with y1 y2 y3
      subst y1 y2 y3
      have HMM : Hid (∀ w', Below wr.heap.size wr w' → ∀ j (hj : j < M.length), ∃ b off, ma = some ⟨b, off, none⟩ ∧ w'.cell? ⟨b, off + j, none⟩ = some (.int .u64 (M[j] : Nat))) := fun w' hb j hj => by
        obtain ⟨b, off, e, hlt, hc⟩ := HMc j hj
        exact ⟨b, off, e, vcell hb hlt hc⟩
      rw [← hn] at ml ⊢
      unfold maxLen at mm
      obtain ⟨wo, hwo⟩ : ∃ wo, wo = wr := ⟨_, rfl⟩
      rw [← hwo] at HB HMM ⊢
      have n1 : 1 ≤ n := by omega
      have n9 : n ≤ 9 := by omega
      have np : n - 2 * (k + 1) ≤ 3 := by omega
      have z2p : IntKind.i64.wrap (2 * ((k + 1 : Nat) : Int)) = 2 * ((k + 1 : Nat) : Int) := IntWalk.i64_in _ (by omega)
      have HTL : Hid (∀ j, j ≤ n → (topL M (2 * (k + 1)) j).1 < 281474976710656) := fun j hj => top_le HMO.out (by rw [← HN.out]; exact np) (by rw [← HN.out]; exact hj)
      have HTS : Hid (∀ j, j < n → 2 * (k + 1) ≤ n - 1 - j → (topL M (2 * (k + 1)) j).1 < 4294967296) := fun j hj hi => top_small HMO.out (by rw [← HN.out]; exact np) (by rw [← HN.out]; exact hj) (by rw [← HN.out]; exact hi)
      have HST : Hid (∀ j, topL M (2 * (k + 1)) (j + 1) = if 2 * (k + 1) ≤ n - 1 - j then ((topL M (2 * (k + 1)) j).1 * 65536 + M.getD (n - 1 - j) 0, (topL M (2 * (k + 1)) j).2) else ((topL M (2 * (k + 1)) j).1, (topL M (2 * (k + 1)) j).2 || decide (0 < M.getD (n - 1 - j) 0))) := fun j => by rw [HN.out]; rfl
      have HLM : Hid (∀ j, M.getD j 0 < 65536) := HMO.out
      clear hbel HM HMc hM hn hwo e1 hML
      go_wp2_with fail
      go_loopg [10, 11, 12] n (fun g t_ r_ i_ wr => ∃ j : Nat, j ≤ n ∧ n - j ≤ g ∧ t_ = .int .u64 ((topL M (2 * (k + 1)) j).1 : Nat) ∧ r_ = .bool (topL M (2 * (k + 1)) j).2 ∧ i_ = .int .i64 ((n : Int) - 1 - j) ∧ Below wo.heap.size wo wr)
      case atStart => exact ⟨0, Nat.zero_le _, by omega, rfl, rfl, by simp, Below.refl _ _⟩
      case round =>
        obtain ⟨j, hj, hg2, rfl, rfl, rfl, hbel⟩ := hrel
        have HB2 := Lib.hid hbel
        by_cases hjn : j < n
        · have i2 : (0 : Int) ≤ (n : Int) - 1 - j := by omega
          have d2 : decide ((0 : Int) ≤ (n : Int) - 1 - j) = true := decide_eq_true i2
          obtain ⟨q, hq⟩ : ∃ q, q = n - 1 - j := ⟨_, rfl⟩
          have hqi : (n : Int) - 1 - j = (q : Nat) := by omega
          have hql : q < M.length := by rw [← HN.out]; omega
          obtain ⟨mb, mo, rfl, cm⟩ := HMM.out _ hbel q hql
          have SX := HST.out j
          have tl := HTL.out j hj
          have ts := HTS.out j hjn
          have lx := HLM.out q
          rw [← hq] at SX ts
          rw [List.getD_eq_getElem?_getD, List.getElem?_eq_getElem hql] at SX lx
          simp only [Option.getD_some] at SX lx
          replace SX := Lib.hid SX
          generalize M[q] = y at *
          obtain ⟨t, ht⟩ : ∃ t, t = (topL M (2 * (k + 1)) j).1 := ⟨_, rfl⟩
          obtain ⟨r, hr⟩ : ∃ r, r = (topL M (2 * (k + 1)) j).2 := ⟨_, rfl⟩
          rw [← ht] at tl ts
          rw [← ht, ← hr] at SX
          rw [← ht, ← hr, hqi] at ⊢
          rw [hqi] at i2 d2
          have zq : IntKind.i64.wrap ((q : Int) - 1) = (n : Int) - 1 - ((j + 1 : Nat) : Int) := by rw [IntWalk.i64_in _ (by omega)]; omega
          have HZQ : Hid ((q : Int) - 1 = (n : Int) - 1 - ((j + 1 : Nat) : Int)) := by show _ = _; omega
          have iq : q < n := by rw [HN.out]; exact hql
          have HT2 := Lib.hid ht
          have HR2 := Lib.hid hr
          clear hbel hq hqi zq ht hr
          by_cases hp2 : 2 * (k + 1) ≤ q
          · have g1 : decide (2 * ((k + 1 : Nat) : Int) ≤ (q : Int)) = true := decide_eq_true (by omega)
            have g2 : 2 * ((k + 1 : Nat) : Int) ≤ (q : Int) := by omega
            have ts2 := ts hp2
            have SY : Hid (topL M (2 * (k + 1)) (j + 1) = (t * 65536 + y, r)) := by show _ = _; rw [SX.out, if_pos hp2]
            obtain ⟨s, hs⟩ : ∃ s, s = t * 65536 + y := ⟨_, rfl⟩
            rw [← hs] at SY
            have HSS : Hid ((t : Int) * 65536 + (y : Int) = (s : Nat)) := by show _ = _; omega
            clear SX ts hs hp2
            go_wp2_with fail
            go_roundg (n - (j + 1))
            case measure => omega
            case rel => exact ⟨j + 1, by omega, Nat.le_refl _, by rw [SY.out, HSS.out], by rw [SY.out], by rw [HZQ.out], HB2.out⟩
          · have g1 : decide (2 * ((k + 1 : Nat) : Int) ≤ (q : Int)) = false := decide_eq_false (by omega)
            have g2 : ¬ 2 * ((k + 1 : Nat) : Int) ≤ (q : Int) := by omega
            have SY : Hid (topL M (2 * (k + 1)) (j + 1) = (t, r || decide (0 < y))) := by show _ = _; rw [SX.out, if_neg hp2]
            clear SX ts hp2
            by_cases hy : 0 < y
            · have y1 : (0 : Int) < (y : Int) := by omega
              have y2 : decide ((0 : Int) < (y : Int)) = true := decide_eq_true y1
              have SZ : Hid (topL M (2 * (k + 1)) (j + 1) = (t, true)) := by show _ = _; rw [SY.out, decide_eq_true hy, Bool.or_true]
              clear SY hy
              go_wp2_with fail
              go_roundg (n - (j + 1))
              case measure => omega
              case rel => exact ⟨j + 1, by omega, Nat.le_refl _, by rw [SZ.out], by rw [SZ.out], by rw [HZQ.out], HB2.out⟩
            · have y1 : ¬ (0 : Int) < (y : Int) := by omega
              have y2 : decide ((0 : Int) < (y : Int)) = false := decide_eq_false y1
              have SZ : Hid (topL M (2 * (k + 1)) (j + 1) = (t, r)) := by show _ = _; rw [SY.out, decide_eq_false hy, Bool.or_false]
              clear SY hy
              go_wp2_with fail
              go_roundg (n - (j + 1))
              case measure => omega
              case rel => exact ⟨j + 1, by omega, Nat.le_refl _, by rw [SZ.out], by rw [SZ.out], by rw [HZQ.out], HB2.out⟩
        · obtain rfl : n = j := by omega
          have i2 : ¬ (0 : Int) ≤ (n : Int) - 1 - n := by omega
          have d2 : decide ((0 : Int) ≤ (n : Int) - 1 - n) = false := decide_eq_false i2
          obtain ⟨t, ht⟩ : ∃ t, t = (topL M (2 * (k + 1)) n).1 := ⟨_, rfl⟩
          obtain ⟨r, hr⟩ : ∃ r, r = (topL M (2 * (k + 1)) n).2 := ⟨_, rfl⟩
          have RES := Lib.hid (HRES.out t r (by rw [ht, hr]))
          have tl := HTL.out n (Nat.le_refl _)
          rw [← ht] at tl
          rw [← ht, ← hr]
          have zp : IntKind.u64.wrap (p : Int) = (p : Nat) := IntWalk.u64_in _ (by omega)
          have HBF := Lib.hid (below_on HB1.out (below_on HB.out hbel))
          clear ht hr hbel
          by_cases c1 : p < t
          · have j1 : (p : Int) < (t : Int) := by omega
            have j2 : decide ((p : Int) < (t : Int)) = true := decide_eq_true j1
            have RS : Hid (R = true) := by show _ = _; rw [RES.out, decide_eq_true c1]; rfl
            clear RES c1
            go_wp2_with fail
            go_ret
            exact ⟨by (rw [RS.out]) <;> rfl, HBF.out⟩
          · have j1 : ¬ (p : Int) < (t : Int) := by omega
            have j2 : decide ((p : Int) < (t : Int)) = false := decide_eq_false j1
            by_cases c2 : t = p
            · subst c2
              have j3 : ((t : Int) == (t : Int)) = true := by simp
              have RS : Hid (R = r) := by show _ = _; rw [RES.out, decide_eq_false c1, decide_eq_true rfl]; rfl
              clear RES c1
              go_wp2_with fail
              go_ret
              exact ⟨by (rw [RS.out]) <;> rfl, HBF.out⟩
            · have j3 : ((t : Int) == (p : Int)) = false := by simp; omega
              have RS : Hid (R = false) := by show _ = _; rw [RES.out, decide_eq_false c1, decide_eq_false c2]; rfl
              clear RES c1 c2
              go_wp2_with fail
              go_ret
              exact ⟨by (rw [RS.out]) <;> rfl, HBF.out⟩
end Go.Proofs.YtknefflbkaaooaaDoor.Slt
