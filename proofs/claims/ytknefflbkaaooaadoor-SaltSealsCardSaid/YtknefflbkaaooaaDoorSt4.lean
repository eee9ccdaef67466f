/- Salt: root, primes, Table of the plain text. -/
import Derived.Test.YtknefflbkaaooaaDoorSt3
set_option linter.unusedVariables false
set_option linter.unusedSimpArgs false
set_option maxRecDepth 100000
namespace Go.Proofs.YtknefflbkaaooaaDoor.Slt
open Go.RowKit Go.Lib Go.Proofs.YtknefflbkaaooaaDoor.Bx

def rootL (p power : Nat) : Nat → Nat → Nat → Nat
  | 0, low, _ => low
  | f + 1, low, high => if 1 < high - low then (if aboveL ((low + high) / 2) power p = true then rootL p power f low ((low + high) / 2) else rootL p power f ((low + high) / 2) high) else low
def rootN (p power : Nat) : Nat := rootL p power 40 0 1099511627776 % 4294967296
set_option maxHeartbeats 8000000 in
theorem root_any (p power : Nat) (w : World) (h2 : 1 ≤ power) (h3 : power ≤ 3) (hp : p ≤ 1000000) :
    Calls Tryd.prog 31 #[.int .i64 (p : Nat), .int .i64 (power : Nat)] w fun e w' => e = .returned (.int .u32 (rootN p power : Nat)) ∧ Below w.heap.size w w' := by
  have CA : Hid (∀ (x : Nat) (w' : World), x < 281474976710656 → Calls Tryd.prog 34 #[.int .u64 (x : Nat), .int .i64 (power : Nat), .int .i64 (p : Nat)] w' fun e w'' => e = .returned (.bool (aboveL x power p)) ∧ Below w'.heap.size w' w'') := fun x w' hx => above_any x power p w' hx h2 h3 hp
  obtain ⟨R, hR⟩ : ∃ R, R = rootL p power 40 0 1099511627776 := ⟨_, rfl⟩
  have HRN : Hid (rootN p power = R % 4294967296) := by show _ = _; unfold rootN; rw [← hR]
  have HR := Lib.hid hR
  clear hR h2 h3 hp
  go_enter Tryd.func31, Tryd.ntmps31
  go_wp2_with fail
  go_loopg [5, 6] 41 (fun g lo_ hi_ wr => ∃ f low high : Nat, f + 1 ≤ g ∧ lo_ = .int .u64 (low : Nat) ∧ hi_ = .int .u64 (high : Nat) ∧ low < high ∧ high ≤ 1099511627776 ∧ Hid (high - low ≤ 2 ^ f) ∧ Hid (rootL p power f low high = R) ∧ Below w.heap.size w wr)
  case atStart => exact ⟨40, 0, 1099511627776, by omega, rfl, rfl, by omega, Nat.le_refl _, (by show _ ≤ _; decide), HR.out.symm, Below.refl _ _⟩
  case round =>
    obtain ⟨f, low, high, hg, rfl, rfl, hlt, hhi, HD, HL, hbel⟩ := hrel
    have HB := Lib.hid hbel
    by_cases hc : 1 < high - low
    · have i1 : (1 : Int) < (high : Int) - (low : Int) := by omega
      obtain ⟨f', rfl⟩ : ∃ f', f = f' + 1 := by
        cases f with
        | zero => have := HD.out; rw [Nat.pow_zero] at this; omega
        | succ f => exact ⟨f, rfl⟩
      obtain ⟨m, hm⟩ : ∃ m, m = (low + high) / 2 := ⟨_, rfl⟩
      have HD1 : Hid (m - low ≤ 2 ^ f' ∧ high - m ≤ 2 ^ f') := by
        have := HD.out
        rw [Nat.pow_succ] at this
        show _ ∧ _
        omega
      have HL1 : Hid ((if aboveL m power p = true then rootL p power f' low m else rootL p power f' m high) = R) := by
        have := HL.out
        unfold rootL at this
        rw [if_pos hc, ← hm] at this
        exact this
      have mb : low < m ∧ m < high := by omega
      have zm : Hid (((low : Int) + (high : Int)) / 2 = (m : Nat)) := by show _ = _; omega
      have zw : IntKind.u64.wrap (((low : Int) + (high : Int)) / 2) = (m : Nat) := by rw [IntWalk.u64_in _ (by omega)]; omega
      have CA1 := Lib.hid (CA.out m wr (by omega))
      obtain ⟨b, hb⟩ : ∃ b, b = aboveL m power p := ⟨_, rfl⟩
      rw [← hb] at CA1 HL1
      clear hbel HD HL hm hb
      go_wp2_with fail
      try rw [zm.out]
      refine (CA1.out).mono ?_
      rintro e w3 ⟨rfl, b3⟩
      have K3 := Lib.hid (below_on HB.out b3)
      clear b3 CA1 zw
      cases b with
      | true =>
        have HL2 : Hid (rootL p power f' low m = R) := by have := HL1.out; rw [if_pos rfl] at this; exact this
        clear HL1
        go_wp2_with fail
        try rw [zm.out]
        go_roundg (f' + 1)
        case measure => omega
        case rel => exact ⟨f', low, m, Nat.le_refl _, rfl, rfl, mb.1, by omega, HD1.out.1, HL2, K3.out⟩
      | false =>
        have HL2 : Hid (rootL p power f' m high = R) := by have := HL1.out; rw [if_neg (by simp)] at this; exact this
        clear HL1
        go_wp2_with fail
        try rw [zm.out]
        go_roundg (f' + 1)
        case measure => omega
        case rel => exact ⟨f', m, high, Nat.le_refl _, rfl, rfl, mb.2, hhi, HD1.out.2, HL2, K3.out⟩
    · have i1 : ¬ (1 : Int) < (high : Int) - (low : Int) := by omega
      have HL1 : Hid (low = R) := by
        have := HL.out
        cases f with
        | zero => exact this
        | succ f => unfold rootL at this; rw [if_neg hc] at this; exact this
      obtain ⟨r, hr⟩ : ∃ r, r = low % 4294967296 := ⟨_, rfl⟩
      have HRR : Hid (rootN p power = r) := by show _ = _; rw [HRN.out, ← HL1.out, hr]
      have HM : Hid ((low : Int) % 4294967296 = (r : Nat)) := by show _ = _; omega
      have zr : IntKind.u32.wrap ((low : Int) % 4294967296) = (r : Nat) := by rw [IntWalk.u32_in _ (by omega)]; omega
      clear hbel HL HD HL1 hr
      go_wp2_with fail
      go_ret
      rw [HRR.out]
      exact ⟨by first | rfl | (rw [HM.out]; done) | (rw [HM.out]; rfl), HB.out⟩

def primes64 : List Nat := [2, 3, 5, 7, 11, 13, 17, 19, 23, 29, 31, 37, 41, 43, 47, 53, 59, 61, 67, 71, 73, 79, 83, 89, 97, 101, 103, 107, 109, 113, 127, 131, 137, 139, 149, 151, 157, 163, 167, 173, 179, 181, 191, 193, 197, 199, 211, 223, 227, 229, 233, 239, 241, 251, 257, 263, 269, 271, 277, 281, 283, 293, 307, 311]
/-- Those that were found ahead of j + 2. -/
def found (j : Nat) : List Nat := primes64.filter fun q => decide (q < j + 2)
theorem found_all : ∀ j, j < 310 → (found j).all (fun q => !((j + 2) % q == 0)) = decide (j + 2 ∈ primes64) := by decide +kernel
theorem found_next : ∀ j, j < 310 → found (j + 1) = found j ++ (if j + 2 ∈ primes64 then [j + 2] else []) := by decide +kernel
theorem found_take : ∀ j, j < 311 → found j = primes64.take (found j).length := by decide +kernel
theorem found_end : (found 310).length = 64 := by decide +kernel
theorem found_len {j : Nat} (hj : j < 311) : (found j).length ≤ 64 := by
  have h := congrArg List.length (found_take j hj)
  rw [List.length_take] at h
  have e : primes64.length = 64 := by decide
  omega
theorem found_pos {j : Nat} {q : Nat} (h : q ∈ found j) : 0 < q ∧ q < j + 2 := by
  unfold found at h
  rw [List.mem_filter] at h
  have h2 : ∀ x ∈ primes64, 0 < x := by decide
  exact ⟨h2 q h.1, of_decide_eq_true h.2⟩
theorem infoI64 : (Tryd.prog.info? 3).map (fun i => (i.zero, i.size, i.bytes)) = some (some (.int .i64 0), 1, 8) := by kernel_rfl
def OwnN (k : IntKind) (e : TypeId) (base : Nat) (w : World) (v : Value) (l : List Nat) : Prop := Rk.OwnK e 1 base w v (l.map fun x => [.int k (x : Nat)])
theorem OwnN.nums {k : IntKind} {e : TypeId} {base : Nat} {w : World} {v : Value} {l : List Nat} (h : OwnN k e base w v l) : Nums k w v l := by
  obtain ⟨_, a, cap, e1, h1, h2, h3⟩ := Rk.OwnK.row h
  rw [List.length_map] at e1 h1
  refine ⟨a, cap, e1, h1, h2, fun j hj => ?_⟩
  rcases h3 with h3 | ⟨b, off, rfl, hb, hc⟩
  · have : l.length = 0 := by rw [← List.length_map (f := fun x => [Value.int k (x : Nat)]), h3]; rfl
    omega
  · have := hc j (by rw [List.length_map]; exact hj) 0
    simp only [List.getElem_map, Nat.mul_one, Nat.add_zero] at this
    exact ⟨b, off, rfl, hb, this _ rfl⟩
theorem OwnN.is_slice {k : IntKind} {e : TypeId} {base : Nat} {w : World} {v : Value} {l : List Nat} (h : OwnN k e base w v l) : ∃ a cap, v = .slice a l.length cap := by
  obtain ⟨a, cap, e, _⟩ := h.nums
  exact ⟨a, cap, e⟩
theorem all_take_succ (f : Nat → Bool) (l : List Nat) {i : Nat} (hi : i < l.length) : (l.take (i + 1)).all f = ((l.take i).all f && f l[i]) := by
  rw [List.take_succ_eq_append_getElem hi, List.all_append]
  simp
set_option maxHeartbeats 8000000 in
theorem primes_any (n : Nat) (w : World) (hn : n ≤ 64) : Calls Tryd.prog 30 #[.int .i64 (n : Nat)] w (GiveN .i64 (primes64.take n) w) := by
  go_enter Tryd.func30, Tryd.ntmps30
  go_wp2_with fail
  go_loopg [3, 4] 311 (fun g l_ k_ wr => ∃ j : Nat, j ≤ 310 ∧ 311 - j ≤ g ∧ k_ = .int .i64 ((j + 2 : Nat) : Int) ∧ (found j).length ≤ n ∧ Hid (OwnN .i64 3 w.heap.size wr l_ (found j)) ∧ Below w.heap.size w wr)
  case atStart => exact ⟨0, by omega, by omega, rfl, Nat.zero_le _, Rk.OwnK.nil_ _ _ _ _, Below.refl _ _⟩
  case round =>
    obtain ⟨j, hj, hg, rfl, hln, HO, hbel⟩ := hrel
    have HB := Lib.hid hbel
    obtain ⟨ao, co, rfl⟩ := HO.out.is_slice
    obtain ⟨m, hm⟩ : ∃ m, m = (found j).length := ⟨_, rfl⟩
    have HM := Lib.hid hm
    rw [← hm] at hln HO ⊢
    by_cases hlt : m < n
    · have hj2 : j < 310 := by
        rcases Nat.lt_or_ge j 310 with h | h
        · exact h
        · obtain rfl : j = 310 := by omega
          have := found_end
          omega
      have i1 : (m : Int) < (n : Int) := by omega
      have HAL := Lib.hid (found_all j hj2)
      have HNX := Lib.hid (found_next j hj2)
      have HPS : Hid (∀ i (hi : i < (found j).length), 0 < (found j)[i] ∧ (found j)[i] < j + 2) := fun i hi => found_pos (List.getElem_mem hi)
      obtain ⟨va, vc, e1, v1, v2, HC⟩ := HO.out.nums
      injection e1 with y1 y2 y3
      subst y1 y3
      have HCC : Hid (∀ w', Below wr.heap.size wr w' → ∀ i (hi : i < (found j).length), ∃ b off, ao = some ⟨b, off, none⟩ ∧ w'.cell? ⟨b, off + i, none⟩ = some (.int .i64 ((found j)[i] : Nat))) := fun w' hb i hi => by
        obtain ⟨b, off, e, hlt, hc⟩ := HC i hi
        exact ⟨b, off, e, vcell hb hlt hc⟩
      have v3 : m ≤ co := by omega
      unfold maxLen at v2
      obtain ⟨wo, hwo⟩ : ∃ wo, wo = wr := ⟨_, rfl⟩
      rw [← hwo] at HB HCC HO ⊢
      clear hbel hm y2 v1 HC hwo
      go_wp2_with fail
      go_loopg [5, 6] m (fun g is_ i_ wr => ∃ i : Nat, i ≤ m ∧ m - i ≤ g ∧ i_ = .int .i64 i ∧ is_ = .bool (((found j).take i).all fun q => !((j + 2) % q == 0)) ∧ Below wo.heap.size wo wr)
      case atStart => exact ⟨0, Nat.zero_le _, by omega, rfl, by simp, Below.refl _ _⟩
      case round =>
        obtain ⟨i, hi, hg2, rfl, rfl, hbel⟩ := hrel
        have HB2 := Lib.hid hbel
        by_cases him : i < m
        · have hil : i < (found j).length := by rw [← HM.out]; exact him
          obtain ⟨b, off, rfl, ci⟩ := HCC.out _ hbel i hil
          have ET := Lib.hid (all_take_succ (fun q => !((j + 2) % q == 0)) (found j) hil)
          obtain ⟨q1, q2⟩ := HPS.out i hil
          generalize (found j)[i] = q at *
          obtain ⟨bb, hbb⟩ : ∃ bb, bb = (((found j).take i).all fun q => !((j + 2) % q == 0)) := ⟨_, rfl⟩
          rw [← hbb] at ET ⊢
          have i2 : (i : Int) < (m : Int) := by omega
          have q0 : ¬ (q : Int) = 0 := by omega
          have q0' : ((q : Int) == 0) = false := by simp; omega
          by_cases hr0 : (j + 2) % q = 0
          · have g1 : ((((j : Int) + 2) % (q : Int)) == 0) = true := by
              have : ((j : Int) + 2) % (q : Int) = (((j + 2) % q : Nat) : Int) := by rw [Int.natCast_emod]; rfl
              rw [this, hr0]
              rfl
            have ET2 : Hid (((found j).take (i + 1)).all (fun q => !((j + 2) % q == 0)) = false) := by show _ = _; rw [ET.out, hr0]; simp
            clear hbel hbb HCC ET hr0
            go_wp2_with fail
            go_roundg (m - (i + 1))
            case measure => omega
            case rel => exact ⟨i + 1, by omega, Nat.le_refl _, by go_num, by rw [ET2.out], HB2.out⟩
          · have g1 : ((((j : Int) + 2) % (q : Int)) == 0) = false := by
              have : ((j : Int) + 2) % (q : Int) = (((j + 2) % q : Nat) : Int) := by rw [Int.natCast_emod]; rfl
              rw [this]
              simp
              omega
            have ET2 : Hid (((found j).take (i + 1)).all (fun q => !((j + 2) % q == 0)) = bb) := by show _ = _; rw [ET.out]; simp [hr0]
            clear hbel hbb HCC ET hr0
            go_wp2_with fail
            go_roundg (m - (i + 1))
            case measure => omega
            case rel => exact ⟨i + 1, by omega, Nat.le_refl _, by go_num, by rw [ET2.out], HB2.out⟩
        · obtain rfl : m = i := by omega
          have i2 : ¬ (m : Int) < (m : Int) := by omega
          have et : (found j).take m = found j := by rw [HM.out, List.take_length]
          rw [et, HAL.out]
          have HBw := Lib.hid (below_on HB.out hbel)
          have HKJ : Hid (((j + 2 : Nat) : Int) + 1 = ((j + 1 + 2 : Nat) : Int)) := by show _ = _; omega
          by_cases hin : j + 2 ∈ primes64
          · rw [decide_eq_true hin]
            have EQ : Hid (found (j + 1) = found j ++ [j + 2]) := by show _ = _; rw [HNX.out, if_pos hin]
            have A1 : Hid (Rk.OwnK 3 1 w.heap.size (wr.alloc (.cells #[.int .i64 ((j + 2 : Nat) : Int)] 3)) (.slice ao m co) ((found j).map fun x => [.int .i64 (x : Nat)])) := Rk.OwnK.below HO.out (below_al hbel _)
            have A2 : Hid (Rk.RowK 1 (wr.alloc (.cells #[.int .i64 ((j + 2 : Nat) : Int)] 3)) (.slice (some ⟨wr.heap.size, 0, none⟩) 1 1) [[.int .i64 ((j + 2 : Nat) : Int)]]) := Rk.row_one (e := 3) (heap_alloc_new _ _) rfl
            have HBY : Hid (Below w.heap.size w (wr.alloc (.cells #[.int .i64 ((j + 2 : Nat) : Int)] 3))) := below_al HBw.out _
            have A4 : Hid (w.heap.size ≤ (wr.alloc (.cells #[.int .i64 ((j + 2 : Nat) : Int)] 3)).heap.size) := HBY.out.size
            have A3 : Hid (((found j).map fun x => [Value.int .i64 (x : Nat)]).length + 1 ≤ 100000) := by show _ ≤ _; rw [List.length_map, ← HM.out]; omega
            have HYO : Hid (∀ z ∈ [[Value.int .i64 ((j + 2 : Nat) : Int)]], ∀ q ∈ z, q.oneCell' = true) := fun z hz q hq => by
              simp only [List.mem_singleton] at hz
              subst hz
              simp only [List.mem_singleton] at hq
              subst hq
              rfl
            obtain ⟨kk, hkk⟩ : ∃ kk, kk = ((j + 2 : Nat) : Int) := ⟨_, rfl⟩
            rw [← hkk] at A1 A2 HBY A4 HYO HKJ ⊢
            have kb : 0 ≤ kk ∧ kk ≤ 1000 := by omega
            have HKK := Lib.hid hkk
            clear hbel hkk et
            go_wp2_with (at_builtin; refine Rk.wpList_append_rowk rfl _ _ 56 3 1 8 _ Tryd.underlying56 infoI64 rfl (by decide) (by decide) rfl w.heap.size _ _ _ _ rfl rfl A1.out A2.out HYO.out A3.out A4.out ?_)
            intro v6 w9 h5 g5 k5
            have K9 : Hid (OwnN .i64 3 w.heap.size w9 v6 (found (j + 1))) := by
              show Rk.OwnK _ _ _ _ _ _
              rw [EQ.out, List.map_append]
              rw [HKK.out] at h5
              exact h5
            have HB6 := Lib.hid (A1.out.belowOf HBY.out (Nat.le_refl _) A4.out g5)
            have HL6 : Hid ((found (j + 1)).length ≤ n) := by show _ ≤ _; rw [EQ.out, List.length_append, ← HM.out]; simp; omega
            clear h5 g5 k5 A1 A2 A3 A4 HBY EQ HYO
            obtain ⟨a6, c6, rfl⟩ := K9.out.is_slice
            obtain ⟨m6, hm6⟩ : ∃ m6, m6 = (found (j + 1)).length := ⟨_, rfl⟩
            rw [← hm6] at K9 HL6 ⊢
            have HM6 := Lib.hid hm6
            clear hm6
            go_wp2_with fail
            go_roundg (311 - (j + 1))
            case measure => omega
            case rel => exact ⟨j + 1, by omega, by omega, by rw [HKJ.out], by rw [← HM6.out]; exact HL6.out, by first | exact K9 | (rw [HM6.out] at K9; exact K9), HB6.out⟩
          · rw [decide_eq_false hin]
            have EQ : Hid (found (j + 1) = found j) := by show _ = _; rw [HNX.out, if_neg hin, List.append_nil]
            have HO2 := Lib.hid (Rk.OwnK.below HO.out hbel)
            obtain ⟨kk, hkk⟩ : ∃ kk, kk = ((j + 2 : Nat) : Int) := ⟨_, rfl⟩
            rw [← hkk] at HKJ ⊢
            have kb : 0 ≤ kk ∧ kk ≤ 1000 := by omega
            have HLN : Hid (m ≤ n) := hln
            clear hbel hkk et
            go_wp2_with fail
            go_roundg (311 - (j + 1))
            case measure => omega
            case rel => exact ⟨j + 1, by omega, by omega, by rw [HKJ.out], by rw [EQ.out, ← HM.out]; exact HLN.out, by rw [EQ.out]; exact HO2, HBw.out⟩
    · have i1 : ¬ (m : Int) < (n : Int) := by omega
      have FIN : Hid (GiveN .i64 (primes64.take n) w (.returned (.slice ao m co)) wr) := by
        have e : primes64.take n = found j := by
          have h := found_take j (by omega)
          rw [← hm, show m = n by omega] at h
          exact h.symm
        have h := HO.out.nums
        exact ⟨_, rfl, by rw [e]; exact h, hbel⟩
      clear hbel hm
      go_wp2_with fail
      go_ret
      exact FIN.out
end Go.Proofs.YtknefflbkaaooaaDoor.Slt
