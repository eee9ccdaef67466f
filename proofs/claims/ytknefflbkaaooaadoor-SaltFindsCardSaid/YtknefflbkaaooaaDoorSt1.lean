/- Salt: times, limbs of the plain text. -/
import Derived.Test.YtknefflbkaaooaaDoorSn
import Derived.OwnWalk
import Derived.Deep.RegionHeld3
set_option linter.unusedVariables false
set_option linter.unusedSimpArgs false
set_option maxRecDepth 100000
namespace Go.Proofs.YtknefflbkaaooaaDoor.Slt
open Go.RowKit Go.Lib Go.Proofs.YtknefflbkaaooaaDoor.Bx

theorem infoU64 : (Tryd.prog.info? 34).map (fun i => (i.zero, i.size, i.bytes)) = some (some (.int .u64 0), 1, 8) := by kernel_rfl
theorem made_block {w : World} {base n : Nat} {e : TypeId} {g : Nat} (h : w.ownsRow base e 1 (.slice (some ⟨g, 0, none⟩) n n) n (madeCells #[.int .u64 0] n).toList) : w.heap[g]? = some (.cells (toC .u64 (List.replicate n 0)) e (0, 0)) := by
  rcases h.2 with ⟨e1, _⟩ | ⟨g', cap, cur, e1, hb, hg, hle, hm, hsz, htake⟩
  · cases e1
  · injection e1 with e1 e2 e3
    injection e1 with e1
    injection e1 with e1 _ _
    subst e1 e3
    rw [hg]
    congr 2
    have h1 : cur.toList = List.replicate n (.int .u64 0) := by
      rw [Nat.mul_one] at htake hsz
      rw [List.take_of_length_le (by rw [Array.length_toList, hsz]; exact Nat.le_refl _)] at htake
      rw [htake, toList_madeCells_one]
    unfold toC
    rw [List.map_replicate]
    show cur = (List.replicate n (Value.int .u64 0)).toArray
    rw [← h1]
def GiveN (k : IntKind) (l : List Nat) (w : World) (e : Ending) (w' : World) : Prop := ∃ v, e = .returned v ∧ Nums k w' v l ∧ Below w.heap.size w w'
set_option maxHeartbeats 8000000 in
theorem times_any {va vb : Value} {a b : List Nat} (w : World) (ha : Nums .u64 w va a) (hb : Nums .u64 w vb b) (la : a.length ≤ 100) (lb : b.length ≤ 100) (oa : Limb a) (ob : Limb b) :
    Calls Tryd.prog 38 #[va, vb] w (GiveN .u64 (timesL a b) w) := by
  obtain ⟨aa, ac, rfl, al, am, hA⟩ := ha
  obtain ⟨ba, bc, rfl, bl, bm, hB⟩ := hb
  obtain ⟨n, hn⟩ : ∃ n, n = a.length := ⟨_, rfl⟩
  obtain ⟨m, hm⟩ : ∃ m, m = b.length := ⟨_, rfl⟩
  have HA : Hid (∀ w', Below w.heap.size w w' → ∀ j (hj : j < a.length), ∃ b off, aa = some ⟨b, off, none⟩ ∧ w'.cell? ⟨b, off + j, none⟩ = some (.int .u64 (a[j] : Nat))) := fun w' hb j hj => by
    obtain ⟨b, off, e, hlt, hc⟩ := hA j hj
    exact ⟨b, off, e, vcell hb hlt hc⟩
  have HB : Hid (∀ w', Below w.heap.size w w' → ∀ j (hj : j < b.length), ∃ b' off, ba = some ⟨b', off, none⟩ ∧ w'.cell? ⟨b', off + j, none⟩ = some (.int .u64 (b[j] : Nat))) := fun w' hb j hj => by
    obtain ⟨b, off, e, hlt, hc⟩ := hB j hj
    exact ⟨b, off, e, vcell hb hlt hc⟩
  obtain ⟨i0, hi, hz0, hz1, hz2⟩ := Rk.kparts infoU64
  have HOK : Hid (∀ i, Limb (outT a b i) ∧ ∀ q, i + b.length ≤ q → (outT a b i).getD q 0 = 0) := outT_ok oa ob
  have HOL : Hid (∀ i, (outT a b i).length = n + m) := fun i => by rw [hn, hm]; exact outT_len a b i
  have HN := Lib.hid hn
  have HM := Lib.hid hm
  have HOA := Lib.hid oa
  have HOB := Lib.hid ob
  rw [← hn] at al la ⊢
  rw [← hm] at bl lb ⊢
  unfold maxLen at am bm
  have A1 : Hid (((n : Int) + (m : Int)) = ((n + m : Nat) : Int)) := by show _ = _; omega
  have A2 : Hid (i0.bytes * (n + m) ≤ 281474976710656) := by show _ ≤ _; rw [hz2]; omega
  have A3 : Hid (n + m ≤ maxLen) := by show _ ≤ _; unfold maxLen; omega
  have zl : IntKind.i64.wrap ((n : Int) + (m : Int)) = (n : Int) + (m : Int) := IntWalk.i64_in _ (by omega)
  clear hA hB hn hm oa ob
  go_enter Tryd.func38, Tryd.ntmps38
  go_wp2_with (at_make; refine wpList_make_full _ rfl _ _ 61 rfl w.heap.size 34 i0 (.int .u64 0) 1 Tryd.underlying61 hi hz0 hz1 .i64 .i64 _ _ (n + m) rfl rfl (by first | rfl | exact A1.out | (simp; done)) (by first | rfl | exact A1.out | (simp; done)) A2.out A3.out (Nat.le_refl _) ?_)
  intro w1 hown hgr
  have hblk := made_block hown
  have hB1 : Hid (Below w.heap.size w w1) := ⟨hgr.os, hgr.tape, hgr.output, hgr.size, fun k hk => hgr.block k hk (by simp)⟩
  have HR : Hid (w1.heap[w.heap.size]? = some (.cells (toC .u64 (outT a b 0)) 34 (0, 0))) := by
    show _ = _
    rw [hblk, HN.out, HM.out]
    rfl
  clear hown hgr hblk A1 A2 A3 hi hz0 hz1 hz2
  obtain ⟨nb, hnb⟩ : ∃ nb, nb = w.heap.size := ⟨_, rfl⟩
  rw [← hnb] at HR ⊢
  have HNB : Hid (w.heap.size ≤ nb) := by show _ ≤ _; omega
  clear hnb
  go_wp2_with fail
  go_loopg [6] n (fun g i_ wr => ∃ i : Nat, i ≤ n ∧ n - i ≤ g ∧ i_ = .int .i64 i ∧ Hid (wr.heap[nb]? = some (.cells (toC .u64 (outT a b i)) 34 (0, 0))) ∧ Below w.heap.size w wr)
  case atStart => exact ⟨0, Nat.zero_le _, by omega, rfl, HR, hB1.out⟩
  case round =>
    obtain ⟨i, hi, hg, rfl, HK, hbel⟩ := hrel
    have HBo := Lib.hid hbel
    by_cases hlt : i < n
    · have hia : i < a.length := by rw [← HN.out]; exact hlt
      have i1 : (i : Int) < (n : Int) := by omega
      have HS := Lib.hid (outT_succ a b i)
      obtain ⟨O, hO⟩ : ∃ O, O = outT a b i := ⟨_, rfl⟩
      have HOo : Hid (Limb O ∧ ∀ q, i + b.length ≤ q → O.getD q 0 = 0) := by rw [hO]; exact HOK.out i
      have HOl : Hid (O.length = n + m) := by show _ = _; rw [hO]; exact HOL.out i
      rw [← hO] at HK HS
      have HIL : Hid (∀ k, (inT a b O i k).1.length = n + m) := fun k => by rw [inT_len]; exact HOl.out
      have HIO : Hid (∀ k, Limb (inT a b O i k).1 ∧ (inT a b O i k).2 < 65536) := fun k => inT_ok HOA.out HOB.out HOo.out.1 k
      obtain ⟨wo, hwo⟩ : ∃ wo, wo = wr := ⟨_, rfl⟩
      rw [← hwo] at HK HBo ⊢
      clear hbel hO hwo
      go_wp2_with fail
      go_loopg [7, 8] m (fun g c_ k_ wr => ∃ k : Nat, k ≤ m ∧ m - k ≤ g ∧ k_ = .int .i64 k ∧ c_ = .int .u64 ((inT a b O i k).2 : Nat) ∧ Hid (wr.heap[nb]? = some (.cells (toC .u64 (inT a b O i k).1) 34 (0, 0))) ∧ Below w.heap.size w wr)
      case atStart => exact ⟨0, Nat.zero_le _, by omega, rfl, rfl, HK, HBo.out⟩
      case round =>
        obtain ⟨k, hk, hg2, rfl, rfl, HC, hbel⟩ := hrel
        have HBi := Lib.hid hbel
        by_cases hkm : k < m
        · have hkb : k < b.length := by rw [← HM.out]; exact hkm
          have i2 : (k : Int) < (m : Int) := by omega
          have hql : i + k < (inT a b O i k).1.length := by rw [HIL.out k]; omega
          have cq := toC_cell HC.out hql
          obtain ⟨ab, ao, rfl, ca⟩ := HA.out _ HBi.out i hia
          obtain ⟨bb, bo, rfl, cb⟩ := HB.out _ HBi.out k hkb
          have SE := Lib.hid (inT_succ a b O i k)
          have LE := Lib.hid (HIL.out k)
          obtain ⟨l1, l2⟩ := HIO.out k
          have lx := HOA.out i
          have ly := HOB.out k
          have lz := l1 (i + k)
          rw [List.getD_eq_getElem?_getD, List.getElem?_eq_getElem hia] at lx
          rw [List.getD_eq_getElem?_getD, List.getElem?_eq_getElem hkb] at ly
          rw [List.getD_eq_getElem?_getD, List.getElem?_eq_getElem hql] at lz
          simp only [Option.getD_some] at lx ly lz
          have SX : Hid (inT a b O i (k + 1) = ((inT a b O i k).1.set (i + k) (((inT a b O i k).1[i + k] + a[i] * b[k] + (inT a b O i k).2) % 65536), ((inT a b O i k).1[i + k] + a[i] * b[k] + (inT a b O i k).2) / 65536)) := by
            show _ = _
            rw [SE.out]
            unfold stepT
            rw [List.getD_eq_getElem?_getD, List.getElem?_eq_getElem hql, List.getD_eq_getElem?_getD, List.getElem?_eq_getElem hia, List.getD_eq_getElem?_getD, List.getElem?_eq_getElem hkb]
            rfl
          generalize a[i] = x at *
          generalize b[k] = y at *
          generalize (inT a b O i k).1[i + k] = o at *
          generalize (inT a b O i k).2 = c at *
          generalize (inT a b O i k).1 = L at *
          have lxy := mul_lt lx ly
          obtain ⟨p, hp⟩ : ∃ p, p = x * y := ⟨_, rfl⟩
          rw [← hp] at SX lxy
          have zp : IntKind.u64.wrap ((x : Int) * (y : Int)) = (p : Nat) := by rw [IntWalk.u64_in _ (by rw [← Int.natCast_mul, ← hp]; omega), ← Int.natCast_mul, ← hp]
          obtain ⟨t, ht⟩ : ∃ t, t = o + p + c := ⟨_, rfl⟩
          rw [← ht] at SX
          have ht2 : t < 4294967296 := by omega
          have HTT : Hid ((o : Int) + (p : Int) + (c : Int) = (t : Nat)) := by show _ = _; omega
          have zT : IntKind.u64.wrap ((o : Int) + (p : Int) + (c : Int)) = (o : Int) + (p : Int) + (c : Int) := IntWalk.u64_in _ (by omega)
          clear hbel SE l1 lx ly hp ht
          go_upto_region 9 with fail
          go_cut [9] from 28 to 46 (fun x wx => x = .int .u64 (t : Nat) ∧ Hid (wx.heap[nb]? = some (.cells (toC .u64 L) 34 (0, 0))) ∧ Hid (Below w.heap.size w wx))
          case first =>
            go_region
            all_goals go_wp2_with fail
            all_goals go_meet
            all_goals exact ⟨by first | rfl | rw [HTT.out], HC, by first | exact HBi | exact Lib.hid HBi.out.drew | exact Lib.hid (below_drews HBi.out _)⟩
          case rest =>
            obtain ⟨rfl, HC2, HB2⟩ := hcut
            have cq2 := toC_cell HC2.out (show i + k < L.length by have := LE.out; omega)
            have fq := free_at (i := i + k) HC2.out
            obtain ⟨r, hr⟩ : ∃ r, r = t % 65536 := ⟨_, rfl⟩
            obtain ⟨d, hd⟩ : ∃ d, d = t / 65536 := ⟨_, rfl⟩
            rw [← hr, ← hd] at SX
            have HTR : Hid ((t : Int) % 65536 = (r : Nat)) := by show _ = _; omega
            have HTD : Hid ((t : Int) / 65536 = (d : Nat)) := by show _ = _; omega
            have HR3 : Hid ((wc.setCell ⟨nb, i + k, none⟩ (.int .u64 (r : Nat))).heap[nb]? = some (.cells (toC .u64 (L.set (i + k) r)) 34 (0, 0))) := by
              show _ = _
              rw [set_block HC2.out, toC_set]
            have HB3 : Hid (Below w.heap.size w (wc.setCell ⟨nb, i + k, none⟩ (.int .u64 (r : Nat)))) := below_put HB2.out HNB.out _
            have zD : Hid (IntKind.u64.wrap ((t : Int) / 65536) = (d : Nat)) := by show _ = _; rw [IntWalk.u64_in _ (by omega)]; omega
            clear cq ca cb zp zT hr hd lz lxy l2 ht2 HTT
            go_wp2_with fail
            rw [HTR.out]
            go_roundg (m - (k + 1))
            case measure => omega
            case rel => exact ⟨k + 1, by omega, Nat.le_refl _, by go_num, by rw [SX.out, zD.out], by rw [SX.out]; exact HR3, HB3.out⟩
        · obtain rfl : m = k := by omega
          have i2 : ¬ (m : Int) < (m : Int) := by omega
          have hql : i + m < (inT a b O i m).1.length := by rw [HIL.out m]; omega
          have cq := toC_cell HC.out hql
          have fq := free_at (i := i + m) HC.out
          obtain ⟨l1, l2⟩ := HIO.out m
          have lz := l1 (i + m)
          have SX : Hid (outT a b (i + 1) = (inT a b O i m).1.set (i + m) ((inT a b O i m).1[i + m] + (inT a b O i m).2)) := by
            show _ = _
            rw [HS.out]
            unfold rowT
            rw [← HM.out, List.getD_eq_getElem?_getD, List.getElem?_eq_getElem hql]
            rfl
          rw [List.getD_eq_getElem?_getD, List.getElem?_eq_getElem hql] at lz
          simp only [Option.getD_some] at lz
          generalize (inT a b O i m).1[i + m] = o at *
          generalize (inT a b O i m).2 = c at *
          generalize (inT a b O i m).1 = L at *
          obtain ⟨t, ht⟩ : ∃ t, t = o + c := ⟨_, rfl⟩
          rw [← ht] at SX
          have HTT : Hid ((o : Int) + (c : Int) = (t : Nat)) := by show _ = _; omega
          have HR3 : Hid ((wr.setCell ⟨nb, i + m, none⟩ (.int .u64 (t : Nat))).heap[nb]? = some (.cells (toC .u64 (L.set (i + m) t)) 34 (0, 0))) := by
            show _ = _
            rw [set_block HC.out, toC_set]
          have HB3 : Hid (Below w.heap.size w (wr.setCell ⟨nb, i + m, none⟩ (.int .u64 (t : Nat)))) := below_put HBi.out HNB.out _
          clear hbel l1 ht
          go_wp2_with fail
          rw [HTT.out]
          go_roundg (n - (i + 1))
          case measure => omega
          case rel => exact ⟨i + 1, by omega, Nat.le_refl _, by go_num, by rw [SX.out]; exact HR3, HB3.out⟩
    · obtain rfl : n = i := by omega
      have i1 : ¬ (n : Int) < (n : Int) := by omega
      have FIN : Hid (GiveN .u64 (timesL a b) w (.returned (.slice (some ⟨nb, 0, none⟩) (n + m) (n + m))) wr) := by
        have h := toC_nums HK.out (by rw [HOL.out]; unfold maxLen; omega)
        rw [HOL.out] at h
        have e : timesL a b = outT a b n := by unfold timesL; rw [← HN.out]
        exact ⟨_, rfl, by rw [e]; exact h, hbel⟩
      clear hbel
      go_wp2_with fail
      go_ret
      exact FIN.out
end Go.Proofs.YtknefflbkaaooaaDoor.Slt
