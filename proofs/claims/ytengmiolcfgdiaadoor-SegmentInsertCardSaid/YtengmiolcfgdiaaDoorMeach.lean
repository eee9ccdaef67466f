/- Contract: each, of the plain text: the mark of each letter. -/
import Derived.Test.YtengmiolcfgdiaaDoorMright
import Derived.OwnWalk
import Derived.Laws.MakeOwn
set_option linter.unusedVariables false
namespace Go.Proofs.YtengmiolcfgdiaaDoor.Rig
open Go.RowKit Go.Lib Go.Proofs.YtengmiolcfgdiaaDoor.Rt

theorem infoInt : (Tryd.prog.info? 3).map (fun i => (i.zero, i.size, i.bytes)) = some (some (.int .i64 0), 1, 8) := by kernel_rfl

def lst (S : List Sp) (i n : Nat) : List Int := (List.range n).map fun x : Nat => lastAt (S.take i) (x : Int)
def mid (S : List Sp) (i : Nat) (k : Int) (n : Nat) : List Int := (List.range n).map fun x : Nat => if (sp S i).f ≤ (x : Int) ∧ (x : Int) < k then (sp S i).m else lastAt (S.take i) (x : Int)
theorem mid_start (S : List Sp) (i n : Nat) : mid S i (sp S i).f n = lst S i n := by
  unfold mid lst
  refine List.map_congr_left fun x _ => ?_
  rw [if_neg (by omega)]
theorem mid_end {S : List Sp} {i n : Nat} (hi : i < S.length) : mid S i (sp S i).t n = lst S (i + 1) n := by
  unfold mid lst
  refine List.map_congr_left fun x _ => ?_
  rw [List.take_succ_eq_append_getElem hi, lastAt_snoc, sp_get hi]
theorem mid_set {S : List Sp} {i n k : Nat} (hk : k < n) (hf : (sp S i).f ≤ (k : Int)) : (mid S i k n).set k (sp S i).m = mid S i ((k : Int) + 1) n := by
  apply List.ext_getElem?
  intro j
  unfold mid
  rw [List.getElem?_set, List.length_map, List.length_range]
  by_cases hj : j < n
  · rw [List.getElem?_map, List.getElem?_map, List.getElem?_range hj]
    simp only [Option.map_some]
    by_cases e : k = j
    · subst e
      rw [if_pos rfl, if_pos hj, if_pos (by omega)]
    · rw [if_neg e]
      by_cases c : (sp S i).f ≤ (j : Int) ∧ (j : Int) < (k : Int)
      · rw [if_pos c, if_pos (by omega)]
      · rw [if_neg c, if_neg (by omega)]
  · rw [if_neg (by omega), List.getElem?_eq_none (by simp; omega), List.getElem?_eq_none (by simp; omega)]
theorem mid_len (S : List Sp) (i : Nat) (k : Int) (n : Nat) : (mid S i k n).length = n := by simp [mid]
theorem lst_len (S : List Sp) (i n : Nat) : (lst S i n).length = n := by simp [lst]
theorem lst_all (S : List Sp) (n : Nat) : lst S S.length n = letters S n := by
  unfold lst letters
  rw [List.take_length]
theorem lst_zero (S : List Sp) (n : Nat) : ints (lst S 0 n) = List.replicate n (.int .i64 0) := by
  apply List.ext_getElem?
  intro j
  unfold lst ints
  by_cases hj : j < n
  · rw [List.map_map, List.getElem?_map, List.getElem?_range hj, List.getElem?_replicate, if_pos hj]
    rfl
  · rw [List.getElem?_eq_none (by simp; omega), List.getElem?_eq_none (by simp; omega)]
theorem lastAt_i64 {S : List Sp} (h : ∀ j, j < S.length → i64 (sp S j).m) (x : Int) : ∀ i, i64 (lastAt (S.take i) x)
  | 0 => by simp [lastAt, i64]
  | i + 1 => by
    by_cases hi : i < S.length
    · rw [List.take_succ_eq_append_getElem hi, lastAt_snoc]
      have := h i hi
      rw [sp_get hi] at this
      split
      · exact this
      · exact lastAt_i64 h x i
    · have := lastAt_i64 h x i
      rwa [List.take_of_length_le (by omega), ← List.take_of_length_le (show S.length ≤ i by omega)]
theorem ints_set (xs : List Int) (j : Nat) (x : Int) : (ints xs).set j (.int .i64 x) = ints (xs.set j x) := by
  unfold ints
  rw [List.map_set]

/-- It hands the letters' marks back, in a new row. -/
def NewE (w : World) (n : Nat) (ys : List Int) (e : Ending) (w' : World) : Prop := e = .returned (.slice (some ⟨w.heap.size + 1, 0, none⟩) n n) ∧ OwnI w.heap.size w' (.slice (some ⟨w.heap.size + 1, 0, none⟩) n n) ys ∧ Below w.heap.size w w'

set_option maxRecDepth 100000 in
set_option maxHeartbeats 4000000 in
theorem each_any {sv tv : Value} {S : List Sp} {T : List St} (n : Nat) (w : World) (hS : Spans w sv S) (hT : Sites w tv T) (hn : n ≤ 100000) (hok : ∀ j, j < S.length → 0 ≤ (sp S j).f ∧ (sp S j).f ≤ (sp S j).t ∧ (sp S j).t ≤ (n : Int)) :
    Calls Tryd.prog 75 #[.agg #[sv, tv], .int .i64 n] w (NewE w n (letters S n)) := by
  obtain ⟨sa, sc, rfl, hls, hcs, hS1⟩ := hS.open_
  obtain ⟨ta, tc, rfl⟩ := hT.is_slice
  have HS := Lib.hid hS1
  have HOK := Lib.hid hok
  have HI := Lib.hid (lastAt_i64 (S := S) (fun j hj => by obtain ⟨b, off, _, _, g, _⟩ := hS1 j hj; exact g.1))
  obtain ⟨ns, hns⟩ : ∃ ns, ns = S.length := ⟨_, rfl⟩
  rw [← hns] at hls ⊢
  generalize T.length = nt at *
  replace hns := Lib.hid hns
  obtain ⟨i0, hi, hz0, hz1, hz2⟩ := info_parts infoInt
  obtain ⟨W0, hW0⟩ : ∃ W0, W0 = w.alloc (.cells #[.slice sa ns sc, .slice ta nt tc] 69) := ⟨_, rfl⟩
  have b0 : Below w.heap.size w W0 := by rw [hW0]; exact (Below.refl _ _).alloc (Nat.le_refl _) _
  have h0 : W0.heap[w.heap.size]? = some (.cells #[.slice sa ns sc, .slice ta nt tc] 69 (0, 0)) := by rw [hW0]; exact heap_alloc_new _ _
  have l0 : w.heap.size < W0.heap.size := by rw [hW0]; simp
  have z0 : W0.heap.size = w.heap.size + 1 := by rw [hW0]; simp
  have HW0 := Lib.hid hW0
  have A1 : Hid (i0.bytes * n ≤ 281474976710656) := by show _ ≤ _; rw [hz2]; omega
  have A2 : Hid (n ≤ maxLen) := by show _ ≤ _; unfold maxLen; omega
  have A3 : Hid (w.heap.size ≤ (w.alloc (.cells #[.slice sa ns sc, .slice ta nt tc] 69)).heap.size) := by show _ ≤ _; simp
  have H0 := Lib.hid h0
  have B0 := Lib.hid b0
  have Z0 := Lib.hid z0
  clear hS1 hS hT h0 hW0 b0 hok z0
  go_enter Tryd.func75, Tryd.ntmps75
  go_wp2_with (at_make; refine wpList_make_full _ rfl _ _ 85 rfl w.heap.size 3 i0 (.int .i64 0) 1 Tryd.underlying85 hi hz0 hz1 .i64 .i64 _ _ n rfl rfl rfl rfl A1.out A2.out A3.out ?_)
  intro w1 hown hgr
  rw [← HW0.out] at hgr
  have hR : Hid (w1.ownsRow w.heap.size 3 1 (.slice (some ⟨w.heap.size + 1, 0, none⟩) n n) n (ints (lst S 0 n))) := by
    show World.ownsRow _ _ _ _ _ _ _
    rw [lst_zero, ← toList_madeCells_one]
    exact hown
  have hB : Hid (Below W0.heap.size W0 w1) := ⟨hgr.os, hgr.tape, hgr.output, hgr.size, fun k hk => hgr.block k hk (by simp)⟩
  have BX : Hid (∀ w', Below W0.heap.size W0 w' → w'.cell? ⟨w.heap.size, 0, none⟩ = some (.slice sa ns sc)) := fun w' hb => below_cell hb l0 (by rw [cell_of_row _ _ _ _ _ _ H0.out]; rfl)
  have gz : W0.heap.size ≤ w.heap.size + 1 := by have := Z0.out; omega
  clear hown hgr A1 A2 A3 hi hz0 hz1 hz2
  go_wp2_with fail
  go_loopg [6] ns (fun gg t wr => ∃ i : Nat, t = .int .i64 i ∧ i ≤ ns ∧ gg = ns - i ∧ Hid (wr.ownsRow w.heap.size 3 1 (.slice (some ⟨w.heap.size + 1, 0, none⟩) n n) n (ints (lst S i n))) ∧ Below W0.heap.size W0 wr)
  case atStart => exact ⟨0, rfl, Nat.zero_le _, by omega, hR.out, hB.out⟩
  case round =>
    obtain ⟨i, rfl, hin, rfl, HR, hbel⟩ := hrel
    have x0 := BX.out _ hbel
    by_cases hlt : i < ns
    · have hil : i < S.length := by rw [← hns.out]; exact hlt
      obtain ⟨wo, hwo⟩ : ∃ wo : World, wo = wr := ⟨_, rfl⟩
      subst hwo
      obtain ⟨b, off, rfl, hb, ⟨⟨m1, m2⟩, ⟨f1, f2⟩, ⟨t1, t2⟩⟩, c0, c1, c2⟩ := HS.out i hil
      obtain ⟨k1, k2, k3⟩ := HOK.out i hil
      have CC : Hid (∀ w', Below W0.heap.size W0 w' → w'.cell? ⟨b, off + i * 3, none⟩ = some (.int .i64 (sp S i).m) ∧ w'.cell? ⟨b, off + i * 3 + 1, none⟩ = some (.int .i64 (sp S i).f) ∧ w'.cell? ⟨b, off + i * 3 + 2, none⟩ = some (.int .i64 (sp S i).t)) := fun w' hb' => by
        have q := below_more B0.out hb'
        exact ⟨below_cell q hb c0, below_cell q hb c1, below_cell q hb c2⟩
      have MS := Lib.hid (mid_start S i n)
      have ME := Lib.hid (mid_end (n := n) hil)
      have MT := Lib.hid (fun (k : Nat) (h : k < n) (hf : (sp S i).f ≤ (k : Int)) => mid_set (S := S) (i := i) h hf)
      obtain ⟨e0, e1, e2⟩ := CC.out _ hbel
      have HB := Lib.hid hbel
      clear c0 c1 c2 HS HOK hR hB hbel
      generalize (sp S i).m = m at *
      generalize (sp S i).f = f at *
      generalize (sp S i).t = t at *
      have HRs : Hid (wo.ownsRow w.heap.size 3 1 (.slice (some ⟨w.heap.size + 1, 0, none⟩) n n) n (ints (mid S i f n))) := by
        show World.ownsRow _ _ _ _ _ _ _
        rw [MS.out]
        exact HR.out
      go_wp2_with fail
      go_loopg [7] (t - f).toNat (fun g2 kk wx => ∃ k : Nat, kk = .int .i64 k ∧ f ≤ (k : Int) ∧ (k : Int) ≤ t ∧ g2 = (t - k).toNat ∧ Hid (wx.ownsRow w.heap.size 3 1 (.slice (some ⟨w.heap.size + 1, 0, none⟩) n n) n (ints (mid S i k n))) ∧ Below W0.heap.size W0 wx)
      case atStart =>
        refine ⟨f.toNat, ?_, by omega, by omega, by congr 1; omega, ?_, HB.out⟩
        · rw [show ((f.toNat : Nat) : Int) = f by omega]
        · rw [show ((f.toNat : Nat) : Int) = f by omega]
          exact HRs.out
      case round =>
        obtain ⟨k, rfl, hk1, hk2, rfl, HK, hbk⟩ := hrel
        obtain ⟨e0, e1, e2⟩ := CC.out _ hbk
        have x0 := BX.out _ hbk
        by_cases hkt : (k : Int) < t
        · have hkn : k < n := by omega
          have hst := World.ownsRow.stored HK.out k (.int .i64 m)
          rw [ints_set, MT.out k hkn hk1] at hst
          have HN := Lib.hid hst.1
          have HBN := Lib.hid (hbk.setCell (p := ⟨w.heap.size + 1, k, none⟩) gz (.int .i64 m))
          obtain ⟨u, hu⟩ : ∃ u, wr.cell? ⟨w.heap.size + 1, k, none⟩ = some u := by
            have := World.ownsRow.cellAt HK.out k (by omega)
            rw [this, ints_get (by rw [mid_len]; exact hkn)]
            exact ⟨_, rfl⟩
          have fz := World.ownsRow.frozenAt HK.out k
          have kz : (0 : Int) ≤ (k : Int) := by omega
          clear hst HK hbk
          go_wp2_with fail
          go_roundg (t - ((k : Int) + 1)).toNat
          case measure => omega
          case rel => exact ⟨k + 1, by go_num, by omega, by omega, by congr 1, by rw [show ((k + 1 : Nat) : Int) = (k : Int) + 1 by omega]; exact HN.out, HBN.out⟩
        · have HE : Hid (wr.ownsRow w.heap.size 3 1 (.slice (some ⟨w.heap.size + 1, 0, none⟩) n n) n (ints (lst S (i + 1) n))) := by
            show World.ownsRow _ _ _ _ _ _ _
            rw [← ME.out, show t = (k : Int) by omega]
            exact HK.out
          have HBK := Lib.hid hbk
          clear HK hbk
          go_wp2_with fail
          go_roundg (ns - (i + 1))
          case measure => omega
          case rel => exact ⟨i + 1, by go_num, by omega, rfl, HE.out, HBK.out⟩
    · obtain rfl : i = ns := by omega
      have HBE := Lib.hid hbel
      clear HS HOK hR hB hbel
      go_wp2_with fail
      go_ret
      refine ⟨rfl, ⟨?_, ?_⟩, below_more B0.out HBE.out⟩
      · have q := HR.out
        rw [hns.out, lst_all] at q
        have e : (letters S n).length = n := by simp [letters]
        rw [e]
        exact q
      · intro x hx
        unfold letters at hx
        rw [List.mem_map] at hx
        obtain ⟨y, _, rfl⟩ := hx
        have := HI.out (y : Int) S.length
        rwa [List.take_length] at this
end Go.Proofs.YtengmiolcfgdiaaDoor.Rig
