/- Words: a list of numbers read by the plain text's reader. -/
import Derived.Test.YthegkookfpnbeaaGg
set_option linter.unusedVariables false
set_option linter.unusedSimpArgs false
set_option maxRecDepth 100000
namespace Go.Proofs.Ythegkookfpnbeaa.Wds
open Go.RowKit Go.Lib Go.Proofs.Ythegkookfpnbeaa.Bx Go.Proofs.Ythegkookfpnbeaa.Frm

theorem infoI : (Try.prog.info? 3).map (fun i => (i.zero, i.size, i.bytes)) = some (some (.int .i64 0), 1, 8) := by kernel_rfl
def cellsI (xs : List Int) : List (List Value) := xs.map fun x => [Value.int .i64 x]
theorem cellsI_len (xs : List Int) : (cellsI xs).length = xs.length := List.length_map _
theorem cellsI_app (X Y : List Int) : cellsI (X ++ Y) = cellsI X ++ cellsI Y := List.map_append
theorem cellsI_one (X : List Int) : ∀ z ∈ cellsI X, ∀ q ∈ z, q.oneCell' = true := fun z hz q hq => by
  obtain ⟨x, _, rfl⟩ := List.mem_map.1 hz
  simp only [List.mem_singleton] at hq
  subst hq
  rfl
def readN : Nat → Rd → List Int × Rd
  | 0, r => ([], r)
  | k + 1, r => if r.bad = true then ([], r) else ((numR r).1 :: (readN k (numR r).2).1, (readN k (numR r).2).2)
theorem read_bad {k : Nat} {r : Rd} (h : r.bad = true) : readN k r = ([], r) := by
  cases k with
  | zero => rfl
  | succ k => exact if_pos h
theorem read_next {k : Nat} {r : Rd} (h : r.bad = false) : readN (k + 1) r = ((numR r).1 :: (readN k (numR r).2).1, (readN k (numR r).2).2) := if_neg (by rw [h]; decide)
def listR (r : Rd) : List Int × Rd := readN (lenR r).1 (lenR r).2
set_option maxHeartbeats 8000000 in
theorem list_rd (r : Rd) (B : Nat) (w : World) (h : At w B r) : Calls Try.prog 52 #[.pointer (some ⟨B, 0, none⟩)] w fun e w' => ∃ v, e = .returned v ∧ Rk.OwnK 3 1 w.heap.size w' v (cellsI (listR r).1) ∧ At w' B (listR r).2 ∧ w.grownBy w' (some B) := by
  have C := Lib.hid (len_rd r B w h)
  have HBW : Hid (B < w.heap.size) := h.cells.2.2
  obtain ⟨n, hn⟩ : ∃ n, n = (lenR r).1 := ⟨_, rfl⟩
  obtain ⟨r0, hr0⟩ : ∃ r0, r0 = (lenR r).2 := ⟨_, rfl⟩
  have HR : Hid (listR r = readN n r0 ∧ n < 256) := ⟨by rw [hn, hr0]; rfl, by rw [hn]; exact UInt8.toNat_lt _⟩
  rw [← hn, ← hr0] at C
  have n256 : n < 256 := HR.out.2
  clear hn hr0 h
  go_enter Try.func52, Try.ntmps52
  go_wp2_with fail
  refine C.out.mono ?_
  rintro e w1 ⟨rfl, K1, G1⟩
  have HK1 := Lib.hid K1
  have HG1 := Lib.hid G1
  clear K1 G1 C
  go_wp2_with fail
  go_loopg [3, 5] n (fun g v_ i_ wr => ∃ (i : Nat) (X : List Int) (rr : Rd), i ≤ n ∧ n - i ≤ g ∧ i_ = .int .i64 i ∧ (∃ a c, v_ = .slice a i c) ∧ X.length = i ∧ Hid (readN n r0 = (X ++ (readN (n - i) rr).1, (readN (n - i) rr).2)) ∧ Hid (Rk.OwnK 3 1 w.heap.size wr v_ (cellsI X)) ∧ Hid (At wr B rr) ∧ Hid (w.grownBy wr (some B)))
  case atStart => exact ⟨0, [], r0, by omega, by omega, rfl, ⟨_, _, rfl⟩, rfl, rfl, Rk.OwnK.nil_ _ _ _ _, HK1, HG1⟩
  case round =>
    obtain ⟨i, X, rr, hi, hg, rfl, ⟨oa, oc, rfl⟩, hX, HQ, HO, HK, HG⟩ := hrel
    obtain ⟨c0, c1, hB⟩ := HK.out.cells
    by_cases hin : i < n
    · have iw : ((i : Nat) : Int) < (n : Int) := by omega
      have d1 : decide (((i : Nat) : Int) < (n : Int)) = true := decide_eq_true iw
      obtain ⟨l, b⟩ := rr
      cases b with
      | true =>
        have HF : Hid (listR r = (X, ⟨l, true⟩)) := by
          show _ = _
          rw [HR.out.1, HQ.out, read_bad rfl, List.append_nil]
        simp only at c0 c1
        clear HQ
        go_wp2_with fail
        go_ret
        exact ⟨_, rfl, by rw [HF.out]; exact HO.out, by rw [HF.out]; exact HK.out, HG.out⟩
      | false =>
        have C2 := Lib.hid (number_rd ⟨l, false⟩ B wr HK.out)
        obtain ⟨z, hz⟩ : ∃ z, z = (numR ⟨l, false⟩).1 := ⟨_, rfl⟩
        obtain ⟨r2, hr2⟩ : ∃ r2, r2 = (numR ⟨l, false⟩).2 := ⟨_, rfl⟩
        have HQ2 : Hid (readN n r0 = ((X ++ [z]) ++ (readN (n - (i + 1)) r2).1, (readN (n - (i + 1)) r2).2)) := by
          show _ = _
          rw [HQ.out, show n - i = n - (i + 1) + 1 by omega, read_next rfl, hz, hr2]
          simp
        rw [← hz, ← hr2] at C2
        simp only at c0 c1
        have HXL : Hid (X.length = i) := hX
        clear hz hr2 HQ hX
        go_wp2_with fail
        refine C2.out.mono ?_
        rintro e w5 ⟨rfl, K5, G5⟩
        have HKO : Hid (Rk.OwnK 3 1 w.heap.size w5 (.slice oa i oc) (cellsI X)) := HO.out.kept G5 (.inr (HO.out.low HBW.out))
        have HG5 := Lib.hid (grown_trans HG.out G5)
        have A1 : Hid (Rk.OwnK 3 1 w.heap.size (w5.alloc (.cells #[.int .i64 z] 3)) (.slice oa i oc) (cellsI X)) := HKO.out.below (below_al (Below.refl _ _) _)
        have A2 : Hid (Rk.RowK 1 (w5.alloc (.cells #[.int .i64 z] 3)) (.slice (some ⟨w5.heap.size, 0, none⟩) 1 1) (cellsI [z])) := Rk.row_one (e := 3) (heap_alloc_new _ _) rfl
        have A3 : Hid ((cellsI X).length + (cellsI [z]).length ≤ 100000) := by show _ ≤ _; rw [cellsI_len, cellsI_len, HXL.out, List.length_singleton]; have := HR.out.2; omega
        have A4 : Hid (w.heap.size ≤ (w5.alloc (.cells #[.int .i64 z] 3)).heap.size) := Nat.le_trans HG5.out.size (by exact (below_al (Below.refl w5.heap.size w5) _).size)
        have HK6 : Hid (At (w5.alloc (.cells #[.int .i64 z] 3)) B r2) := K5.kept (grown_of _ _ (below_al (Below.refl _ _) _) _)
        have HG6 : Hid (w.grownBy (w5.alloc (.cells #[.int .i64 z] 3)) (some B)) := grown_below HG5.out (below_al (Below.refl _ _) _)
        clear K5 G5 C2 HKO HK HG HO c0 c1 HG5
        go_wp2_with (at_builtin; refine Rk.wpList_append_rowk rfl _ _ 117 3 1 8 _ Try.underlying117 infoI rfl (by decide) (by decide) rfl w.heap.size _ _ (cellsI X) (cellsI [z]) rfl rfl A1.out A2.out (cellsI_one _) A3.out A4.out ?_)
        intro v6 w9 h5 g5 k5
        rw [← cellsI_app] at h5
        have hlow : (Value.slice oa i oc).ownBlock ≠ some B := A1.out.low HBW.out
        have K9 : Hid (At w9 B r2) := (g5.block B HK6.out.cells.2.2 (fun e => hlow e.symm)).trans HK6.out
        have G9 : Hid (w.grownBy w9 (some B)) := ⟨g5.os.trans HG6.out.os, g5.tape.trans HG6.out.tape, g5.output.trans HG6.out.output, Nat.le_trans HG6.out.size g5.size, fun k hk hne => (g5.block k (Nat.lt_of_lt_of_le hk HG6.out.size) (fun e => A1.out.low hk e.symm)).trans (HG6.out.block k hk hne)⟩
        have HO9 := Lib.hid h5
        obtain ⟨a6, c6, rfl⟩ := h5.is_slice
        have hl1 : (cellsI (X ++ [z])).length = i + 1 := by rw [cellsI_len, List.length_append, HXL.out]; rfl
        rw [hl1] at HO9 ⊢
        clear h5 g5 k5 A1 A2 A3 A4 hlow hl1 HK6 HG6
        go_wp2_with fail
        go_roundg (n - (i + 1))
        case measure => omega
        case rel => exact ⟨i + 1, X ++ [z], r2, by omega, Nat.le_refl _, by go_num, ⟨_, _, rfl⟩, by rw [List.length_append, HXL.out]; rfl, HQ2, HO9, K9, G9⟩
    · obtain rfl : i = n := by omega
      have iw : ¬ ((i : Int) < (i : Int)) := by omega
      have d1 : decide (((i : Nat) : Int) < (i : Int)) = false := decide_eq_false iw
      have HF : Hid (listR r = (X, rr)) := by
        show _ = _
        rw [HR.out.1, HQ.out, Nat.sub_self]
        show (X ++ [], rr) = _
        rw [List.append_nil]
      clear HQ
      go_wp2_with fail
      go_ret
      exact ⟨_, rfl, by rw [HF.out]; exact HO.out, by rw [HF.out]; exact HK.out, HG.out⟩
end Go.Proofs.Ythegkookfpnbeaa.Wds
