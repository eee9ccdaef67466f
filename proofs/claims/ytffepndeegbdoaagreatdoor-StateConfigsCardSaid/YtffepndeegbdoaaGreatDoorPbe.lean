/- Salt: the program's begun and Seal. -/
import Derived.Test.YtffepndeegbdoaaGreatDoorPwr
set_option linter.unusedVariables false
set_option linter.unusedSimpArgs false
set_option maxRecDepth 100000
namespace Go.Proofs.YtffepndeegbdoaaGreatDoor.Slt
open Go.RowKit Go.Lib Go.Proofs.YtffepndeegbdoaaGreatDoor.Bx

def Z73 : Array Value := digC (List.replicate 8 0) (List.replicate 64 0) 0
def D0 : Array Value := digC H0 (List.replicate 64 0) 0
theorem zero73 : (Tryz.prog.info? 77).map (fun i => (i.zero, i.size)) = some (some (.agg Z73), 73) := by kernel_rfl
theorem built73 : Tryz.prog.built 77 [(0, .agg (toC .u32 H0))] = some D0 := by kernel_rfl
theorem zeros73 (w : World) : (zeroValue 77).run Tryz.prog w = .ok (.agg Z73) w := (zero_of_info zero73).1 w
theorem size73 : (Tryz.prog.info? 77).map (·.size) = some 73 := (zero_of_info zero73).2
theorem dsize (H B : List Nat) (n : Nat) (h : H.length = 8) (hb : B.length = 64) : (digC H B n).size = 73 := by
  unfold digC digL
  rw [List.size_toArray, List.length_append, List.length_append, List.length_map, List.length_map, h, hb]
  rfl
theorem done (H B : List Nat) (n : Nat) : (digC H B n).all (·.oneCell') = true := by
  rw [Array.all_eq_true_iff_forall_mem]
  intro x hx
  unfold digC digL at hx
  simp only [List.mem_toArray, List.mem_append, List.mem_map, List.mem_singleton] at hx
  rcases hx with ⟨y, _, rfl⟩ | ⟨y, _, rfl⟩ | rfl <;> rfl
theorem pbegun_any (w : World) : Calls Tryz.prog 46 #[] w fun e w' => e = .returned (.agg D0) ∧ Below w.heap.size w w' := by
  have ZV := zeros73
  have z8 : ¬ Z73.size < 8 := by unfold Z73; rw [dsize (List.replicate 8 0) (List.replicate 64 0) 0 rfl List.length_replicate]; decide
  have HN := Lib.hid (heap_alloc_new w (.cells Z73 77))
  have S1 : Hid ((Tryz.prog.info? 77).map (·.size) = some D0.size) := by show _ = _; unfold D0; rw [dsize H0 (List.replicate 64 0) 0 rfl List.length_replicate]; exact size73
  have S2 : Hid (Z73.size = D0.size) := by show _ = _; unfold D0 Z73; rw [dsize H0 (List.replicate 64 0) 0 rfl List.length_replicate, dsize (List.replicate 8 0) (List.replicate 64 0) 0 rfl List.length_replicate]
  go_enter Tryz.func46, Tryz.ntmps46
  go_wp2_with (first | refine wpList_store_row rfl _ _ _ rfl w.heap.size D0 rfl rfl _ _ HN.out S1.out S2.out (done _ _ _) ?_)
  have HF := setRow_heap (w.alloc (.cells Z73 77)) w.heap.size Z73 D0 77 (0, 0) HN.out
  refine bodyPost_ret (v := .agg D0) ?_ rfl ⟨rfl, below_row (below_al (Below.refl _ _) _) (Nat.le_refl _) _⟩
  exact results_cell_row rfl _ _ w.heap.size _ _ _ _ rfl HF Tryz.underlying77 rfl S1.out
theorem st_begun {g : Nat} {w : World} (h : w.heap[g]? = some (.cells D0 77 (0, 0))) : St g w [] := by
  have e : blocks [] (([] : List Nat).length / 64) = H0 := by
    rw [List.length_nil, Nat.zero_div]
    rfl
  unfold St
  rw [e, List.length_nil]
  refine ⟨List.replicate 64 0, ⟨rfl, List.length_replicate, h⟩, fun i => ?_, fun i hi => by simp at hi⟩
  rw [List.getD_eq_getElem?_getD, List.getElem?_replicate]
  split <;> simp
theorem pseal_any (s p : ByteArray) (w : World) (hs : s.size + p.size ≤ 9000) (hR : Roots w) : Calls Tryz.prog 20 #[.string s, .string p] w fun e w' => ∃ t, e = .returned (.string t) ∧ bytesN t = sealL (bytesN s) (bytesN p) ∧ Below w.heap.size w w' := by
  have ZV := zeros73
  have hw0 : 0 < w.heap.size := block_lt_of_cell (hR 0 (by decide))
  have HW := Lib.hid hw0
  have HRR := Lib.hid hR
  have C0 := Lib.hid (pbegun_any w)
  clear hR hw0
  have S1 : Hid ((Tryz.prog.info? 77).map (·.size) = some D0.size) := by show _ = _; unfold D0; rw [dsize H0 (List.replicate 64 0) 0 rfl List.length_replicate]; exact size73
  have S2 : Hid (Z73.size = D0.size) := by show _ = _; unfold D0 Z73; rw [dsize H0 (List.replicate 64 0) 0 rfl List.length_replicate, dsize (List.replicate 8 0) (List.replicate 64 0) 0 rfl List.length_replicate]
  go_enter Tryz.func20, Tryz.ntmps20
  go_wp2_with fail
  refine C0.out.mono ?_
  rintro e w1 ⟨rfl, b1⟩
  obtain ⟨g, hg⟩ : ∃ g, g = w1.heap.size := ⟨_, rfl⟩
  have HN := Lib.hid (heap_alloc_new w1 (.cells Z73 77))
  have HB1 := Lib.hid b1
  clear b1
  go_upto_region 2 with (refine wpList_store_row rfl _ _ _ rfl w1.heap.size D0 rfl rfl _ _ HN.out S1.out S2.out (done _ _ _) ?_)
  rw [World.setRow_alloc_new]
  obtain ⟨W2, hW2⟩ : ∃ W2, W2 = w1.alloc (.cells D0 77) := ⟨_, rfl⟩
  rw [← hW2, ← hg]
  have B2 : Hid (Below w.heap.size w W2) := by rw [hW2]; exact below_al HB1.out _
  have P2 : Hid (W2.heap[g]? = some (.cells D0 77 (0, 0))) := by show _ = _; rw [hW2, hg]; exact heap_alloc_new _ _
  have HGW : Hid (w.heap.size ≤ g) := by show _ ≤ _; rw [hg]; exact HB1.out.size
  have HG0 : Hid (0 < g) := Nat.lt_of_lt_of_le HW.out HGW.out
  have R2 : Hid (Roots W2) := HRR.out.below B2.out HW.out
  have C1 := Lib.hid (pputText_any g [] s W2 (st_begun P2.out) (by show 0 + s.size < _; omega) R2.out HG0.out)
  clear hW2 hg HN S1 S2 ZV
  go_wp2_with fail
  refine C1.out.mono ?_
  rintro e w3 ⟨rfl, st3, g3⟩
  rw [List.nil_append] at st3
  have R3 : Hid (Roots w3) := R2.out.grown g3 HG0.out (by have := (Array.getElem?_eq_some_iff.1 P2.out).1; omega)
  have hw3 : 0 < w3.heap.size := block_lt_of_cell (R3.out 0 (by decide))
  have C2 := Lib.hid (pput_any g (bytesN s) 0 w3 st3 (by decide) (by rw [bytesN_len]; omega) R3.out HG0.out)
  have G3 := Lib.hid g3
  clear st3 g3 C1
  go_wp2_with fail
  refine C2.out.mono ?_
  rintro e w4 ⟨rfl, st4, g4⟩
  have R4 : Hid (Roots w4) := R3.out.grown g4 HG0.out hw3
  have hw4 : 0 < w4.heap.size := block_lt_of_cell (R4.out 0 (by decide))
  have C3 := Lib.hid (pputText_any g (bytesN s ++ [0]) p w4 st4 (by rw [List.length_append, bytesN_len]; show s.size + 1 + p.size < _; omega) R4.out HG0.out)
  have G4 := Lib.hid (grown_trans G3.out g4)
  clear st4 g4 C2 hw3
  go_wp2_with fail
  refine C3.out.mono ?_
  rintro e w5 ⟨rfl, st5, g5⟩
  have R5 : Hid (Roots w5) := R4.out.grown g5 HG0.out hw4
  have C4 := Lib.hid (pend_any g (bytesN s ++ [0] ++ bytesN p) w5 st5 (by rw [List.length_append, List.length_append, bytesN_len, bytesN_len]; show s.size + 1 + p.size < _; omega) R5.out HG0.out)
  obtain ⟨X, hX⟩ : ∃ X, X = padL (bytesN s ++ [0] ++ bytesN p) := ⟨_, rfl⟩
  rw [← hX] at C4
  obtain ⟨H, hH⟩ : ∃ H, H = blocks X (X.length / 64) := ⟨_, rfl⟩
  rw [← hH] at C4
  have H8 : Hid (H.length = 8) := by rw [hH]; exact blocks_len _ _
  have H32 : Hid (B32 H) := by rw [hH]; exact blocks_ok _ _
  have HE : Hid (sealL (bytesN s) (bytesN p) = hexL (H.flatMap bytes4)) := by
    show _ = _
    unfold sealL sumL
    rw [← hX, hH]
  clear hX hH
  have G5 := Lib.hid (grown_trans G4.out g5)
  clear st5 g5 C3 hw4
  go_wp2_with fail
  refine C4.out.mono ?_
  rintro e w6 ⟨rfl, g6⟩
  have G6 : Hid (Below w.heap.size w w6) := grown_to B2.out (grown_trans G5.out g6) HGW.out B2.out.size
  have C5 := Lib.hid (pwritten_any H w6 H8.out H32.out)
  clear g6 C4
  go_wp2_with fail
  refine C5.out.mono ?_
  rintro e w7 ⟨t, rfl, ht, b7⟩
  have HT : Hid (bytesN t = sealL (bytesN s) (bytesN p)) := by
    show _ = _
    rw [HE.out]
    exact ht
  have G7 := Lib.hid (below_on G6.out b7)
  clear ht b7 C5
  go_wp2_with fail
  go_ret
  exact ⟨t, rfl, HT.out, G7.out⟩
end Go.Proofs.YtffepndeegbdoaaGreatDoor.Slt
