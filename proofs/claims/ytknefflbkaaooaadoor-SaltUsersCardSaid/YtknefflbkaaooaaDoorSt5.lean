/- Salt: Table of the plain text. -/
import Derived.Test.YtknefflbkaaooaaDoorSt4
set_option linter.unusedVariables false
set_option linter.unusedSimpArgs false
set_option maxRecDepth 100000
namespace Go.Proofs.YtknefflbkaaooaaDoor.Slt
open Go.RowKit Go.Lib Go.Proofs.YtknefflbkaaooaaDoor.Bx

def tableL (n power : Nat) : List Nat := (primes64.take n).map (rootN · power)
theorem infoU32 : (Tryd.prog.info? 31).map (fun i => (i.zero, i.size, i.bytes)) = some (some (.int .u32 0), 1, 4) := by kernel_rfl
theorem rootN_lt (p power : Nat) : rootN p power < 4294967296 := Nat.mod_lt _ (by decide)
theorem OwnN.lower {k : IntKind} {e : TypeId} {base base' : Nat} {w : World} {v : Value} {l : List Nat} (h : OwnN k e base w v l) (hb : base' ≤ base) : OwnN k e base' w v l := by
  refine ⟨h.1, h.2.1, ?_⟩
  rcases h.2.2 with h0 | ⟨g, cap, cur, h1, h2, h3⟩
  · exact .inl h0
  · exact .inr ⟨g, cap, cur, h1, Nat.le_trans hb h2, h3⟩
/-- A row of the call's own. -/
def GiveO (l : List Nat) (w : World) (e : Ending) (w' : World) : Prop := ∃ v, e = .returned v ∧ OwnN .u32 31 w.heap.size w' v l ∧ Below w.heap.size w w'
set_option maxHeartbeats 8000000 in
theorem table_own (n power : Nat) (w : World) (hn : n ≤ 64) (h2 : 1 ≤ power) (h3 : power ≤ 3) : Calls Tryd.prog 23 #[.int .i64 (n : Nat), .int .i64 (power : Nat)] w (GiveO (tableL n power) w) := by
  obtain ⟨Q, hQ⟩ : ∃ Q, Q = primes64.take n := ⟨_, rfl⟩
  have HQL : Hid (Q.length = n) := by
    show _ = _
    have e : primes64.length = 64 := by decide
    rw [hQ, List.length_take]
    omega
  have HQB : Hid (∀ i (hi : i < Q.length), Q[i] ≤ 1000000) := fun i hi => by
    have h : ∀ x ∈ primes64, x ≤ 1000000 := by decide
    exact h _ (List.mem_of_mem_take (by rw [← hQ]; exact List.getElem_mem hi))
  have CP : Hid (Calls Tryd.prog 30 #[.int .i64 (n : Nat)] w (GiveN .i64 Q w)) := by rw [hQ]; exact primes_any n w hn
  have CR : Hid (∀ (p : Nat) (w' : World), p ≤ 1000000 → Calls Tryd.prog 31 #[.int .i64 (p : Nat), .int .i64 (power : Nat)] w' fun e w'' => e = .returned (.int .u32 (rootN p power : Nat)) ∧ Below w'.heap.size w' w'') := fun p w' hp => root_any p power w' h2 h3 hp
  have HT : Hid (tableL n power = Q.map (rootN · power)) := by show _ = _; unfold tableL; rw [hQ]
  clear hQ h2 h3
  go_enter Tryd.func23, Tryd.ntmps23
  go_wp2_with fail
  refine (CP.out).mono ?_
  rintro e w1 ⟨v1, rfl, n1, b1⟩
  have HB1 := Lib.hid b1
  obtain ⟨pa, pc, rfl, p1, p2, p3⟩ := n1
  have HPC : Hid (∀ w', Below w1.heap.size w1 w' → ∀ i (hi : i < Q.length), ∃ b off, pa = some ⟨b, off, none⟩ ∧ b < w1.heap.size ∧ w'.cell? ⟨b, off + i, none⟩ = some (.int .i64 (Q[i] : Nat))) := fun w' hb i hi => by
    obtain ⟨b, off, e, hlt, hc⟩ := p3 i hi
    exact ⟨b, off, e, hlt, vcell hb hlt hc⟩
  rw [HQL.out] at p1 ⊢
  unfold maxLen at p2
  clear b1 CP p3
  go_wp2_with fail
  go_loopg [5, 7] n (fun g l_ i_ wr => ∃ i : Nat, i ≤ n ∧ n - i ≤ g ∧ i_ = .int .i64 i ∧ Hid (OwnN .u32 31 w1.heap.size wr l_ ((Q.take i).map (rootN · power))) ∧ Below w1.heap.size w1 wr)
  case atStart => exact ⟨0, Nat.zero_le _, by omega, rfl, Rk.OwnK.nil_ _ _ _ _, Below.refl _ _⟩
  case round =>
    obtain ⟨i, hi, hg, rfl, HO, hbel⟩ := hrel
    have HB := Lib.hid hbel
    obtain ⟨ao, co, rfl⟩ := HO.out.is_slice
    by_cases hlt : i < n
    · have hiq : i < Q.length := by rw [HQL.out]; exact hlt
      have i1 : (i : Int) < (n : Int) := by omega
      obtain ⟨pb, po, rfl, plt, cp⟩ := HPC.out _ hbel i hiq
      have EQ : Hid ((Q.take (i + 1)).map (rootN · power) = (Q.take i).map (rootN · power) ++ [rootN Q[i] power]) := by
        show _ = _
        rw [List.take_succ_eq_append_getElem hiq, List.map_append]
        rfl
      have CR1 := Lib.hid (CR.out Q[i] wr (HQB.out i hiq))
      have HLn : Hid (((Q.take i).map (rootN · power)).length = i) := by show _ = _; rw [List.length_map, List.length_take]; omega
      generalize Q[i] = p at *
      obtain ⟨r, hr⟩ : ∃ r, r = rootN p power := ⟨_, rfl⟩
      rw [← hr] at CR1 EQ
      rw [HLn.out] at HO ⊢
      obtain ⟨xs, hxs⟩ : ∃ xs, xs = ((Q.take i).map (rootN · power)).map fun x => [Value.int .u32 (x : Nat)] := ⟨_, rfl⟩
      have HXS := Lib.hid hxs
      have HOX : Hid (∀ w', Below wr.heap.size wr w' → Rk.OwnK 31 1 w1.heap.size w' (.slice ao i co) xs) := fun w' hb => by rw [hxs]; exact Rk.OwnK.below HO.out hb
      have HXL : Hid (xs.length + 1 ≤ 100000) := by show _ ≤ _; rw [hxs, List.length_map, HLn.out]; omega
      clear hbel hr hxs HO
      go_wp2_with fail
      refine (CR1.out).mono ?_
      rintro e w3 ⟨rfl, b3⟩
      have K3 := Lib.hid b3
      have HB3 := Lib.hid (below_on HB.out b3)
      have A1 : Hid (Rk.OwnK 31 1 w1.heap.size (w3.alloc (.cells #[.int .u32 (r : Nat)] 31)) (.slice ao i co) xs) := HOX.out _ (below_al K3.out _)
      have A2 : Hid (Rk.RowK 1 (w3.alloc (.cells #[.int .u32 (r : Nat)] 31)) (.slice (some ⟨w3.heap.size, 0, none⟩) 1 1) [[.int .u32 (r : Nat)]]) := Rk.row_one (e := 31) (heap_alloc_new _ _) rfl
      have HBY : Hid (Below w1.heap.size w1 (w3.alloc (.cells #[.int .u32 (r : Nat)] 31))) := below_al HB3.out _
      have A4 : Hid (w1.heap.size ≤ (w3.alloc (.cells #[.int .u32 (r : Nat)] 31)).heap.size) := HBY.out.size
      have HYO : Hid (∀ z ∈ [[Value.int .u32 (r : Nat)]], ∀ q ∈ z, q.oneCell' = true) := fun z hz q hq => by
        simp only [List.mem_singleton] at hz
        subst hz
        simp only [List.mem_singleton] at hq
        subst hq
        rfl
      clear b3 CR1 cp
      go_wp2_with (at_builtin; refine Rk.wpList_append_rowk rfl _ _ 48 31 1 4 _ Tryd.underlying48 infoU32 rfl (by decide) (by decide) rfl w1.heap.size _ _ xs _ rfl rfl A1.out A2.out HYO.out HXL.out A4.out ?_)
      intro v6 w9 h5 g5 k5
      have K9 : Hid (OwnN .u32 31 w1.heap.size w9 v6 ((Q.take (i + 1)).map (rootN · power))) := by
        show Rk.OwnK _ _ _ _ _ _
        rw [EQ.out, List.map_append, ← HXS.out]
        exact h5
      have HB6 := Lib.hid (A1.out.belowOf HBY.out (Nat.le_refl _) A4.out g5)
      clear h5 g5 k5 A1 A2 A4 HBY EQ HYO
      obtain ⟨a6, c6, rfl⟩ := K9.out.is_slice
      generalize ((Q.take (i + 1)).map (rootN · power)).length = m6 at *
      go_wp2_with fail
      go_roundg (n - (i + 1))
      case measure => omega
      case rel => exact ⟨i + 1, by omega, Nat.le_refl _, by go_num, K9, HB6.out⟩
    · obtain rfl : n = i := by omega
      have i1 : ¬ (n : Int) < (n : Int) := by omega
      have et : Q.take n = Q := List.take_of_length_le (by rw [HQL.out]; exact Nat.le_refl _)
      rw [et] at HO ⊢
      obtain ⟨m, hm⟩ : ∃ m, m = (Q.map (rootN · power)).length := ⟨_, rfl⟩
      have FIN : Hid (GiveO (tableL n power) w (.returned (.slice ao m co)) wr) := by
        have h := HO.out.lower HB1.out.size
        rw [← hm] at h
        exact ⟨_, rfl, by rw [HT.out]; exact h, below_on HB1.out hbel⟩
      rw [← hm]
      clear hbel hm HO et
      go_wp2_with fail
      go_ret
      exact FIN.out
theorem table_any (n power : Nat) (w : World) (hn : n ≤ 64) (h2 : 1 ≤ power) (h3 : power ≤ 3) : Calls Tryd.prog 23 #[.int .i64 (n : Nat), .int .i64 (power : Nat)] w (GiveN .u32 (tableL n power) w) :=
  (table_own n power w hn h2 h3).mono fun e w' ⟨v, e1, h, hb⟩ => ⟨v, e1, h.nums, hb⟩
end Go.Proofs.YtknefflbkaaooaaDoor.Slt
