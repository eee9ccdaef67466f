/- Contracts: slices.BinarySearch of users, set. -/
import Derived.Test.YtefibidkmfcccaaSet
set_option linter.unusedVariables false
namespace Go.Proofs.Ytefibidkmfcccaa.Rig
open Go.RowKit Go.Lib Go.Proofs.Ytefibidkmfcccaa.Rt

theorem search_any {v : Value} {xs : List Int} (u : Int) (w : World) (h : Ints w v xs) (hp : xs.Pairwise (· < ·)) (hn : xs.length ≤ 1000) :
    Calls Try.prog 31 #[v, .int .i64 u] w fun e w' => e = .returned (.tuple #[.int .i64 (xs.countP (· < u) : Nat), .bool (xs.contains u)]) ∧ Below w.heap.size w w' := by
  obtain ⟨_, a, cap, rfl, h1, h2, h3⟩ := h
  rcases h3 with rfl | ⟨b, off, rfl, hlt, hc⟩
  · refine (Try.slices_BinarySearch_int_empty a cap u w).mono ?_
    rintro e w' ⟨rfl, rfl⟩
    exact ⟨rfl, Below.refl _ _⟩
  · refine (Try.slices_BinarySearch_int b off xs.length cap xs u w (Nat.le_refl _) (by omega) hc (by rw [List.take_length]; exact hp.imp (fun h => by omega))).mono ?_
    rintro e w' ⟨rfl, q, rfl⟩
    rw [List.take_length]
    exact ⟨rfl, below_drews (Below.refl _ _) q⟩

theorem count_lt {xs : List Int} {u : Int} (h : xs.Pairwise (· < ·)) (hc : xs.contains u = true) : xs.countP (· < u) < xs.length := by
  have h1 := set_drop h true hc
  have h2 := congrArg List.length h1
  rw [List.length_drop] at h2
  simp at h2
  omega

set_option maxRecDepth 100000 in
set_option maxHeartbeats 1000000 in
theorem set_any {base : Nat} {v : Value} {xs : List Int} (u : Int) (on : Bool) (w : World) (h : OwnI base w v xs) (hp : xs.Pairwise (· < ·)) (hn : xs.length ≤ 1000) (hu : i64 u) (hbase : base ≤ w.heap.size) :
    Calls Try.prog 25 #[v, .int .i64 u, .bool on] w (GivesI base w v.ownBlock (setL xs u on)) := by
  have C1 := Lib.hid (search_any u w h.ints hp hn)
  obtain ⟨c, hc⟩ : ∃ c, c = xs.countP (· < u) := ⟨_, rfl⟩
  have hcl : c ≤ xs.length := by rw [hc]; exact List.countP_le_length
  have hcn : (c : Int) ≤ 1000 := by omega
  have C2 : Hid (∀ w1, Below w.heap.size w w1 → Calls Try.prog 32 #[v, .int .i64 c, .slice (some ⟨w1.heap.size, 0, none⟩) 1 1] (w1.alloc (.cells #[.int .i64 u] 3)) (GivesI base (w1.alloc (.cells #[.int .i64 u] 3)) v.ownBlock (insL xs c u))) := fun w1 hb =>
    insert_any _ ((h.below hb).below ((Below.refl _ _).alloc (Nat.le_refl _) _)) hcl hn hu (by have := hb.size; simp; omega) (heap_alloc_new _ _) (fun e => by have := (h.below hb).block _ e; omega)
  have C3 : Hid (c < xs.length → ∀ w1, Below w.heap.size w w1 → Calls Try.prog 33 #[v, .int .i64 c, .int .i64 ((c : Int) + 1)] w1 (GivesI base w1 v.ownBlock (delL xs c))) := fun hlt w1 hb =>
    delete_any w1 (h.below hb) hlt hn
  have KI : Hid (∀ w1, Below w.heap.size w w1 → GivesI base w v.ownBlock xs (.returned v) w1) := fun w1 hb => ⟨v, rfl, h.below hb, grown_below hb _⟩
  have KG : Hid (∀ w1 ys e w2, Below w.heap.size w w1 → GivesI base w1 v.ownBlock ys e w2 → GivesI base w v.ownBlock ys e w2) := fun w1 ys e w2 hb hg => by
    obtain ⟨v', h1, h2, h3⟩ := hg
    exact ⟨v', h1, h2, grown_trans (grown_below hb _) h3⟩
  obtain ⟨ow, how⟩ : ∃ ow, ow = v.ownBlock := ⟨_, rfl⟩
  obtain ⟨b, hb⟩ : ∃ b, b = xs.contains u := ⟨_, rfl⟩
  rw [← hb, ← hc] at C1
  have HC : Hid (c = xs.countP (· < u)) := hc
  rw [← how] at C2 C3 KI KG ⊢
  clear how h hcl hc hbase
  cases b with
  | true =>
    have hlt : Hid (c < xs.length) := by show _ < _; rw [HC.out]; exact count_lt hp hb.symm
    cases on with
    | true =>
      have E := set_on hp hb.symm
      rw [E]
      clear hb E hp hn hu C2 C3 HC KG
      go_enter Try.func25, Try.ntmps25
      go_wp2_with fail
      refine C1.out.mono ?_
      rintro e w1 ⟨rfl, hb1⟩
      have HB := Lib.hid hb1
      clear hb1
      go_wp2_with fail
      go_ret
      exact KI.out _ HB.out
    | false =>
      have E : setL xs u false = delL xs c := by rw [set_del hp hb.symm, HC.out]; rfl
      rw [E]
      have C3' := Lib.hid (C3.out hlt.out)
      have w1' : IntKind.i64.wrap ((c : Int) + 1) = (c : Int) + 1 := IntWalk.i64_in _ (by omega)
      clear hb E hp hn hu C2 C3 HC
      go_enter Try.func25, Try.ntmps25
      go_wp2_with fail
      refine C1.out.mono ?_
      rintro e w1 ⟨rfl, hb1⟩
      have HB := Lib.hid hb1
      clear hb1
      go_wp2_with fail
      refine (C3'.out _ HB.out).mono ?_
      rintro e w2 hg
      have HG := Lib.hid (KG.out _ _ _ _ HB.out hg)
      obtain ⟨v', rfl, _, _⟩ := hg
      clear KI KG C3' C1
      go_wp2_with fail
      go_ret
      exact HG.out
  | false =>
    cases on with
    | true =>
      have E : setL xs u true = insL xs c u := by rw [set_ins hp hb.symm, HC.out]; rfl
      rw [E]
      clear hb E hp hn hu C3 HC
      go_enter Try.func25, Try.ntmps25
      go_wp2_with fail
      refine C1.out.mono ?_
      rintro e w1 ⟨rfl, hb1⟩
      have HB := Lib.hid hb1
      have HB2 := Lib.hid (below_more hb1 ((Below.refl _ w1).alloc (Nat.le_refl _) (.cells #[.int .i64 u] 3)))
      clear hb1
      go_wp2_with fail
      refine (C2.out _ HB.out).mono ?_
      rintro e w2 hg
      have HG := Lib.hid (KG.out _ _ _ _ HB2.out hg)
      obtain ⟨v', rfl, _, _⟩ := hg
      clear KI KG C2 C1
      go_wp2_with fail
      go_ret
      exact HG.out
    | false =>
      have E := set_off hp hb.symm
      rw [E]
      clear hb E hp hn hu C2 C3 HC KG
      go_enter Try.func25, Try.ntmps25
      go_wp2_with fail
      refine C1.out.mono ?_
      rintro e w1 ⟨rfl, hb1⟩
      have HB := Lib.hid hb1
      clear hb1
      go_wp2_with fail
      go_ret
      exact KI.out _ HB.out
end Go.Proofs.Ytefibidkmfcccaa.Rig
