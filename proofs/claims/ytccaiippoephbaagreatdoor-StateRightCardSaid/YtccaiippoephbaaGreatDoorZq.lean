/- State: clones of rows; rows of the call's own, changed in place. -/
import Derived.Test.YtccaiippoephbaaGreatDoorZa
import Derived.Test.YtccaiippoephbaaGreatDoorZg
import Derived.Lib.SliceRun
import Derived.Shelf.Abstract
import Derived.OwnWalk
set_option linter.unusedVariables false
set_option linter.unusedSimpArgs false
set_option maxRecDepth 100000
namespace Go.Proofs.YtccaiippoephbaaGreatDoor.Sta
open Go.RowKit Go.Lib Go.Proofs.YtccaiippoephbaaGreatDoor.Bx Go.Proofs.YtccaiippoephbaaGreatDoor.Frm Go.Proofs.YtccaiippoephbaaGreatDoor.Wds

theorem flat_set {k : Nat} : ∀ (xs : List (List Value)), (∀ x ∈ xs, x.length = k) → ∀ (i o : Nat) (u : Value) (hi : i < xs.length), o < k → xs.flatten.set (i * k + o) u = (xs.set i ((xs[i]).set o u)).flatten
  | [], _, i, _, _, hi, _ => absurd hi (Nat.not_lt_zero _)
  | x :: xs, hk, i, o, u, hi, ho => by
    have hx : x.length = k := hk x List.mem_cons_self
    rw [List.flatten_cons]
    cases i with
    | zero =>
      rw [Nat.zero_mul, Nat.zero_add, List.set_append_left _ _ (by omega)]
      rfl
    | succ i =>
      rw [Nat.succ_mul, show i * k + k + o = k + (i * k + o) by omega, List.set_append_right _ _ (by omega), hx, show k + (i * k + o) - k = i * k + o by omega, flat_set xs (fun z hz => hk z (List.mem_cons_of_mem _ hz)) i o u (by simpa using hi) ho]
      rfl
theorem own_set {e : TypeId} {k base : Nat} {w : World} {g n cap : Nat} {xs : List (List Value)} (h : Rk.OwnK e k base w (.slice (some ⟨g, 0, none⟩) n cap) xs) {i o : Nat} {u : Value} (hi : i < xs.length) (ho : o < k) (hu : u.oneCell' = true) :
    Rk.OwnK e k base (w.setCell ⟨g, i * k + o, none⟩ u) (.slice (some ⟨g, 0, none⟩) n cap) (xs.set i ((xs[i]).set o u)) := by
  obtain ⟨h0, h1⟩ := h
  have hlen : (xs.set i ((xs[i]).set o u)).length = xs.length := List.length_set ..
  refine ⟨fun x hx => ?_, ?_⟩
  · rcases List.mem_or_eq_of_mem_set hx with hx | rfl
    · exact h0 x hx
    · obtain ⟨a, b⟩ := h0 xs[i] (List.getElem_mem hi)
      refine ⟨by rw [List.length_set]; exact a, fun q hq => ?_⟩
      rcases List.mem_or_eq_of_mem_set hq with hq | rfl
      · exact b q hq
      · exact hu
  · rw [hlen]
    obtain ⟨h2, h3⟩ := h1
    rcases h3 with ⟨e1, _⟩ | ⟨g', cap', cur, e1, hb, hg, hle, hm, hsz, htake⟩
    · cases e1
    · injection e1 with e1 e2 e3
      injection e1 with e1
      injection e1 with e1 _ _
      subst e1 e2 e3
      refine ⟨by rw [← flat_set xs (fun x hx => (h0 x hx).1) i o u hi ho, List.length_set]; exact h2, .inr ⟨g, cap, _, rfl, hb, set_block hg, hle, hm, by rw [Array.size_setIfInBounds]; exact hsz, ?_⟩⟩
      rw [Array.toList_setIfInBounds, ← flat_set xs (fun x hx => (h0 x hx).1) i o u hi ho, ← htake, List.take_set]
theorem own_empty {e : TypeId} {k base nb : Nat} {w : World} (hb : base ≤ nb) (h : w.heap[nb]? = some (.cells #[] e (0, 0))) : Rk.OwnK e k base w (.slice (some ⟨nb, 0, none⟩) 0 0) [] :=
  ⟨fun _ h => by simp at h, by simp, .inr ⟨nb, 0, #[], rfl, hb, h, Nat.le_refl _, by unfold maxLen; omega, by simp, by simp⟩⟩
set_option maxHeartbeats 4000000 in
theorem clone_i0 {v : Value} {ys : List (List Value)} (w : World) (h : Rk.RowK 1 w v ys) (ho : ∀ y ∈ ys, ∀ q ∈ y, q.oneCell' = true) (hl : ys.length ≤ 90000) : Calls Tryz.prog 19 #[v] w fun e w' => ∃ v', e = .returned v' ∧ Rk.OwnK 3 1 w.heap.size w' v' ys ∧ Below w.heap.size w w' := by
  have QN : ∀ (w : World) (a : Option Addr) (n c n' c' : Nat), (binOp .eql 43 (.slice a n c) (.slice none n' c')).run Tryz.prog w = .ok (.bool a.isNone) w := fun w a n c n' c' => Lib.run_eql_slice_nil w _ _ a n c n' c' Tryz.underlying43
  have hB := h
  obtain ⟨_, a, cap, rfl, hn, hm, h3⟩ := h
  cases a with
  | none =>
    have h0 : ys = [] := by
      rcases h3 with h3 | ⟨_, _, e, _⟩
      · exact h3
      · cases e
    subst h0
    clear hB h3 ho
    go_enter Tryz.func19, Tryz.ntmps19
    go_wp2_with fail
    go_ret
    exact ⟨_, rfl, Rk.OwnK.nil_ _ _ _ _, Below.refl _ _⟩
  | some a =>
    have A1 : Hid (Rk.OwnK 3 1 w.heap.size (w.alloc (.cells #[] 3)) (.slice (some ⟨w.heap.size, 0, none⟩) 0 0) []) := own_empty (Nat.le_refl _) (heap_alloc_new _ _)
    have A2 : Hid (Rk.RowK 1 (w.alloc (.cells #[] 3)) (.slice (some a) ys.length cap) ys) := hB.below (below_al (Below.refl _ _) _) (Nat.le_refl _)
    have A3 : Hid (∀ y ∈ ys, ∀ q ∈ y, q.oneCell' = true) := ho
    have A4 : Hid (([] : List (List Value)).length + ys.length ≤ 100000) := by show _ ≤ _; show 0 + ys.length ≤ _; omega
    have A5 : Hid (w.heap.size ≤ (w.alloc (.cells #[] 3)).heap.size) := by show _ ≤ _; simp
    obtain ⟨n, hnn⟩ : ∃ n, n = ys.length := ⟨_, rfl⟩
    rw [← hnn] at A2 ⊢
    clear hB hnn hn hm hl h3 ho
    go_enter Tryz.func19, Tryz.ntmps19
    go_wp2_with (at_builtin; refine Rk.wpList_append_rowk rfl _ _ 43 3 1 8 _ Tryz.underlying43 infoint rfl (by decide) (by decide) rfl w.heap.size _ _ [] ys rfl rfl A1.out A2.out A3.out A4.out A5.out ?_)
    intro v6 w9 h5 g5 k5
    have K9 : Hid (Rk.OwnK 3 1 w.heap.size w9 v6 ys) := h5
    have HB9 := Lib.hid (A1.out.belowOf (below_al (Below.refl _ _) _) (Nat.le_refl _) A5.out g5)
    clear h5 g5 k5 A1 A2 A3 A4 A5
    go_wp2_with fail
    go_ret
    exact ⟨_, rfl, K9.out, HB9.out⟩
set_option maxHeartbeats 4000000 in
theorem clone_l0 {v : Value} {ys : List (List Value)} (w : World) (h : Rk.RowK 4 w v ys) (ho : ∀ y ∈ ys, ∀ q ∈ y, q.oneCell' = true) (hl : ys.length ≤ 90000) : Calls Tryz.prog 18 #[v] w fun e w' => ∃ v', e = .returned v' ∧ Rk.OwnK 45 4 w.heap.size w' v' ys ∧ Below w.heap.size w w' := by
  have QN : ∀ (w : World) (a : Option Addr) (n c n' c' : Nat), (binOp .eql 23 (.slice a n c) (.slice none n' c')).run Tryz.prog w = .ok (.bool a.isNone) w := fun w a n c n' c' => Lib.run_eql_slice_nil w _ _ a n c n' c' Tryz.underlying23
  have hB := h
  obtain ⟨_, a, cap, rfl, hn, hm, h3⟩ := h
  cases a with
  | none =>
    have h0 : ys = [] := by
      rcases h3 with h3 | ⟨_, _, e, _⟩
      · exact h3
      · cases e
    subst h0
    clear hB h3 ho
    go_enter Tryz.func18, Tryz.ntmps18
    go_wp2_with fail
    go_ret
    exact ⟨_, rfl, Rk.OwnK.nil_ _ _ _ _, Below.refl _ _⟩
  | some a =>
    have A1 : Hid (Rk.OwnK 45 4 w.heap.size (w.alloc (.cells #[] 45)) (.slice (some ⟨w.heap.size, 0, none⟩) 0 0) []) := own_empty (Nat.le_refl _) (heap_alloc_new _ _)
    have A2 : Hid (Rk.RowK 4 (w.alloc (.cells #[] 45)) (.slice (some a) ys.length cap) ys) := hB.below (below_al (Below.refl _ _) _) (Nat.le_refl _)
    have A3 : Hid (∀ y ∈ ys, ∀ q ∈ y, q.oneCell' = true) := ho
    have A4 : Hid (([] : List (List Value)).length + ys.length ≤ 100000) := by show _ ≤ _; show 0 + ys.length ≤ _; omega
    have A5 : Hid (w.heap.size ≤ (w.alloc (.cells #[] 45)).heap.size) := by show _ ≤ _; simp
    obtain ⟨n, hnn⟩ : ∃ n, n = ys.length := ⟨_, rfl⟩
    rw [← hnn] at A2 ⊢
    clear hB hnn hn hm hl h3 ho
    go_enter Tryz.func18, Tryz.ntmps18
    go_wp2_with (at_builtin; refine Rk.wpList_append_rowk rfl _ _ 23 45 4 64 _ Tryz.underlying23 infoLabel rfl (by decide) (by decide) rfl w.heap.size _ _ [] ys rfl rfl A1.out A2.out A3.out A4.out A5.out ?_)
    intro v6 w9 h5 g5 k5
    have K9 : Hid (Rk.OwnK 45 4 w.heap.size w9 v6 ys) := h5
    have HB9 := Lib.hid (A1.out.belowOf (below_al (Below.refl _ _) _) (Nat.le_refl _) A5.out g5)
    clear h5 g5 k5 A1 A2 A3 A4 A5
    go_wp2_with fail
    go_ret
    exact ⟨_, rfl, K9.out, HB9.out⟩
theorem clone_i {P : Nat → Prop} {v : Value} {xs : List Int} (w : World) (h : RowP numM P w v xs) (hl : xs.length ≤ 90000) : Calls Tryz.prog 19 #[v] w fun e w' => ∃ v', e = .returned v' ∧ OwnP 3 numM w.heap.size w' v' xs ∧ Below w.heap.size w w' := by
  obtain ⟨p, h1, h2, _, h4⟩ := h
  refine (clone_i0 w h2 (fun y hy q hq => ?_) (by rw [List.length_map, ← List.length_map (f := Prod.snd), h1]; exact hl)).mono ?_
  · obtain ⟨z, hz, rfl⟩ := List.mem_map.1 hy
    exact numM_ok.one (h4 z hz) q hq
  · rintro e w' ⟨v', rfl, ho, hb⟩
    exact ⟨v', rfl, ⟨p, h1, ho, fun x hx => h4 x hx⟩, hb⟩
/-- An element of a row of the call's own: its cells. -/
theorem own_at {e : TypeId} {k base : Nat} {w : World} {g n cap : Nat} {ys : List (List Value)} (h : Rk.OwnK e k base w (.slice (some ⟨g, 0, none⟩) n cap) ys) {i : Nat} (hi : i < ys.length) : (∀ o u, ys[i][o]? = some u → w.cell? ⟨g, i * k + o, none⟩ = some u) ∧ (∀ o, w.frozen? ⟨g, o, none⟩ = false) ∧ base ≤ g ∧ g < w.heap.size ∧ n = ys.length := by
  have hr := h.row
  have hb := h.block g rfl
  obtain ⟨_, a', cap', e1, _, _, h3⟩ := hr
  injection e1 with e1 e2 e3
  rcases h3 with h3 | ⟨b, off, e4, _, hc⟩
  · rw [h3] at hi; exact absurd hi (Nat.not_lt_zero _)
  · rw [← e1] at e4
    injection e4 with e4
    simp only [Addr.mk.injEq] at e4
    obtain ⟨rfl, rfl, _⟩ := e4
    refine ⟨fun o u hu => by have := hc i hi o u hu; rwa [Nat.zero_add] at this, fun o => ?_, hb.1, hb.2, e2⟩
    rcases h.2.2 with ⟨e5, _⟩ | ⟨g', cap5, cur, e5, _, hg, _⟩
    · cases e5
    · injection e5 with e5
      injection e5 with e5
      injection e5 with e5 _ _
      subst e5
      exact free_at hg
theorem own_form {e : TypeId} {k base : Nat} {w : World} {v : Value} {ys : List (List Value)} (h : Rk.OwnK e k base w v ys) (hn : 0 < ys.length) : ∃ g cap, v = .slice (some ⟨g, 0, none⟩) ys.length cap := by
  rcases h.2.2 with ⟨_, h0⟩ | ⟨g, cap, cur, e1, _⟩
  · omega
  · exact ⟨g, cap, e1⟩
end Go.Proofs.YtccaiippoephbaaGreatDoor.Sta
/- State: a state in blocks of the call's own. -/
set_option linter.unusedVariables false
set_option linter.unusedSimpArgs false
set_option maxRecDepth 100000
namespace Go.Proofs.YtccaiippoephbaaGreatDoor.Sta
open Go.RowKit Go.Lib Go.Proofs.YtccaiippoephbaaGreatDoor.Bx Go.Proofs.YtccaiippoephbaaGreatDoor.Frm Go.Proofs.YtccaiippoephbaaGreatDoor.Wds

/-- A state in blocks from base on. -/
def StO (base : Nat) (w : World) (v : Value) (S : Sta) : Prop := ∃ cs, v = .agg cs.toArray ∧ staM.R (fun b => base ≤ b) w cs S
theorem StO.kept {base C : Nat} {w w' : World} {v : Value} {S : Sta} (h : StO base w v S) (hg : w.grownBy w' (some C)) (hC : C < base) : StO base w' v S := by
  obtain ⟨cs, e, h⟩ := h
  exact ⟨cs, e, staM_ok.keep h ⟨hg.size, fun b hb hp => hg.block b hb (fun e => by injection e with e; omega)⟩⟩
theorem StO.below {base : Nat} {w w' : World} {v : Value} {S : Sta} (h : StO base w v S) (hb : Below w.heap.size w w') : StO base w' v S := by
  obtain ⟨cs, e, h⟩ := h
  exact ⟨cs, e, staM_ok.keep h (Keep.below hb)⟩
theorem StO.base {base base' : Nat} {w : World} {v : Value} {S : Sta} (h : StO base w v S) (hb : base' ≤ base) : StO base' w v S := by
  obtain ⟨cs, e, h⟩ := h
  exact ⟨cs, e, staM_ok.mono h fun b _ hp => Nat.le_trans hb hp⟩
theorem StO.form {base : Nat} {w : World} {v : Value} {a : Sta} (h : StO base w v a) : ∃ a3 c3 a4 c4 a5 c5 a6 c6 a7 c7, v = .agg #[.int .i64 a.1, .int .i64 a.2.1, .int .i64 a.2.2.1, .slice a3 a.2.2.2.1.length c3, .slice a4 a.2.2.2.2.1.length c4, .slice a5 a.2.2.2.2.2.1.length c5, .slice a6 a.2.2.2.2.2.2.1.length c6, .slice a7 a.2.2.2.2.2.2.2.length c7] := by
  obtain ⟨cs, rfl, h⟩ := h
  obtain ⟨u3, c3, u4, c4, u5, c5, u6, c6, u7, c7, rfl, _, _, _, _, _⟩ := staM_cells h
  exact ⟨u3, c3, u4, c4, u5, c5, u6, c6, u7, c7, rfl⟩
end Go.Proofs.YtccaiippoephbaaGreatDoor.Sta
/- State: the program's Fresh. -/
set_option linter.unusedVariables false
set_option linter.unusedSimpArgs false
set_option maxRecDepth 100000
namespace Go.Proofs.YtccaiippoephbaaGreatDoor.Sta
open Go.RowKit Go.Lib Go.Proofs.YtccaiippoephbaaGreatDoor.Bx Go.Proofs.YtccaiippoephbaaGreatDoor.Frm Go.Proofs.YtccaiippoephbaaGreatDoor.Wds

theorem made_one (z : Value) (n : Nat) : (madeCells #[z] n).toList = List.replicate n z := by
  apply List.ext_getElem?
  intro j
  rw [List.getElem?_replicate]
  unfold madeCells
  simp
  split
  · rename_i h
    simp [h, Nat.mod_one]
  · rename_i h
    simp [h]
theorem ownP_of {α : Type} {e : TypeId} {a : Rep α} {base : Nat} {w : World} {v : Value} {ys : List (List Value)} {L : List α} (h : Rk.OwnK e a.k base w v ys) (hl : ys.length = L.length) (hR : ∀ (j : Nat) y x, ys[j]? = some y → L[j]? = some x → a.R (fun b => base ≤ b ∧ some b ≠ v.ownBlock) w y x) : OwnP e a base w v L := by
  refine ⟨ys.zip L, ?_, ?_, fun x hx => ?_⟩
  · rw [List.map_snd_zip]; omega
  · rw [List.map_fst_zip (by omega)]; exact h
  · obtain ⟨j, hj, e⟩ := List.mem_iff_getElem.1 hx
    rw [List.getElem_zip] at e
    rw [List.length_zip] at hj
    rw [← e]
    exact hR j _ _ (List.getElem?_eq_getElem (by omega)) (List.getElem?_eq_getElem (by omega))
def freshS (L : List Lab) (nu : Nat) : Sta := (0, 0, 1, L, [], List.replicate nu [], [], [])
theorem stacks_of {base : Nat} {w : World} {v : Value} {nu : Nat} (h : w.ownsRow base 53 1 v nu (madeCells #[Value.slice none 0 0] nu).toList) : OwnP 53 stkM base w v (List.replicate nu []) := by
  have e : (madeCells #[Value.slice none 0 0] nu).toList = (List.replicate nu [Value.slice none 0 0]).flatten := by
    rw [List.flatten_replicate_singleton]
    exact made_one _ _
  refine ownP_of (ys := List.replicate nu [Value.slice none 0 0]) ⟨fun x hx => ?_, ?_⟩ (by rw [List.length_replicate, List.length_replicate]) (fun j y x hy hx => ?_)
  · obtain ⟨_, rfl⟩ := List.mem_replicate.1 hx
    exact ⟨rfl, fun u hu => by simp only [List.mem_singleton] at hu; subst hu; rfl⟩
  · rw [List.length_replicate, ← e]
    exact h
  · rw [List.getElem?_replicate] at hy hx
    split at hy
    · rename_i hj
      rw [if_pos hj] at hx
      injection hy with hy
      injection hx with hx
      subst hy hx
      exact ⟨_, rfl, RowP.nil_ _ _ _⟩
    · cases hy
set_option maxHeartbeats 8000000 in
theorem fresh_ok {P : Nat → Prop} (w : World) (us : Option Addr) (nu uc : Nat) (v1 : Value) (L : List Lab) (q2 q3 q4 q5 q6 q7 q8 : Int) (h : RowP labM P w v1 L) (hL : L.length ≤ 90000) (hLr : ∀ x ∈ L, x.2.2.1.length ≤ 90000 ∧ x.2.2.2.length ≤ 90000) (hnu : nu ≤ 90000) : Calls Tryz.prog 6 #[.agg #[.slice us nu uc, v1, .int .i64 q2, .int .i64 q3, .int .i64 q4, .int .i64 q5, .int .i64 q6, .int .i64 q7, .int .i64 q8]] w fun e w' => ∃ v, e = .returned v ∧ StO w.heap.size w' v (freshS L nu) ∧ Below w.heap.size w w' := by
  obtain ⟨la, lc, rfl⟩ := h.is_slice
  obtain ⟨n, hn⟩ : ∃ n, n = L.length := ⟨_, rfl⟩
  rw [← hn] at h ⊢
  obtain ⟨p, hp1, hp2, _, hp4⟩ := h
  obtain ⟨ys0, hys⟩ : ∃ ys, ys = p.map Prod.fst := ⟨_, rfl⟩
  have hyl : ys0.length = n := by rw [hys, hn, ← hp1, List.length_map, List.length_map]
  have HR0 : Hid (∀ (j : Nat) y x, ys0[j]? = some y → L[j]? = some x → labM.R P w y x) := fun j y x hy hx => by
    rw [hys, List.getElem?_map] at hy
    rw [← hp1, List.getElem?_map] at hx
    cases hq : p[j]? with
    | none => rw [hq] at hy; cases hy
    | some z =>
      rw [hq] at hy hx
      injection hy with hy
      injection hx with hx
      subst hy hx
      exact hp4 z (List.mem_of_getElem? hq)
  rw [← hys] at hp2
  have hone : ∀ y ∈ ys0, ∀ q ∈ y, q.oneCell' = true := fun y hy q hq => by
    rw [hys] at hy
    obtain ⟨z, hz, rfl⟩ := List.mem_map.1 hy
    exact labM_ok.one (hp4 z hz) q hq
  obtain ⟨R0, hR0⟩ : ∃ R0, R0 = w.heap.size := ⟨_, rfl⟩
  obtain ⟨B0, P0, L0⟩ := box1 w #[.slice us nu uc, .slice la n lc, .int .i64 q2, .int .i64 q3, .int .i64 q4, .int .i64 q5, .int .i64 q6, .int .i64 q7, .int .i64 q8] 25
  obtain ⟨W0, hW0⟩ : ∃ W0, W0 = w.alloc (.cells #[.slice us nu uc, .slice la n lc, .int .i64 q2, .int .i64 q3, .int .i64 q4, .int .i64 q5, .int .i64 q6, .int .i64 q7, .int .i64 q8] 25) := ⟨_, rfl⟩
  rw [← hW0] at B0 P0 L0
  obtain ⟨B1, P1, L1⟩ := box1 W0 #[.int .i64 0, .int .i64 0, .int .i64 0, .slice none 0 0, .slice none 0 0, .slice none 0 0, .slice none 0 0, .slice none 0 0] 31
  obtain ⟨W1, hW1⟩ : ∃ W1, W1 = W0.alloc (.cells #[.int .i64 0, .int .i64 0, .int .i64 0, .slice none 0 0, .slice none 0 0, .slice none 0 0, .slice none 0 0, .slice none 0 0] 31) := ⟨_, rfl⟩
  rw [← hW1] at B1 P1 L1
  rw [← hR0] at L0 P0
  rw [L0] at P1 L1
  have B01 := below_on B0 B1
  have q0 : W1.heap[R0]? = some (.cells #[.slice us nu uc, .slice la n lc, .int .i64 q2, .int .i64 q3, .int .i64 q4, .int .i64 q5, .int .i64 q6, .int .i64 q7, .int .i64 q8] 25 (0, 0)) := (B1.block R0 (by omega)).trans P0
  have HG : Hid (∀ w', Below (R0 + 2) W1 w' → w'.heap[R0]? = some (.cells #[.slice us nu uc, .slice la n lc, .int .i64 q2, .int .i64 q3, .int .i64 q4, .int .i64 q5, .int .i64 q6, .int .i64 q7, .int .i64 q8] 25 (0, 0)) ∧ w'.heap[R0 + 1]? = some (.cells #[.int .i64 0, .int .i64 0, .int .i64 0, .slice none 0 0, .slice none 0 0, .slice none 0 0, .slice none 0 0, .slice none 0 0] 31 (0, 0))) := fun w' hb => ⟨(hb.block R0 (by omega)).trans q0, (hb.block (R0 + 1) (by omega)).trans P1⟩
  have C1 := Lib.hid (clone_l0 W1 (hp2.below B01 (Nat.le_refl _)) hone (by omega))
  have HB1 : Hid (Below R0 w W1) := by rw [hR0]; exact B01
  have HL1 : Hid (W1.heap.size = R0 + 2) := L1
  have HW1 : Hid (W1 = (w.alloc (.cells #[.slice us nu uc, .slice la n lc, .int .i64 q2, .int .i64 q3, .int .i64 q4, .int .i64 q5, .int .i64 q6, .int .i64 q7, .int .i64 q8] 25)).alloc (.cells #[.int .i64 0, .int .i64 0, .int .i64 0, .slice none 0 0, .slice none 0 0, .slice none 0 0, .slice none 0 0, .slice none 0 0] 31)) := by show _ = _; rw [hW1, hW0]
  have HL0 : Hid (w.heap.size = R0) := hR0.symm
  have HLL : Hid (n = L.length ∧ ys0.length = n ∧ n ≤ 90000) := ⟨hn, hyl, by omega⟩
  have HLR := Lib.hid hLr
  have hmi : (0 : Nat) = 0 := rfl
  obtain ⟨c0, c1, _⟩ : w.heap.size = R0 ∧ True ∧ True := ⟨hR0.symm, trivial, trivial⟩
  have d1 : W1.cell? ⟨R0, 1, none⟩ = some (.slice la n lc) := by rw [cell_of_row _ _ _ _ _ _ q0]; rfl
  clear hR0 B0 P0 L0 B1 P1 L1 hW0 hW1 q0 B01 hp1 hp2 hp4 hys hyl hn hL hLr hone c0 c1 hmi
  go_enter Tryz.func6, Tryz.ntmps6
  go_upto_region 1 with fail
  rw [← HW1.out, HL0.out]
  go_wp2_with fail
  refine C1.out.mono ?_
  rintro e w2 ⟨v2, rfl, O2, b2⟩
  rw [HL1.out] at O2 b2
  obtain ⟨a, c, e2⟩ := O2.is_slice
  rw [HLL.out.2.1] at e2
  subst e2
  have HO2 := Lib.hid O2
  have HB2 := Lib.hid b2
  clear O2 b2 C1 d1
  go_wp2_with fail
  have hn9 : n ≤ 90000 := HLL.out.2.2
  go_loopg [11] n (fun gg i_ wr => ∃ (i : Nat) (ys : List (List Value)), i ≤ n ∧ n - i ≤ gg ∧ i_ = .int .i64 (i : Nat) ∧ ys.length = n ∧ Hid (Rk.OwnK 45 4 (R0 + 2) wr (.slice a n c) ys) ∧ Hid (Below (R0 + 2) W1 wr) ∧ Hid (∀ j, i ≤ j → ys[j]? = ys0[j]?) ∧ Hid (∀ (j : Nat) y x, j < i → ys[j]? = some y → L[j]? = some x → labM.R (fun b => R0 + 2 ≤ b ∧ some b ≠ (Value.slice a n c).ownBlock) wr y x))
  case atStart => exact ⟨0, ys0, by omega, by omega, rfl, HLL.out.2.1, HO2, HB2, fun j _ => rfl, fun j y x hj => absurd hj (Nat.not_lt_zero _)⟩
  case round =>
    obtain ⟨i, ys, hi, hg, rfl, hyl, HO, HB, HA, HD⟩ := hrel
    by_cases hin : i < n
    · have iw : ((i : Nat) : Int) < (n : Int) := by omega
      have n0 : (0 : Int) ≤ ((i : Nat) : Int) := by omega
      have hiy : i < ys.length := by omega
      have hix : i < L.length := by rw [← HLL.out.1]; exact hin
      obtain ⟨g, cap, eg⟩ := own_form HO.out (by omega)
      injection eg with eg1 eg2 eg3
      subst eg1 eg3
      have HYL : Hid (ys.length = n) := hyl
      clear eg2
      obtain ⟨y, hy⟩ : ∃ y, y = ys[i] := ⟨_, rfl⟩
      obtain ⟨x, hx⟩ : ∃ x, x = L[i] := ⟨_, rfl⟩
      have hR : labM.R P w y x := HR0.out i y x (by rw [← HA.out i (Nat.le_refl _), hy]; exact List.getElem?_eq_getElem hiy) (by rw [hx]; exact List.getElem?_eq_getElem hix)
      have hxm : x ∈ L := by rw [hx]; exact List.getElem_mem hix
      obtain ⟨hcc, hfz, hgN, hgs, -⟩ := own_at HO.out hiy
      rw [← hy] at hcc
      obtain ⟨u2, c2, u3, c3, rfl, r2, r3⟩ := labM_cells hR
      obtain ⟨p, o, x2, x3⟩ := x
      simp only at r2 r3 hcc hy
      obtain ⟨n2, hn2⟩ : ∃ n, n = x2.length := ⟨_, rfl⟩
      obtain ⟨n3, hn3⟩ : ∃ n, n = x3.length := ⟨_, rfl⟩
      rw [← hn2] at r2 hcc hy
      rw [← hn3] at r3 hcc hy
      have HLX : Hid (x2.length ≤ 90000 ∧ x3.length ≤ 90000) := HLR.out _ hxm
      have HXI : Hid (L[i]? = some (p, o, x2, x3)) := by show _ = _; rw [hx]; exact List.getElem?_eq_getElem hix
      clear hR hx hxm
      have e0 : wr.cell? ⟨g, i * 4, none⟩ = some (.int .i64 p) := hcc 0 _ rfl
      have e1 : wr.cell? ⟨g, i * 4 + 1, none⟩ = some (.int .i64 o) := hcc 1 _ rfl
      have e2 : wr.cell? ⟨g, i * 4 + 2, none⟩ = some (.slice u2 n2 c2) := hcc 2 _ rfl
      have e3 : wr.cell? ⟨g, i * 4 + 3, none⟩ = some (.slice u3 n3 c3) := hcc 3 _ rfl
      obtain ⟨bA, zA, lA⟩ := box1 wr #[.int .i64 p, .int .i64 o, .slice u2 n2 c2, .slice u3 n3 c3] 45
      obtain ⟨Wa, hWa⟩ : ∃ Wa, Wa = wr.alloc (.cells #[.int .i64 p, .int .i64 o, .slice u2 n2 c2, .slice u3 n3 c3] 45) := ⟨_, rfl⟩
      rw [← hWa] at bA zA lA
      have HWA := Lib.hid hWa
      have bw : Below w.heap.size w wr := by rw [HL0.out]; exact HB1.out.trans (HB.out.mono (by omega))
      have bwa : Below w.heap.size w Wa := below_on bw bA
      have HNW : Hid (R0 + 2 ≤ wr.heap.size) := by show _ ≤ _; have := HB.out.size; have := HL1.out; omega
      have C2 := Lib.hid (clone_i Wa (r2.keep numM_ok (Keep.below bwa)) HLX.out.1)
      have HR3 : Hid (∀ w', Below w.heap.size w w' → RowP numM P w' (.slice u3 n3 c3) x3) := fun w' b => r3.keep numM_ok (Keep.below b)
      have HBA := Lib.hid (And.intro bA (And.intro zA lA))
      have HBW := Lib.hid bwa
      have HGN := Lib.hid (And.intro hgN hgs)
      have HY := Lib.hid hy
      have HFZ := Lib.hid hfz
      have m2 : Wa.cell? ⟨wr.heap.size, 2, none⟩ = some (.slice u2 n2 c2) := by rw [cell_of_row _ _ _ _ _ _ zA]; rfl
      have HIY : Hid (i < ys.length) := hiy
      clear hcc r2 r3 hn2 hn3 hWa bA zA lA bw bwa hgN hgs hy hfz hyl hix
      go_upto_region 5 with fail
      rw [← HWA.out]
      go_wp2_with fail
      refine C2.out.mono ?_
      rintro e w3 ⟨v2, rfl, O2, b3⟩
      obtain ⟨a2, d2, rfl⟩ := O2.is_slice
      obtain ⟨k2, hk2⟩ : ∃ k, k = x2.length := ⟨_, rfl⟩
      rw [← hk2] at O2 ⊢
      have OK3 : Rk.OwnK 45 4 (R0 + 2) w3 (.slice (some ⟨g, 0, none⟩) n c) ys := (HO.out.below HBA.out.1).below b3
      have S1 := own_set OK3 (i := i) (o := 2) (u := .slice a2 k2 d2) HIY.out (by decide) rfl
      rw [← HY.out] at S1
      obtain ⟨q0, q1, -, -, -⟩ := own_at OK3 HIY.out
      rw [← HY.out] at q0
      have f2 : w3.cell? ⟨g, i * 4 + 2, none⟩ = some (.slice u2 n2 c2) := q0 2 _ rfl
      have f3 : w3.frozen? ⟨g, i * 4 + 2, none⟩ = false := q1 _
      obtain ⟨ws, hws⟩ : ∃ ws, ws = w3.setCell ⟨g, i * 4 + 2, none⟩ (.slice a2 k2 d2) := ⟨_, rfl⟩
      rw [← hws] at S1
      have hgs3 : g < w3.heap.size := Nat.lt_of_lt_of_le HGN.out.2 (Nat.le_trans HBA.out.1.size b3.size)
      have hsz : ws.heap.size = w3.heap.size := by rw [hws]; simp
      have hob : ∀ b, b ≠ g → ws.heap[b]? = w3.heap[b]? := fun b hb => by rw [hws]; exact Below.heap_setCell _ _ _ _ hb
      have gx : wr.heap.size ≠ g := by have := HGN.out.2; omega
      have zs : ws.heap[wr.heap.size]? = some (.cells #[.int .i64 p, .int .i64 o, .slice u2 n2 c2, .slice u3 n3 c3] 45 (0, 0)) := (hob _ gx).trans ((b3.block _ (by rw [HBA.out.2.2]; omega)).trans HBA.out.2.1)
      have m3 : ws.cell? ⟨wr.heap.size, 3, none⟩ = some (.slice u3 n3 c3) := by rw [cell_of_row _ _ _ _ _ _ zs]; rfl
      have bws : Below w.heap.size w ws := by rw [hws]; exact below_put (below_on HBW.out b3) (by have := HGN.out.1; have := HL0.out; omega) _
      have C3 := Lib.hid (clone_i ws (HR3.out ws bws) HLX.out.2)
      have HV2 : Hid (RowP numM (fun b => Wa.heap.size ≤ b) ws (.slice a2 k2 d2) x2) := (O2.rowP numM_ok).keep numM_ok ⟨Nat.le_of_eq hsz.symm, fun b hb hp => hob b (by have := HGN.out.2; have := HBA.out.2.2; omega)⟩
      have HS1 := Lib.hid S1
      have HKW : Hid (∀ b, b < wr.heap.size → b ≠ g → ws.heap[b]? = wr.heap[b]?) := fun b hb hne => (hob b hne).trans ((b3.block b (by rw [HBA.out.2.2]; omega)).trans (HBA.out.1.block b hb))
      have HSZ : Hid (wr.heap.size < ws.heap.size) := by show _ < _; rw [hsz]; have := b3.size; have := HBA.out.2.2; omega
      have HBS : Hid (Below (R0 + 2) W1 ws) := by
        show Below _ _ _
        rw [hws]
        exact below_put ((HB.out.trans (HBA.out.1.mono HNW.out)).trans (b3.mono (by have := HNW.out; have := HBA.out.2.2; omega))) HGN.out.1 _
      have HWS := Lib.hid hws
      have HBWS := Lib.hid bws
      clear O2 b3 OK3 S1 q0 q1 hws hgs3 hsz hob zs bws C2 HR3 m2 hk2 e0 e1 e2 e3 HBW
      go_upto_region 6 with fail
      rw [← HWS.out]
      go_wp2_with fail
      refine C3.out.mono ?_
      rintro e w4 ⟨v3, rfl, O3, b4⟩
      obtain ⟨a3, d3, rfl⟩ := O3.is_slice
      obtain ⟨k3, hk3⟩ : ∃ k, k = x3.length := ⟨_, rfl⟩
      rw [← hk3] at O3 ⊢
      have OK4 := HS1.out.below b4
      have hiy2 : i < (ys.set i ([.int .i64 p, .int .i64 o, .slice u2 n2 c2, .slice u3 n3 c3].set 2 (.slice a2 k2 d2))).length := by rw [List.length_set]; exact HIY.out
      have S2 := own_set OK4 (i := i) (o := 3) (u := .slice a3 k3 d3) hiy2 (by decide) rfl
      rw [List.set_set, List.getElem_set_self] at S2
      obtain ⟨q0, q1, -, -, -⟩ := own_at OK4 hiy2
      rw [List.getElem_set_self] at q0
      have f4 : w4.cell? ⟨g, i * 4 + 3, none⟩ = some (.slice u3 n3 c3) := q0 3 _ rfl
      have f5 : w4.frozen? ⟨g, i * 4 + 3, none⟩ = false := q1 _
      obtain ⟨wt, hwt⟩ : ∃ wt, wt = w4.setCell ⟨g, i * 4 + 3, none⟩ (.slice a3 k3 d3) := ⟨_, rfl⟩
      rw [← hwt] at S2
      have hsz : wt.heap.size = w4.heap.size := by rw [hwt]; simp
      have hob : ∀ b, b ≠ g → wt.heap[b]? = w4.heap[b]? := fun b hb => by rw [hwt]; exact Below.heap_setCell _ _ _ _ hb
      have hRn : labM.R (fun b => R0 + 2 ≤ b ∧ some b ≠ (Value.slice (some ⟨g, 0, none⟩) n c).ownBlock) wt [.int .i64 p, .int .i64 o, .slice a2 k2 d2, .slice a3 k3 d3] (p, o, x2, x3) := by
        have hne : ∀ b, wr.heap.size ≤ b → R0 + 2 ≤ b ∧ some b ≠ (Value.slice (some ⟨g, 0, none⟩) n c).ownBlock := fun b hb => ⟨Nat.le_trans HNW.out hb, fun e => by
          have e' : some b = some g := e
          injection e' with e'
          have := HGN.out.2
          omega⟩
        refine labM_mk p o ?_ ?_
        · exact ((HV2.out.keep numM_ok (w' := wt) ⟨by rw [hsz]; exact b4.size, fun b hb hp => (hob b (by have := HGN.out.2; have := HBA.out.2.2; omega)).trans (b4.block b hb)⟩).mono numM_ok fun b _ hp => hne b (by have := HBA.out.2.2; omega))
        · exact (((O3.rowP numM_ok).keep numM_ok (w' := wt) ⟨Nat.le_of_eq hsz.symm, fun b hb hp => hob b (by have := HGN.out.2; have := HSZ.out; omega)⟩).mono numM_ok fun b _ hp => hne b (by have := HSZ.out; omega))
      have HO5 : Hid (Rk.OwnK 45 4 (R0 + 2) wt (.slice (some ⟨g, 0, none⟩) n c) (ys.set i [.int .i64 p, .int .i64 o, .slice a2 k2 d2, .slice a3 k3 d3])) := S2
      have HB5 : Hid (Below (R0 + 2) W1 wt) := by
        show Below _ _ _
        rw [hwt]
        exact below_put (HBS.out.trans (b4.mono (by have := HNW.out; have := HSZ.out; omega))) HGN.out.1 _
      have HA5 : Hid (∀ j, i + 1 ≤ j → (ys.set i [.int .i64 p, .int .i64 o, .slice a2 k2 d2, .slice a3 k3 d3])[j]? = ys0[j]?) := fun j hj => by
        rw [List.getElem?_set_ne (by omega)]
        exact HA.out j (by omega)
      have HD5 : Hid (∀ (j : Nat) y x, j < i + 1 → (ys.set i [.int .i64 p, .int .i64 o, .slice a2 k2 d2, .slice a3 k3 d3])[j]? = some y → L[j]? = some x → labM.R (fun b => R0 + 2 ≤ b ∧ some b ≠ (Value.slice (some ⟨g, 0, none⟩) n c).ownBlock) wt y x) := fun j y x hj hy hx => by
        by_cases hji : j = i
        · subst hji
          rw [List.getElem?_set_self HIY.out] at hy
          rw [HXI.out] at hx
          injection hy with hy
          injection hx with hx
          subst hy hx
          exact hRn
        · rw [List.getElem?_set_ne (by omega)] at hy
          refine labM_ok.keep (HD.out j y x (by omega) hy hx) ⟨by rw [hsz]; have := b4.size; have := HSZ.out; omega, fun b hb hp => ?_⟩
          have hbg : b ≠ g := fun e => hp.2 (by subst e; rfl)
          exact (hob b hbg).trans ((b4.block b (by have := HSZ.out; omega)).trans (HKW.out b hb hbg))
      have HWT := Lib.hid hwt
      clear O3 b4 OK4 hiy2 S2 q0 q1 hwt hsz hob hRn C3 m3 HV2 HS1 HKW HBS HO HB HA HD hk3 f2 f3 HWS HBWS
      go_wp2_with fail
      rw [← HWT.out]
      go_roundg (n - (i + 1))
      case measure => omega
      case rel => exact ⟨i + 1, _, by omega, Nat.le_refl _, by go_num, by rw [List.length_set]; exact HYL.out, HO5, HB5, HA5, HD5⟩
    · obtain rfl : n = i := by omega
      have iw : ¬ ((n : Nat) : Int) < ((n : Nat) : Int) := by omega
      have HOL : Hid (OwnP 45 labM (R0 + 2) wr (.slice a n c) L) := ownP_of HO.out (by rw [hyl]; exact HLL.out.1) (fun j y x hy hx => HD.out j y x (by rw [HLL.out.1]; exact (List.getElem?_eq_some_iff.1 hx).1) hy hx)
      obtain ⟨z0, z1⟩ := HG.out wr HB.out
      have d0 : wr.cell? ⟨R0, 0, none⟩ = some (.slice us nu uc) := by rw [cell_of_row _ _ _ _ _ _ z0]; rfl
      obtain ⟨i0, hi, hz0, hz1, hz2⟩ := Rk.kparts infoStack
      have A2 : Hid (i0.bytes * nu ≤ 281474976710656) := by show _ ≤ _; rw [hz2]; omega
      have A3 : Hid (nu ≤ maxLen) := by show _ ≤ _; unfold maxLen; omega
      have A4 : Hid (wr.heap.size ≤ wr.heap.size) := Nat.le_refl _
      have nu0 : (0 : Int) ≤ (nu : Int) := by omega
      have HZ1 := Lib.hid z1
      have HNW : Hid (R0 + 2 ≤ wr.heap.size) := by show _ ≤ _; have := HB.out.size; have := HL1.out; omega
      clear HO HA HD hyl z0 z1 hnu
      go_wp2_with (at_make; refine wpList_make_full _ rfl _ _ 27 rfl wr.heap.size 53 i0 (.slice none 0 0) 1 Tryz.underlying27 hi hz0 hz1 .i64 .i64 _ _ nu rfl rfl rfl rfl A2.out A3.out A4.out ?_)
      intro w5 r5 g5
      obtain ⟨ms, hms⟩ : ∃ ms, ms = wr.heap.size := ⟨_, rfl⟩
      rw [← hms] at r5 ⊢
      have b5 : Below wr.heap.size wr w5 := ⟨g5.os, g5.tape, g5.output, g5.size, fun k hk => g5.block k hk (by simp)⟩
      have HST : OwnP 53 stkM ms w5 (.slice (some ⟨ms, 0, none⟩) nu nu) (List.replicate nu []) := stacks_of r5
      have z5 : w5.heap[R0 + 1]? = some (.cells #[.int .i64 0, .int .i64 0, .int .i64 0, .slice none 0 0, .slice none 0 0, .slice none 0 0, .slice none 0 0, .slice none 0 0] 31 (0, 0)) := (b5.block _ (by have := HNW.out; omega)).trans HZ1.out
      obtain ⟨t0, t1, t2, t3, t4, t5, t6, t7⟩ := eight_cells z5
      have fr0 := free_at (i := 0) z5
      have fr1 := free_at (i := 1) z5
      have fr2 := free_at (i := 2) z5
      have fr3 := free_at (i := 3) z5
      have fr4 := free_at (i := 4) z5
      have fr5 := free_at (i := 5) z5
      have fr6 := free_at (i := 6) z5
      have fr7 := free_at (i := 7) z5
      obtain ⟨WN, hWN⟩ : ∃ WN, WN = (((((((w5.setCell ⟨R0 + 1, 0, none⟩ (.int .i64 0)).setCell ⟨R0 + 1, 1, none⟩ (.int .i64 0)).setCell ⟨R0 + 1, 2, none⟩ (.int .i64 1)).setCell ⟨R0 + 1, 3, none⟩ (.slice a n c)).setCell ⟨R0 + 1, 4, none⟩ (.slice none 0 0)).setCell ⟨R0 + 1, 5, none⟩ (.slice (some ⟨ms, 0, none⟩) nu nu)).setCell ⟨R0 + 1, 6, none⟩ (.slice none 0 0)).setCell ⟨R0 + 1, 7, none⟩ (.slice none 0 0) := ⟨_, rfl⟩
      have gN : w5.grownBy WN (some (R0 + 1)) := by
        rw [hWN]
        exact grown_put (grown_put (grown_put (grown_put (grown_put (grown_put (grown_put (grown_put (grown_refl _ _))))))))
      have zz : WN.heap[R0 + 1]? = some (.cells #[.int .i64 0, .int .i64 0, .int .i64 1, .slice a n c, .slice none 0 0, .slice (some ⟨ms, 0, none⟩) nu nu, .slice none 0 0, .slice none 0 0] 31 (0, 0)) := by
        rw [hWN]
        exact set_block (set_block (set_block (set_block (set_block (set_block (set_block (set_block z5)))))))
      obtain ⟨y0, y1, y2, y3, y4, y5, y6, y7⟩ := eight_cells zz
      have FE : Hid ((∃ v, Ending.returned (Value.agg #[.int .i64 0, .int .i64 0, .int .i64 1, .slice a n c, .slice none 0 0, .slice (some ⟨ms, 0, none⟩) nu nu, .slice none 0 0, .slice none 0 0]) = .returned v ∧ StO w.heap.size WN v (freshS L nu) ∧ Below w.heap.size w WN)) := by
        have hl := (HOL.out.below labM_ok b5).kept labM_ok gN (Nat.lt_succ_self _)
        have hs := HST.kept stkM_ok gN (by have := HNW.out; omega)
        refine ⟨_, rfl, ⟨[.int .i64 0, .int .i64 0, .int .i64 1, .slice a n c, .slice none 0 0, .slice (some ⟨ms, 0, none⟩) nu nu, .slice none 0 0, .slice none 0 0], rfl, staM_mk 0 0 1 ((hl.base labM_ok (base' := w.heap.size) (by have := HL0.out; omega)).rowP labM_ok) (RowP.nil_ _ _ _) ((hs.base stkM_ok (base' := w.heap.size) (by have := HL0.out; have := HNW.out; omega)).rowP stkM_ok) (RowP.nil_ _ _ _) (RowP.nil_ _ _ _)⟩, ?_⟩
        rw [hWN, HL0.out]
        exact below_put (below_put (below_put (below_put (below_put (below_put (below_put (below_put ((HB1.out.trans (HB.out.mono (by omega))).trans (b5.mono (by have := HNW.out; omega))) (Nat.le_succ R0) _) (Nat.le_succ R0) _) (Nat.le_succ R0) _) (Nat.le_succ R0) _) (Nat.le_succ R0) _) (Nat.le_succ R0) _) (Nat.le_succ R0) _) (Nat.le_succ R0) _
      have HWN := Lib.hid hWN
      clear r5 g5 b5 HST z5 hWN gN zz HOL HB HZ1 A2 A3 A4 hms hi hz0 hz1 hz2
      go_wp2_with fail
      rw [← HWN.out]
      exact bodyPost_ret (v := .agg #[.int .i64 0, .int .i64 0, .int .i64 1, .slice a n c, .slice none 0 0, .slice (some ⟨ms, 0, none⟩) nu nu, .slice none 0 0, .slice none 0 0]) (by simp [results, Tryz.results6, go_sem, y0, y1, y2, y3, y4, y5, y6, y7, Tryz.isAgg31, Tryz.sizeOf31]) rfl FE.out
end Go.Proofs.YtccaiippoephbaaGreatDoor.Sta
