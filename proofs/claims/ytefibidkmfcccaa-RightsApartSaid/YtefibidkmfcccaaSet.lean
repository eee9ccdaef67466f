/- Contracts: slices.Insert of one int, slices.Delete of one, set. -/
import Derived.Test.YtefibidkmfcccaaRise
import Derived.Test.YtefibidkmfcccaaOwn
import Derived.Test.YtefibidkmfcccaaShelf
set_option linter.unusedVariables false
namespace Go.Proofs.Ytefibidkmfcccaa.Rig
open Go.RowKit Go.Lib Go.Proofs.Ytefibidkmfcccaa.Rt

theorem at_app_left {xs ys : List Int} {j : Nat} (h : j < xs.length) : at_ (xs ++ ys) j = at_ xs j := by
  unfold at_
  rw [List.getD_eq_getElem?_getD, List.getD_eq_getElem?_getD, List.getElem?_append_left h]
theorem at_app_right {xs ys : List Int} {j : Nat} (h : xs.length ≤ j) : at_ (xs ++ ys) j = at_ ys (j - xs.length) := by
  unfold at_
  rw [List.getD_eq_getElem?_getD, List.getD_eq_getElem?_getD, List.getElem?_append_right h]
theorem at_take {xs : List Int} {i j : Nat} (h : j < i) : at_ (xs.take i) j = at_ xs j := by
  unfold at_
  rw [List.getD_eq_getElem?_getD, List.getD_eq_getElem?_getD, List.getElem?_take_of_lt h]
theorem at_drop (xs : List Int) (i j : Nat) : at_ (xs.drop i) j = at_ xs (i + j) := by
  unfold at_
  rw [List.getD_eq_getElem?_getD, List.getD_eq_getElem?_getD, List.getElem?_drop]

/-- With u at place i. -/
def insL (xs : List Int) (i : Nat) (u : Int) : List Int := xs.take i ++ ([u] ++ xs.drop i)
theorem insL_len {xs : List Int} {i : Nat} (u : Int) (h : i ≤ xs.length) : (insL xs i u).length = xs.length + 1 := by
  unfold insL
  simp
  omega
theorem insL_at {xs : List Int} {i : Nat} (u : Int) (h : i ≤ xs.length) (j : Nat) : at_ (insL xs i u) j = if j < i then at_ xs j else if j = i then u else at_ xs (j - 1) := by
  have hl : (xs.take i).length = i := by rw [List.length_take]; omega
  unfold insL
  by_cases h1 : j < i
  · rw [if_pos h1, at_app_left (by omega), at_take h1]
  · rw [if_neg h1, at_app_right (by omega), hl]
    by_cases h2 : j = i
    · subst h2
      rw [if_pos rfl, Nat.sub_self]
      rfl
    · rw [if_neg h2, at_app_right (by simp; omega), at_drop]
      simp
      congr 1
      omega
theorem insL_mem {xs : List Int} {i : Nat} {u x : Int} (h : x ∈ insL xs i u) : x = u ∨ x ∈ xs := by
  unfold insL at h
  simp only [List.mem_append, List.mem_singleton] at h
  rcases h with h | h | h
  · exact .inr (List.mem_of_mem_take h)
  · exact .inl h
  · exact .inr (List.mem_of_mem_drop h)

/-- It hands ints back that it owns; but for block row all is as it was. -/
def GivesI (base : Nat) (w : World) (row : Option Nat) (ys : List Int) (e : Ending) (w' : World) : Prop := ∃ v', e = .returned v' ∧ OwnI base w' v' ys ∧ w.grownBy w' row

theorem block_isSome {w : World} {g cap j : Nat} {cur : Array Value} {t : TypeId} (h : w.heap[g]? = some (.cells cur t (0, 0))) (hs : cur.size = cap) (hj : j < cap) : (w.cell? ⟨g, j, none⟩).isSome = true := by
  rw [cell_of_row w g j cur t (0, 0) h, Array.getElem?_eq_getElem (by omega)]
  rfl
theorem block_frozen {w : World} {g j : Nat} {cur : Array Value} {t : TypeId} (h : w.heap[g]? = some (.cells cur t (0, 0))) : w.frozen? ⟨g, j, none⟩ = false := frozen_of_row w g j cur t h

theorem ins_end_grow (base : Option Addr) (n c vb : Nat) (u : Int) (cs : List Value) (w : World) (hnc : n ≤ c) (hroom : c < n + 1) (hbig : (n + 1) * 8 ≤ 140737488355328) (hcl : cs.length = n) (hnil : base = none → n = 0)
    (hcs : ∀ a, base = some a → ∀ j v, cs[j]? = some v → w.cell? (a.add j) = some v) (hvs : ∀ j v, [Value.int .i64 u][j]? = some v → w.cell? ⟨vb, 0 + j, none⟩ = some v) (h1v : ∀ v ∈ [Value.int .i64 u], v.oneCell' = true) :
    Calls Try.prog 32 #[.slice base n c, .int .i64 n, .slice (some ⟨vb, 0, none⟩) 1 1] w fun e w' =>
      e = .returned (.slice (some ⟨w.heap.size, 0, none⟩) (n + 1) (grownCap w (n + 1) c 3)) ∧
      w' = w.drew.alloc (.cells ((cs ++ [Value.int .i64 u]).toArray ++ Builtin.zeroCells (Value.int .i64 0).cells (grownCap w (n + 1) c 3 - (n + 1))) 3) :=
  Any2.slices_Insert_int_end_grow Try.laysNm221 base n c vb 0 1 1 cs [.int .i64 u] w (by omega) hnc hroom hbig hcl rfl hnil hcs hvs h1v
theorem ins_grow (b n c i vb : Nat) (u : Int) (cs : List Value) (w : World) (hi : i < n) (hnc : n ≤ c) (hroom : c < n + 1) (hbig : (n + 1) * 8 ≤ 140737488355328) (hcl : cs.length = n)
    (hcs : ∀ j v, cs[j]? = some v → w.cell? ⟨b, 0 + j, none⟩ = some v) (hvs : ∀ j v, [Value.int .i64 u][j]? = some v → w.cell? ⟨vb, 0 + j, none⟩ = some v) (h1c : ∀ v ∈ cs, v.oneCell' = true) (h1v : ∀ v ∈ [Value.int .i64 u], v.oneCell' = true) :
    Calls Try.prog 32 #[.slice (some ⟨b, 0, none⟩) n c, .int .i64 i, .slice (some ⟨vb, 0, none⟩) 1 1] w fun e w' =>
      e = .returned (.slice (some ⟨w.heap.size, 0, none⟩) (n + 1) (grownCap w (n + 1) c 3)) ∧
      w' = (((w.alloc (.cells ((cs.take i).toArray ++ Builtin.zeroCells (Value.int .i64 0).cells (n + 1 - i) ++ Builtin.zeroCells (Value.int .i64 0).cells (grownCap w (n + 1) c 3 - (n + 1))) 3)).drew.setCells w.heap.size i [Value.int .i64 u]).drew).setCells w.heap.size (i + 1) (cs.drop i) :=
  Any2.slices_Insert_int_grow Try.laysNm221 b 0 n c i vb 0 1 1 cs [.int .i64 u] w hi (by omega) hnc hroom hbig hcl rfl hcs hvs h1c h1v

set_option maxRecDepth 100000 in
set_option maxHeartbeats 1000000 in
theorem insert_any {base : Nat} {v : Value} {xs : List Int} {i : Nat} {vb : Nat} {u : Int} (w : World) (h : OwnI base w v xs) (hi : i ≤ xs.length) (hn : xs.length ≤ 1000) (hu : i64 u) (hbase : base ≤ w.heap.size)
    (hvb : w.heap[vb]? = some (.cells #[.int .i64 u] 3 (0, 0))) (hne : v.ownBlock ≠ some vb) :
    Calls Try.prog 32 #[v, .int .i64 i, .slice (some ⟨vb, 0, none⟩) 1 1] w (GivesI base w v.ownBlock (insL xs i u)) := by
  have hil := insL_len u hi
  have hia := insL_at u hi
  have hi64 : ∀ x ∈ insL xs i u, i64 x := fun x hx => by
    rcases insL_mem hx with rfl | hx
    · exact hu
    · exact h.2 x hx
  have hvs : ∀ j a, [Value.int .i64 u][j]? = some a → w.cell? ⟨vb, 0 + j, none⟩ = some a := fun j a hj => by
    match j, hj with
    | 0, hj => simp at hj; subst hj; rw [cell_of_row w vb _ _ _ (0, 0) hvb]; rfl
  have h1v : ∀ a ∈ [Value.int .i64 u], a.oneCell' = true := fun a ha => by simp at ha; subst ha; rfl
  have hlc : (ints xs).length = xs.length := ints_len xs
  have two63 : xs.length ≤ maxLen := by unfold maxLen; omega
  rcases h.1.2 with ⟨rfl, h0⟩ | ⟨g, cap, cur, rfl, hb, hg, hle, hm, hsz, htake⟩
  · have hx : xs = [] := List.eq_nil_of_length_eq_zero h0
    subst hx
    obtain rfl : i = 0 := by simpa using hi
    refine (ins_end_grow none 0 0 vb u [] w (by omega) (by omega) (by omega) rfl (fun _ => rfl) (fun _ e => by cases e) hvs h1v).mono ?_
    rintro e w' ⟨rfl, rfl⟩
    have hcap := grownCap_ge w (0 + 1) 0 3
    have hcm := grownCap_le_maxLen w (0 + 1) 0 3 (by unfold maxLen; omega)
    refine ⟨_, rfl, ?_, ?_⟩
    · have hnew := heap_alloc_new w.drew (.cells (([] ++ [Value.int .i64 u] : List Value).toArray ++ Builtin.zeroCells (Value.int .i64 0).cells (grownCap w (0 + 1) 0 3 - (0 + 1))) 3)
      exact own_of (ys := insL [] 0 u) (w := w.drew.alloc _) (g := w.heap.size) hbase ⟨_, hnew, by rw [Array.size_append, size_zeroCells]; simp [Value.cells] at hcap ⊢; omega⟩ (by rw [hil]; exact hcap) hcm hi64 (fun j hj => by
        obtain rfl : j = 0 := by rw [hil] at hj; simp at hj; omega
        exact (cell_of_row _ _ _ _ _ (0, 0) hnew).trans (by rw [Array.getElem?_append_left (by simp)]; rfl))
    · exact grown_below (by exact (Below.drew (Below.refl _ w)).alloc (Nat.le_refl _) _) _
  · have hcs : ∀ j a, (ints xs)[j]? = some a → w.cell? ⟨g, 0 + j, none⟩ = some a := fun j a hj => by
      have hc := World.ownsRow.cells h.1 (g := g) rfl j a hj
      have hadd : (⟨g, 0, none⟩ : Addr).add j = ⟨g, 0 + j, none⟩ := by unfold Addr.add; split <;> simp_all
      rw [hadd] at hc
      exact hc
    have hvg : vb ≠ g := fun e => hne (by rw [e]; rfl)
    rw [Nat.mul_one] at hsz
    have ob : (Value.slice (some ⟨g, 0, none⟩) xs.length cap).ownBlock = some g := rfl
    rw [ob]
    by_cases hend : i = xs.length
    · subst hend
      by_cases hroom : xs.length + 1 ≤ cap
      · refine (Any2.slices_Insert_int_end_room Try.laysNm221 g 0 xs.length cap vb 0 1 1 [.int .i64 u] w (by omega) hroom (by unfold maxLen at hm; omega) rfl (fun j hj => block_isSome hg hsz (by omega)) (fun j hj => block_frozen hg) hvs h1v).mono ?_
        rintro e w' ⟨rfl, rfl⟩
        refine ⟨_, rfl, ?_, setCells_grown _ _ _⟩
        rw [← hil]
        obtain ⟨cur', hc1, hc2⟩ := setCells_block [.int .i64 u] (0 + xs.length) w cur hg
        refine own_of hb ⟨cur', hc1, by omega⟩ (by rw [hil]; exact hroom) hm hi64 (fun j hj => ?_)
        rw [hil] at hj
        rw [hia]
        by_cases hj1 : j < xs.length
        · rw [if_pos hj1, World.cell?_setCells_out g _ _ _ _ (fun _ _ => by show j < _ ∨ _; omega)]
          have := hcs j _ (ints_get hj1)
          rwa [Nat.zero_add] at this
        · obtain rfl : j = xs.length := by omega
          rw [if_neg hj1, if_pos rfl]
          have := World.cell?_setCells_in g [.int .i64 u] (0 + xs.length) w (fun k hk => by simp at hk; subst hk; exact block_isSome hg hsz (by omega)) 0 (by simp)
          rw [Nat.add_zero, Nat.zero_add] at this
          rw [Nat.zero_add, this]
          rfl
      · refine (ins_end_grow (some ⟨g, 0, none⟩) xs.length cap vb u (Rig.ints xs) w hle (by omega) (by omega) hlc (fun e => by cases e) (fun a e j x hj => by
            injection e with e
            subst e
            exact World.ownsRow.cells h.1 (g := g) rfl j x hj) hvs h1v).mono ?_
        rintro e w' ⟨rfl, rfl⟩
        have hcap := grownCap_ge w (xs.length + 1) cap 3
        have hcm := grownCap_le_maxLen w (xs.length + 1) cap 3 (by unfold maxLen; omega)
        refine ⟨_, rfl, ?_, ?_⟩
        · have hnew := heap_alloc_new w.drew (.cells ((Rig.ints xs ++ [Value.int .i64 u] : List Value).toArray ++ Builtin.zeroCells (Value.int .i64 0).cells (grownCap w (xs.length + 1) cap 3 - (xs.length + 1))) 3)
          have key : OwnI base (w.drew.alloc (.cells ((Rig.ints xs ++ [Value.int .i64 u] : List Value).toArray ++ Builtin.zeroCells (Value.int .i64 0).cells (grownCap w (xs.length + 1) cap 3 - (xs.length + 1))) 3)) (.slice (some ⟨w.heap.size, 0, none⟩) (insL xs xs.length u).length (grownCap w (xs.length + 1) cap 3)) (insL xs xs.length u) := by
           refine own_of (g := w.heap.size) hbase ⟨_, hnew, ?_⟩ (by rw [hil]; exact hcap) hcm hi64 (fun j hj => ?_)
           · rw [Array.size_append, size_zeroCells]
             simp [Value.cells, hlc]
             omega
           rw [hil] at hj
           refine (cell_of_row _ _ _ _ _ (0, 0) hnew).trans ?_
           rw [Array.getElem?_append_left (by simp [hlc]; omega)]
           rw [hia]
           simp only [List.getElem?_toArray]
           by_cases hj1 : j < xs.length
           · rw [if_pos hj1, List.getElem?_append_left (by omega), ints_get hj1]
           · obtain rfl : j = xs.length := by omega
             rw [if_neg hj1, if_pos rfl, List.getElem?_append_right (by omega), hlc, Nat.sub_self]
             rfl
          rw [hil] at key
          exact key
        · exact grown_below (by exact (Below.drew (Below.refl _ w)).alloc (Nat.le_refl _) _) _
    · have hlt : i < xs.length := by omega
      by_cases hroom : xs.length + 1 ≤ cap
      · refine (Any2.slices_Insert_int_shift Try.laysNm221 g 0 xs.length cap i vb 0 1 1 (Rig.ints xs) [.int .i64 u] w hlt (by omega) hroom (by unfold maxLen at hm; omega) hvg hlc rfl hcs
            (fun j hj => by rw [Nat.zero_add]; exact block_isSome hg hsz (by omega)) (fun j hj => block_frozen hg) hvs ints_one h1v 3 3 1 cap (by simp [World.shape?, hvb]) (by simp [World.shape?, hg, hsz]) (by omega) (block_frozen hvb) (block_frozen hvb)).mono ?_
        rintro e w' ⟨rfl, rfl⟩
        refine ⟨_, rfl, ?_, grown_trans (grown_trans (grown_drew (World.grownBy.refl w _)) (setCells_grown _ _ _)) (setCells_grown _ _ _)⟩
        rw [← hil]
        obtain ⟨cur1, hc1, hs1⟩ := setCells_block ((Rig.ints xs).drop i) (0 + (i + 1)) w.drew cur hg
        obtain ⟨cur2, hc2, hs2⟩ := setCells_block [.int .i64 u] (0 + i) _ cur1 hc1
        have hdl : ((Rig.ints xs).drop i).length = xs.length - i := by rw [List.length_drop, hlc]
        refine own_of hb ⟨cur2, hc2, by omega⟩ (by rw [hil]; exact hroom) hm hi64 (fun j hj => ?_)
        rw [hil] at hj
        rw [hia]
        by_cases hj1 : j < i
        · rw [if_pos hj1, World.cell?_setCells_out g _ _ _ _ (fun _ _ => by show j < _ ∨ _; omega), World.cell?_setCells_out g _ _ _ _ (fun _ _ => by show j < _ ∨ _; omega)]
          have := hcs j _ (ints_get (by omega))
          rwa [Nat.zero_add] at this
        · rw [if_neg hj1]
          by_cases hj2 : j = i
          · subst hj2
            rw [if_pos rfl]
            have := World.cell?_setCells_in g [.int .i64 u] (0 + j) (w.drew.setCells g (0 + (j + 1)) ((Rig.ints xs).drop j)) (fun k hk => by simp at hk; subst hk; exact block_isSome hc1 hs1 (by omega)) 0 (by simp)
            rw [show 0 + j + 0 = j by omega] at this
            rw [this]
            rfl
          · rw [if_neg hj2, World.cell?_setCells_out g _ _ _ _ (fun _ _ => by show j < _ ∨ 0 + i + [Value.int .i64 u].length ≤ j; simp; omega)]
            have := World.cell?_setCells_in g ((Rig.ints xs).drop i) (0 + (i + 1)) w.drew (fun k hk => by rw [hdl] at hk; exact block_isSome (w := w) hg hsz (by omega)) (j - (i + 1)) (by omega)
            rw [show 0 + (i + 1) + (j - (i + 1)) = j by omega] at this
            rw [this]
            have e2 : ((Rig.ints xs).drop i)[j - (i + 1)]? = some (.int .i64 (at_ xs (j - 1))) := by
              rw [List.getElem?_drop, show i + (j - (i + 1)) = j - 1 by omega, ints_get (by omega)]
            rw [← e2, List.getElem?_eq_getElem]
      · refine (ins_grow g xs.length cap i vb u (Rig.ints xs) w hlt hle (by omega) (by omega) hlc hcs hvs ints_one h1v).mono ?_
        rintro e w' ⟨rfl, rfl⟩
        have hcap := grownCap_ge w (xs.length + 1) cap 3
        have hcm := grownCap_le_maxLen w (xs.length + 1) cap 3 (by unfold maxLen; omega)
        have htl : ((Rig.ints xs).take i).length = i := by rw [List.length_take, hlc]; omega
        obtain ⟨arr, harr⟩ : ∃ arr, arr = ((Rig.ints xs).take i).toArray ++ Builtin.zeroCells (Value.int .i64 0).cells (xs.length + 1 - i) ++ Builtin.zeroCells (Value.int .i64 0).cells (grownCap w (xs.length + 1) cap 3 - (xs.length + 1)) := ⟨_, rfl⟩
        have hasz : arr.size = grownCap w (xs.length + 1) cap 3 := by
          rw [harr, Array.size_append, Array.size_append, size_zeroCells, size_zeroCells]
          simp [Value.cells, htl]
          omega
        rw [← harr]
        have hnew := heap_alloc_new w (.cells arr 3)
        have hdl : ((Rig.ints xs).drop i).length = xs.length - i := by rw [List.length_drop, hlc]
        obtain ⟨cur1, hc1, hs1⟩ := setCells_block [.int .i64 u] i (w.alloc (.cells arr 3)).drew arr hnew
        obtain ⟨cur2, hc2, hs2⟩ := setCells_block ((Rig.ints xs).drop i) (i + 1) ((w.alloc (.cells arr 3)).drew.setCells w.heap.size i [.int .i64 u]).drew cur1 hc1
        refine ⟨_, rfl, ?_, ?_⟩
        · suffices key : OwnI base (((w.alloc (.cells arr 3)).drew.setCells w.heap.size i [Value.int .i64 u]).drew.setCells w.heap.size (i + 1) ((Rig.ints xs).drop i)) (.slice (some ⟨w.heap.size, 0, none⟩) (insL xs i u).length (grownCap w (xs.length + 1) cap 3)) (insL xs i u) by
            rw [hil] at key
            exact key
          refine own_of hbase ⟨cur2, hc2, by rw [hs2, hs1, hasz]⟩ (by rw [hil]; exact hcap) hcm hi64 (fun j hj => ?_)
          rw [hil] at hj
          rw [hia]
          by_cases hj1 : j < i
          · rw [if_pos hj1, World.cell?_setCells_out w.heap.size _ _ _ _ (fun _ _ => by show j < _ ∨ _; omega)]
            show ((w.alloc (.cells arr 3)).drew.setCells w.heap.size i [.int .i64 u]).cell? _ = _
            rw [World.cell?_setCells_out w.heap.size _ _ _ _ (fun _ _ => by show j < _ ∨ _; omega)]
            refine (cell_of_row _ _ _ _ _ (0, 0) hnew).trans ?_
            rw [harr, Array.getElem?_append_left (by rw [Array.size_append]; simp [htl]; omega), Array.getElem?_append_left (by simp [htl]; omega), List.getElem?_toArray, List.getElem?_take_of_lt hj1, ints_get (by omega)]
          · rw [if_neg hj1]
            by_cases hj2 : j = i
            · subst hj2
              rw [if_pos rfl, World.cell?_setCells_out w.heap.size _ _ _ _ (fun _ _ => by show j < _ ∨ _; omega)]
              show ((w.alloc (.cells arr 3)).drew.setCells w.heap.size j [.int .i64 u]).cell? _ = _
              have := World.cell?_setCells_in w.heap.size [.int .i64 u] j (w.alloc (.cells arr 3)).drew (fun k hk => by simp at hk; subst hk; exact block_isSome (w := w.alloc (.cells arr 3)) hnew hasz (by omega)) 0 (by simp)
              rw [Nat.add_zero] at this
              rw [this]
              rfl
            · rw [if_neg hj2]
              have := World.cell?_setCells_in w.heap.size ((Rig.ints xs).drop i) (i + 1) ((w.alloc (.cells arr 3)).drew.setCells w.heap.size i [.int .i64 u]).drew (fun k hk => by rw [hdl] at hk; exact block_isSome (w := ((w.alloc (.cells arr 3)).drew.setCells w.heap.size i [.int .i64 u])) hc1 (hs1.trans hasz) (by omega)) (j - (i + 1)) (by omega)
              rw [show i + 1 + (j - (i + 1)) = j by omega] at this
              rw [this]
              have e2 : ((Rig.ints xs).drop i)[j - (i + 1)]? = some (.int .i64 (at_ xs (j - 1))) := by
                rw [List.getElem?_drop, show i + (j - (i + 1)) = j - 1 by omega, ints_get (by omega)]
              rw [← e2, List.getElem?_eq_getElem]
        · exact grown_new (grown_new (grown_drew (World.grownBy_alloc w _ _)) (Nat.le_refl _) (grown_drew (setCells_grown (g := w.heap.size) [.int .i64 u] i (w.alloc (.cells arr 3)).drew))) (Nat.le_refl _) (setCells_grown _ _ _)

/-! ### Delete -/
def delL (xs : List Int) (i : Nat) : List Int := xs.take i ++ xs.drop (i + 1)
theorem delL_len {xs : List Int} {i : Nat} (h : i < xs.length) : (delL xs i).length = xs.length - 1 := by
  unfold delL
  simp
  omega

theorem mapBlock_block {w : World} {g : Nat} {cur : Array Value} {t : TypeId} (f : Array Value → Array Value) (h : w.heap[g]? = some (.cells cur t (0, 0))) : (Sort.mapBlock w g f).heap[g]? = some (.cells (f cur) t (0, 0)) := by
  unfold Sort.mapBlock
  simp [Array.getElem?_modify, h, Sort.onCells]
theorem mapBlock_grown (w : World) (g : Nat) (f : Array Value → Array Value) : w.grownBy (Sort.mapBlock w g f) (some g) := by
  refine ⟨rfl, rfl, rfl, by simp [Sort.mapBlock], fun k hk hne => ?_⟩
  unfold Sort.mapBlock
  simp only [Array.getElem?_modify]
  rw [if_neg (fun e => hne (by rw [e]))]

set_option maxRecDepth 100000 in
set_option maxHeartbeats 1000000 in
theorem delete_any {base : Nat} {v : Value} {xs : List Int} {i : Nat} (w : World) (h : OwnI base w v xs) (hi : i < xs.length) (hn : xs.length ≤ 1000) :
    Calls Try.prog 33 #[v, .int .i64 i, .int .i64 ((i : Int) + 1)] w (GivesI base w v.ownBlock (delL xs i)) := by
  have hdl := delL_len hi
  rcases h.1.2 with ⟨rfl, h0⟩ | ⟨g, cap, cur, rfl, hb, hg, hle, hm, hsz, htake⟩
  · omega
  · rw [Nat.mul_one] at hsz
    have hcs : ∀ j, j < xs.length → w.cell? ⟨g, j, none⟩ = some (.int .i64 (at_ xs j)) := fun j hj => by
      have hc := World.ownsRow.cells h.1 (g := g) rfl j _ (ints_get hj)
      have hadd : (⟨g, 0, none⟩ : Addr).add j = ⟨g, j, none⟩ := by unfold Addr.add; split <;> simp_all
      rw [hadd] at hc
      exact hc
    have hH : Sort.Holds (Value.int .i64) w g 0 xs.toArray := fun j hj => by
      have hj' : j < xs.length := by simpa using hj
      refine ⟨?_, block_frozen hg⟩
      rw [Nat.zero_add, hcs j hj', at_get hj']
      rw [getElem!_pos _ j hj]
      rfl
    have C := Try.slices_Delete_int g 0 cap i (i + 1) xs w hH hle (by unfold maxLen at hm; omega) (by omega) (by omega)
    refine C.mono ?_
    rintro e w' ⟨rfl, q, rfl⟩
    rw [show xs.length - (i + 1 - i) = (delL xs i).length by rw [hdl]; omega]
    refine ⟨_, rfl, ?_, ?_⟩
    · have hsize : (xs.take i ++ xs.drop (i + 1) ++ List.replicate (i + 1 - i) 0).toArray.size = xs.toArray.size := by simp; omega
      refine own_of hb ⟨_, mapBlock_block _ (w := Sort.ahead w q) hg, by simp [Sort.putCells, hsz]⟩ (by omega) hm (fun x hx => ?_) (fun j hj => ?_)
      · unfold delL at hx
        rw [List.mem_append] at hx
        rcases hx with hx | hx
        · exact h.2 x (List.mem_of_mem_take hx)
        · exact h.2 x (List.mem_of_mem_drop hx)
      · have := Sort.cell?_putRow (Value.int .i64) (Sort.ahead w q) g 0 xs.toArray (xs.take i ++ xs.drop (i + 1) ++ List.replicate (i + 1 - i) 0).toArray hH hsize j (by rw [hsize]; simp; omega)
        rw [Nat.zero_add] at this
        rw [this, getElem!_pos _ j (by rw [hsize]; simp; omega), List.getElem_toArray]
        have hj2 : j < (xs.take i ++ xs.drop (i + 1)).length := hj
        rw [List.getElem_append_left hj2]
        have := at_get hj
        rw [this]
        rfl
    · exact ⟨rfl, rfl, rfl, (mapBlock_grown (Sort.ahead w q) g _).size, fun k hk hne => (mapBlock_grown (Sort.ahead w q) g _).block k hk hne⟩
end Go.Proofs.Ytefibidkmfcccaa.Rig
