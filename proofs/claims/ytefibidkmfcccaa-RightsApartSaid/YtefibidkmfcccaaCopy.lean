/- Contracts: Copy and Grant of the plain text. -/
import Derived.Test.YtefibidkmfcccaaRef
set_option linter.unusedVariables false
namespace Go.Proofs.Ytefibidkmfcccaa.Rig
open Go.RowKit Go.Lib Go.Proofs.Ytefibidkmfcccaa.Rt

def cellsN (L : List Lb) (z : Nat → Value) (k : Nat) : List Value := (List.range (k * 4)).map (cellAt L z)
theorem cellsN_all (L : List Lb) (z : Nat → Value) : cellsN L z L.length = cellsL L z := rfl
theorem cellsN_succ (L : List Lb) (z : Nat → Value) (k : Nat) : cellsN L z (k + 1) = cellsN L z k ++ [.int .i64 (lb L k).p, .int .i64 (lb L k).o, z (2 * k), z (2 * k + 1)] := by
  unfold cellsN
  rw [show (k + 1) * 4 = k * 4 + 1 + 1 + 1 + 1 by omega, List.range_succ, List.range_succ, List.range_succ, List.range_succ]
  simp only [List.map_append, List.map_cons, List.map_nil, List.append_assoc, List.cons_append, List.nil_append]
  rw [cellAt_p, cellAt_o, show k * 4 + 1 + 1 = k * 4 + 2 by omega, cellAt_r, show k * 4 + 2 + 1 = k * 4 + 3 by omega, cellAt_s]
theorem cellsN_same (L : List Lb) (z z' : Nat → Value) (k : Nat) (h : ∀ m, m < 2 * k → z m = z' m) : cellsN L z k = cellsN L z' k := by
  unfold cellsN
  refine List.map_congr_left fun i hi => ?_
  rw [List.mem_range] at hi
  unfold cellAt
  rw [h (2 * (i / 4)) (by omega), h (2 * (i / 4) + 1) (by omega)]

def RC (base : Nat) (L : List Lb) (k : Nat) (W : World) (out : Value) : Prop := ∃ z, W.ownsRow base 37 4 out k (cellsN L z k) ∧ ∀ m, m < 2 * k → OwnI base W (z m) (listOf L m)
theorem own_apart2 {base B : Nat} {w : World} {out v : Value} {k : Nat} {cs : List Value} {xs : List Int} (h : w.ownsRow base 37 4 out k cs) (hv : OwnI B w v xs) : v.ownBlock = none ∨ v.ownBlock ≠ out.ownBlock := by
  rcases hv.1.2 with ⟨rfl, _⟩ | ⟨g', cap', cur', rfl, _, hg', _⟩
  · exact .inl rfl
  · right
    intro e
    rcases h.2 with ⟨rfl, _⟩ | ⟨g2, cap2, cur2, rfl, _, hg2, _⟩
    · cases e
    · obtain rfl : g' = g2 := by simpa [Value.ownBlock] using e
      rw [hg'] at hg2
      simp at hg2
theorem RC.step {base : Nat} {L : List Lb} {k : Nat} {W1 W2 : World} {out out' rv sv : Value} {z : Nat → Value} (h1 : W1.ownsRow base 37 4 out k (cellsN L z k)) (h2 : ∀ m, m < 2 * k → OwnI base W1 (z m) (listOf L m))
    (hr : OwnI base W1 rv (listOf L (2 * k))) (hs : OwnI base W1 sv (listOf L (2 * k + 1))) (hg : W1.grownBy W2 out.ownBlock)
    (ho : W2.ownsRow base 37 4 out' (k + 1) (cellsN L z k ++ [.int .i64 (lb L k).p, .int .i64 (lb L k).o, rv, sv])) : RC base L (k + 1) W2 out' := by
  refine ⟨upd (upd z (2 * k) rv) (2 * k + 1) sv, ?_, fun m hm => ?_⟩
  · rw [cellsN_succ, cellsN_same L _ z k (fun m hm => by unfold upd; rw [if_neg (by omega), if_neg (by omega)])]
    have e1 : upd (upd z (2 * k) rv) (2 * k + 1) sv (2 * k) = rv := by unfold upd; rw [if_neg (by omega), if_pos rfl]
    have e2 : upd (upd z (2 * k) rv) (2 * k + 1) sv (2 * k + 1) = sv := by unfold upd; rw [if_pos rfl]
    rw [e1, e2]
    exact ho
  · have key : ∀ {v : Value} {xs : List Int}, OwnI base W1 v xs → OwnI base W2 v xs := fun hv => hv.kept hg (own_apart2 h1 hv)
    unfold upd
    by_cases c1 : m = 2 * k + 1
    · rw [if_pos c1, c1]
      exact key hs
    by_cases c2 : m = 2 * k
    · rw [if_neg c1, if_pos c2, c2]
      exact key hr
    · rw [if_neg c1, if_neg c2]
      exact key (h2 m (by omega))

theorem own_form {base : Nat} {w : World} {e : TypeId} {size n : Nat} {v : Value} {xs : List Value} (h : w.ownsRow base e size v n xs) : ∃ a c, v = .slice a n c := by
  rcases h.2 with ⟨rfl, rfl⟩ | ⟨g, cap, cur, rfl, _⟩
  · exact ⟨_, _, rfl⟩
  · exact ⟨_, _, rfl⟩

theorem own_apart3 {B : Nat} {w : World} {X : Nat} {cs : Array Value} {v : Value} {xs : List Int} (h : w.heap[X]? = some (.cells cs 37 (0, 0))) (hv : OwnI B w v xs) : v.ownBlock ≠ some X := by
  intro e
  rcases hv.1.2 with ⟨rfl, _⟩ | ⟨g', cap', cur', rfl, _, hg', _⟩
  · cases e
  · obtain rfl : g' = X := by simpa [Value.ownBlock] using e
    rw [hg'] at h
    simp at h
/-- What has turned behind the append onto a new row. -/
theorem made_grown {W w5 : World} {o : Obj} {v : Value} (h : (W.alloc o).grownBy w5 v.ownBlock) (hv : ∀ k, v.ownBlock = some k → W.heap.size ≤ k) : Below W.heap.size W w5 :=
  ((Below.refl _ W).alloc (Nat.le_refl _) o).grown h (by simp) hv

/-- It hands labels back that it owns. -/
def ROwn (base : Nat) (w : World) (v : Value) (L : List Lb) : Prop := ∃ g cap z, v = .slice (some ⟨g, 0, none⟩) L.length cap ∧ OwnL base w g cap L z ∧ ∀ m, m < 2 * L.length → OwnI base w (z m) (listOf L m)
def RCopied (w : World) (L : List Lb) (e : Ending) (w' : World) : Prop := ∃ v, e = .returned v ∧ ROwn w.heap.size w' v L ∧ Below w.heap.size w w'

theorem ints_own {base : Nat} {w : World} {v : Value} {xs : List Int} (h : w.ownsRow base 3 1 v (0 + xs.length) ([] ++ ints xs)) (hx : ∀ x ∈ xs, i64 x) : OwnI base w v xs := by
  rw [Nat.zero_add, List.nil_append] at h
  exact ⟨h, hx⟩
theorem made0 (base : Nat) (W : World) (h : base ≤ W.heap.size) : (W.alloc (.cells #[] 3)).ownsRow base 3 1 (.slice (some ⟨W.heap.size, 0, none⟩) 0 0) 0 [] := by
  have := World.ownsRow_made (base := base) (size := 1) (e := 3) W #[] 0 h (Nat.zero_le _) (by simp)
  simpa using this

set_option maxRecDepth 100000 in
set_option maxHeartbeats 4000000 in
theorem copy_any {v : Value} {L : List Lb} (w : World) (h : Labs w v L) (h1 : 1 ≤ L.length) (h12 : L.length ≤ 12) (hlen : ∀ m, m < 2 * L.length → (listOf L m).length ≤ 1000) :
    Calls Try.prog 17 #[v] w (RCopied w L) := by
  obtain ⟨a, cap, rfl, hlc, hcap, hc⟩ := h.open_
  have H := Lib.hid hc
  have HN0 := Lib.hid hlen
  obtain ⟨n, hn⟩ : ∃ n, n = L.length := ⟨_, rfl⟩
  rw [← hn] at hlc h1 h12 ⊢
  have HN := Lib.hid hn
  obtain ⟨i0, hi, hz0, hz1, hz2⟩ := info_parts infoL
  clear hc hlen hn h
  go_enter Try.func17, Try.ntmps17
  go_wp2_with fail
  go_loopw [3, 4] (fun t i wr => ∃ k : Nat, k ≤ n ∧ i = .int .i64 k ∧ Hid (RC w.heap.size L k wr t) ∧ Below w.heap.size w wr) (fun _ i _ => n - (RowKit.intOf i).toNat)
  case atStart => exact ⟨0, Nat.zero_le _, rfl, ⟨fun _ => undef, World.ownsRow_nil _ _ _ _, fun m hm => absurd hm (by omega)⟩, Below.refl _ _⟩
  case round =>
    obtain ⟨k, hk, rfl, HO, hbel⟩ := hrel
    have hbs := hbel.size
    by_cases hlt : k < n
    · have hkl : k < L.length := by rw [← HN.out]; exact hlt
      obtain ⟨b, off, rfl, hb, rv, sv, ⟨p1, p2⟩, ⟨o1, o2⟩, c0, c1, c2, c3, hr, hs⟩ := H.out k hkl
      have hlr : (lb L k).r.length ≤ 1000 := by have := HN0.out (2 * k) (by omega); rwa [listOf_r] at this
      have hls : (lb L k).s.length ≤ 1000 := by have := HN0.out (2 * k + 1) (by omega); rwa [listOf_s] at this
      obtain ⟨z, hz, hzI⟩ := HO.out
      obtain ⟨ao, co, rfl⟩ := own_form hz
      have FIN := Lib.hid (fun (W1 W2 : World) (out' r5 s6 : Value) q1 q2 q3 q4 q5 q6 => @RC.step w.heap.size L k W1 W2 (.slice ao k co) out' r5 s6 z q1 q2 q3 q4 q5 q6)
      rw [listOf_r, listOf_s] at FIN
      generalize lb L k = x at *
      obtain ⟨p, o, r, s⟩ := x
      simp only at p1 p2 o1 o2 c0 c1 c2 c3 hr hs hlr hls FIN
      replace c0 := below_cell hbel hb c0
      replace c1 := below_cell hbel hb c1
      replace c2 := below_cell hbel hb c2
      replace c3 := below_cell hbel hb c3
      replace hr := hr.below hbel (Nat.le_refl _)
      replace hs := hs.below hbel (Nat.le_refl _)
      have HRX := Lib.hid hr.1
      have HSX := Lib.hid hs.1
      obtain ⟨ra, rc, rfl⟩ := hr.is_slice
      obtain ⟨sa, sc, rfl⟩ := hs.is_slice
      obtain ⟨W1, hW1⟩ : ∃ W1, W1 = wr.alloc (.cells #[.int .i64 p, .int .i64 o, .slice ra r.length rc, .slice sa s.length sc] 37) := ⟨_, rfl⟩
      have bW1 : Below wr.heap.size wr W1 := by rw [hW1]; exact (Below.refl _ _).alloc (Nat.le_refl _) _
      have X1 : W1.heap[wr.heap.size]? = some (.cells #[.int .i64 p, .int .i64 o, .slice ra r.length rc, .slice sa s.length sc] 37 (0, 0)) := by rw [hW1]; exact heap_alloc_new _ _
      have z1 : W1.heap.size = wr.heap.size + 1 := by rw [hW1]; simp
      have A1 : Hid ((W1.alloc (.cells #[] 3)).ownsRow w.heap.size 3 1 (.slice (some ⟨wr.heap.size + 1, 0, none⟩) 0 0) 0 []) := by
        have := made0 w.heap.size W1 (by omega)
        rw [z1] at this
        exact this
      have A2 : Hid (Ints (W1.alloc (.cells #[] 3)) (.slice ra r.length rc) r) := (hr.below bW1 (Nat.le_refl _)).below ((Below.refl _ W1).alloc (Nat.le_refl _) _) (Nat.le_refl _)
      have A3 : Hid (0 + r.length ≤ 100000) := by show _ ≤ _; omega
      have A4 : Hid (w.heap.size ≤ (W1.alloc (.cells #[] 3)).heap.size) := by show _ ≤ _; simp; omega
      have B1 := Lib.hid (below_more hbel bW1)
      have HZW := Lib.hid hz
      have HZJ := Lib.hid hzI
      have HS1 := Lib.hid hs
      rw [hW1] at A1 A2 A4
      have HW := Lib.hid hW1
      have HX1 := Lib.hid X1
      have HZ1 := Lib.hid z1
      have HB := Lib.hid hbel
      clear hz hzI hr hs bW1 hW1 X1 z1 H HO hbel
      go_wp2_with (at_builtin; refine wpList_append_ints rfl _ _ rfl w.heap.size _ 0 [] rfl A1.out _ r rfl A2.out A3.out A4.out ?_)
      intro v5 w5 h5 g5
      rw [← HW.out] at g5
      have b5 : Below W1.heap.size W1 w5 := made_grown g5 (fun k' e => by
        have e : wr.heap.size + 1 = k' := by simpa [Value.ownBlock] using e
        have := HZ1.out
        omega)
      have O5 : Hid (OwnI w.heap.size w5 v5 r) := ⟨h5, HRX.out⟩
      have X5 : w5.heap[wr.heap.size]? = some (.cells #[.int .i64 p, .int .i64 o, .slice ra r.length rc, .slice sa s.length sc] 37 (0, 0)) := by
        rw [b5.block _ (by have := HZ1.out; omega)]
        exact HX1.out
      have x2 : w5.cell? ⟨wr.heap.size, 2, none⟩ = some (.slice ra r.length rc) := by rw [cell_of_row _ _ _ _ _ _ X5]; rfl
      have f2 : w5.frozen? ⟨wr.heap.size, 2, none⟩ = false := block_frozen X5
      obtain ⟨a5, c5, rfl⟩ := O5.out.is_slice
      obtain ⟨W5, hW5⟩ : ∃ W5, W5 = w5.setCell ⟨wr.heap.size, 2, none⟩ (.slice a5 r.length c5) := ⟨_, rfl⟩
      have Y5 : W5.heap[wr.heap.size]? = some (.cells #[.int .i64 p, .int .i64 o, .slice a5 r.length c5, .slice sa s.length sc] 37 (0, 0)) := by
        rw [hW5, heap_setCell_same _ _ _ _ _ _ X5]
        rfl
      have G5 : w5.grownBy W5 (some wr.heap.size) := by rw [hW5]; exact setCells_grown [_] 2 w5
      have P5 := Lib.hid (O5.out.kept G5 (.inr (own_apart3 X5 O5.out)))
      have s5 : W5.heap.size = w5.heap.size := by rw [hW5]; simp
      have e5 : wr.heap.size + 1 ≤ w5.heap.size := by have := b5.size; have := HZ1.out; omega
      have q5 : Below wr.heap.size wr W5 := by
        have q : Below wr.heap.size wr w5 := below_more (by rw [HW.out]; exact (Below.refl _ _).alloc (Nat.le_refl _) _) b5 (by have := HZ1.out; omega)
        rw [hW5]
        exact q.setCell (Nat.le_refl _) _
      have A5 : Hid ((W5.alloc (.cells #[] 3)).ownsRow w.heap.size 3 1 (.slice (some ⟨w5.heap.size, 0, none⟩) 0 0) 0 []) := by
        have := made0 w.heap.size W5 (by omega)
        rw [s5] at this
        exact this
      have hs5 : Ints W5 (.slice sa s.length sc) s := HS1.out.below q5 (Nat.le_refl _)
      have A6 : Hid (Ints (W5.alloc (.cells #[] 3)) (.slice sa s.length sc) s) := hs5.below ((Below.refl _ W5).alloc (Nat.le_refl _) _) (Nat.le_refl _)
      have A7 : Hid (0 + s.length ≤ 100000) := by show _ ≤ _; omega
      have A8 : Hid (w.heap.size ≤ (W5.alloc (.cells #[] 3)).heap.size) := by show _ ≤ _; simp; omega
      have x3 : w5.cell? ⟨wr.heap.size, 3, none⟩ = some (.slice sa s.length sc) := by rw [cell_of_row _ _ _ _ _ _ X5]; rfl
      have x3' : W5.cell? ⟨wr.heap.size, 3, none⟩ = some (.slice sa s.length sc) := by rw [cell_of_row _ _ _ _ _ _ Y5]; rfl
      have x3'' : (W5.alloc (.cells #[] 3)).cell? ⟨wr.heap.size, 3, none⟩ = some (.slice sa s.length sc) := below_cell ((Below.refl _ W5).alloc (Nat.le_refl _) _) (by omega) x3'
      rw [hW5] at A5 A6 A8 x3' x3''
      have HW5 := Lib.hid hW5
      have HY5 := Lib.hid Y5
      have HQ5 := Lib.hid q5
      clear h5 g5 b5 X5 hW5 Y5 G5 q5 hs5 A1 A2 A3 A4
      go_wp2_with (at_builtin; refine wpList_append_ints rfl _ _ rfl w.heap.size _ 0 [] rfl A5.out _ s rfl A6.out A7.out A8.out ?_)
      intro v6 w6 h6 g6
      rw [← HW5.out] at g6
      have b6 : Below W5.heap.size W5 w6 := made_grown g6 (fun k' e => by
        have e : w5.heap.size = k' := by simpa [Value.ownBlock] using e
        omega)
      have O6 : Hid (OwnI w.heap.size w6 v6 s) := ⟨h6, HSX.out⟩
      have X6 : w6.heap[wr.heap.size]? = some (.cells #[.int .i64 p, .int .i64 o, .slice a5 r.length c5, .slice sa s.length sc] 37 (0, 0)) := by
        rw [b6.block _ (by omega)]
        exact HY5.out
      have y3 : w6.cell? ⟨wr.heap.size, 3, none⟩ = some (.slice sa s.length sc) := by rw [cell_of_row _ _ _ _ _ _ X6]; rfl
      have f3 : w6.frozen? ⟨wr.heap.size, 3, none⟩ = false := block_frozen X6
      have P6 := Lib.hid (P5.out.below b6)
      obtain ⟨a6, c6, rfl⟩ := O6.out.is_slice
      obtain ⟨W6, hW6⟩ : ∃ W6, W6 = w6.setCell ⟨wr.heap.size, 3, none⟩ (.slice a6 s.length c6) := ⟨_, rfl⟩
      have Y6 : W6.heap[wr.heap.size]? = some (.cells #[.int .i64 p, .int .i64 o, .slice a5 r.length c5, .slice a6 s.length c6] 37 (0, 0)) := by
        rw [hW6, heap_setCell_same _ _ _ _ _ _ X6]
        rfl
      have G6 : w6.grownBy W6 (some wr.heap.size) := by rw [hW6]; exact setCells_grown [_] 3 w6
      have R6 := Lib.hid (O6.out.kept G6 (.inr (own_apart3 X6 O6.out)))
      have T6 := Lib.hid (P6.out.kept G6 (.inr (own_apart3 X6 P6.out)))
      have s6 : W6.heap.size = w6.heap.size := by rw [hW6]; simp
      have e6 : w5.heap.size ≤ w6.heap.size := by have := b6.size; omega
      have q6 : Below wr.heap.size wr W6 := by
        have q : Below wr.heap.size wr w6 := below_more HQ5.out b6 (by omega)
        rw [hW6]
        exact q.setCell (Nat.le_refl _) _
      have l0 : w6.cell? ⟨wr.heap.size, 0, none⟩ = some (.int .i64 p) := by rw [cell_of_row _ _ _ _ _ _ X6]; rfl
      have l1 : w6.cell? ⟨wr.heap.size, 1, none⟩ = some (.int .i64 o) := by rw [cell_of_row _ _ _ _ _ _ X6]; rfl
      have l2 : w6.cell? ⟨wr.heap.size, 2, none⟩ = some (.slice a5 r.length c5) := by rw [cell_of_row _ _ _ _ _ _ X6]; rfl
      have bA : Below W6.heap.size W6 (W6.alloc (.cells #[.int .i64 p, .int .i64 o, .slice a5 r.length c5, .slice a6 s.length c6] 37)) := (Below.refl _ _).alloc (Nat.le_refl _) _
      have D1 : Hid ((W6.alloc (.cells #[.int .i64 p, .int .i64 o, .slice a5 r.length c5, .slice a6 s.length c6] 37)).ownsRow w.heap.size 37 4 (.slice ao k co) k (cellsN L z k)) := owns_below (owns_below HZW.out q6) bA
      have D2 : Hid (∀ j u, [Value.int .i64 p, .int .i64 o, .slice a5 r.length c5, .slice a6 s.length c6][j]? = some u → (W6.alloc (.cells #[.int .i64 p, .int .i64 o, .slice a5 r.length c5, .slice a6 s.length c6] 37)).cell? ((⟨w6.heap.size, 0, none⟩ : Addr).add j) = some u) := fun j u hj => by
        have hadd : (⟨w6.heap.size, 0, none⟩ : Addr).add j = ⟨w6.heap.size, j, none⟩ := by unfold Addr.add; split <;> simp_all
        rw [hadd, ← s6, cell_of_row _ _ _ _ _ _ (heap_alloc_new W6 _)]
        simpa using hj
      have D3 : Hid (∀ u ∈ [Value.int .i64 p, .int .i64 o, .slice a5 r.length c5, .slice a6 s.length c6], u.oneCell' = true) := fun u hu => by
        simp at hu
        rcases hu with rfl | rfl | rfl | rfl <;> rfl
      have D4 : Hid (k + 1 ≤ maxLen) := by show _ ≤ _; unfold maxLen; omega
      have D5 : Hid ((k + 1) * 64 ≤ 140737488355328) := by show _ ≤ _; omega
      have D6 : Hid (w.heap.size ≤ (W6.alloc (.cells #[.int .i64 p, .int .i64 o, .slice a5 r.length c5, .slice a6 s.length c6] 37)).heap.size) := by show _ ≤ _; simp; omega
      have FA := Lib.hid (FIN.out (W6.alloc (.cells #[.int .i64 p, .int .i64 o, .slice a5 r.length c5, .slice a6 s.length c6] 37)))
      have FI : Hid (∀ m, m < 2 * k → OwnI w.heap.size (W6.alloc (.cells #[.int .i64 p, .int .i64 o, .slice a5 r.length c5, .slice a6 s.length c6] 37)) (z m) (listOf L m)) := fun m hm => ((HZJ.out m hm).below q6).below bA
      have FR := Lib.hid (T6.out.below bA)
      have FS := Lib.hid (R6.out.below bA)
      have FB := Lib.hid (below_more (below_more HB.out q6) bA)
      rw [hW6] at D1 D2 D6
      have HW6 := Lib.hid hW6
      clear h6 g6 b6 X6 hW6 Y6 G6 q6 bA A5 A6 A7 A8
      go_wp2_with (at_builtin; refine wpList_append_own _ rfl _ _ 22 rfl w.heap.size 37 i0 _ 4 64 Try.underlying22 hi hz0 hz1 hz2 rfl (by decide) _ k _ rfl D1.out ⟨w6.heap.size, 0, none⟩ 1 1 [.int .i64 p, .int .i64 o, .slice a5 r.length c5, .slice a6 s.length c6] rfl rfl D2.out D3.out D4.out D5.out D6.out ?_)
      intro v8 w8 h8 g8 _
      rw [← HW6.out] at g8
      have K8 := Lib.hid (FA.out w8 v8 (.slice a5 r.length c5) (.slice a6 s.length c6) (by rw [HW6.out]; exact D1.out) FI.out FR.out FS.out g8 h8)
      have B8 := Lib.hid (FB.out.grown g8 (by have := FB.out.size; exact this) (fun k' e => (World.ownsRow.lt D1.out k' e).1))
      clear g8 h8 D1 D2 D3 D4 D5 D6 FA FI FR FS FB FIN
      go_wp2_with fail
      go_roundw
      case rel => exact ⟨k + 1, by omega, by go_num, K8.out, B8.out⟩
      case measure => simp [RowKit.intOf]; omega
    · obtain rfl : k = n := by omega
      have HB := Lib.hid hbel
      obtain ⟨z, hz, hzI⟩ := HO.out
      obtain ⟨g, cap', hv⟩ : ∃ g cap', _ = Value.slice (some ⟨g, 0, none⟩) k cap' := by
        rcases hz.2 with ⟨_, h0⟩ | ⟨g, cap', _, hv, _⟩
        · omega
        · exact ⟨g, cap', hv⟩
      subst hv
      have HZ := Lib.hid hz
      have HI := Lib.hid hzI
      clear H HN0 hbel HO hz hzI
      go_wp2_with fail
      go_ret
      refine ⟨_, rfl, ⟨g, cap', z, ?_, ?_, ?_⟩, HB.out⟩
      · rw [← HN.out]
        rfl
      · have q := HZ.out
        unfold OwnL
        rw [← HN.out, ← cellsN_all, ← HN.out]
        exact q
      · rw [← HN.out]
        exact HI.out
end Go.Proofs.Ytefibidkmfcccaa.Rig
