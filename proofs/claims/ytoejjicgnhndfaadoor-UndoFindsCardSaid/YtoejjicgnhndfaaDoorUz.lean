/- Undo: Last of the program. -/
import Derived.Test.YtoejjicgnhndfaaDoorUy
import Derived.Test.YtoejjicgnhndfaaDoorUx
set_option linter.unusedVariables false
set_option linter.unusedSimpArgs false
set_option maxRecDepth 100000
namespace Go.Proofs.YtoejjicgnhndfaaDoor.Und
open Go.RowKit Go.Lib Go.Shelf Go.Proofs.YtoejjicgnhndfaaDoor.Rk Go.Proofs.YtoejjicgnhndfaaDoor.Rig

attribute [local go_sem] Oper.semAt_some

/-- The uppermost one of a document. -/
def lastA (A : List U) (doc : Int) : Option U := A.reverse.find? (fun y => y.d == doc)
theorem last_no {w : World} {a : Option Addr} {A : List U} {Z : List (Bt w)} {doc : Int} (hZ : ZOf w a A Z) (h : ∀ z ∈ Z.reverse, z.1.2.2.d ≠ doc) : lastA A doc = none := by
  unfold lastA
  rw [List.find?_eq_none]
  intro y hy
  rw [← hZ.1, ← List.map_reverse] at hy
  obtain ⟨z, hz, rfl⟩ := List.mem_map.1 hy
  simpa using h z hz
theorem last_yes {w : World} {a : Option Addr} {A : List U} {Z : List (Bt w)} {doc : Int} (hZ : ZOf w a A Z) {pre : List (Bt w)} {x : Bt w} (hp : pre ++ [x] <+: Z.reverse) (h : ∀ z ∈ pre, z.1.2.2.d ≠ doc) (hx : x.1.2.2.d = doc) : lastA A doc = some x.1.2.2 := by
  obtain ⟨t, ht⟩ := hp
  unfold lastA
  rw [← hZ.1, ← List.map_reverse, ← ht, List.append_assoc, List.map_append, List.find?_append]
  have e1 : (pre.map (fun z => z.1.2.2)).find? (fun y => y.d == doc) = none := by
    rw [List.find?_eq_none]
    intro y hy
    obtain ⟨z, hz, rfl⟩ := List.mem_map.1 hy
    simpa using h z hz
  rw [e1]
  simp [hx]
theorem urow_kept {W W' : World} {row : Option Nat} {B : Nat} {cs : Array Value} {ty : TypeId} (h : W.heap[B]? = some (.cells cs ty (0, 0))) (hg : W.grownBy W' row) (hr : ∀ r, row = some r → ∃ o : Obj, W.heap[r]? = some o ∧ o.isCells = false) : W'.heap[B]? = some (.cells cs ty (0, 0)) :=
  (hg.block _ (urow_lt h) (fun e => by obtain ⟨o, h1, h2⟩ := hr B e.symm; rw [h] at h1; cases h1; cases h2)).trans h
/-- Between two rounds. -/
def LI (B N : Nat) (w : World) (doc : Int) (pre : List (Bt w)) (W : World) : Prop :=
  (∀ z ∈ pre, z.1.2.2.d ≠ doc) ∧ W.heap[B + 1]? = some (.cells #[.int .i64 doc] 3 (0, 0)) ∧ W.heap[B + 1 + 1]? = some (.cells #[.nilIface] 20 (0, 0)) ∧ W.heap[B + 1 + 1 + 1]? = some (.cells #[.bool false] 4 (0, 0)) ∧ Below B w W ∧ N ≤ W.heap.size
/-- Behind the round that returns. -/
def LX (B : Nat) (w : World) (doc : Int) (c : Code) (pre : List (Bt w)) (W : World) : Prop :=
  c = .ret ∧ ∃ pre' x, pre = pre' ++ [x] ∧ (∀ z ∈ pre', z.1.2.2.d ≠ doc) ∧ x.1.2.2.d = doc ∧ W.heap[B + 1 + 1]? = some (.cells #[x.1.2.1] 20 (0, 0)) ∧ W.heap[B + 1 + 1 + 1]? = some (.cells #[.bool true] 4 (0, 0)) ∧ Below B w W
theorem LI.own {B N : Nat} {w : World} {doc : Int} (hBN : B ≤ N) : OwnFrom N (LI B N w doc) := by
  rintro pre W W' row ⟨h1, h2, h3, h4, h5, h6⟩ hg hr
  have hr' : ∀ r, row = some r → ∃ o : Obj, W.heap[r]? = some o ∧ o.isCells = false := fun r e => (hr r e).2
  exact ⟨h1, urow_kept h2 hg hr', urow_kept h3 hg hr', urow_kept h4 hg hr', h5.grown hg (by omega) (fun k e => by have := (hr k e).1; omega), Nat.le_trans h6 hg.size⟩
theorem LX.own {B N : Nat} {w : World} {doc : Int} {c : Code} (hBN : B ≤ N) (hw : B = w.heap.size) : OwnFrom N (LX B w doc c) := by
  rintro pre W W' row ⟨h1, pre', x, h2, h3, h4, h5, h6, h7⟩ hg hr
  have hr' : ∀ r, row = some r → ∃ o : Obj, W.heap[r]? = some o ∧ o.isCells = false := fun r e => (hr r e).2
  exact ⟨h1, pre', x, h2, h3, h4, urow_kept h5 hg hr', urow_kept h6 hg hr', h7.grown hg (by have := h7.size; omega) (fun k e => by have := (hr k e).1; omega)⟩

set_option maxHeartbeats 4000000 in
theorem slast_any {s : Value} {A : List U} (doc : Int) (w : World) (h : Stk w s A) (hn : A.length ≤ 10000) :
    Calls Tryd.prog 59 #[.agg #[s], .int .i64 doc] w fun e w' => ∃ o, e = .returned (.tuple #[o, .bool (lastA A doc).isSome]) ∧ OutV w' o (lastA A doc) ∧ Below w.heap.size w w' := by
  obtain ⟨sa, sc, rfl⟩ := Rk.Rows.is_slice h
  obtain ⟨_, hcap, hmax⟩ := Rk.Rows.len h
  obtain ⟨Z, hZ⟩ := zof_of h
  have hZl : Z.length = A.length := by rw [← hZ.1, List.length_map]
  obtain ⟨n, hnA⟩ : ∃ n, n = A.length := ⟨_, rfl⟩
  rw [← hnA] at hcap hn hZl ⊢
  unfold maxLen at hmax
  have HZ := Lib.hid hZ
  have HZl := Lib.hid hZl
  obtain ⟨W4, hW4⟩ : ∃ W4, W4 = (((w.alloc (.cells #[.slice sa n sc] 84)).alloc (.cells #[.int .i64 doc] 3)).alloc (.cells #[.nilIface] 20)).alloc (.cells #[.bool false] 4) := ⟨_, rfl⟩
  have b4 : Below w.heap.size w W4 := by rw [hW4]; exact (((((Below.refl _ _).alloc (Nat.le_refl _) _).alloc (by simp) _).alloc (by simp; omega) _).alloc (by simp; omega) _)
  have s4 : W4.heap.size = w.heap.size + 4 := by rw [hW4]; simp
  have r0 : W4.heap[w.heap.size]? = some (.cells #[.slice sa n sc] 84 (0, 0)) := by
    rw [hW4, Below.heap_alloc _ _ _ (by simp; omega), Below.heap_alloc _ _ _ (by simp; omega), Below.heap_alloc _ _ _ (by simp)]
    exact heap_alloc_new _ _
  have r1 : W4.heap[w.heap.size + 1]? = some (.cells #[.int .i64 doc] 3 (0, 0)) := by
    rw [hW4, Below.heap_alloc _ _ _ (by simp), Below.heap_alloc _ _ _ (by simp)]
    have := heap_alloc_new (w.alloc (.cells #[.slice sa n sc] 84)) (.cells #[.int .i64 doc] 3)
    rwa [World.size_alloc] at this
  have r2 : W4.heap[w.heap.size + 1 + 1]? = some (.cells #[.nilIface] 20 (0, 0)) := by
    rw [hW4, Below.heap_alloc _ _ _ (by simp)]
    have := heap_alloc_new ((w.alloc (.cells #[.slice sa n sc] 84)).alloc (.cells #[.int .i64 doc] 3)) (.cells #[.nilIface] 20)
    rwa [World.size_alloc, World.size_alloc] at this
  have r3 : W4.heap[w.heap.size + 1 + 1 + 1]? = some (.cells #[.bool false] 4 (0, 0)) := by
    rw [hW4]
    have := heap_alloc_new (((w.alloc (.cells #[.slice sa n sc] 84)).alloc (.cells #[.int .i64 doc] 3)).alloc (.cells #[.nilIface] 20)) (.cells #[.bool false] 4)
    rwa [World.size_alloc, World.size_alloc, World.size_alloc] at this
  have c0 := u1cell r0
  have R1 := Lib.hid r1
  have R2 := Lib.hid r2
  have R3 := Lib.hid r3
  have S4 := Lib.hid s4
  have HW4 := Lib.hid hW4
  have B4 := Lib.hid b4
  clear h hnA hZ hZl hW4 b4 r0 r1 r2 r3 s4
  refine (callsIn_wide (n := 6)).1 ?_
  refine callsIn_of_wp_marks Tryd.func59 rfl trivial ?_ rfl
  simp only [Tryd.ntmps59, List.size_toArray, List.length_cons, List.length_nil, Nat.reduceAdd, Nat.reduceSub, Array.replicate_succ, Array.replicate_zero, List.push_toArray, List.append_toArray, List.nil_append, List.cons_append]
  gi_wp2_with fail
  rw [← HW4.out]
  refine ⟨trivial, ?_⟩
  refine (ubackm Fence.wide 5 trivial rfl sa n sc W4).mono ?_
  rintro e w2 ⟨rfl, rfl⟩
  gi_wp2_with fail
  obtain ⟨W5, hW5⟩ : ∃ W5, W5 = W4.alloc (.cells #[.slice sa n sc] 82) := ⟨_, rfl⟩
  rw [← hW5]
  obtain ⟨b5, r5, l5⟩ := ubox W4 #[.slice sa n sc] 82
  rw [← hW5] at b5 r5 l5
  clear hW5 c0
  have HB5 := Lib.hid b5
  have hwN : w.heap.size ≤ W5.heap.size := by have := S4.out; omega
  have hseq : SeqStopsK Fence.wide (6 - 1) Tryd.prog 123 #[.pointer (some ⟨W4.heap.size, 0, none⟩)] encT (fun W W' => Below W5.heap.size W W') (fun ys => ys = Z.reverse) (fun pre => pre <+: Z.reverse) n W5 := fun l J Jx W hW _ _ hY h0 =>
    uback1 Fence.wide 5 trivial rfl (by omega) l W4.heap.size W5.heap.size w sa n sc A Z HZl.out HZ.out hn hcap (by omega) (by omega) J Jx hY W (hW.cell (p := ⟨W4.heap.size, 0, none⟩) (by show W4.heap.size < W5.heap.size; omega) |>.trans (u1cell r5)) (below_more B4.out (below_more b5 hW)) hwN h0
  have hLI0 : LI w.heap.size W5.heap.size w doc [] W5 :=
    ⟨fun z hz => by simp at hz, ukeep b5 (urow_lt R1.out) R1.out, ukeep b5 (urow_lt R2.out) R2.out, ukeep b5 (urow_lt R3.out) R3.out, below_more B4.out b5, Nat.le_refl _⟩
  clear b5 r5 l5
  refine wpIn_rangeFunc_ownH rfl (by omega) (gf := 123) (lb := #[.pointer (some ⟨W4.heap.size, 0, none⟩)]) rfl trivial (enters_of Tryd.func123 (by kernel_rfl) rfl) hseq belowK_t (belowK_b (Nat.le_refl _)) (Below.refl _ _) (fun _ => rfl)
    (LI w.heap.size W5.heap.size w doc) (LX w.heap.size w doc) (LI.own hwN) (fun c => LX.own hwN rfl) hLI0
    (fun x a' W => a' = { tmps := #[.agg #[.slice sa n sc], .int .i64 doc, .pointer (some ⟨w.heap.size, 0, none⟩), .pointer (some ⟨w.heap.size + 1, 0, none⟩), .pointer (some ⟨w.heap.size + 1 + 1, 0, none⟩), .pointer (some ⟨w.heap.size + 1 + 1 + 1, 0, none⟩), undef, x.1.2.1, undef, undef, .pointer (some ⟨w.heap.size, 0, none⟩), .slice sa n sc, .func (.func 123) #[] #[.pointer (some ⟨W4.heap.size, 0, none⟩)], .int .i64 x.1.1, x.1.2.1, undef, undef, undef, undef, undef, undef, undef, undef, undef, undef], defers := [] }) (fun x a' => fun _ _ _ _ hs _ _ => hs) ?assign ?body ?done ?stop
  case assign =>
    intro l' pre x W K hs hK
    have hN := hs.2.2.2.2.2
    unfold encT
    gi_wp2
    exact hK _ _ (KeepsFrom.refl _ _) (Below.refl _ _) hs rfl
  case body =>
    rintro l' pre x a' W hl' hrec ⟨h1, h2, h3, h4, h5, h6⟩ rfl hlen
    have CN := Lib.hid (x.2.nums).c
    obtain ⟨xv, hxv⟩ : ∃ v, v = x.1.2.1 := ⟨_, rfl⟩
    obtain ⟨xd, hxd⟩ : ∃ d, d = x.1.2.2.d := ⟨_, rfl⟩
    obtain ⟨xm, hxm⟩ : ∃ d, d = x.1.2.2.m := ⟨_, rfl⟩
    obtain ⟨xl, hxl⟩ : ∃ d, d = x.1.2.2.l := ⟨_, rfl⟩
    have TX := Lib.hid x.2
    obtain ⟨tt, tq, hif⟩ := TX.out.iface
    rw [← hxv] at hif
    subst hif
    rw [← hxv, ← hxd, ← hxm, ← hxl] at CN
    rw [← hxv]
    have HXV := Lib.hid hxv
    have HXD := Lib.hid hxd
    have H1 := Lib.hid h1
    have H2 := Lib.hid h2
    have H3 := Lib.hid h3
    have H4 := Lib.hid h4
    have H5 := Lib.hid h5
    have H6 := Lib.hid h6
    clear hxv hxd hxm hxl h1 h2 h3 h4 h5 h6 hseq hLI0
    gi_wp2_with (refine ⟨trivial, ?_⟩; gi_at_call 96; refine (CallsIn.inRound l' (callsIn_wide.2 (CN.out _))).mono ?_; rintro e w7 ⟨rfl, b7⟩; have B7 : Hid (∀ o, Below W.heap.size W (w7.alloc o)) := fun o => b7.alloc b7.size o; have k1 := fun o => u1cell (ukeep (B7.out o) (urow_lt H2.out) H2.out); have R27 := fun o => ukeep (B7.out o) (urow_lt H3.out) H3.out; have R37 := fun o => ukeep (B7.out o) (urow_lt H4.out) H4.out; have k2 := fun o => u1cell (R27 o); have k3 := fun o => u1cell (R37 o); have f2 := fun o => ublock_frozen (j := 0) (R27 o); have f3 := fun o => ublock_frozen (j := 0) (R37 o); have R37s := fun o u => (Below.heap_setCell (w7.alloc o) ⟨w.heap.size + 1 + 1, 0, none⟩ u (w.heap.size + 1 + 1 + 1) (by show _ ≠ w.heap.size + 1 + 1; omega)).trans (R37 o); have k4 := fun o u => u1cell (R37s o u); have f4 := fun o u => ublock_frozen (j := 0) (R37s o u); have G4 := Lib.hid R37s; clear R37s; have G2 := Lib.hid R27; have G3 := Lib.hid R37; clear R27 R37)
    · rename_i hx
      have hx : xd = doc := by simpa using hx
      subst hx
      refine ⟨?kf, rfl, pre, x, rfl, H1.out, HXD.out.symm, ?_, ?_, ?_⟩
      case kf => exact KeepsFrom.trans (KeepsOthers.from ⟨(B7.out _).size, fun k o hk _ => ((B7.out _).block k (Array.getElem?_eq_some_iff.1 hk).1).trans hk⟩ _) (((KeepsOthers.setCell _ _ _).trans (KeepsOthers.setCell _ _ _)).from _)
      · rw [← HXV.out]
        exact (Below.heap_setCell _ _ _ _ (by show _ ≠ w.heap.size + 1 + 1 + 1; omega)).trans (uset_block (i := 0) (G2.out _))
      · exact uset_block (i := 0) (G4.out _ _)
      · exact ((below_more H5.out (B7.out _)).setCell (p := ⟨w.heap.size + 1 + 1, 0, none⟩) (by show _ ≤ w.heap.size + 1 + 1; omega) _).setCell (p := ⟨w.heap.size + 1 + 1 + 1, 0, none⟩) (by show _ ≤ w.heap.size + 1 + 1 + 1; omega) _
    · rename_i hx
      have hx : xd ≠ doc := by simpa using hx
      refine ⟨KeepsOthers.from ⟨(B7.out _).size, fun k o hk _ => ((B7.out _).block k (Array.getElem?_eq_some_iff.1 hk).1).trans hk⟩ _, (B7.out _).mono H6.out, fun z hz => ?_, ukeep (B7.out _) (urow_lt H2.out) H2.out, G2.out _, G3.out _, below_more H5.out (B7.out _), Nat.le_trans H6.out (B7.out _).size⟩
      rcases List.mem_append.1 hz with hz | hz
      · exact H1.out z hz
      · simp at hz
        subst hz
        rw [← HXD.out]
        exact hx
  case done =>
    rintro D ys W hD rfl ⟨h1, h2, h3, h4, h5, h6⟩ hK
    have EL := Lib.hid (last_no HZ.out h1)
    have k2 := u1cell h3
    have f2 := ublock_frozen (j := 0) h3
    have R3s := fun u => (Below.heap_setCell W ⟨w.heap.size + 1 + 1, 0, none⟩ u (w.heap.size + 1 + 1 + 1) (by show _ ≠ w.heap.size + 1 + 1; omega)).trans h4
    have R2s := uset_block (i := 0) (u := .nilIface) h3
    have k4 := fun u => u1cell (R3s u)
    have f4 := fun u => ublock_frozen (j := 0) (R3s u)
    obtain ⟨WX, hWX⟩ : ∃ WX, WX = (W.setCell ⟨w.heap.size + 1 + 1, 0, none⟩ .nilIface).setCell ⟨w.heap.size + 1 + 1 + 1, 0, none⟩ (.bool false) := ⟨_, rfl⟩
    have Q2 : WX.heap[w.heap.size + 1 + 1]? = some (.cells #[.nilIface] 20 (0, 0)) := by rw [hWX]; exact (Below.heap_setCell _ _ _ _ (by show _ ≠ w.heap.size + 1 + 1 + 1; omega)).trans (uset_block (i := 0) h3)
    have Q3 : WX.heap[w.heap.size + 1 + 1 + 1]? = some (.cells #[.bool false] 4 (0, 0)) := by rw [hWX]; exact uset_block (i := 0) (R3s _)
    have BX : Below w.heap.size w WX := by rw [hWX]; exact (h5.setCell (p := ⟨w.heap.size + 1 + 1, 0, none⟩) (by show _ ≤ w.heap.size + 1 + 1; omega) _).setCell (p := ⟨w.heap.size + 1 + 1 + 1, 0, none⟩) (by show _ ≤ w.heap.size + 1 + 1 + 1; omega) _
    have KD : WX.heap[D]? = some (.deferred (some [])) := by
      rw [hWX]
      exact (((KeepsOthers.setCell _ _ _).trans (KeepsOthers.setCell _ _ _)).2 D _ hK rfl)
    have H2 := Lib.hid Q2
    have H3 := Lib.hid Q3
    have HX := Lib.hid BX
    have HK := Lib.hid KD
    have HWX := Lib.hid hWX
    have HD : Hid (W5.heap.size ≤ D) := hD
    clear h1 h2 h3 h4 h5 h6 R3s R2s hWX Q2 Q3 BX KD hK hseq hLI0 hD
    gi_wp2
    rw [← HWX.out]
    have hgr := grownBy_putObj' WX D (.deferred none)
    have hrr : ∀ r, some D = some r → ∃ o : Obj, WX.heap[r]? = some o ∧ o.isCells = false := fun r e => by cases e; exact ⟨_, HK.out, rfl⟩
    have t2 := u1cell (urow_kept H2.out hgr hrr)
    have t3 := u1cell (urow_kept H3.out hgr hrr)
    refine ⟨by simp, .inl ⟨_, _, rfl, run_takeDeferred HK.out, ?_⟩⟩
    rw [EL.out]
    exact ⟨.tuple #[.nilIface, .bool false], by simp [results, Tryd.results59, go_sem, t2, t3], ⟨_, rfl, rfl, HX.out.grown hgr HX.out.size (fun k e => by cases e; exact Nat.le_trans hwN HD.out)⟩⟩
  case stop =>
    rintro D c pre W hD hpre ⟨rfl, pre', x, rfl, h1, h2, h3, h4, h5⟩ hK
    have EL := Lib.hid (last_yes HZ.out hpre h1 h2)
    have H2 := Lib.hid h3
    have H3 := Lib.hid h4
    have HX := Lib.hid h5
    have HK := Lib.hid hK
    have HD : Hid (W5.heap.size ≤ D) := hD
    clear h1 h2 h3 h4 h5 hK hseq hLI0 hD hpre
    gi_wp2
    have hgr := grownBy_putObj' W D (.deferred none)
    have hrr : ∀ r, some D = some r → ∃ o : Obj, W.heap[r]? = some o ∧ o.isCells = false := fun r e => by cases e; exact ⟨_, HK.out, rfl⟩
    have t2 := u1cell (urow_kept H2.out hgr hrr)
    have t3 := u1cell (urow_kept H3.out hgr hrr)
    refine ⟨by simp, .inl ⟨_, _, rfl, run_takeDeferred HK.out, ?_⟩⟩
    rw [EL.out]
    have BF := HX.out.grown hgr HX.out.size (fun k e => by cases e; exact Nat.le_trans hwN HD.out)
    exact ⟨.tuple #[x.1.2.1, .bool true], by simp [results, Tryd.results59, go_sem, t2, t3], ⟨_, rfl, ThV.below x.2 BF (Nat.le_refl _), BF⟩⟩
end Go.Proofs.YtoejjicgnhndfaaDoor.Und
