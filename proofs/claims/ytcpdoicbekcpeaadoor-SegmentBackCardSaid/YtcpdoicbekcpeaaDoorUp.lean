/- Segments: Unput of the program. -/
import Derived.Test.YtcpdoicbekcpeaaDoorUb
set_option linter.unusedVariables false
set_option maxRecDepth 100000
namespace Go.Proofs.YtcpdoicbekcpeaaDoor.Seg
open Go.RowKit Go.Lib Go.Shelf Go.Proofs.YtcpdoicbekcpeaaDoor.Rt Go.Proofs.YtcpdoicbekcpeaaDoor.Rig

attribute [local go_sem] Oper.semAt_some

def unL (L : Bytes) : List Sp → Bytes
  | [] => L
  | x :: X => Con.dropL (unL L X) x.f x.t

theorem row_kept {W W' : World} {row : Option Nat} {B : Nat} {cs : Array Value} {ty : TypeId} (h : W.heap[B]? = some (.cells cs ty (0, 0))) (hg : W.grownBy W' row) (hr : ∀ r, row = some r → ∃ o : Obj, W.heap[r]? = some o ∧ o.isCells = false) : W'.heap[B]? = some (.cells cs ty (0, 0)) :=
  (hg.block _ (row_lt h) (fun e => by obtain ⟨o, h1, h2⟩ := hr B e.symm; rw [h] at h1; cases h1; cases h2)).trans h
theorem Fl.kept {W W' : World} {row : Option Nat} {v : Value} {n k : Nat} {zs : List Int} (h : Fl W v n k zs) (hg : W.grownBy W' row) (hr : ∀ r, row = some r → ∃ o : Obj, W.heap[r]? = some o ∧ o.isCells = false) : Fl W' v n k zs := by
  obtain ⟨h0, hgd, a, cap, rfl, h1, h2, h3⟩ := h
  refine ⟨h0, hgd, a, cap, rfl, h1, h2, ?_⟩
  rcases h3 with h3 | ⟨b, off, rfl, hlt, hc⟩
  · exact .inl h3
  · exact .inr ⟨b, off, rfl, Nat.lt_of_lt_of_le hlt hg.size, fun j hj => cell_kept (hc j hj) hg hr⟩
theorem Sg.kept {W W' : World} {row : Option Nat} {v : Value} {i l : Int} {L : Bytes} {S : List Sp} {T : List St} (h : Sg W v i l L S T) (hg : W.grownBy W' row) (hr : ∀ r, row = some r → ∃ o : Obj, W.heap[r]? = some o ∧ o.isCells = false) : Sg W' v i l L S T := by
  obtain ⟨tp, sv, tv, e, ⟨t, r1, r2, r3⟩, h2, h3⟩ := h
  exact ⟨tp, sv, tv, e, ⟨t, Con.Rp.same (fun b hb => by obtain ⟨cs, hc⟩ := hb; exact (row_kept hc hg hr).trans hc.symm) hg.size r1, r2, r3⟩, Fl.kept h2 hg hr, Fl.kept h3 hg hr⟩
/-- A store that leaves the two ints of a row as they are. -/
theorem Fl.set5same {w : World} {B : Nat} {i l : Int} {x2 x3 x4 a2 a3 a4 v : Value} {ty : TypeId} {n k : Nat} {zs : List Int} (h : Fl w v n k zs) (r : w.heap[B]? = some (.cells #[.int .i64 i, .int .i64 l, x2, x3, x4] ty (0, 0))) (n2 : ∀ z, x2 ≠ .int .i64 z) (n3 : ∀ z, x3 ≠ .int .i64 z) (n4 : ∀ z, x4 ≠ .int .i64 z) : Fl (Seg.set5 w B (.int .i64 i) (.int .i64 l) a2 a3 a4) v n k zs := by
  have hs := set5_block (a0 := .int .i64 i) (a1 := .int .i64 l) (a2 := a2) (a3 := a3) (a4 := a4) r
  refine Fl.one (B := B) h (by rw [set5_size]; exact Nat.le_refl _) (fun b e _ => set5_other w _ _ _ _ _ e) (fun b o j e hj h1 h2 => ?_)
  subst e
  rw [cell_of_row _ _ _ _ _ _ r] at h1
  rw [cell_of_row _ _ _ _ _ _ hs]
  generalize o + j = z at *
  rcases z with _ | _ | _ | _ | _ | z
  · exact h1
  · exact h1
  · exact absurd (Option.some.inj h1) (n2 _)
  · exact absurd (Option.some.inj h1) (n3 _)
  · exact absurd (Option.some.inj h1) (n4 _)
  · simp at h1
def fS {M : Nat} (S : List Sp) (pre : List (Bk M)) : List Sp := pre.foldl (fun S x => pTake S x.1.2.f x.1.2.t) S
def fT {M : Nat} (T : List St) (pre : List (Bk M)) : List St := pre.foldl (fun T x => pTakeT T x.1.2.f x.1.2.t 0) T
def fL {M : Nat} (L : Bytes) (pre : List (Bk M)) : Bytes := pre.foldl (fun L x => Con.dropL L x.1.2.f x.1.2.t) L
theorem unS_fold (S : List Sp) : ∀ X : List Sp, X.reverse.foldl (fun S x => pTake S x.f x.t) S = unS S X
  | [] => rfl
  | x :: X => by rw [List.reverse_cons, List.foldl_append, unS_fold S X]; rfl
theorem unT_fold (T : List St) : ∀ X : List Sp, X.reverse.foldl (fun T x => pTakeT T x.f x.t 0) T = unT T X
  | [] => rfl
  | x :: X => by rw [List.reverse_cons, List.foldl_append, unT_fold T X]; rfl
theorem unL_fold (L : Bytes) : ∀ X : List Sp, X.reverse.foldl (fun L x => Con.dropL L x.f x.t) L = unL L X
  | [] => rfl
  | x :: X => by rw [List.reverse_cons, List.foldl_append, unL_fold L X]; rfl
theorem fS_all {M : Nat} {X : List Sp} (S : List Sp) (hX : Ord 0 M X) : fS S (bkL M X X.length) = unS S X := by
  rw [← unS_fold, ← bkL_spans hX, List.foldl_map]; rfl
theorem fT_all {M : Nat} {X : List Sp} (T : List St) (hX : Ord 0 M X) : fT T (bkL M X X.length) = unT T X := by
  rw [← unT_fold, ← bkL_spans hX, List.foldl_map]; rfl
theorem fL_all {M : Nat} {X : List Sp} (L : Bytes) (hX : Ord 0 M X) : fL L (bkL M X X.length) = unL L X := by
  rw [← unL_fold, ← bkL_spans hX, List.foldl_map]; rfl
theorem pTakeT_len0 (T : List St) (a b : Int) : (pTakeT T a b 0).length ≤ T.length := by
  unfold pTakeT endT
  rw [if_neg (by omega)]
  exact mapT_len (cutS a b) T T.length
/-- Between two rounds. -/
def UI (B N : Nat) (w : World) (i l : Int) (L : Bytes) (S : List Sp) (T : List St) (M : Nat) (pre : List (Bk M)) (W : World) : Prop :=
  (∃ (q a3 : Option Addr) (n3 d3 : Nat) (a4 : Option Addr) (n4 d4 : Nat), W.heap[B]? = some (.cells #[.int .i64 i, .int .i64 l, .pointer q, .slice a3 n3 d3, .slice a4 n4 d4] 33 (0, 0)) ∧ Sg W (.agg #[.int .i64 i, .int .i64 l, .pointer q, .slice a3 n3 d3, .slice a4 n4 d4]) i l (fL L pre) (fS S pre) (fT T pre)) ∧
    (RS 0 0 M (fS S pre) ∧ RT M (fT T pre) ∧ (fL L pre).length ≤ 10000 ∧ (fT T pre).length ≤ 10000) ∧ W.heap[B + 1]? = some (.cells #[.int .i64 0, .int .i64 0, .pointer none, .slice none 0 0, .slice none 0 0] 33 (0, 0)) ∧ Below B w W ∧ N ≤ W.heap.size
theorem UI.own {B N : Nat} {w : World} {i l : Int} {L : Bytes} {S : List Sp} {T : List St} {M : Nat} (hBN : B ≤ N) : OwnFrom N (UI B N w i l L S T M) := by
  rintro pre W W' row ⟨⟨q, a3, n3, d3, a4, n4, d4, r, s⟩, h2, h3, h4, h5⟩ hg hr
  have hr' : ∀ r, row = some r → ∃ o : Obj, W.heap[r]? = some o ∧ o.isCells = false := fun r e => (hr r e).2
  exact ⟨⟨q, a3, n3, d3, a4, n4, d4, row_kept r hg hr', s.kept hg hr'⟩, h2, row_kept h3 hg hr', h4.grown hg (by omega) (fun k e => by have := (hr k e).1; omega), Nat.le_trans h5 hg.size⟩
/-- The loop's variable. -/
def UA (M : Nat) (tm : Value → Value → Value → Array Value) (x : Bk M) (a' : Act) (W : World) : Prop :=
  ∃ Bx, W.heap[Bx]? = some (.cells #[.int .i64 x.1.2.m, .int .i64 x.1.2.f, .int .i64 x.1.2.t] 110 (0, 0)) ∧ a' = { tmps := tm (.pointer (some ⟨Bx, 0, none⟩)) (.int .i64 x.1.1) (.agg #[.int .i64 x.1.2.m, .int .i64 x.1.2.f, .int .i64 x.1.2.t]), defers := [] }
theorem UA.own {M N : Nat} {tm : Value → Value → Value → Array Value} (x : Bk M) (a' : Act) : OwnFrom N (fun (_ : Unit) W => UA M tm x a' W) := by
  rintro _ W W' row ⟨Bx, h1, h2⟩ hg hr
  exact ⟨Bx, row_kept h1 hg (fun r e => (hr r e).2), h2⟩
theorem three_row {w : World} {B : Nat} {x y z : Value} {ty : TypeId} (r : w.heap[B]? = some (.cells #[x, y, z] ty (0, 0))) : w.cell? ⟨B, 0, none⟩ = some x ∧ w.cell? ⟨B, 1, none⟩ = some y ∧ w.cell? ⟨B, 2, none⟩ = some z := by
  refine ⟨?_, ?_, ?_⟩ <;> (rw [cell_of_row _ _ _ _ _ _ r]; rfl)

set_option maxHeartbeats 4000000 in
theorem unput_any {v : Value} {i l : Int} {L : Bytes} {S : List Sp} {T : List St} (mk : Int) (w : World) (h : Sg w v i l L S T) (hRS : RS 0 0 (Let.cnt L) S) (hRT : RT (Let.cnt L) T) (hmk : i64 mk) (b1 : L.length ≤ 10000) (hlt : T.length ≤ 10000) :
    Calls Tryd.prog 14 #[v, .int .i64 mk] w (GiveSg w i l (unL L (ofS S mk)) (dropS (unS S (ofS S mk)) mk) (dropT (unT T (ofS S mk)) mk)) := by
  have hcl := Let.cnt_len L
  have hls := RS_len hRS (by omega)
  obtain ⟨q, sa, sc, ta, tc, rfl, hR, hS, hT⟩ := h.open_
  have CO : Hid (∀ w', Below w.heap.size w w' → Calls Tryd.prog 64 #[.agg #[.slice sa S.length sc, .slice ta T.length tc], .int .i64 mk] w' (GivesOf w' (ofS S mk) (ofT T mk))) := fun w' hb => of_any mk w' (hS.below hb (Nat.le_refl _)) (hT.below hb (Nat.le_refl _)) hmk (by omega) hlt
  have HSG : Hid (∀ w', Below w.heap.size w w' → Sg w' (.agg #[.int .i64 i, .int .i64 l, .pointer q, .slice sa S.length sc, .slice ta T.length tc]) i l L S T) := fun w' hb => h.below hb (Nat.le_refl _)
  have GM := Lib.hid hmk
  have HRS := Lib.hid hRS
  have HRT := Lib.hid hRT
  have HB1 := Lib.hid b1
  have HTL := Lib.hid hlt
  have HTL2 : Hid (T.length ≤ 10000) := hlt
  have HTL3 : Hid (∀ T', T' = T → T'.length ≤ 10000) := fun T' e => by rw [e]; exact hlt
  generalize S.length = ls at *
  generalize T.length = lt at *
  clear h hR hS hT hRS hRT hmk hcl hls b1 hlt
  have BB : Hid (Below w.heap.size w ((w.alloc (.cells #[.int .i64 i, .int .i64 l, .pointer q, .slice sa ls sc, .slice ta lt tc] 33)).alloc (.cells #[.int .i64 0, .int .i64 0, .pointer none, .slice none 0 0, .slice none 0 0] 33))) := ((Below.refl _ _).alloc (Nat.le_refl _) _).alloc (by simp) _
  refine (callsIn_wide (n := 6)).1 ?_
  refine callsIn_of_wp_marks Tryd.func14 rfl trivial ?_ rfl
  simp only [Tryd.ntmps14, List.size_toArray, List.length_cons, List.length_nil, Nat.reduceAdd, Nat.reduceSub, Array.replicate_succ, Array.replicate_zero, List.push_toArray, List.append_toArray, List.nil_append, List.cons_append]
  gi_wp2_with (refine ⟨trivial, ?_⟩; gi_at_call 64; refine (callsIn_wide.2 (CO.out _ BB.out)).mono ?_; rintro e w1 ⟨v1, v2, rfl, g1, g2, b1⟩; obtain ⟨s1, t1, rfl⟩ := g1.is_slice; obtain ⟨pa, pc, rfl, _, _, _⟩ := g2.open_)
  have R0 : Hid (w1.heap[w.heap.size]? = some (.cells #[.int .i64 i, .int .i64 l, .pointer q, .slice sa ls sc, .slice ta lt tc] 33 (0, 0))) := (b1.block _ (by simp; omega)).trans ((Below.heap_alloc _ _ _ (by simp)).trans (heap_alloc_new _ _))
  have RZ : Hid (w1.heap[w.heap.size + 1]? = some (.cells #[.int .i64 0, .int .i64 0, .pointer none, .slice none 0 0, .slice none 0 0] 33 (0, 0))) := (b1.block _ (by simp)).trans (by have := heap_alloc_new (w.alloc (.cells #[.int .i64 i, .int .i64 l, .pointer q, .slice sa ls sc, .slice ta lt tc] 33)) (.cells #[.int .i64 0, .int .i64 0, .pointer none, .slice none 0 0, .slice none 0 0] 33); rwa [World.size_alloc] at this)
  have B1 := Lib.hid (below_more BB.out b1)
  have G1 := Lib.hid g1
  clear g1 g2 b1 BB CO
  obtain ⟨X, hXe⟩ : ∃ X, X = ofS S mk := ⟨_, rfl⟩
  rw [← hXe] at G1 ⊢
  generalize (ofT T mk).length = nT at *
  have HXE := Lib.hid hXe
  clear hXe
  obtain ⟨nX, hnX⟩ : ∃ n, n = X.length := ⟨_, rfl⟩
  rw [← hnX] at G1 ⊢
  have HNX := Lib.hid hnX
  clear hnX
  refine ⟨trivial, ?_⟩
  refine (back_in Fence.wide 5 trivial rfl s1 nX t1 w1).mono ?_
  rintro e w2 ⟨rfl, rfl⟩
  gi_wp2_with fail
  obtain ⟨W2, hW2⟩ : ∃ W2, W2 = w1.alloc (.cells #[.slice s1 nX t1] 22) := ⟨_, rfl⟩
  rw [← hW2]
  obtain ⟨b2, r2, l2⟩ := box_at hW2 rfl
  clear hW2
  have hcl := Let.cnt_len L
  have hb1 := HB1.out
  have hXo : Ord 0 (Let.cnt L) X := ofS_ord HRS.out.ord HXE.out.symm
  have hXl : (X.length : Int) ≤ Let.cnt L := by have := ord_len hXo (by omega); omega
  obtain ⟨ga, gc, ge, gl1, gl2, gcs⟩ := G1.out.open_
  have hnX := HNX.out
  injection ge with e1 e2 e3
  subst e1
  subst e3
  clear e2
  have hns : ∀ b off, s1 = some ⟨b, off, none⟩ → 0 < X.length → b ≠ w.heap.size := fun b off e hpos => by
    intro he
    obtain ⟨b', off', e', _, _, c0, c1, c2⟩ := gcs 0 hpos
    rw [e] at e'
    injection e' with e'
    injection e' with e1 e2
    subst e1
    subst e2
    subst he
    rw [cell_of_row _ _ _ _ _ _ R0.out] at c0 c1 c2
    rcases off with _ | _ | _ | _ | _ | off
    · cases Option.some.inj c2
    · cases Option.some.inj c1
    · cases Option.some.inj c0
    · cases Option.some.inj c0
    · cases Option.some.inj c0
    · simp at c0
  have hBs : w1.heap.size ≠ w.heap.size := by have := row_lt R0.out; omega
  have hseq : SeqStopsK Fence.wide (6 - 1) Tryd.prog 99 #[.pointer (some ⟨w1.heap.size, 0, none⟩)] encB (KX w.heap.size W2.heap.size) (fun ys => ys = bkL (Let.cnt L) X nX) (fun _ => True) nX W2 := fun l J Jx W hW _ _ hY h0 =>
    back1_in Fence.wide 5 trivial rfl (by omega) l w1.heap.size w.heap.size W2.heap.size (Let.cnt L) s1 nX t1 X hnX.symm hXo (by omega) (by omega) gl2 (by omega) hBs J Jx hY W (hW.cell (p := ⟨w1.heap.size, 0, none⟩) (by show w1.heap.size < W2.heap.size; omega) |>.trans (by rw [cell_of_row _ _ _ _ _ _ r2]; rfl))
      (fun j hj => by
        obtain ⟨b, off, e, hlt, _, c0, c1, c2⟩ := gcs j (by omega)
        have hlt2 : b < W2.heap.size := by omega
        have up : ∀ z v, w1.cell? ⟨b, z, none⟩ = some v → W.cell? ⟨b, z, none⟩ = some v := fun z v h => (hW.cell (p := ⟨b, z, none⟩) hlt2).trans ((b2.cell (p := ⟨b, z, none⟩) hlt).trans h)
        exact ⟨b, off, e, hlt2, hns b off e (by omega), up _ _ c0, up _ _ c1, up _ _ c2⟩) h0
  have hBN : w.heap.size ≤ W2.heap.size := by have := row_lt R0.out; omega
  have hUI0 : UI w.heap.size W2.heap.size w i l L S T (Let.cnt L) [] W2 :=
    ⟨⟨q, sa, ls, sc, ta, lt, tc, (b2.block _ (row_lt R0.out)).trans R0.out, HSG.out W2 (below_more B1.out b2)⟩, ⟨HRS.out, HRT.out, hb1, HTL3.out T rfl⟩, (b2.block _ (row_lt RZ.out)).trans RZ.out, below_more B1.out b2, Nat.le_refl _⟩
  have HAL : Hid (fS S (bkL (Let.cnt L) X nX) = unS S X ∧ fT T (bkL (Let.cnt L) X nX) = unT T X ∧ fL L (bkL (Let.cnt L) X nX) = unL L X) := by show _ ∧ _; rw [hnX]; exact ⟨fS_all S hXo, fT_all T hXo, fL_all L hXo⟩
  have hcM : Let.cnt L ≤ 10000 := by omega
  have HM := Lib.hid hcM
  have hBZ : Hid (w1.heap.size ≤ W2.heap.size) := b2.size
  clear hcl hb1 hXl gcs hns hXo hnX gl1 gl2 b2 r2 l2 hBs hcM
  refine wpIn_rangeFunc_ownH rfl (by omega) (gf := 99) (lb := #[.pointer (some ⟨w1.heap.size, 0, none⟩)]) rfl trivial (enters_of Tryd.func99 (by kernel_rfl) rfl) hseq KX.trans (KX.putObj (Nat.le_refl _)) (Below.refl _ _) (fun _ => rfl)
    (UI w.heap.size W2.heap.size w i l L S T (Let.cnt L)) (fun _ _ _ => False) (UI.own hBN) (fun _ _ _ _ _ hs _ _ => hs) hUI0
    (UA (Let.cnt L) (fun X8 X18 X19 => #[.agg #[.int .i64 i, .int .i64 l, .pointer q, .slice sa ls sc, .slice ta lt tc], .int .i64 mk, .pointer (some ⟨w.heap.size, 0, none⟩), undef, .pointer (some ⟨w.heap.size + 1, 0, none⟩), .slice s1 nX t1, .slice pa nT pc, undef, X8, .tuple #[.slice s1 nX t1, .slice pa nT pc], .pointer (some ⟨w.heap.size, 3, none⟩), .agg #[.slice sa ls sc, .slice ta lt tc], .int .i64 mk, .tuple #[.slice s1 nX t1, .slice pa nT pc], .slice s1 nX t1, .slice pa nT pc, .slice s1 nX t1, .func (.func 99) #[] #[.pointer (some ⟨w1.heap.size, 0, none⟩)], X18, X19, undef, undef, undef, undef, undef, undef, undef, undef, undef])) (fun x a' => UA.own x a') ?assign ?body ?done ?stop
  case assign =>
    intro l' pre x W K hs hK
    have hN := hs.2.2.2.2
    unfold encB
    gi_wp2
    exact hK _ _ ((KeepsOthers.alloc _ _).from _) (KX.alloc _ hN) ((UI.own hBN).alloc _ hs) ⟨W.heap.size, heap_alloc_new _ _, rfl⟩
  case body =>
    rintro l' pre x a' W hl' hrec ⟨⟨q5, a3, n3, d3, a4, n4, d4, r, s⟩, ⟨u1, u2, u3, u4⟩, z, hb, hN⟩ ⟨Bx, rx, rfl⟩ hlen
    have eS : fS S (pre ++ [x]) = pTake (fS S pre) x.1.2.f x.1.2.t := by unfold fS; rw [List.foldl_append]; rfl
    have eT : fT T (pre ++ [x]) = pTakeT (fT T pre) x.1.2.f x.1.2.t 0 := by unfold fT; rw [List.foldl_append]; rfl
    have eL : fL L (pre ++ [x]) = Con.dropL (fL L pre) x.1.2.f x.1.2.t := by unfold fL; rw [List.foldl_append]; rfl
    obtain ⟨y1, y2, y3⟩ := x.2
    obtain ⟨p, hp⟩ := Int.eq_ofNat_of_zero_le y1
    obtain ⟨e, he⟩ := Int.eq_ofNat_of_zero_le (Int.le_trans y1 y2)
    rw [hp, he] at eS eT eL y2 rx ⊢
    rw [he] at y3
    have h1 := pTake_ok (a := (p : Int)) (b := (e : Int)) u1 (by omega) y2 y3
    have h2 := pTakeT_right (mk := 0) u2 (show (0 : Int) ≤ p by omega) y2 y3
    have h3 := pTakeT_len0 (fT T pre) p e
    have h4 := Con.dropL_len (fL L pre) p e
    have CT := Lib.hid (stake2_any p e (Let.cnt L) 0 W s u1 u2 (by omega) (by omega) HM.out ⟨by omega, by omega⟩ u3 u4)
    have H5 : Hid (RS 0 0 (Let.cnt L) (fS S (pre ++ [x])) ∧ RT (Let.cnt L) (fT T (pre ++ [x])) ∧ (fL L (pre ++ [x])).length ≤ 10000 ∧ (fT T (pre ++ [x])).length ≤ 10000) := by
      show _ ∧ _
      rw [eS, eT, eL]
      exact ⟨h1.1.mono (by omega), ⟨h2.1, fun s hs => by have := h2.2 s hs; omega⟩, by omega, by omega⟩
    have ES : Hid (fS S (pre ++ [x]) = _) := eS
    have ET : Hid (fT T (pre ++ [x]) = _) := eT
    have EL : Hid (fL L (pre ++ [x]) = _) := eL
    have HR := Lib.hid r
    have HZ := Lib.hid z
    have HB := Lib.hid hb
    have HN := Lib.hid hN
    obtain ⟨c0, c1, c2, c3, c4⟩ := five_cells r
    obtain ⟨k0, k1, k2⟩ := three_row rx
    clear u1 u2 u3 u4 h1 h2 h3 h4 eS eT eL r z hb s hN y1 y2 y3 hp he rx
    generalize pTake (fS S pre) p e = S6 at *
    generalize pTakeT (fT T pre) p e 0 = T6 at *
    generalize Con.dropL (fL L pre) p e = L6 at *
    gi_wp2_with (refine ⟨trivial, ?_⟩; gi_at_call 66; refine (CallsIn.inRound l' (callsIn_wide.2 CT.out)).mono ?_; rintro e w5 ⟨v5, rfl, o5, b5⟩; obtain ⟨q6, x6, y6, x7, y7, rfl, g2, g3, g4⟩ := o5.open_; have R5 := (b5.block _ (row_lt HR.out)).trans HR.out; obtain ⟨m0, m1, m2, m3, m4⟩ := five_cells R5; obtain ⟨f0, f1, f2, f3, f4⟩ := five_free R5; have R5' := Lib.hid R5; clear R5; have G2 := Lib.hid g2; have G3 := Lib.hid g3; have G4 := Lib.hid g4; have B5 := Lib.hid b5; clear g2 g3 g4 b5 o5)
    have hsz := row_lt HR.out
    refine ⟨?kf, ?kx, ?ui⟩
    case kf => exact KeepsFrom.trans (KeepsOthers.from ⟨B5.out.size, fun k o hk _ => (B5.out.block k (Array.getElem?_eq_some_iff.1 hk).1).trans hk⟩ _) ((((((KeepsOthers.setCell _ _ _).trans (KeepsOthers.setCell _ _ _)).trans (KeepsOthers.setCell _ _ _)).trans (KeepsOthers.setCell _ _ _)).trans (KeepsOthers.setCell _ _ _)).from _)
    case kx => exact (KX.below HN.out B5.out).trans ((((KX.setCell.trans KX.setCell).trans KX.setCell).trans KX.setCell).trans KX.setCell)
    case ui =>
      refine ⟨⟨q6, x6, S6.length, y6, x7, T6.length, y7, set5_block R5'.out, ?_⟩, H5.out, ?_, ?_, ?_⟩
      · rw [ES.out, ET.out, EL.out]
        exact ⟨_, _, _, rfl, rope_kept G2.out R5'.out (by decide) (fun b e => set5_other w5 (.int .i64 i) (.int .i64 l) (.pointer q6) (.slice x6 S6.length y6) (.slice x7 T6.length y7) e) (Nat.le_of_eq (set5_size w5 _ _ _ _ _ _).symm), Fl.set5same G3.out R5'.out (ptr_ni _) (sl_ni _ _ _) (sl_ni _ _ _), Fl.set5same G4.out R5'.out (ptr_ni _) (sl_ni _ _ _) (sl_ni _ _ _)⟩
      · exact (set5_other w5 (B := w.heap.size) (.int .i64 i) (.int .i64 l) (.pointer q6) (.slice x6 S6.length y6) (.slice x7 T6.length y7) (Nat.succ_ne_self _)).trans ((B5.out.block _ (row_lt HZ.out)).trans HZ.out)
      · exact set5_below (.int .i64 i) (.int .i64 l) (.pointer q6) (.slice x6 S6.length y6) (.slice x7 T6.length y7) (HB.out.trans (B5.out.mono HB.out.size)) (Nat.le_refl _)
      · exact Nat.le_trans HN.out (Nat.le_trans B5.out.size (Nat.le_of_eq (set5_size w5 w.heap.size (.int .i64 i) (.int .i64 l) (.pointer q6) (.slice x6 S6.length y6) (.slice x7 T6.length y7)).symm))
  case done =>
    rintro D ys W hD rfl ⟨⟨q5, a3, n3, d3, a4, n4, d4, r, s⟩, ⟨u1, u2, u3, u4⟩, z, hb, hN⟩ hK
    rw [HAL.out.1, HAL.out.2.1, HAL.out.2.2] at s
    rw [HAL.out.1] at u1
    rw [HAL.out.2.1] at u2 u4
    have hl := RS_len u1 (by omega)
    have hcm := HM.out
    have CF := Lib.hid (forget2_any mk W s (RT_pos u2) GM.out (by omega) u4)
    have POS : Hid (∀ s ∈ dropT (unT T X) mk, 0 < s.m) := dropT_pos2 mk (RT_pos u2)
    have HR := Lib.hid r
    have HZ := Lib.hid z
    have HB := Lib.hid hb
    have HK := Lib.hid hK
    have HD : Hid (W2.heap.size ≤ D) := hD
    have HS2 : Hid (w.heap.size + 1 < W2.heap.size) := Nat.lt_of_lt_of_le (row_lt RZ.out) hBZ.out
    have XE := HXE.out
    subst XE
    generalize dropS (unS S (ofS S mk)) mk = S6 at *
    generalize dropT (unT T (ofS S mk)) mk = T6 at *
    generalize unL L (ofS S mk) = L6 at *
    obtain ⟨c0, c1, c2, c3, c4⟩ := five_cells r
    clear u1 u2 u3 u4 hl hcm r z hb s hN hK hD
    gi_wp2_with (refine ⟨trivial, ?_⟩; gi_at_call 67; refine (callsIn_wide.2 CF.out).mono ?_; rintro e w6 ⟨v6, rfl, o6, b6⟩; obtain ⟨q6, x6, y6, x7, y7, rfl, g2, g3, g4⟩ := o6.open_; have Z6 := (b6.block _ (row_lt HZ.out)).trans HZ.out; obtain ⟨m0, m1, m2, m3, m4⟩ := five_cells Z6; obtain ⟨f0, f1, f2, f3, f4⟩ := five_free Z6; have Z6' := Lib.hid Z6; clear Z6; have G2 := Lib.hid g2; have G3 := Lib.hid g3; have G4 := Lib.hid g4; have B6 := Lib.hid b6; clear g2 g3 g4 b6 o6)
    have hDn : D ≠ w.heap.size + 1 := by have := HD.out; have := HS2.out; omega
    have hDw := row_lt HK.out
    obtain ⟨WX, hWX⟩ : ∃ WX, WX = set5 w6 (w.heap.size + 1) (.int .i64 i) (.int .i64 l) (.pointer q6) (.slice x6 S6.length y6) (.slice x7 T6.length y7) := ⟨_, rfl⟩
    have RX : WX.heap[w.heap.size + 1]? = some (.cells #[.int .i64 i, .int .i64 l, .pointer q6, .slice x6 S6.length y6, .slice x7 T6.length y7] 33 (0, 0)) := by rw [hWX]; exact set5_block Z6'.out
    have KD : WX.heap[D]? = some (.deferred (some [])) := by rw [hWX, set5_other _ _ _ _ _ _ hDn]; exact (B6.out.block D hDw).trans HK.out
    have FG := give_sg (w := w) (i := i) (l := l) (Nat.le_add_right _ 1) Z6'.out G2.out G3.out G4.out POS.out (HB.out.trans (B6.out.mono HB.out.size))
    rw [← hWX] at FG
    simp only [set5] at hWX
    rw [← hWX]
    have hgr := grownBy_putObj' WX D (.deferred none)
    have hrr : ∀ r, some D = some r → ∃ o : Obj, WX.heap[r]? = some o ∧ o.isCells = false := fun r e => by cases e; exact ⟨_, KD, rfl⟩
    obtain ⟨t0, t1', t2, t3, t4⟩ := five_cells (row_kept RX hgr hrr)
    refine ⟨by simp, .inl ⟨_, _, rfl, run_takeDeferred KD, ?_⟩⟩
    exact ⟨.agg #[.int .i64 i, .int .i64 l, .pointer q6, .slice x6 S6.length y6, .slice x7 T6.length y7], by simp [results, Tryd.results14, go_sem, t0, t1', t2, t3, t4], ⟨_, rfl, FG.1.kept hgr hrr, FG.2.grown hgr (by have := row_lt KD; have := HS2.out; have := HD.out; omega) (fun k e => by cases e; have := HD.out; have := HS2.out; omega)⟩⟩
  case stop =>
    rintro D c pre W _ _ h _
    exact h.elim
end Go.Proofs.YtcpdoicbekcpeaaDoor.Seg
