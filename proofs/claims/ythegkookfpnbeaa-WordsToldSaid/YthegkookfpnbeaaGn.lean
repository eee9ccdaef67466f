/- Words: Ask of the plain text. -/
import Derived.Test.YthegkookfpnbeaaGm
set_option linter.unusedVariables false
set_option linter.unusedSimpArgs false
set_option maxRecDepth 100000
namespace Go.Proofs.Ythegkookfpnbeaa.Wds
open Go.RowKit Go.Lib Go.Proofs.Ythegkookfpnbeaa.Bx Go.Proofs.Ythegkookfpnbeaa.Frm

def zeroP : Pl := ⟨0, [], 0, [0, 0, 0, 0, 0, 0], [], [], false, false⟩
theorem six {l : List Int} (h : l.length = 6) : ∃ a b c d e f, l = [a, b, c, d, e, f] := by
  match l, h with
  | [a, b, c, d, e, f], _ => exact ⟨a, b, c, d, e, f, rfl⟩
/-- The blocks of Ask: the result's, the reader's, the call's. -/
structure AskSt (w0 w : World) (R : Nat) (p : Pl) (r : Rd) : Prop where
  bz : BlkP w R zeroP
  ba : At w (R + 1) r
  bp : BlkP w (R + 1 + 1) p
  bb : Below R w0 w
  be : w0.heap.size = R
  bn : p.n.length = 6
theorem AskSt.call {w0 w w' : World} {R : Nat} {p : Pl} {r r' : Rd} (h : AskSt w0 w R p r) (hg : w.grownBy w' (some (R + 1))) (ha : At w' (R + 1) r') : AskSt w0 w' R p r' :=
  ⟨(hg.block R h.bz.lt (by simp)).trans h.bz, ha, (hg.block (R + 1 + 1) h.bp.lt (by simp)).trans h.bp, grown_to h.bb hg (by omega) (Nat.le_of_lt h.bz.lt), h.be, h.bn⟩
theorem AskSt.below {w0 w w' : World} {R : Nat} {p : Pl} {r : Rd} (h : AskSt w0 w R p r) (hb : Below w.heap.size w w') : AskSt w0 w' R p r :=
  ⟨h.bz.below hb, h.ba.kept (grown_of _ _ hb _), h.bp.below hb, below_on h.bb hb (Nat.le_of_eq h.be.symm), h.be, h.bn⟩
theorem AskSt.put {w0 w : World} {R k : Nat} {u : Value} {p p' : Pl} {r : Rd} (h : AskSt w0 w R p r) (hp : (cellsP p).toArray.setIfInBounds k u = (cellsP p').toArray) (hn : p'.n.length = 6) : AskSt w0 (w.setCell ⟨R + 1 + 1, k, none⟩ u) R p' r :=
  ⟨(Below.heap_setCell _ _ _ _ (by show R ≠ R + 1 + 1; omega)).trans h.bz, (Below.heap_setCell _ _ _ _ (by show R + 1 ≠ R + 1 + 1; omega)).trans h.ba, by
    have := set_block (i := k) (u := u) h.bp
    rw [hp] at this
    exact this, below_put h.bb (by omega) u, h.be, hn⟩
theorem AskSt.op {w0 w : World} {R : Nat} {p : Pl} {r : Rd} (h : AskSt w0 w R p r) (o : Int) : AskSt w0 (w.setCell ⟨R + 1 + 1, 0, none⟩ (.int .i64 o)) R ⟨o, p.tok, p.seq, p.n, p.text, p.more, p.a, p.b⟩ r := h.put rfl h.bn
theorem AskSt.tok {w0 w : World} {R : Nat} {p : Pl} {r : Rd} (h : AskSt w0 w R p r) (o : List UInt8) : AskSt w0 (w.setCell ⟨R + 1 + 1, 1, none⟩ (.string (mkB o))) R ⟨p.op, o, p.seq, p.n, p.text, p.more, p.a, p.b⟩ r := h.put rfl h.bn
theorem AskSt.seq {w0 w : World} {R : Nat} {p : Pl} {r : Rd} (h : AskSt w0 w R p r) (o : Int) : AskSt w0 (w.setCell ⟨R + 1 + 1, 2, none⟩ (.int .i64 o)) R ⟨p.op, p.tok, o, p.n, p.text, p.more, p.a, p.b⟩ r := h.put rfl h.bn
theorem AskSt.text {w0 w : World} {R : Nat} {p : Pl} {r : Rd} (h : AskSt w0 w R p r) (o : List UInt8) : AskSt w0 (w.setCell ⟨R + 1 + 1, 9, none⟩ (.string (mkB o))) R ⟨p.op, p.tok, p.seq, p.n, o, p.more, p.a, p.b⟩ r := h.put rfl h.bn
theorem AskSt.more {w0 w : World} {R : Nat} {p : Pl} {r : Rd} (h : AskSt w0 w R p r) (o : List UInt8) : AskSt w0 (w.setCell ⟨R + 1 + 1, 10, none⟩ (.string (mkB o))) R ⟨p.op, p.tok, p.seq, p.n, p.text, o, p.a, p.b⟩ r := h.put rfl h.bn
theorem AskSt.fa {w0 w : World} {R : Nat} {p : Pl} {r : Rd} (h : AskSt w0 w R p r) (o : Bool) : AskSt w0 (w.setCell ⟨R + 1 + 1, 11, none⟩ (.bool o)) R ⟨p.op, p.tok, p.seq, p.n, p.text, p.more, o, p.b⟩ r := h.put rfl h.bn
theorem AskSt.fb {w0 w : World} {R : Nat} {p : Pl} {r : Rd} (h : AskSt w0 w R p r) (o : Bool) : AskSt w0 (w.setCell ⟨R + 1 + 1, 12, none⟩ (.bool o)) R ⟨p.op, p.tok, p.seq, p.n, p.text, p.more, p.a, o⟩ r := h.put rfl h.bn
theorem AskSt.num {w0 w : World} {R : Nat} {p : Pl} {r : Rd} (h : AskSt w0 w R p r) {i : Nat} (hi : i < 6) (o : Int) : AskSt w0 (w.setCell ⟨R + 1 + 1, 3 + i, none⟩ (.int .i64 o)) R ⟨p.op, p.tok, p.seq, p.n.set i o, p.text, p.more, p.a, p.b⟩ r := by
  refine h.put ?_ (by show (p.n.set i o).length = 6; rw [List.length_set]; exact h.bn)
  have h6 := h.bn
  obtain ⟨op, tok, seq, n, text, more, a, b⟩ := p
  obtain ⟨x0, x1, x2, x3, x4, x5, rfl⟩ := six (show n.length = 6 from h6)
  match i, hi with
  | 0, _ => rfl
  | 1, _ => rfl
  | 2, _ => rfl
  | 3, _ => rfl
  | 4, _ => rfl
  | 5, _ => rfl
theorem AskSt.cells {w0 w : World} {R : Nat} {p : Pl} {r : Rd} (h : AskSt w0 w R p r) : (w.cell? ⟨R + 1, 0, none⟩ = some (.string (mkB r.s)) ∧ w.cell? ⟨R + 1, 1, none⟩ = some (.bool r.bad)) ∧ w.cell? ⟨R + 1 + 1, 0, none⟩ = some (.int .i64 p.op) ∧ (∀ i, i < 13 → ∃ u, w.cell? ⟨R + 1 + 1, i, none⟩ = some u) ∧ (∀ i, w.frozen? ⟨R + 1 + 1, i, none⟩ = false) := by
  refine ⟨two_cells h.ba, h.bp.cell 0, fun i hi => ?_, fun i => free_at h.bp⟩
  have : i < (cellsP p).length := hi
  exact ⟨_, (h.bp.cell i).trans (List.getElem?_eq_getElem this)⟩
theorem setCells_full {g : Nat} {e : TypeId} : ∀ (vs : List Value) (o : Nat) (w : World) (cur : Array Value), w.heap[g]? = some (.cells cur e (0, 0)) → o + vs.length ≤ cur.size →
    ∃ cur', (w.setCells g o vs).heap[g]? = some (.cells cur' e (0, 0)) ∧ cur'.toList = cur.toList.take o ++ vs ++ cur.toList.drop (o + vs.length)
  | [], o, w, cur, h, _ => ⟨cur, h, by simp⟩
  | v :: vs, o, w, cur, h, hl => by
    rw [List.length_cons] at hl
    obtain ⟨cur', h1, h2⟩ := setCells_full vs (o + 1) (w.setCell ⟨g, o, none⟩ v) _ (set_block h) (by rw [Array.size_setIfInBounds]; omega)
    refine ⟨cur', h1, ?_⟩
    have ho : o < cur.toList.length := by rw [Array.length_toList]; omega
    rw [h2, Array.toList_setIfInBounds, List.take_succ_eq_append_getElem (by rw [List.length_set]; exact ho), List.getElem_set_self, List.take_set, List.set_eq_of_length_le (by rw [List.length_take]; omega), List.drop_set_of_lt (by omega), List.length_cons, show o + 1 + vs.length = o + (vs.length + 1) by omega]
    simp
theorem below_setCells {B g : Nat} (hg : B ≤ g) {a : World} : ∀ (vs : List Value) (o : Nat) (w : World), Below B a w → Below B a (w.setCells g o vs)
  | [], _, _, h => h
  | v :: vs, o, w, h => below_setCells hg vs (o + 1) _ (below_put h hg v)
set_option maxHeartbeats 4000000 in
theorem fin13 {w0 w : World} {R : Nat} {q : Pl} (hz : BlkP w R q) (hb : Below R w0 w) (p : Pl) : BlkP (((((((((((((w.setCell ⟨R, 0, none⟩ (.int .i64 p.op)).setCell ⟨R, 1, none⟩ (.string (mkB p.tok))).setCell ⟨R, 2, none⟩ (.int .i64 p.seq)).setCell ⟨R, 3, none⟩ (.int .i64 (nn p 0))).setCell ⟨R, 4, none⟩ (.int .i64 (nn p 1))).setCell ⟨R, 5, none⟩ (.int .i64 (nn p 2))).setCell ⟨R, 6, none⟩ (.int .i64 (nn p 3))).setCell ⟨R, 7, none⟩ (.int .i64 (nn p 4))).setCell ⟨R, 8, none⟩ (.int .i64 (nn p 5))).setCell ⟨R, 9, none⟩ (.string (mkB p.text))).setCell ⟨R, 10, none⟩ (.string (mkB p.more))).setCell ⟨R, 11, none⟩ (.bool p.a)).setCell ⟨R, 12, none⟩ (.bool p.b)) R p ∧ Below R w0 (((((((((((((w.setCell ⟨R, 0, none⟩ (.int .i64 p.op)).setCell ⟨R, 1, none⟩ (.string (mkB p.tok))).setCell ⟨R, 2, none⟩ (.int .i64 p.seq)).setCell ⟨R, 3, none⟩ (.int .i64 (nn p 0))).setCell ⟨R, 4, none⟩ (.int .i64 (nn p 1))).setCell ⟨R, 5, none⟩ (.int .i64 (nn p 2))).setCell ⟨R, 6, none⟩ (.int .i64 (nn p 3))).setCell ⟨R, 7, none⟩ (.int .i64 (nn p 4))).setCell ⟨R, 8, none⟩ (.int .i64 (nn p 5))).setCell ⟨R, 9, none⟩ (.string (mkB p.text))).setCell ⟨R, 10, none⟩ (.string (mkB p.more))).setCell ⟨R, 11, none⟩ (.bool p.a)).setCell ⟨R, 12, none⟩ (.bool p.b)) := by
  have h : BlkP (w.setCells R 0 (cellsP p)) R p ∧ Below R w0 (w.setCells R 0 (cellsP p)) := by
    refine ⟨?_, below_setCells (Nat.le_refl _) _ _ _ hb⟩
    obtain ⟨cur', h1, h2⟩ := setCells_full (cellsP p) 0 w _ hz (Nat.le_refl _)
    unfold BlkP
    rw [h1]
    have e : cur' = (cellsP p).toArray := by
      apply Array.toList_inj.1
      rw [h2]
      show [] ++ cellsP p ++ [] = _
      simp
    rw [e]
  exact h
theorem str_emptyB (s : ByteArray) : s.toList.isEmpty = decide (s.size = 0) := by
  rw [Lib.toList_data]
  show s.data.toList.isEmpty = decide (s.data.toList.length = 0)
  cases s.data.toList with
  | nil => rfl
  | cons a l => simp
def askE (s : List UInt8) : Pl × Bool := if (askR s).2.bad = false ∧ (askR s).2.s = [] ∧ ¬ opE (askR s).1 = 0 then ((askR s).1, true) else (zeroP, false)
theorem replicate_set {X : List Int} {i : Nat} (hX : X.length = i) (hi : i < 6) (z : Int) : (X ++ List.replicate (6 - i) 0).set i z = (X ++ [z]) ++ List.replicate (6 - (i + 1)) 0 := by
  subst hX
  rw [List.set_append_right _ _ (Nat.le_refl _), Nat.sub_self, show 6 - X.length = 6 - (X.length + 1) + 1 by omega, List.replicate_succ, List.set_cons_zero, List.append_assoc]
  rfl
set_option maxHeartbeats 8000000 in
theorem rask_any (s : List UInt8) (w : World) : Calls Try.prog 16 #[.string (mkB s)] w fun e w' => e = .returned (.tuple #[plV (askE s).1, .bool (askE s).2]) ∧ Below w.heap.size w w' := by
  obtain ⟨R, hR⟩ : ∃ R, R = w.heap.size := ⟨_, rfl⟩
  obtain ⟨B0, P0, L0⟩ := box1 w #[.int .i64 0, .string (ByteArray.mk #[]), .int .i64 0, .int .i64 0, .int .i64 0, .int .i64 0, .int .i64 0, .int .i64 0, .int .i64 0, .string (ByteArray.mk #[]), .string (ByteArray.mk #[]), .bool false, .bool false] 24
  obtain ⟨Wa, hWa⟩ : ∃ Wa, Wa = w.alloc (.cells #[.int .i64 0, .string (ByteArray.mk #[]), .int .i64 0, .int .i64 0, .int .i64 0, .int .i64 0, .int .i64 0, .int .i64 0, .int .i64 0, .string (ByteArray.mk #[]), .string (ByteArray.mk #[]), .bool false, .bool false] 24) := ⟨_, rfl⟩
  rw [← hWa] at B0 P0 L0
  obtain ⟨B1, P1, L1⟩ := box1 Wa #[.string (mkB s), .bool false] 107
  obtain ⟨Wb, hWb⟩ : ∃ Wb, Wb = Wa.alloc (.cells #[.string (mkB s), .bool false] 107) := ⟨_, rfl⟩
  rw [← hWb] at B1 P1 L1
  obtain ⟨B2, P2, L2⟩ := box1 Wb #[.int .i64 0, .string (ByteArray.mk #[]), .int .i64 0, .int .i64 0, .int .i64 0, .int .i64 0, .int .i64 0, .int .i64 0, .int .i64 0, .string (ByteArray.mk #[]), .string (ByteArray.mk #[]), .bool false, .bool false] 24
  obtain ⟨W0, hW0⟩ : ∃ W0, W0 = Wb.alloc (.cells #[.int .i64 0, .string (ByteArray.mk #[]), .int .i64 0, .int .i64 0, .int .i64 0, .int .i64 0, .int .i64 0, .int .i64 0, .int .i64 0, .string (ByteArray.mk #[]), .string (ByteArray.mk #[]), .bool false, .bool false] 24) := ⟨_, rfl⟩
  rw [← hW0] at B2 P2 L2
  rw [L0, ← hR] at L1 P1
  rw [L1] at P2 L2
  rw [← hR] at P0 L0
  have KS : Hid (AskSt w W0 R zeroP ⟨s, false⟩) :=
    ⟨(B2.block R (by omega)).trans ((B1.block R (by omega)).trans P0), (B2.block (R + 1) (by omega)).trans P1, P2, by have := below_on (below_on B0 B1) B2; rw [← hR] at this; exact this, hR.symm, rfl⟩
  rw [hWb, hWa] at hW0
  clear B0 P0 L0 B1 P1 L1 B2 P2 L2 hWa hWb
  have HW0 := Lib.hid hW0
  clear hW0
  obtain ⟨t, ht⟩ : ∃ t, t = (takeR ⟨s, false⟩ 1).1 := ⟨_, rfl⟩
  obtain ⟨r1, hr1⟩ : ∃ r1, r1 = (takeR ⟨s, false⟩ 1).2 := ⟨_, rfl⟩
  have hl : t.length = 1 := by rw [ht]; exact take_len _ _
  obtain ⟨x, hx⟩ : ∃ x, x = (t.getD 0 0).toNat := ⟨_, rfl⟩
  have x8 : x < 256 := by rw [hx]; exact UInt8.toNat_lt _
  have XI : ∀ w, (Instr.index 9 (.string (mkB t)) (.int .i64 0)).run Try.prog w = .ok (.int .u8 (x : Nat)) w := fun w => by
    rw [hx]
    exact byte_run w t .i64 (i := 0) (by omega)
  have C1 := Lib.hid (take_any ⟨s, false⟩ 1 (R + 1) W0 KS.out.ba (by decide) (.inl (by decide)))
  have hsz : (mkB t).size = 1 := by rw [mkB_size, hl]
  obtain ⟨tk, htk⟩ : ∃ tk, tk = (textR r1).1 := ⟨_, rfl⟩
  obtain ⟨r2, hr2⟩ : ∃ r2, r2 = (textR r1).2 := ⟨_, rfl⟩
  obtain ⟨q, hq⟩ : ∃ q, q = (numR r2).1 := ⟨_, rfl⟩
  obtain ⟨r3, hr3⟩ : ∃ r3, r3 = (numR r2).2 := ⟨_, rfl⟩
  have CT : Hid (∀ w', At w' (R + 1) r1 → Calls Try.prog 37 #[.pointer (some ⟨R + 1, 0, none⟩)] w' fun e w'' => e = .returned (.string (mkB tk)) ∧ At w'' (R + 1) r2 ∧ w'.grownBy w'' (some (R + 1))) := fun w' h => by rw [htk, hr2]; exact text_rd r1 _ w' h
  have CQ : Hid (∀ w', At w' (R + 1) r2 → Calls Try.prog 38 #[.pointer (some ⟨R + 1, 0, none⟩)] w' fun e w'' => e = .returned (.int .i64 q) ∧ At w'' (R + 1) r3 ∧ w'.grownBy w'' (some (R + 1))) := fun w' h => by rw [hq, hr3]; exact number_rd r2 _ w' h
  obtain ⟨c, hc⟩ : ∃ c, c = countN (x : Int) := ⟨_, rfl⟩
  have c6 : c ≤ 6 := by rw [hc]; exact count_le _
  obtain ⟨xs, hxs⟩ : ∃ xs, xs = (numsR c r3).1 := ⟨_, rfl⟩
  obtain ⟨r4, hr4⟩ : ∃ r4, r4 = (numsR c r3).2 := ⟨_, rfl⟩
  have HAK : Hid (askR s = (⟨x, tk, q, xs ++ List.replicate (6 - c) 0, (skipT ((x : Int) = 1 ∨ (x : Int) = 4) r4).1, (skipT ((x : Int) = 1) (skipT ((x : Int) = 1 ∨ (x : Int) = 4) r4).2).1, (skipF ((x : Int) = 14) (skipT ((x : Int) = 1) (skipT ((x : Int) = 1 ∨ (x : Int) = 4) r4).2).2).1, (skipF ((x : Int) = 14) (skipF ((x : Int) = 14) (skipT ((x : Int) = 1) (skipT ((x : Int) = 1 ∨ (x : Int) = 4) r4).2).2).2).1⟩, (skipF ((x : Int) = 14) (skipF ((x : Int) = 14) (skipT ((x : Int) = 1) (skipT ((x : Int) = 1 ∨ (x : Int) = 4) r4).2).2).2).2)) := by
    have e1 : lenR ⟨s, false⟩ = (x, r1) := by rw [hx, ht, hr1]; rfl
    have e2 : textR r1 = (tk, r2) := by rw [htk, hr2]
    have e3 : numR r2 = (q, r3) := by rw [hq, hr3]
    have e4 : numsR c r3 = (xs, r4) := by rw [hxs, hr4]
    show askR s = _
    unfold askR
    simp only [e1, e2, e3, ← hc, e4]
  have HX4 : Hid (numsR c r3 = (xs, r4)) := by show _ = _; rw [hxs, hr4]
  have CC1 : Hid (∀ w', Calls Try.prog 30 #[.int .i64 (x : Nat)] w' fun e w'' => e = .returned (.int .i64 (c : Nat)) ∧ Below w'.heap.size w' w'') := fun w' => by rw [hc]; exact count_any _ w'
  have HE : Hid (askE s = if (askR s).2.bad = false ∧ (askR s).2.s = [] ∧ ¬ opE (askR s).1 = 0 then ((askR s).1, true) else (zeroP, false)) := rfl
  rw [← ht, ← hr1] at C1
  obtain ⟨ts, hts⟩ : ∃ ts, ts = mkB t := ⟨_, rfl⟩
  rw [← hts] at C1 XI hsz
  have HRW := Lib.hid hR
  obtain ⟨r, hrE⟩ : ∃ r, r = askE s := ⟨_, rfl⟩
  rw [← hrE] at HE ⊢
  clear hrE
  clear ht hr1 hl hx htk hr2 hq hr3 hc hxs hr4 hts hR
  go_enter Try.func16, Try.ntmps16
  go_upto_region 3 with fail
  rw [← HW0.out, ← HRW.out]
  go_wp2_with fail
  refine (C1.out).mono ?_
  rintro e w3 ⟨rfl, a3, g3⟩
  have K3 := Lib.hid (KS.out.call g3 a3)
  obtain ⟨-, -, cs, fs⟩ := K3.out.cells
  obtain ⟨u, cu⟩ := cs 0 (by decide)
  replace fs := fs 0
  have KN := Lib.hid (K3.out.op (x : Nat))
  clear a3 g3 cs KS
  have KS := KN
  clear KN
  go_wp2_with fail
  refine (CT.out _ KS.out.ba).mono ?_
  rintro e w4 ⟨rfl, a4, g4⟩
  have K4 := Lib.hid (KS.out.call g4 a4)
  obtain ⟨-, -, cs, fs⟩ := K4.out.cells
  obtain ⟨u, cu⟩ := cs 1 (by decide)
  replace fs := fs 1
  have KN := Lib.hid (K4.out.tok tk)
  clear a4 g4 cs KS
  have KS := KN
  clear KN
  go_wp2_with fail
  refine (CQ.out _ KS.out.ba).mono ?_
  rintro e w5 ⟨rfl, a5, g5⟩
  have K5 := Lib.hid (KS.out.call g5 a5)
  obtain ⟨-, -, cs, fs⟩ := K5.out.cells
  obtain ⟨u, cu⟩ := cs 2 (by decide)
  replace fs := fs 2
  have KN := Lib.hid (K5.out.seq q)
  clear a5 g5 cs KS
  have KS := KN
  clear KN
  have KS3 := KS
  clear KS
  go_upto_region 6 with fail
  go_wp2_with fail
  go_loopg [6] c (fun g i_ wr => ∃ (i : Nat) (X : List Int) (rr : Rd), i ≤ c ∧ c - i ≤ g ∧ i_ = .int .i64 i ∧ Hid (X.length = i) ∧ Hid (numsR c r3 = (X ++ (numsR (c - i) rr).1, (numsR (c - i) rr).2)) ∧ Hid (AskSt w wr R ⟨x, tk, q, X ++ List.replicate (6 - i) 0, [], [], false, false⟩ rr))
  case atStart => exact ⟨0, [], r3, by omega, by omega, rfl, rfl, rfl, KS3⟩
  case round =>
    obtain ⟨i, X, rr, hi, hg, rfl, HXL, HQ, KS⟩ := hrel
    clear KS3
    obtain ⟨-, c0, -, -⟩ := KS.out.cells
    simp only at c0
    go_wp2_with fail
    refine (CC1.out _).mono ?_
    rintro e w6 ⟨rfl, b6⟩
    have K6 := Lib.hid (KS.out.below b6)
    clear KS b6 c0
    by_cases hic : i < c
    · have iw : ((i : Nat) : Int) < (c : Int) := by omega
      have n0 : (0 : Int) ≤ (i : Int) := by omega
      have i6 : (i : Int) < 6 := by omega
      obtain ⟨z, hz⟩ : ∃ z, z = (numR rr).1 := ⟨_, rfl⟩
      obtain ⟨r7, hr7⟩ : ∃ r7, r7 = (numR rr).2 := ⟨_, rfl⟩
      have C7 := Lib.hid (number_rd rr (R + 1) w6 K6.out.ba)
      rw [← hz, ← hr7] at C7
      have HQ2 : Hid (numsR c r3 = ((X ++ [z]) ++ (numsR (c - (i + 1)) r7).1, (numsR (c - (i + 1)) r7).2)) := by
        show _ = _
        rw [HQ.out, show c - i = c - (i + 1) + 1 by omega, hz, hr7]
        show (X ++ ((numR rr).1 :: (numsR (c - (i + 1)) (numR rr).2).1), (numsR (c - (i + 1)) (numR rr).2).2) = _
        simp
      clear hz hr7 HQ
      go_wp2_with fail
      refine C7.out.mono ?_
      rintro e w8 ⟨rfl, a8, g8⟩
      have K8 := Lib.hid (K6.out.call g8 a8)
      obtain ⟨-, -, cs, fs⟩ := K8.out.cells
      obtain ⟨u, cu⟩ := cs (3 + i) (by omega)
      replace fs := fs (3 + i)
      have KN := Lib.hid (K8.out.num (i := i) (by omega) z)
      simp only at KN
      rw [replicate_set HXL.out (by omega)] at KN
      have HXL2 : Hid ((X ++ [z]).length = i + 1) := by show _ = _; rw [List.length_append, HXL.out]; rfl
      clear a8 g8 cs C7 K6 K8 HXL
      go_wp2_with fail
      go_roundg (c - (i + 1))
      case measure => omega
      case rel => exact ⟨i + 1, X ++ [z], r7, by omega, Nat.le_refl _, by go_num, HXL2, HQ2, KN⟩
    · obtain rfl : i = c := by omega
      have iw : ¬ ((i : Int) < (i : Int)) := by omega
      have eX : X = xs ∧ rr = r4 := by
        have h1 := HX4.out
        rw [HQ.out, Nat.sub_self] at h1
        injection h1 with h1 h2
        exact ⟨by rw [← h1]; show X = X ++ []; rw [List.append_nil], h2⟩
      obtain ⟨rfl, rfl⟩ := eX
      clear HQ HX4 HXL
      obtain ⟨T5, hT5⟩ : ∃ T5, T5 = (skipT ((x : Int) = 1 ∨ (x : Int) = 4) rr).1 := ⟨_, rfl⟩
      obtain ⟨r5, hr5⟩ : ∃ r5, r5 = (skipT ((x : Int) = 1 ∨ (x : Int) = 4) rr).2 := ⟨_, rfl⟩
      obtain ⟨T6, hT6⟩ : ∃ T6, T6 = (skipT ((x : Int) = 1) r5).1 := ⟨_, rfl⟩
      obtain ⟨r6, hr6⟩ : ∃ r6, r6 = (skipT ((x : Int) = 1) r5).2 := ⟨_, rfl⟩
      obtain ⟨f7, hf7⟩ : ∃ f7, f7 = (skipF ((x : Int) = 14) r6).1 := ⟨_, rfl⟩
      obtain ⟨r7, hr7⟩ : ∃ r7, r7 = (skipF ((x : Int) = 14) r6).2 := ⟨_, rfl⟩
      obtain ⟨f8, hf8⟩ : ∃ f8, f8 = (skipF ((x : Int) = 14) r7).1 := ⟨_, rfl⟩
      obtain ⟨r8, hr8⟩ : ∃ r8, r8 = (skipF ((x : Int) = 14) r7).2 := ⟨_, rfl⟩
      have hak := HAK.out
      rw [← hT5, ← hr5, ← hT6, ← hr6, ← hf7, ← hr7, ← hf8, ← hr8] at hak
      rw [hak] at HE
      obtain ⟨PF, hPF⟩ : ∃ PF : Pl, PF = ⟨x, tk, q, X ++ List.replicate (6 - i) 0, T5, T6, f7, f8⟩ := ⟨_, rfl⟩
      rw [← hPF] at HE
      have HPF := Lib.hid hPF
      obtain ⟨b5, hb5⟩ : ∃ b5, b5 = decide ((x : Int) = 1 ∨ (x : Int) = 4) := ⟨_, rfl⟩
      obtain ⟨b6, hb6⟩ : ∃ b6, b6 = decide ((x : Int) = 1) := ⟨_, rfl⟩
      obtain ⟨b7, hb7⟩ : ∃ b7, b7 = decide ((x : Int) = 14) := ⟨_, rfl⟩
      have H5 : Hid ((b5 = true → T5 = (textR rr).1 ∧ r5 = (textR rr).2) ∧ (b5 = false → T5 = [] ∧ r5 = rr)) := by
        show _ ∧ _
        rw [hT5, hr5, hb5]
        unfold skipT
        by_cases h : (x : Int) = 1 ∨ (x : Int) = 4
        · rw [if_pos h, decide_eq_true h]; exact ⟨fun _ => ⟨rfl, rfl⟩, fun h => by cases h⟩
        · rw [if_neg h, decide_eq_false h]; exact ⟨fun h => by (cases h), fun _ => ⟨rfl, rfl⟩⟩
      have H6 : Hid ((b6 = true → T6 = (textR r5).1 ∧ r6 = (textR r5).2) ∧ (b6 = false → T6 = [] ∧ r6 = r5)) := by
        show _ ∧ _
        rw [hT6, hr6, hb6]
        unfold skipT
        by_cases h : (x : Int) = 1
        · rw [if_pos h, decide_eq_true h]; exact ⟨fun _ => ⟨rfl, rfl⟩, fun h => by cases h⟩
        · rw [if_neg h, decide_eq_false h]; exact ⟨fun h => by (cases h), fun _ => ⟨rfl, rfl⟩⟩
      have H7 : Hid ((b7 = true → (f7 = (flagR r6).1 ∧ r7 = (flagR r6).2) ∧ f8 = (flagR r7).1 ∧ r8 = (flagR r7).2) ∧ (b7 = false → (f7 = false ∧ r7 = r6) ∧ f8 = false ∧ r8 = r7)) := by
        show _ ∧ _
        rw [hf7, hf8, hr8, hr7, hb7]
        unfold skipF
        by_cases h : (x : Int) = 14
        · rw [if_pos h, decide_eq_true h, if_pos h]; exact ⟨fun _ => ⟨⟨rfl, rfl⟩, rfl, rfl⟩, fun h => by cases h⟩
        · rw [if_neg h, decide_eq_false h, if_neg h]; exact ⟨fun h => by (cases h), fun _ => ⟨⟨rfl, rfl⟩, rfl, rfl⟩⟩
      have HB5 := Lib.hid hb5
      have M6 : ((x : Int) == 1) = b6 := by rw [hb6]; rfl
      have M7 : ((x : Int) == 14) = b7 := by rw [hb7]; rfl
      have HM := Lib.hid (And.intro M6 M7)
      clear hT5 hr5 hT6 hr6 hf7 hr7 hf8 hr8 hak hPF hb5 hb6 hb7 M6 M7 HAK CC1
      go_upto_region 10 with fail
      go_cut [41] from 34 to 41 (fun v wx => v = .bool b5 ∧ wx = w6)
      case first =>
        obtain ⟨-, c0, -, -⟩ := K6.out.cells
        simp only at c0
        have h5 := HB5.out
        clear HE H5 H6 H7 HM HPF HB5
        by_cases e1 : x = 1
        · subst e1
          have hb : b5 = true := by rw [h5]; rfl
          clear h5
          go_wp2_with fail
          go_meet
          exact ⟨by rw [hb], rfl⟩
        · by_cases e4 : x = 4
          · subst e4
            have hb : b5 = true := by rw [h5]; rfl
            clear h5
            go_wp2_with fail
            go_meet
            exact ⟨by rw [hb], rfl⟩
          · have n1 : ¬ (x : Int) = 1 := by omega
            have n4 : ¬ (x : Int) = 4 := by omega
            have m1 : ((x : Int) == 1) = false := beq_eq_false_iff_ne.2 n1
            have m4 : ((x : Int) == 4) = false := beq_eq_false_iff_ne.2 n4
            have hb : b5 = false := by rw [h5]; exact decide_eq_false (by omega)
            clear h5
            go_wp2_with fail
            go_meet
            exact ⟨by rw [hb], rfl⟩
      case rest =>
        obtain ⟨rfl, rfl⟩ := hcut
        go_upto_if 41 with fail
        go_cut [] from 42 to 44 (fun wx => Hid (AskSt w wx R ⟨x, tk, q, (X ++ List.replicate (6 - i) 0), T5, [], false, false⟩ r5))
        case first =>
          cases b5 with
          | true =>
            obtain ⟨e5, e5r⟩ := H5.out.1 rfl
            have CA : Hid (∀ w', At w' (R + 1) rr → Calls Try.prog 37 #[.pointer (some ⟨R + 1, 0, none⟩)] w' fun e w'' => e = .returned (.string (mkB T5)) ∧ At w'' (R + 1) r5 ∧ w'.grownBy w'' (some (R + 1))) := fun w' h => by rw [e5, e5r]; exact text_rd rr _ w' h
            have KS := K6
            clear K6 H5 H6 H7 HE HM HPF HB5 e5 e5r
            go_wp2_with fail
            refine (CA.out _ KS.out.ba).mono ?_
            rintro e w11 ⟨rfl, a11, g11⟩
            have K11 := Lib.hid (KS.out.call g11 a11)
            obtain ⟨-, -, cs, fs⟩ := K11.out.cells
            obtain ⟨u, cu⟩ := cs 9 (by decide)
            replace fs := fs 9
            have KN := Lib.hid (K11.out.text T5)
            simp only at KN
            clear a11 g11 cs KS K11
            have KS := KN
            clear KN
            go_wp2_with fail
            go_meet
            exact KS
          | false =>
            obtain ⟨e5, e5r⟩ := H5.out.2 rfl
            subst e5 e5r
            clear H5 H6 H7 HE HM HPF HB5
            go_wp2_with fail
            go_meet
            exact K6
        case rest =>
          have KA := hcut
          clear K6 H5 HB5
          obtain ⟨-, c0, -, -⟩ := KA.out.cells
          simp only at c0
          go_upto_region 12 with fail
          go_upto_if 47 with fail
          rw [HM.out.1]
          go_cut [] from 48 to 50 (fun wx => Hid (AskSt w wx R ⟨x, tk, q, (X ++ List.replicate (6 - i) 0), T5, T6, false, false⟩ r6))
          case first =>
            clear c0
            cases b6 with
            | true =>
              obtain ⟨e6, e6r⟩ := H6.out.1 rfl
              have CA : Hid (∀ w', At w' (R + 1) r5 → Calls Try.prog 37 #[.pointer (some ⟨R + 1, 0, none⟩)] w' fun e w'' => e = .returned (.string (mkB T6)) ∧ At w'' (R + 1) r6 ∧ w'.grownBy w'' (some (R + 1))) := fun w' h => by rw [e6, e6r]; exact text_rd r5 _ w' h
              have KS := KA
              clear KA H6 H7 HE HM HPF e6 e6r
              go_wp2_with fail
              refine (CA.out _ KS.out.ba).mono ?_
              rintro e w11 ⟨rfl, a11, g11⟩
              have K11 := Lib.hid (KS.out.call g11 a11)
              obtain ⟨-, -, cs, fs⟩ := K11.out.cells
              obtain ⟨u, cu⟩ := cs 10 (by decide)
              replace fs := fs 10
              have KN := Lib.hid (K11.out.more T6)
              simp only at KN
              clear a11 g11 cs KS K11
              have KS := KN
              clear KN
              go_wp2_with fail
              go_meet
              exact KS
            | false =>
              obtain ⟨e6, e6r⟩ := H6.out.2 rfl
              subst e6 e6r
              clear H6 H7 HE HM HPF
              go_wp2_with fail
              go_meet
              exact KA
          case rest =>
            have KB := hcut
            clear KA H6 c0
            obtain ⟨-, c0, -, -⟩ := KB.out.cells
            simp only at c0
            go_upto_region 14 with fail
            go_upto_if 53 with fail
            rw [HM.out.2]
            go_cut [] from 54 to 59 (fun wx => Hid (AskSt w wx R PF r8))
            case first =>
              clear c0
              cases b7 with
              | true =>
                obtain ⟨⟨e7, e7r⟩, e8, e8r⟩ := H7.out.1 rfl
                have CA : Hid (∀ w', At w' (R + 1) r6 → Calls Try.prog 39 #[.pointer (some ⟨R + 1, 0, none⟩)] w' fun e w'' => e = .returned (.bool f7) ∧ At w'' (R + 1) r7 ∧ w'.grownBy w'' (some (R + 1))) := fun w' h => by rw [e7, e7r]; exact flag_rd r6 _ w' h
                have CB : Hid (∀ w', At w' (R + 1) r7 → Calls Try.prog 39 #[.pointer (some ⟨R + 1, 0, none⟩)] w' fun e w'' => e = .returned (.bool f8) ∧ At w'' (R + 1) r8 ∧ w'.grownBy w'' (some (R + 1))) := fun w' h => by rw [e8, e8r]; exact flag_rd r7 _ w' h
                have KS := KB
                clear KB H7 HE HM e7 e7r e8 e8r
                go_wp2_with fail
                refine (CA.out _ KS.out.ba).mono ?_
                rintro e w11 ⟨rfl, a11, g11⟩
                have K11 := Lib.hid (KS.out.call g11 a11)
                obtain ⟨-, -, cs, fs⟩ := K11.out.cells
                obtain ⟨u, cu⟩ := cs 11 (by decide)
                replace fs := fs 11
                have KN := Lib.hid (K11.out.fa f7)
                simp only at KN
                clear a11 g11 cs KS K11
                have KS := KN
                clear KN
                go_wp2_with fail
                refine (CB.out _ KS.out.ba).mono ?_
                rintro e w12 ⟨rfl, a12, g12⟩
                have K12 := Lib.hid (KS.out.call g12 a12)
                obtain ⟨-, -, cs, fs⟩ := K12.out.cells
                obtain ⟨u, cu⟩ := cs 12 (by decide)
                replace fs := fs 12
                have KN := Lib.hid (K12.out.fb f8)
                simp only at KN
                clear a12 g12 cs KS K12
                have KS := KN
                clear KN
                go_wp2_with fail
                go_meet
                exact (by rw [HPF.out]; exact KS)
              | false =>
                obtain ⟨⟨e7, e7r⟩, e8, e8r⟩ := H7.out.2 rfl
                subst e7 e7r e8 e8r
                clear H7 HE HM
                go_wp2_with fail
                go_meet
                exact (by rw [HPF.out]; exact KB)
            case rest =>
              have KS := hcut
              clear KB H7 HM HPF c0
              go_upto_region 17 with fail
              have KF := KS
              clear KS
              obtain ⟨sl, bd⟩ := r8
              obtain ⟨⟨s0, s1⟩, -, -, -⟩ := KF.out.cells
              simp only at s0 s1
              have SE := str_emptyB (mkB sl)
              rw [mkB_size] at SE
              cases bd with
              | true =>
                have hr : r = (zeroP, false) := by rw [HE.out, if_neg (by rintro ⟨h, _⟩; cases h)]
                clear HE SE
                subst hr
                obtain ⟨z0, z1, z2, z3, z4, z5, z6, z7, z8, z9, z10, z11, z12⟩ := KF.out.bz.all
                have fz := fun i => free_at (i := i) KF.out.bz
                go_wp2_with fail
                obtain ⟨WN, hWN⟩ : ∃ WN, WN = (((((((((((((wc.setCell ⟨R, 0, none⟩ (.int .i64 0)).setCell ⟨R, 1, none⟩ (.string (ByteArray.mk #[]))).setCell ⟨R, 2, none⟩ (.int .i64 0)).setCell ⟨R, 3, none⟩ (.int .i64 0)).setCell ⟨R, 4, none⟩ (.int .i64 0)).setCell ⟨R, 5, none⟩ (.int .i64 0)).setCell ⟨R, 6, none⟩ (.int .i64 0)).setCell ⟨R, 7, none⟩ (.int .i64 0)).setCell ⟨R, 8, none⟩ (.int .i64 0)).setCell ⟨R, 9, none⟩ (.string (ByteArray.mk #[]))).setCell ⟨R, 10, none⟩ (.string (ByteArray.mk #[]))).setCell ⟨R, 11, none⟩ (.bool false)).setCell ⟨R, 12, none⟩ (.bool false)) := ⟨_, rfl⟩
                rw [← hWN]
                have hfin : BlkP WN R zeroP ∧ Below R w WN := by rw [hWN]; exact fin13 KF.out.bz KF.out.bb zeroP
                obtain ⟨y0, y1, y2, y3, y4, y5, y6, y7, y8, y9, y10, y11, y12⟩ := hfin.1.all
                have hbw := hfin.2
                rw [HRW.out] at hbw
                exact bodyPost_ret (v := .tuple #[plV zeroP, .bool false]) (by simp [results, Try.results16, go_sem, y0, y1, y2, y3, y4, y5, y6, y7, y8, y9, y10, y11, y12, Try.isAgg24, Try.sizeOf24]; rfl) rfl ⟨rfl, hbw⟩
              | false =>
                by_cases hsl : sl = []
                · subst hsl
                  have SE2 : (mkB []).toList.isEmpty = true := SE
                  have CO : Hid (∀ w', Calls Try.prog 12 #[.agg #[.int .i64 PF.op, .string (mkB PF.tok), .int .i64 PF.seq, .int .i64 (nn PF 0), .int .i64 (nn PF 1), .int .i64 (nn PF 2), .int .i64 (nn PF 3), .int .i64 (nn PF 4), .int .i64 (nn PF 5), .string (mkB PF.text), .string (mkB PF.more), .bool PF.a, .bool PF.b]] w' fun e w'' => e = .returned (.int .i64 (opE PF)) ∧ Below w'.heap.size w' w'') := fun w' => op_any PF w'
                  obtain ⟨p0, p1, p2, p3, p4, p5, p6, p7, p8, p9, p10, p11, p12⟩ := KF.out.bp.all
                  generalize mkB [] = es at *
                  clear SE
                  by_cases ho : opE PF = 0
                  · have hr : r = (zeroP, false) := by rw [HE.out, if_neg (by rintro ⟨_, _, h⟩; exact h ho)]
                    clear HE
                    subst hr
                    rw [ho] at CO
                    go_wp2_with fail
                    refine (CO.out _).mono ?_
                    rintro e w15 ⟨rfl, b15⟩
                    have KG := Lib.hid (KF.out.below b15)
                    clear b15 CO KF p0 p1 p2 p3 p4 p5 p6 p7 p8 p9 p10 p11 p12
                    obtain ⟨z0, z1, z2, z3, z4, z5, z6, z7, z8, z9, z10, z11, z12⟩ := KG.out.bz.all
                    have fz := fun i => free_at (i := i) KG.out.bz
                    go_wp2_with fail
                    obtain ⟨WN, hWN⟩ : ∃ WN, WN = (((((((((((((w15.setCell ⟨R, 0, none⟩ (.int .i64 0)).setCell ⟨R, 1, none⟩ (.string (ByteArray.mk #[]))).setCell ⟨R, 2, none⟩ (.int .i64 0)).setCell ⟨R, 3, none⟩ (.int .i64 0)).setCell ⟨R, 4, none⟩ (.int .i64 0)).setCell ⟨R, 5, none⟩ (.int .i64 0)).setCell ⟨R, 6, none⟩ (.int .i64 0)).setCell ⟨R, 7, none⟩ (.int .i64 0)).setCell ⟨R, 8, none⟩ (.int .i64 0)).setCell ⟨R, 9, none⟩ (.string (ByteArray.mk #[]))).setCell ⟨R, 10, none⟩ (.string (ByteArray.mk #[]))).setCell ⟨R, 11, none⟩ (.bool false)).setCell ⟨R, 12, none⟩ (.bool false)) := ⟨_, rfl⟩
                    rw [← hWN]
                    have hfin : BlkP WN R zeroP ∧ Below R w WN := by rw [hWN]; exact fin13 KG.out.bz KG.out.bb zeroP
                    obtain ⟨y0, y1, y2, y3, y4, y5, y6, y7, y8, y9, y10, y11, y12⟩ := hfin.1.all
                    have hbw := hfin.2
                    rw [HRW.out] at hbw
                    exact bodyPost_ret (v := .tuple #[plV zeroP, .bool false]) (by simp [results, Try.results16, go_sem, y0, y1, y2, y3, y4, y5, y6, y7, y8, y9, y10, y11, y12, Try.isAgg24, Try.sizeOf24]; rfl) rfl ⟨rfl, hbw⟩
                  · have hr : r = (PF, true) := by rw [HE.out, if_pos ⟨rfl, rfl, ho⟩]
                    clear HE
                    subst hr
                    generalize opE PF = oe at *
                    have oe0 : (oe == 0) = false := beq_eq_false_iff_ne.2 ho
                    go_wp2_with fail
                    refine (CO.out _).mono ?_
                    rintro e w15 ⟨rfl, b15⟩
                    have KG := Lib.hid (KF.out.below b15)
                    clear b15 CO KF p0 p1 p2 p3 p4 p5 p6 p7 p8 p9 p10 p11 p12
                    obtain ⟨p0, p1, p2, p3, p4, p5, p6, p7, p8, p9, p10, p11, p12⟩ := KG.out.bp.all
                    obtain ⟨z0, z1, z2, z3, z4, z5, z6, z7, z8, z9, z10, z11, z12⟩ := KG.out.bz.all
                    have fz := fun i => free_at (i := i) KG.out.bz
                    go_wp2_with fail
                    obtain ⟨WN, hWN⟩ : ∃ WN, WN = (((((((((((((w15.setCell ⟨R, 0, none⟩ (.int .i64 PF.op)).setCell ⟨R, 1, none⟩ (.string (mkB PF.tok))).setCell ⟨R, 2, none⟩ (.int .i64 PF.seq)).setCell ⟨R, 3, none⟩ (.int .i64 (nn PF 0))).setCell ⟨R, 4, none⟩ (.int .i64 (nn PF 1))).setCell ⟨R, 5, none⟩ (.int .i64 (nn PF 2))).setCell ⟨R, 6, none⟩ (.int .i64 (nn PF 3))).setCell ⟨R, 7, none⟩ (.int .i64 (nn PF 4))).setCell ⟨R, 8, none⟩ (.int .i64 (nn PF 5))).setCell ⟨R, 9, none⟩ (.string (mkB PF.text))).setCell ⟨R, 10, none⟩ (.string (mkB PF.more))).setCell ⟨R, 11, none⟩ (.bool PF.a)).setCell ⟨R, 12, none⟩ (.bool PF.b)) := ⟨_, rfl⟩
                    rw [← hWN]
                    have hfin : BlkP WN R PF ∧ Below R w WN := by rw [hWN]; exact fin13 KG.out.bz KG.out.bb PF
                    obtain ⟨y0, y1, y2, y3, y4, y5, y6, y7, y8, y9, y10, y11, y12⟩ := hfin.1.all
                    have hbw := hfin.2
                    rw [HRW.out] at hbw
                    exact bodyPost_ret (v := .tuple #[plV PF, .bool true]) (by simp [results, Try.results16, go_sem, y0, y1, y2, y3, y4, y5, y6, y7, y8, y9, y10, y11, y12, Try.isAgg24, Try.sizeOf24]; rfl) rfl ⟨rfl, hbw⟩
                · have hs9 : decide (sl.length = 0) = false := decide_eq_false (fun h => hsl (List.eq_nil_of_length_eq_zero h))
                  rw [hs9] at SE
                  have hr : r = (zeroP, false) := by rw [HE.out, if_neg (by rintro ⟨_, h, _⟩; exact hsl h)]
                  clear HE hs9
                  subst hr
                  generalize mkB sl = es at *
                  obtain ⟨z0, z1, z2, z3, z4, z5, z6, z7, z8, z9, z10, z11, z12⟩ := KF.out.bz.all
                  have fz := fun i => free_at (i := i) KF.out.bz
                  go_wp2_with fail
                  obtain ⟨WN, hWN⟩ : ∃ WN, WN = (((((((((((((wc.setCell ⟨R, 0, none⟩ (.int .i64 0)).setCell ⟨R, 1, none⟩ (.string (ByteArray.mk #[]))).setCell ⟨R, 2, none⟩ (.int .i64 0)).setCell ⟨R, 3, none⟩ (.int .i64 0)).setCell ⟨R, 4, none⟩ (.int .i64 0)).setCell ⟨R, 5, none⟩ (.int .i64 0)).setCell ⟨R, 6, none⟩ (.int .i64 0)).setCell ⟨R, 7, none⟩ (.int .i64 0)).setCell ⟨R, 8, none⟩ (.int .i64 0)).setCell ⟨R, 9, none⟩ (.string (ByteArray.mk #[]))).setCell ⟨R, 10, none⟩ (.string (ByteArray.mk #[]))).setCell ⟨R, 11, none⟩ (.bool false)).setCell ⟨R, 12, none⟩ (.bool false)) := ⟨_, rfl⟩
                  rw [← hWN]
                  have hfin : BlkP WN R zeroP ∧ Below R w WN := by rw [hWN]; exact fin13 KF.out.bz KF.out.bb zeroP
                  obtain ⟨y0, y1, y2, y3, y4, y5, y6, y7, y8, y9, y10, y11, y12⟩ := hfin.1.all
                  have hbw := hfin.2
                  rw [HRW.out] at hbw
                  exact bodyPost_ret (v := .tuple #[plV zeroP, .bool false]) (by simp [results, Try.results16, go_sem, y0, y1, y2, y3, y4, y5, y6, y7, y8, y9, y10, y11, y12, Try.isAgg24, Try.sizeOf24]; rfl) rfl ⟨rfl, hbw⟩
end Go.Proofs.Ythegkookfpnbeaa.Wds
