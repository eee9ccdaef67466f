/- Memory: rows of unlike types lie apart; a record of two rows, in a block of its own, as it grows. Contract: Of of the program. Contract: Drop of the program. -/
import Derived.Test.YtcpdoicbekcpeaaDoorQM2
import Derived.Maps.AppendAt
set_option linter.unusedVariables false
set_option maxRecDepth 100000
namespace Go.Proofs.YtcpdoicbekcpeaaDoor.Rig
open Go.RowKit Go.Lib Go.Proofs.YtcpdoicbekcpeaaDoor.Rt

theorem own_ne {T T' : TypeId} {b b' n k n' k' : Nat} {w : World} {v v' : Value} {zs zs' : List Int} (h1 : OwnF T b w v n k zs) (h2 : OwnF T' b' w v' n' k' zs') (hT : T ≠ T') : v.ownBlock = none ∨ v.ownBlock ≠ v'.ownBlock := by
  rcases h1.1.2 with ⟨rfl, _⟩ | ⟨g, cap, cur, rfl, _, hg, _⟩
  · exact .inl rfl
  · refine .inr fun e => ?_
    rcases h2.1.2 with ⟨rfl, _⟩ | ⟨g', cap', cur', rfl, _, hg', _⟩
    · cases e
    · have e' : g = g' := by simpa [Value.ownBlock] using e
      subst e'
      rw [hg] at hg'
      injection hg' with hg'
      injection hg' with _ q
      exact hT q
theorem own_ne_block {T T' : TypeId} {b n k B : Nat} {w : World} {v : Value} {zs : List Int} {cs : Array Value} (h1 : OwnF T b w v n k zs) (hB : w.heap[B]? = some (.cells cs T' (0, 0))) (hT : T ≠ T') : v.ownBlock ≠ some B := fun e => by
  rcases h1.1.2 with ⟨rfl, _⟩ | ⟨g, cap, cur, rfl, _, hg, _⟩
  · cases e
  · have e' : g = B := by simpa [Value.ownBlock] using e
    subst e'
    rw [hg] at hB
    injection hB with hB
    injection hB with _ q
    exact hT q
/-- Their rows, if they have any, are two. -/
def Aprt (v u : Value) : Prop := ∀ g, v.ownBlock = some g → u.ownBlock ≠ some g
theorem Aprt.ne {v u : Value} (h : Aprt v u) : v.ownBlock = none ∨ v.ownBlock ≠ u.ownBlock := by
  cases hv : v.ownBlock with
  | none => exact .inl rfl
  | some g => exact .inr fun e => h g hv e.symm
theorem Aprt.symm {v u : Value} (h : Aprt v u) : Aprt u v := fun g h1 h2 => h g h2 h1
theorem Aprt.nil_ (u : Value) : Aprt (.slice none 0 0) u := fun g h => by cases h
theorem Aprt.moved {v v' u : Value} {N : Nat} (h : Aprt v u) (hat : v'.ownBlock = v.ownBlock ∨ v'.ownBlock = some N) (hu : ∀ g, u.ownBlock = some g → g < N) : Aprt v' u := fun g h1 h2 => by
  rcases hat with e | e
  · exact h g (e.symm.trans h1) h2
  · have := hu g h2
    rw [e] at h1
    injection h1 with h1
    omega
theorem Aprt.of_own {T T' : TypeId} {b b' n k n' k' : Nat} {w : World} {v v' : Value} {zs zs' : List Int} (h1 : OwnF T b w v n k zs) (h2 : OwnF T' b' w v' n' k' zs') (hT : T ≠ T') : Aprt v v' := fun g e1 e2 => by
  rcases own_ne h1 h2 hT with e | e
  · rw [e] at e1; cases e1
  · exact e (e1.trans e2.symm)
theorem Aprt.len {g : Option Addr} {n n' c c' : Nat} {u : Value} (h : Aprt (.slice g n c) u) : Aprt (.slice g n' c') u := fun q e => h q (by cases g <;> exact e)

/-- A record of spans and sites in block B, both rows the call's own. -/
structure Rec (ty : TypeId) (B b : Nat) (w : World) (v1 v2 : Value) (S : List Sp) (T : List St) : Prop where
  blk : w.heap[B]? = some (.cells #[v1, v2] ty (0, 0))
  fst : OwnSp b w v1 S
  snd : OwnSt b w v2 T
theorem Rec.size {ty : TypeId} {B b : Nat} {w : World} {v1 v2 : Value} {S : List Sp} {T : List St} (h : Rec ty B b w v1 v2 S T) : B < w.heap.size := (Array.getElem?_eq_some_iff.1 h.blk).1
theorem Rec.grown {ty : TypeId} {B b : Nat} {w w' : World} {v1 v2 : Value} {S : List Sp} {T : List St} {row : Option Nat} (h : Rec ty B b w v1 v2 S T) (hg : w.grownBy w' row) (hB : row ≠ some B) (h1 : v1.ownBlock = none ∨ v1.ownBlock ≠ row) (h2 : v2.ownBlock = none ∨ v2.ownBlock ≠ row) : Rec ty B b w' v1 v2 S T :=
  ⟨by rw [hg.block _ h.size (fun e => hB e.symm)]; exact h.blk, OwnF.kept h.fst hg h1, OwnF.kept h.snd hg h2⟩
theorem Rec.below {ty : TypeId} {B b : Nat} {w w' : World} {v1 v2 : Value} {S : List Sp} {T : List St} (h : Rec ty B b w v1 v2 S T) (hb : Below w.heap.size w w') : Rec ty B b w' v1 v2 S T :=
  h.grown (grown_below hb none) (by simp) (by cases hv : v1.ownBlock <;> simp) (by cases hv : v2.ownBlock <;> simp)
theorem Rec.alloc {ty : TypeId} {B b : Nat} {w : World} {v1 v2 : Value} {S : List Sp} {T : List St} (h : Rec ty B b w v1 v2 S T) (o : Obj) : Rec ty B b (w.alloc o) v1 v2 S T :=
  h.below ((Below.refl _ w).alloc (Nat.le_refl _) o)
theorem Rec.cell0 {ty : TypeId} {B b : Nat} {w : World} {v1 v2 : Value} {S : List Sp} {T : List St} (h : Rec ty B b w v1 v2 S T) : w.cell? ⟨B, 0, none⟩ = some v1 := by rw [cell_of_row _ _ _ _ _ _ h.blk]; rfl
theorem Rec.cell1 {ty : TypeId} {B b : Nat} {w : World} {v1 v2 : Value} {S : List Sp} {T : List St} (h : Rec ty B b w v1 v2 S T) : w.cell? ⟨B, 1, none⟩ = some v2 := by rw [cell_of_row _ _ _ _ _ _ h.blk]; rfl
theorem Rec.frozen {ty : TypeId} {B b : Nat} {w : World} {v1 v2 : Value} {S : List Sp} {T : List St} (h : Rec ty B b w v1 v2 S T) (j : Nat) : w.frozen? ⟨B, j, none⟩ = false := block_frozen h.blk
theorem set_ne {w : World} {B i : Nat} {u : Value} {v : Value} (h : v.ownBlock ≠ some B) : v.ownBlock = none ∨ v.ownBlock ≠ (some B : Option Nat) := .inr h
/-- What is in the block is another thing: the row that grew, put into its cell. -/
theorem Rec.putFst {ty : TypeId} {B b : Nat} {W w6 : World} {v1 v2 v6 : Value} {S S' : List Sp} {T : List St} (h : Rec ty B b W v1 v2 S T) (h26 : 110 ≠ ty) (h41 : 148 ≠ ty) (g5 : W.grownBy w6 v1.ownBlock) (K6 : OwnSp b w6 v6 S') :
    w6.heap[B]? = some (.cells #[v1, v2] ty (0, 0)) ∧ Rec ty B b (w6.setCell ⟨B, 0, none⟩ v6) v6 v2 S' T := by
  have hB : w6.heap[B]? = some (.cells #[v1, v2] ty (0, 0)) := by
    rw [g5.block _ h.size (fun e => own_ne_block h.fst h.blk h26 e.symm)]; exact h.blk
  have hT : OwnSt b w6 v2 T := OwnF.kept h.snd g5 (own_ne h.snd h.fst (by decide))
  refine ⟨hB, ?_, ?_, ?_⟩
  · rw [heap_setCell_same _ _ _ _ _ _ hB]; rfl
  · exact OwnF.kept K6 (grown_setCell _ _ _) (.inr (own_ne_block K6 hB h26))
  · exact OwnF.kept hT (grown_setCell _ _ _) (.inr (own_ne_block hT hB h41))
theorem Rec.putSnd {ty : TypeId} {B b : Nat} {W w6 : World} {v1 v2 v6 : Value} {S : List Sp} {T T' : List St} (h : Rec ty B b W v1 v2 S T) (h26 : 110 ≠ ty) (h41 : 148 ≠ ty) (g5 : W.grownBy w6 v2.ownBlock) (K6 : OwnSt b w6 v6 T') :
    w6.heap[B]? = some (.cells #[v1, v2] ty (0, 0)) ∧ Rec ty B b (w6.setCell ⟨B, 1, none⟩ v6) v1 v6 S T' := by
  have hB : w6.heap[B]? = some (.cells #[v1, v2] ty (0, 0)) := by
    rw [g5.block _ h.size (fun e => own_ne_block h.snd h.blk h41 e.symm)]; exact h.blk
  have hS : OwnSp b w6 v1 S := OwnF.kept h.fst g5 (own_ne h.fst h.snd (by decide))
  refine ⟨hB, ?_, ?_, ?_⟩
  · rw [heap_setCell_same _ _ _ _ _ _ hB]; rfl
  · exact OwnF.kept hS (grown_setCell _ _ _) (.inr (own_ne_block hS hB h26))
  · exact OwnF.kept K6 (grown_setCell _ _ _) (.inr (own_ne_block K6 hB h41))
/-- .. and another record stays. -/
theorem Rec.other {ty : TypeId} {B B' b i : Nat} {W w6 : World} {u1 u2 v6 : Value} {S : List Sp} {T : List St} {cs : Array Value} {row : Option Nat} (h : Rec ty B' b W u1 u2 S T) (h26 : 110 ≠ ty) (h41 : 148 ≠ ty) (g5 : W.grownBy w6 row) (hB : w6.heap[B]? = some (.cells cs ty (0, 0))) (hne : B' ≠ B)
    (hr : row ≠ some B') (h1 : u1.ownBlock = none ∨ u1.ownBlock ≠ row) (h2 : u2.ownBlock = none ∨ u2.ownBlock ≠ row) : Rec ty B' b (w6.setCell ⟨B, i, none⟩ v6) u1 u2 S T := by
  have h6 := h.grown g5 hr h1 h2
  refine h6.grown (grown_setCell _ _ _) (fun e => hne (by injection e with e; exact e.symm)) (.inr (own_ne_block h6.fst hB h26)) (.inr (own_ne_block h6.snd hB h41))

/-- An append of one record of ints that lies in a block of its own; where the row lies then. -/
theorem wpList_append_at {w : World} {ops : Array Oper} {rest : List Oper} {o : Oper} {a : Act} {Q : Exit → Act → World → Prop} (hgd : o.guard = none) (s x : Operand) (tS e : TypeId) (k bytes : Nat) (z : Value)
    (ht : Tryd.prog.underlying tS = some (.slice e)) (hinfo : (Tryd.prog.info? e).map (fun i => (i.zero, i.size, i.bytes)) = some (some z, k, bytes)) (hzs : z.cells.size = k) (hk : 0 < k) (hby : bytes ≤ 1000)
    (ho : o.op = .call { callee := .builtin .append, args := #[s, x], argTypes := #[tS, tS] }) (base : Nat) (v : Value) (n : Nat) (zs : List Int) (hs : a.eval s = v) (hown : OwnF e base w v n k zs)
    (b : Nat) (ys : List Int) (hx : a.eval x = .slice (some ⟨b, 0, none⟩) 1 1) (hb : w.heap[b]? = some (.cells (ints ys).toArray e (0, 0))) (hyl : ys.length = k) (hy : ∀ y ∈ ys, i64 y) (hn : n ≤ 100000) (hbase : base ≤ w.heap.size)
    (h : ∀ v' w', OwnF e base w' v' (n + 1) k (zs ++ ys) → w.grownBy w' v.ownBlock → (v'.ownBlock = v.ownBlock ∨ v'.ownBlock = some w.heap.size) → wpList Tryd.prog ops Q rest (a.put o.dst v') w') : wpList Tryd.prog ops Q (o :: rest) a w := by
  obtain ⟨i0, hi, hz0, hz1, hz2⟩ := info_parts hinfo
  have hbig : (n + 1) * bytes ≤ 140737488355328 := Nat.le_trans (Nat.mul_le_mul (show n + 1 ≤ 100001 by omega) hby) (by decide)
  refine wpList_plain hgd fun K hK => ?_
  obtain ⟨v', w', hr, h2, h3, h4, h5⟩ := run_append_own_at (P := Tryd.prog) w base tS o.type e i0 z k bytes ht hi hz0 hz1 hz2 hzs hk v n (ints zs) hown.1 ⟨b, 0, none⟩ 1 1 (ints ys) (by rw [ints_len]; omega) (by
    intro j u hj
    have hadd : (⟨b, 0, none⟩ : Addr).add j = ⟨b, j, none⟩ := by unfold Addr.add; split <;> simp_all
    rw [hadd, cell_of_row w b j _ _ (0, 0) hb]
    simpa using hj) ints_one (by unfold maxLen; omega) hbig hbase
  unfold Oper.wp execOp
  simp only [ho, resolve, invoke, builtin, Sem.run_bind, Sem.run_pure, Result.andThen_ok, List.map_toArray, List.map_cons, List.map_nil, hs, hx, hr]
  refine hK _ _ (h v' w' ⟨?_, fun q hq => ?_⟩ h3 h5)
  · rw [ints_app]
    exact h2
  · rw [List.mem_append] at hq
    rcases hq with hq | hq
    · exact hown.2 q hq
    · exact hy q hq
theorem good3 {m f t : Int} (h : i64 m) (h1 : i64 f) (h2 : i64 t) : ∀ q ∈ [m, f, t], i64 q := fun q hq => by
  simp at hq
  rcases hq with rfl | rfl | rfl <;> assumption
theorem good2 {m f : Int} (h : i64 m) (h1 : i64 f) : ∀ q ∈ [m, f], i64 q := fun q hq => by
  simp at hq
  rcases hq with rfl | rfl <;> assumption
end Go.Proofs.YtcpdoicbekcpeaaDoor.Rig

namespace Go.Proofs.YtcpdoicbekcpeaaDoor.Rig
open Go.RowKit Go.Lib Go.Proofs.YtcpdoicbekcpeaaDoor.Rt

set_option maxRecDepth 100000 in
set_option maxHeartbeats 4000000 in
theorem of_any {sv tv : Value} {S : List Sp} {T : List St} (mk : Int) (w : World) (hS : Spans w sv S) (hT : Sites w tv T) (hmk : i64 mk) (hn : S.length ≤ 10000) (hn2 : T.length ≤ 10000) :
    Calls Tryd.prog 64 #[.agg #[sv, tv], .int .i64 mk] w (GivesOf w (ofS S mk) (ofT T mk)) := by
  obtain ⟨sa, sc, rfl, hls, hcs, hS1⟩ := hS.open_
  obtain ⟨ta, tc, rfl, hlt, hct, hT1⟩ := hT.open_
  have HS := Lib.hid hS1
  have HT := Lib.hid hT1
  obtain ⟨ns, hns⟩ : ∃ ns, ns = S.length := ⟨_, rfl⟩
  obtain ⟨nt, hnt⟩ : ∃ nt, nt = T.length := ⟨_, rfl⟩
  have ES : Hid (ofS (S.take ns) mk = ofS S mk) := by show _ = _; rw [hns, List.take_length]
  have ET : Hid (ofT (T.take nt) mk = ofT T mk) := by show _ = _; rw [hnt, List.take_length]
  rw [← hns] at hls hn ⊢
  rw [← hnt] at hlt hn2 ⊢
  replace hns := Lib.hid hns
  replace hnt := Lib.hid hnt
  obtain ⟨n1, n2⟩ := hmk
  obtain ⟨W0, hW0⟩ : ∃ W0, W0 = w.alloc (.cells #[.slice sa ns sc, .slice ta nt tc] 31) := ⟨_, rfl⟩
  have b0 : Below w.heap.size w W0 := by rw [hW0]; exact (Below.refl _ _).alloc (Nat.le_refl _) _
  have h0 : W0.heap[w.heap.size]? = some (.cells #[.slice sa ns sc, .slice ta nt tc] 31 (0, 0)) := by rw [hW0]; exact heap_alloc_new _ _
  have l0 : w.heap.size < W0.heap.size := by rw [hW0]; simp
  have BX : Hid (∀ w', Below W0.heap.size W0 w' → w'.cell? ⟨w.heap.size, 0, none⟩ = some (.slice sa ns sc) ∧ w'.cell? ⟨w.heap.size, 1, none⟩ = some (.slice ta nt tc)) := fun w' hb => by
    refine ⟨below_cell hb l0 ?_, below_cell hb l0 ?_⟩ <;> (rw [cell_of_row _ _ _ _ _ _ h0]; rfl)
  have HW0 := Lib.hid hW0
  have B0 := Lib.hid b0
  clear hS1 hT1 hS hT h0 hW0 b0
  go_enter Tryd.func64, Tryd.ntmps64
  go_wp2_with fail
  rw [← HW0.out]
  go_loopg [6, 15] ns (fun g t i wr => ∃ k : Nat, k ≤ ns ∧ ns - k ≤ g ∧ i = .int .i64 k ∧ Hid (OwnSp W0.heap.size wr t (ofS (S.take k) mk)) ∧ Below W0.heap.size W0 wr)
  case atStart => exact ⟨0, Nat.zero_le _, by omega, rfl, OwnF.nil_ _ _ _ _, Below.refl _ _⟩
  case round =>
    obtain ⟨k, hk, hg, rfl, HO, hbel⟩ := hrel
    obtain ⟨x0, x1⟩ := BX.out _ hbel
    obtain ⟨R, hR⟩ : ∃ R, R = ofS (S.take k) mk := ⟨_, rfl⟩
    have hrl : R.length ≤ k := by rw [hR]; exact ofS_len S mk k
    rw [← hR] at HO
    obtain ⟨ao, co, rfl⟩ := HO.out.is_slice
    have HBwr := Lib.hid hbel
    by_cases hltk : k < ns
    · have hkl : k < S.length := by rw [← hns.out]; exact hltk
      obtain ⟨b, off, rfl, hb, ⟨⟨m1, m2⟩, ⟨f1, f2⟩, ⟨t1, t2⟩⟩, c0, c1, c2⟩ := HS.out k hkl
      have EQ := Lib.hid (ofS_take mk hkl)
      rw [← hR] at EQ
      obtain ⟨e, he⟩ : ∃ e, e = sp S k := ⟨_, rfl⟩
      rw [← he] at m1 m2 f1 f2 t1 t2 c0 c1 c2 EQ
      obtain ⟨m, f, t⟩ := e
      simp only at m1 m2 f1 f2 t1 t2 c0 c1 c2 EQ
      have hbel2 := below_more B0.out hbel
      replace c0 := below_cell hbel2 hb c0
      replace c1 := below_cell hbel2 hb c1
      replace c2 := below_cell hbel2 hb c2
      have HBX : Hid (Below W0.heap.size W0 (wr.alloc (.cells #[.int .i64 m, .int .i64 f, .int .i64 t] 110))) := HBwr.out.alloc HBwr.out.size _
      have HOX : Hid (OwnSp W0.heap.size (wr.alloc (.cells #[.int .i64 m, .int .i64 f, .int .i64 t] 110)) (.slice ao R.length co) R) := OwnF.below HO.out ((Below.refl _ wr).alloc (Nat.le_refl _) (.cells #[.int .i64 m, .int .i64 f, .int .i64 t] 110))
      clear hbel hbel2 HS HT hR he
      by_cases q : m = mk
      · have d : (m == mk) = true := by simpa using q
        have EN := Lib.hid (EQ.out.trans (by rw [if_pos q]))
        clear EQ q
        have A1 : Hid (OwnSp W0.heap.size ((wr.alloc (.cells #[.int .i64 m, .int .i64 f, .int .i64 t] 110)).alloc (.cells #[.int .i64 m, .int .i64 f, .int .i64 t] 110)) (.slice ao R.length co) R) := OwnF.below HOX.out ((Below.refl _ (wr.alloc (.cells #[.int .i64 m, .int .i64 f, .int .i64 t] 110))).alloc (Nat.le_refl _) (.cells #[.int .i64 m, .int .i64 f, .int .i64 t] 110))
        have A2 : Hid (((wr.alloc (.cells #[.int .i64 m, .int .i64 f, .int .i64 t] 110)).alloc (.cells #[.int .i64 m, .int .i64 f, .int .i64 t] 110)).heap[wr.heap.size + 1]? = some (.cells #[.int .i64 m, .int .i64 f, .int .i64 t] 110)) := by have := heap_alloc_new (wr.alloc (.cells #[.int .i64 m, .int .i64 f, .int .i64 t] 110)) (.cells #[.int .i64 m, .int .i64 f, .int .i64 t] 110); rw [World.size_alloc] at this; exact this
        have A3 : Hid (R.length ≤ 100000) := by show _ ≤ _; omega
        have HBY : Hid (Below W0.heap.size W0 ((wr.alloc (.cells #[.int .i64 m, .int .i64 f, .int .i64 t] 110)).alloc (.cells #[.int .i64 m, .int .i64 f, .int .i64 t] 110))) := HBX.out.alloc HBX.out.size _
        have A4 : Hid (W0.heap.size ≤ ((wr.alloc (.cells #[.int .i64 m, .int .i64 f, .int .i64 t] 110)).alloc (.cells #[.int .i64 m, .int .i64 f, .int .i64 t] 110)).heap.size) := HBY.out.size
        have A5 : Hid (∀ q ∈ [m, f, t], i64 q) := good3 ⟨m1, m2⟩ ⟨f1, f2⟩ ⟨t1, t2⟩
        go_wp2_with (at_builtin; refine wpList_append_rec rfl _ _ 22 110 3 24 _ Tryd.underlying22 infoSpan rfl (by decide) (by decide) rfl W0.heap.size _ R.length _ rfl A1.out (wr.heap.size + 1) [m, f, t] rfl A2.out rfl A5.out A3.out A4.out ?_)
        intro v6 w6 h5 g5
        have K6 : Hid (OwnSp W0.heap.size w6 v6 (ofS (S.take (k + 1)) mk)) := by
          show OwnF _ _ _ _ _ _ _
          rw [EN.out, fl3_app, List.length_append]
          exact h5
        obtain ⟨a6, c6, rfl⟩ := K6.out.is_slice
        have HBw6 := Lib.hid (HBY.out.grown g5 A4.out (fun q e => (OwnF.block A1.out q e).1))
        clear h5 g5 A1 A2 A3 A4 A5 HBX HBY HOX
        clear EN HO
        go_wp2_with fail
        go_roundg (ns - (k + 1))
        case measure => omega
        case rel => exact ⟨k + 1, by omega, Nat.le_refl _, by go_num, K6.out, HBw6.out⟩
      · have d : (m == mk) = false := by simpa using q
        have K6 : Hid (OwnSp W0.heap.size (wr.alloc (.cells #[.int .i64 m, .int .i64 f, .int .i64 t] 110)) (.slice ao R.length co) (ofS (S.take (k + 1)) mk)) := by
          have e : R = ofS (S.take (k + 1)) mk := by rw [EQ.out, if_neg q, List.append_nil]
          rw [← e]
          exact HOX.out
        clear EQ q HO
        go_wp2_with fail
        go_roundg (ns - (k + 1))
        case measure => omega
        case rel => exact ⟨k + 1, by omega, Nat.le_refl _, by go_num, K6.out, HBX.out⟩
    · obtain rfl : k = ns := by omega
      obtain ⟨wm, hwm⟩ : ∃ wm : World, wm = wr := ⟨_, rfl⟩
      subst hwm
      have HSP : Hid (Spans wm (.slice ao R.length co) (ofS S mk)) := by
        have := HO.out.spans
        rw [hR, ES.out] at this
        rw [hR, ES.out]
        exact this
      have lm := HBwr.out.size
      clear HS HO hbel hR x0 x1
      generalize R.length = rn at *
      have x0 := (BX.out _ HBwr.out).1
      have x1 := (BX.out _ HBwr.out).2
      go_wp2_with fail
      go_loopg [7, 31] nt (fun g t i wr => ∃ k : Nat, k ≤ nt ∧ nt - k ≤ g ∧ i = .int .i64 k ∧ Hid (OwnF 3 wm.heap.size wr t (ofT (T.take k) mk).length 1 (ofT (T.take k) mk)) ∧ Below wm.heap.size wm wr)
      case atStart => exact ⟨0, Nat.zero_le _, by omega, rfl, OwnF.nil_ _ _ _ _, Below.refl _ _⟩
      case round =>
        obtain ⟨k, hk, hg, rfl, HO, hbel⟩ := hrel
        have HBW := Lib.hid (below_more HBwr.out hbel)
        clear x0 x1
        obtain ⟨x0, x1⟩ := BX.out _ HBW.out
        obtain ⟨R, hR⟩ : ∃ R, R = ofT (T.take k) mk := ⟨_, rfl⟩
        have hrl : R.length ≤ k := by rw [hR]; exact ofT_len T mk k
        rw [← hR] at HO
        obtain ⟨ao', co', rfl⟩ := HO.out.is_slice
        have HBwx := Lib.hid hbel
        obtain ⟨wx, hwx⟩ : ∃ wx : World, wx = wr := ⟨_, rfl⟩
        subst hwx
        by_cases hltk : k < nt
        · have hkl : k < T.length := by rw [← hnt.out]; exact hltk
          obtain ⟨b, off, rfl, hb, ⟨⟨m1, m2⟩, ⟨f1, f2⟩⟩, c0, c1⟩ := HT.out k hkl
          have EQ := Lib.hid (ofT_take mk hkl)
          rw [← hR] at EQ
          obtain ⟨e, he⟩ : ∃ e, e = st T k := ⟨_, rfl⟩
          rw [← he] at m1 m2 f1 f2 c0 c1 EQ
          obtain ⟨m, f⟩ := e
          simp only at m1 m2 f1 f2 c0 c1 EQ
          have hbel2 := below_more B0.out HBW.out
          replace c0 := below_cell hbel2 hb c0
          replace c1 := below_cell hbel2 hb c1
          have HBX : Hid (Below wm.heap.size wm (wx.alloc (.cells #[.int .i64 m, .int .i64 f] 148))) := HBwx.out.alloc HBwx.out.size _
          have HOX : Hid (OwnF 3 wm.heap.size (wx.alloc (.cells #[.int .i64 m, .int .i64 f] 148)) (.slice ao' R.length co') R.length 1 R) := OwnF.below HO.out ((Below.refl _ wx).alloc (Nat.le_refl _) (.cells #[.int .i64 m, .int .i64 f] 148))
          clear hbel hbel2 HT hR he
          by_cases q : m = mk
          · have d : (m == mk) = true := by simpa using q
            have EN := Lib.hid (EQ.out.trans (by rw [if_pos q]))
            clear EQ q
            have A1 : Hid (OwnF 3 wm.heap.size ((wx.alloc (.cells #[.int .i64 m, .int .i64 f] 148)).alloc (.cells #[.int .i64 f] 3)) (.slice ao' R.length co') R.length 1 R) := OwnF.below HOX.out ((Below.refl _ (wx.alloc (.cells #[.int .i64 m, .int .i64 f] 148))).alloc (Nat.le_refl _) (.cells #[.int .i64 f] 3))
            have A2 : Hid (((wx.alloc (.cells #[.int .i64 m, .int .i64 f] 148)).alloc (.cells #[.int .i64 f] 3)).heap[wx.heap.size + 1]? = some (.cells #[.int .i64 f] 3)) := by have := heap_alloc_new (wx.alloc (.cells #[.int .i64 m, .int .i64 f] 148)) (.cells #[.int .i64 f] 3); rw [World.size_alloc] at this; exact this
            have A3 : Hid (R.length ≤ 100000) := by show _ ≤ _; omega
            have HBY : Hid (Below wm.heap.size wm ((wx.alloc (.cells #[.int .i64 m, .int .i64 f] 148)).alloc (.cells #[.int .i64 f] 3))) := HBX.out.alloc HBX.out.size _
            have A4 : Hid (wm.heap.size ≤ ((wx.alloc (.cells #[.int .i64 m, .int .i64 f] 148)).alloc (.cells #[.int .i64 f] 3)).heap.size) := HBY.out.size
            have A5 : Hid (∀ q ∈ [f], i64 q) := fun q hq => by
              simp at hq
              subst hq; exact ⟨by omega, by omega⟩
            go_wp2_with (at_builtin; refine wpList_append_rec rfl _ _ 56 3 1 8 _ Tryd.underlying56 infoInt rfl (by decide) (by decide) rfl wm.heap.size _ R.length _ rfl A1.out (wx.heap.size + 1) [f] rfl A2.out rfl A5.out A3.out A4.out ?_)
            intro v6 w6 h5 g5
            have K6 : Hid (OwnF 3 wm.heap.size w6 v6 (ofT (T.take (k + 1)) mk).length 1 (ofT (T.take (k + 1)) mk)) := by
              show OwnF _ _ _ _ _ _ _
              rw [EN.out, List.length_append]
              exact h5
            obtain ⟨a6, c6, rfl⟩ := K6.out.is_slice
            have HBw6 := Lib.hid (HBY.out.grown g5 A4.out (fun q e => (OwnF.block A1.out q e).1))
            clear h5 g5 A1 A2 A3 A4 A5 HBX HBY HOX
            clear EN HO
            go_wp2_with fail
            go_roundg (nt - (k + 1))
            case measure => omega
            case rel => exact ⟨k + 1, by omega, Nat.le_refl _, by go_num, K6.out, HBw6.out⟩
          · have d : (m == mk) = false := by simpa using q
            have K6 : Hid (OwnF 3 wm.heap.size (wx.alloc (.cells #[.int .i64 m, .int .i64 f] 148)) (.slice ao' R.length co') (ofT (T.take (k + 1)) mk).length 1 (ofT (T.take (k + 1)) mk)) := by
              have e : R = ofT (T.take (k + 1)) mk := by rw [EQ.out, if_neg q, List.append_nil]
              rw [← e]
              exact HOX.out
            clear EQ q HO
            go_wp2_with fail
            go_roundg (nt - (k + 1))
            case measure => omega
            case rel => exact ⟨k + 1, by omega, Nat.le_refl _, by go_num, K6.out, HBX.out⟩
        · obtain rfl : k = nt := by omega
          have HIN : Hid (Ints wx (.slice ao' R.length co') (ofT T mk)) := by
            have := OwnF.ints HO.out
            rw [hR, ET.out] at this
            rw [hR, ET.out]
            exact this
          clear HT HO hbel hR
          generalize R.length = rm at *
          go_wp2_with fail
          go_ret2
          exact ⟨_, _, rfl, HSP.out.below HBwx.out (Nat.le_refl _), HIN.out, below_more B0.out HBW.out⟩
end Go.Proofs.YtcpdoicbekcpeaaDoor.Rig

namespace Go.Proofs.YtcpdoicbekcpeaaDoor.Rig
open Go.RowKit Go.Lib Go.Proofs.YtcpdoicbekcpeaaDoor.Rt

set_option maxRecDepth 100000 in
set_option maxHeartbeats 8000000 in
theorem drop_any {sv tv : Value} {S : List Sp} {T : List St} (mk : Int) (w : World) (hS : Spans w sv S) (hT : Sites w tv T) (hmk : i64 mk) (hn : S.length ≤ 10000) (hn2 : T.length ≤ 10000) :
    Calls Tryd.prog 102 #[.agg #[sv, tv], .int .i64 mk] w (GivesM w (dropS S mk) (dropT T mk)) := by
  obtain ⟨sa, sc, rfl, hls, hcs, hS1⟩ := hS.open_
  obtain ⟨ta, tc, rfl, hlt, hct, hT1⟩ := hT.open_
  have HS := Lib.hid hS1
  have HT := Lib.hid hT1
  obtain ⟨ns, hns⟩ : ∃ ns, ns = S.length := ⟨_, rfl⟩
  obtain ⟨nt, hnt⟩ : ∃ nt, nt = T.length := ⟨_, rfl⟩
  have ES : Hid (dropS (S.take ns) mk = dropS S mk) := by show _ = _; rw [hns, List.take_length]
  have ET : Hid (dropT (T.take nt) mk = dropT T mk) := by show _ = _; rw [hnt, List.take_length]
  rw [← hns] at hls hn ⊢
  rw [← hnt] at hlt hn2 ⊢
  replace hns := Lib.hid hns
  replace hnt := Lib.hid hnt
  obtain ⟨n1, n2⟩ := hmk
  obtain ⟨W0, hW0⟩ : ∃ W0, W0 = ((w.alloc (.cells #[.slice sa ns sc, .slice ta nt tc] 31)).alloc (.cells #[.slice none 0 0, .slice none 0 0] 31)).alloc (.cells #[.slice none 0 0, .slice none 0 0] 31) := ⟨_, rfl⟩
  have b0 : Below w.heap.size w W0 := by rw [hW0]; exact (((Below.refl _ _).alloc (Nat.le_refl _) _).alloc (by simp) _).alloc (by simp; omega) _
  have h0 : W0.heap[w.heap.size]? = some (.cells #[.slice sa ns sc, .slice ta nt tc] 31 (0, 0)) := by
    rw [hW0, Below.heap_alloc _ _ _ (by simp; omega), Below.heap_alloc _ _ _ (by simp)]
    exact heap_alloc_new _ _
  have h0' : W0.heap[w.heap.size + 1]? = some (.cells #[.slice none 0 0, .slice none 0 0] 31 (0, 0)) := by
    have := heap_alloc_new (w.alloc (.cells #[.slice sa ns sc, .slice ta nt tc] 31)) (.cells #[.slice none 0 0, .slice none 0 0] 31)
    rw [hW0, Below.heap_alloc _ _ _ (by simp)]
    simpa using this
  have h0'' : W0.heap[w.heap.size + 1 + 1]? = some (.cells #[.slice none 0 0, .slice none 0 0] 31 (0, 0)) := by
    have := heap_alloc_new ((w.alloc (.cells #[.slice sa ns sc, .slice ta nt tc] 31)).alloc (.cells #[.slice none 0 0, .slice none 0 0] 31)) (.cells #[.slice none 0 0, .slice none 0 0] 31)
    rw [hW0]
    simpa using this
  have l0 : w.heap.size + 1 + 1 < W0.heap.size := by rw [hW0]; simp
  have BX : Hid (∀ w', Below (w.heap.size + 1 + 1) W0 w' → w'.cell? ⟨w.heap.size, 0, none⟩ = some (.slice sa ns sc) ∧ w'.cell? ⟨w.heap.size, 1, none⟩ = some (.slice ta nt tc)) := fun w' hb => by
    refine ⟨below_cell hb (by omega) ?_, below_cell hb (by omega) ?_⟩ <;> (rw [cell_of_row _ _ _ _ _ _ h0]; rfl)
  have HW0 := Lib.hid hW0
  have B0 := Lib.hid b0
  have H0' := Lib.hid h0'
  have H0'' := Lib.hid h0''
  clear hS1 hT1 hS hT h0 h0' h0'' hW0 b0
  go_enter Tryd.func102, Tryd.ntmps102
  go_wp2_with fail
  rw [← HW0.out]
  go_loopg [13] ns (fun g i wr => ∃ (k : Nat) (v : Value), k ≤ ns ∧ ns - k ≤ g ∧ i = .int .i64 k ∧ Hid (Rec 31 (w.heap.size + 1 + 1) W0.heap.size wr v (.slice none 0 0) (dropS (S.take k) mk) []) ∧ Below (w.heap.size + 1 + 1) W0 wr)
  case atStart => exact ⟨0, .slice none 0 0, Nat.zero_le _, by omega, rfl, ⟨H0''.out, OwnF.nil_ _ _ _ _, OwnF.nil_ _ _ _ _⟩, Below.refl _ _⟩
  case round =>
    obtain ⟨k, v, hk, hg, rfl, HK, hbel⟩ := hrel
    obtain ⟨x0, x1⟩ := BX.out _ hbel
    obtain ⟨R, hR⟩ : ∃ R, R = dropS (S.take k) mk := ⟨_, rfl⟩
    have hrl : R.length ≤ k := by rw [hR]; exact dropS_len S mk k
    rw [← hR] at HK
    obtain ⟨ao, co, rfl⟩ := HK.out.fst.is_slice
    have HBwr := Lib.hid hbel
    have w0 : W0.heap.size ≤ wr.heap.size := hbel.size
    have y0 : wr.cell? ⟨(w.heap.size + 1 + 1), 0, none⟩ = some (.slice ao R.length co) := HK.out.cell0
    have y1 : wr.cell? ⟨(w.heap.size + 1 + 1), 1, none⟩ = some (.slice none 0 0) := HK.out.cell1
    by_cases hltk : k < ns
    · have hkl : k < S.length := by rw [← hns.out]; exact hltk
      obtain ⟨b, off, rfl, hb, ⟨⟨m1, m2⟩, ⟨f1, f2⟩, ⟨t1, t2⟩⟩, c0, c1, c2⟩ := HS.out k hkl
      have EQ := Lib.hid (dropS_take mk hkl)
      rw [← hR] at EQ
      obtain ⟨e, he⟩ : ∃ e, e = sp S k := ⟨_, rfl⟩
      rw [← he] at m1 m2 f1 f2 t1 t2 c0 c1 c2 EQ
      obtain ⟨m, f, t⟩ := e
      simp only at m1 m2 f1 f2 t1 t2 c0 c1 c2 EQ
      have hbel2 : Below w.heap.size w wr := B0.out.trans (hbel.mono (by omega))
      replace c0 := below_cell hbel2 hb c0
      replace c1 := below_cell hbel2 hb c1
      replace c2 := below_cell hbel2 hb c2
      have HX : Hid (Rec 31 (w.heap.size + 1 + 1) W0.heap.size (wr.alloc (.cells #[.int .i64 m, .int .i64 f, .int .i64 t] 110)) (.slice ao R.length co) (.slice none 0 0) R []) := HK.out.alloc _
      have HBX : Hid (Below (w.heap.size + 1 + 1) W0 (wr.alloc (.cells #[.int .i64 m, .int .i64 f, .int .i64 t] 110))) := HBwr.out.alloc (by omega) _
      clear hbel hbel2 HS HT hR he
      by_cases q : m = mk
      · have d : (m != mk) = false := by simpa using q
        have EN := Lib.hid (EQ.out.trans (by rw [if_pos q, List.append_nil]))
        clear EQ
        subst q
        go_wp2_with fail
        go_roundg (ns - (k + 1))
        case measure => omega
        case rel => exact ⟨k + 1, _, by omega, Nat.le_refl _, by go_num, by rw [EN.out]; exact HX.out, HBX.out⟩
      · have d : (m != mk) = true := by simpa using q
        have EN := Lib.hid (EQ.out.trans (by rw [if_neg q]))
        clear EQ
        have HY : Hid (Rec 31 (w.heap.size + 1 + 1) W0.heap.size ((wr.alloc (.cells #[.int .i64 m, .int .i64 f, .int .i64 t] 110)).alloc (.cells #[.int .i64 m, .int .i64 f, .int .i64 t] 110)) (.slice ao R.length co) (.slice none 0 0) R []) := HX.out.alloc _
        have HBY : Hid (Below (w.heap.size + 1 + 1) W0 ((wr.alloc (.cells #[.int .i64 m, .int .i64 f, .int .i64 t] 110)).alloc (.cells #[.int .i64 m, .int .i64 f, .int .i64 t] 110))) := HBX.out.alloc (by simp; omega) _
        have A1 := Lib.hid HY.out.fst
        have A2 : Hid (((wr.alloc (.cells #[.int .i64 m, .int .i64 f, .int .i64 t] 110)).alloc (.cells #[.int .i64 m, .int .i64 f, .int .i64 t] 110)).heap[wr.heap.size + 1]? = some (.cells #[.int .i64 m, .int .i64 f, .int .i64 t] 110)) := by have := heap_alloc_new (wr.alloc (.cells #[.int .i64 m, .int .i64 f, .int .i64 t] 110)) (.cells #[.int .i64 m, .int .i64 f, .int .i64 t] 110); rw [World.size_alloc] at this; exact this
        have A3 : Hid (R.length ≤ 100000) := by show _ ≤ _; omega
        have A4 : Hid (W0.heap.size ≤ ((wr.alloc (.cells #[.int .i64 m, .int .i64 f, .int .i64 t] 110)).alloc (.cells #[.int .i64 m, .int .i64 f, .int .i64 t] 110)).heap.size) := HBY.out.size
        have A5 : Hid (∀ q ∈ [m, f, t], i64 q) := good3 ⟨m1, m2⟩ ⟨f1, f2⟩ ⟨t1, t2⟩
        obtain ⟨l6, hl6⟩ : ∃ l6, l6 = (dropS (S.take (k + 1)) mk).length := ⟨_, rfl⟩
        have HAP : Hid (∀ (v6 : Value) (w6 : World), OwnF 110 W0.heap.size w6 v6 (R.length + 1) 3 (fl3 R ++ [m, f, t]) → ((wr.alloc (.cells #[.int .i64 m, .int .i64 f, .int .i64 t] 110)).alloc (.cells #[.int .i64 m, .int .i64 f, .int .i64 t] 110)).grownBy w6 (Value.slice ao R.length co).ownBlock →
            (∃ a6 c6, v6 = .slice a6 l6 c6) ∧ w6.cell? ⟨(w.heap.size + 1 + 1), 0, none⟩ = some (.slice ao R.length co) ∧ w6.cell? ⟨(w.heap.size + 1 + 1), 1, none⟩ = some (.slice none 0 0) ∧ w6.frozen? ⟨(w.heap.size + 1 + 1), 0, none⟩ = false ∧
            Hid (Rec 31 (w.heap.size + 1 + 1) W0.heap.size (w6.setCell ⟨(w.heap.size + 1 + 1), 0, none⟩ v6) v6 (.slice none 0 0) (dropS (S.take (k + 1)) mk) []) ∧ Hid (Below (w.heap.size + 1 + 1) W0 (w6.setCell ⟨(w.heap.size + 1 + 1), 0, none⟩ v6))) := fun v6 w6 h5 g5 => by
          have K6 : OwnSp W0.heap.size w6 v6 (dropS (S.take (k + 1)) mk) := by
            show OwnF _ _ _ _ _ _ _
            rw [EN.out, fl3_app, List.length_append]
            exact h5
          obtain ⟨hB6, hR6⟩ := HY.out.putFst (by decide) (by decide) g5 K6
          refine ⟨by rw [hl6]; exact K6.is_slice, by rw [cell_of_row _ _ _ _ _ _ hB6]; rfl, by rw [cell_of_row _ _ _ _ _ _ hB6]; rfl, block_frozen hB6, hR6, ?_⟩
          exact (HBY.out.grown g5 (by simp; omega) (fun q e => by have := (OwnF.block A1.out q e).1; omega)).setCell (p := ⟨(w.heap.size + 1 + 1), 0, none⟩) (Nat.le_refl _) _
        clear hl6 EN
        have ya0 := HX.out.cell0
        have ya1 := HX.out.cell1
        go_wp2_with (at_builtin; refine wpList_append_rec rfl _ _ 22 110 3 24 _ Tryd.underlying22 infoSpan rfl (by decide) (by decide) rfl W0.heap.size _ R.length _ rfl A1.out (wr.heap.size + 1) [m, f, t] rfl A2.out rfl A5.out A3.out A4.out ?_)
        intro v6 w6 h5 g5
        obtain ⟨⟨a6, c6, rfl⟩, u6, u7, f6, E1, E2⟩ := HAP.out v6 w6 h5 g5
        clear h5 g5 A1 A2 A3 A4 A5 HAP HX HBX HY HBY ya0 ya1
        go_wp2_with fail
        go_roundg (ns - (k + 1))
        case measure => omega
        case rel => exact ⟨k + 1, _, by omega, Nat.le_refl _, by go_num, E1.out, E2.out⟩
    · obtain rfl : k = ns := by omega
      have HR : Hid (R = dropS S mk) := hR.trans ES.out
      rw [show R = dropS S mk from HR.out] at HK y0
      obtain ⟨D, hD⟩ : ∃ D, D = dropS S mk := ⟨_, rfl⟩
      rw [← hD] at HK y0 ⊢
      obtain ⟨w1, hw1⟩ : ∃ w1 : World, w1 = wr := ⟨_, rfl⟩
      rw [← hw1] at HK HBwr
      clear HR hR hrl hbel x0 x1 y0 y1 w0
      have HDD := Lib.hid hD
      clear hD
      subst hw1
      have x0 := (BX.out _ HBwr.out).1
      have x1 := (BX.out _ HBwr.out).2
      generalize D.length = d1 at *
      go_wp2_with fail
      go_loopg [31] nt (fun g i wr => ∃ (k : Nat) (v : Value), k ≤ nt ∧ nt - k ≤ g ∧ i = .int .i64 k ∧ Hid (Rec 31 (w.heap.size + 1 + 1) W0.heap.size wr (.slice ao d1 co) v D (dropT (T.take k) mk)) ∧ Below (w.heap.size + 1 + 1) W0 wr)
      case atStart => exact ⟨0, .slice none 0 0, Nat.zero_le _, by omega, rfl, HK.out, HBwr.out⟩
      case round =>
        clear HK HBwr x0 x1
        obtain ⟨k, v, hk, hg, rfl, HK, hbel⟩ := hrel
        obtain ⟨x0, x1⟩ := BX.out _ hbel
        obtain ⟨R, hR⟩ : ∃ R, R = dropT (T.take k) mk := ⟨_, rfl⟩
        have hrl : R.length ≤ k := by rw [hR]; exact dropT_len T mk k
        rw [← hR] at HK
        obtain ⟨bo, do_, rfl⟩ := HK.out.snd.is_slice
        have HBwr := Lib.hid hbel
        have w0 : W0.heap.size ≤ wr.heap.size := hbel.size
        have y0 : wr.cell? ⟨(w.heap.size + 1 + 1), 0, none⟩ = some (.slice ao d1 co) := HK.out.cell0
        have y1 : wr.cell? ⟨(w.heap.size + 1 + 1), 1, none⟩ = some (.slice bo R.length do_) := HK.out.cell1
        by_cases hltk : k < nt
        · have hkl : k < T.length := by rw [← hnt.out]; exact hltk
          obtain ⟨b, off, rfl, hb, ⟨⟨m1, m2⟩, ⟨f1, f2⟩⟩, c0, c1⟩ := HT.out k hkl
          have EQ := Lib.hid (dropT_take mk hkl)
          rw [← hR] at EQ
          obtain ⟨e, he⟩ : ∃ e, e = st T k := ⟨_, rfl⟩
          rw [← he] at m1 m2 f1 f2 c0 c1 EQ
          obtain ⟨m, f⟩ := e
          simp only at m1 m2 f1 f2 c0 c1 EQ
          have hbel2 : Below w.heap.size w wr := B0.out.trans (hbel.mono (by omega))
          replace c0 := below_cell hbel2 hb c0
          replace c1 := below_cell hbel2 hb c1
          have HX : Hid (Rec 31 (w.heap.size + 1 + 1) W0.heap.size (wr.alloc (.cells #[.int .i64 m, .int .i64 f] 148)) (.slice ao d1 co) (.slice bo R.length do_) D R) := HK.out.alloc _
          have HBX : Hid (Below (w.heap.size + 1 + 1) W0 (wr.alloc (.cells #[.int .i64 m, .int .i64 f] 148))) := HBwr.out.alloc (by omega) _
          clear hbel hbel2 HS HT hR he
          by_cases q : m = mk
          · have d : (m != mk) = false := by simpa using q
            have EN := Lib.hid (EQ.out.trans (by rw [if_pos q, List.append_nil]))
            clear EQ
            subst q
            go_wp2_with fail
            go_roundg (nt - (k + 1))
            case measure => omega
            case rel => exact ⟨k + 1, _, by omega, Nat.le_refl _, by go_num, by rw [EN.out]; exact HX.out, HBX.out⟩
          · have d : (m != mk) = true := by simpa using q
            have EN := Lib.hid (EQ.out.trans (by rw [if_neg q]))
            clear EQ
            have HY : Hid (Rec 31 (w.heap.size + 1 + 1) W0.heap.size ((wr.alloc (.cells #[.int .i64 m, .int .i64 f] 148)).alloc (.cells #[.int .i64 m, .int .i64 f] 148)) (.slice ao d1 co) (.slice bo R.length do_) D R) := HX.out.alloc _
            have HBY : Hid (Below (w.heap.size + 1 + 1) W0 ((wr.alloc (.cells #[.int .i64 m, .int .i64 f] 148)).alloc (.cells #[.int .i64 m, .int .i64 f] 148))) := HBX.out.alloc (by simp; omega) _
            have A1 := Lib.hid HY.out.snd
            have A2 : Hid (((wr.alloc (.cells #[.int .i64 m, .int .i64 f] 148)).alloc (.cells #[.int .i64 m, .int .i64 f] 148)).heap[wr.heap.size + 1]? = some (.cells #[.int .i64 m, .int .i64 f] 148)) := by have := heap_alloc_new (wr.alloc (.cells #[.int .i64 m, .int .i64 f] 148)) (.cells #[.int .i64 m, .int .i64 f] 148); rw [World.size_alloc] at this; exact this
            have A3 : Hid (R.length ≤ 100000) := by show _ ≤ _; omega
            have A4 : Hid (W0.heap.size ≤ ((wr.alloc (.cells #[.int .i64 m, .int .i64 f] 148)).alloc (.cells #[.int .i64 m, .int .i64 f] 148)).heap.size) := HBY.out.size
            have A5 : Hid (∀ q ∈ [m, f], i64 q) := good2 ⟨m1, m2⟩ ⟨f1, f2⟩
            obtain ⟨l6, hl6⟩ : ∃ l6, l6 = (dropT (T.take (k + 1)) mk).length := ⟨_, rfl⟩
            have HAP : Hid (∀ (v6 : Value) (w6 : World), OwnF 148 W0.heap.size w6 v6 (R.length + 1) 2 (fl2 R ++ [m, f]) → ((wr.alloc (.cells #[.int .i64 m, .int .i64 f] 148)).alloc (.cells #[.int .i64 m, .int .i64 f] 148)).grownBy w6 (Value.slice bo R.length do_).ownBlock →
                (∃ a6 c6, v6 = .slice a6 l6 c6) ∧ w6.cell? ⟨(w.heap.size + 1 + 1), 0, none⟩ = some (.slice ao d1 co) ∧ w6.cell? ⟨(w.heap.size + 1 + 1), 1, none⟩ = some (.slice bo R.length do_) ∧ w6.frozen? ⟨(w.heap.size + 1 + 1), 1, none⟩ = false ∧
                Hid (Rec 31 (w.heap.size + 1 + 1) W0.heap.size (w6.setCell ⟨(w.heap.size + 1 + 1), 1, none⟩ v6) (.slice ao d1 co) v6 D (dropT (T.take (k + 1)) mk)) ∧ Hid (Below (w.heap.size + 1 + 1) W0 (w6.setCell ⟨(w.heap.size + 1 + 1), 1, none⟩ v6))) := fun v6 w6 h5 g5 => by
              have K6 : OwnSt W0.heap.size w6 v6 (dropT (T.take (k + 1)) mk) := by
                show OwnF _ _ _ _ _ _ _
                rw [EN.out, fl2_app, List.length_append]
                exact h5
              obtain ⟨hB6, hR6⟩ := HY.out.putSnd (by decide) (by decide) g5 K6
              refine ⟨by rw [hl6]; exact K6.is_slice, by rw [cell_of_row _ _ _ _ _ _ hB6]; rfl, by rw [cell_of_row _ _ _ _ _ _ hB6]; rfl, block_frozen hB6, hR6, ?_⟩
              exact (HBY.out.grown g5 (by simp; omega) (fun q e => by have := (OwnF.block A1.out q e).1; omega)).setCell (p := ⟨(w.heap.size + 1 + 1), 1, none⟩) (Nat.le_refl _) _
            clear hl6 EN
            have ya0 := HX.out.cell0
            have ya1 := HX.out.cell1
            go_wp2_with (at_builtin; refine wpList_append_rec rfl _ _ 23 148 2 16 _ Tryd.underlying23 infoSite rfl (by decide) (by decide) rfl W0.heap.size _ R.length _ rfl A1.out (wr.heap.size + 1) [m, f] rfl A2.out rfl A5.out A3.out A4.out ?_)
            intro v6 w6 h5 g5
            obtain ⟨⟨a6, c6, rfl⟩, u6, u7, f6, E1, E2⟩ := HAP.out v6 w6 h5 g5
            clear h5 g5 A1 A2 A3 A4 A5 HAP HX HBX HY HBY ya0 ya1
            go_wp2_with fail
            go_roundg (nt - (k + 1))
            case measure => omega
            case rel => exact ⟨k + 1, _, by omega, Nat.le_refl _, by go_num, E1.out, E2.out⟩
        · obtain rfl : k = nt := by omega
          have HR : Hid (R = dropT T mk) := hR.trans ET.out
          have r0 : wr.heap[w.heap.size + 1]? = some (.cells #[.slice none 0 0, .slice none 0 0] 31 (0, 0)) := by
            rw [HBwr.out.block _ (by omega)]
            exact H0'.out
          have u0 : wr.cell? ⟨w.heap.size + 1, 0, none⟩ = some (.slice none 0 0) := by rw [cell_of_row _ _ _ _ _ _ r0]; rfl
          have u1 : wr.cell? ⟨w.heap.size + 1, 1, none⟩ = some (.slice none 0 0) := by rw [cell_of_row _ _ _ _ _ _ r0]; rfl
          have f0 : wr.frozen? ⟨w.heap.size + 1, 0, none⟩ = false := block_frozen r0
          have f1 : wr.frozen? ⟨w.heap.size + 1, 1, none⟩ = false := block_frozen r0
          have FIN := Lib.hid (give_end (B := w.heap.size + 1) (Nat.le_add_right _ 1) r0 (OwnSp.spans HK.out.fst) (OwnSt.sites HK.out.snd) (B0.out.trans (HBwr.out.mono (by omega))))
          obtain ⟨z0, z1⟩ := res_cells (a1 := ao) (n1 := d1) (c1 := co) (a2 := bo) (n2 := R.length) (c2 := do_) r0
          clear hbel r0 hR HK HS HT
          generalize R.length = rn at *
          go_wp2_with fail
          exact bodyPost_ret (v := .agg #[.slice ao d1 co, .slice bo rn do_]) (by simp [results, Tryd.results102, go_sem, z0, z1]) rfl (by rw [← HR.out]; first | exact FIN.out | (rw [← HDD.out]; exact FIN.out))
end Go.Proofs.YtcpdoicbekcpeaaDoor.Rig
