/- MarksHolds: the world between two of its acts: the marks in one block, the row of bools in another. -/
import Derived.Test.YtkbadhkjhkmlfaaBc
import Derived.Test.YtkbadhkjhkmlfaaBa
import Derived.Test.YtkbadhkjhkmlfaaBm
import Derived.Test.YtkbadhkjhkmlfaaPput
import Derived.Test.YtkbadhkjhkmlfaaPtake
set_option linter.unusedVariables false
namespace Go.Proofs.Ytkbadhkjhkmlfaa.Rig
open Go.RowKit Go.Lib Go.Proofs.Ytkbadhkjhkmlfaa.Rt

theorem clo_any {base B at_ n : Nat} {x : Bool} {vis : Value} {bs : List Bool} (w : World) (hB : w.heap[B]? = some (.cells #[vis] 57 (0, 0))) (hO : OwnB base w vis bs) (hat : at_ ≤ bs.length) (hn : n ≤ 100) (hl : bs.length ≤ 10000) :
    Calls Try.prog 26 #[.int .i64 at_, .int .i64 n, .bool x, .pointer (some ⟨B, 0, none⟩)] w fun e w' => e = .returned (.tuple #[]) ∧ ∃ (w3 : World) (v3 : Value), Below w.heap.size w w3 ∧ w' = w3.setCell ⟨B, 0, none⟩ v3 ∧ OwnB w.heap.size w3 v3 (bs.take at_ ++ List.replicate n x ++ bs.drop at_) := by
  have hBL := hO.bls
  rcases hO.2 with ⟨rfl, hz⟩ | ⟨g, cap, cur, rfl, -, -, -, -, -, -⟩
  · exact clo_nil w hB hBL hat hn hl hz
  · by_cases hce : cap = at_
    · subst hce
      exact clo_eq w hB hBL hat hn hl
    · exact clo_lt w hB hBL hat hn hl hce
/-- A block without ints. -/
def NoInt (cs : Array Value) : Prop := ∀ (i : Nat) (z : Int), cs[i]? ≠ some (Value.int .i64 z)
theorem NoInt.one (a : Option Addr) (n c : Nat) : NoInt #[.slice a n c] := fun i z h => by
  rcases i with _ | i <;> simp at h
theorem NoInt.two (a a' : Option Addr) (n c n' c' : Nat) : NoInt #[.slice a n c, .slice a' n' c'] := fun i z h => by
  rcases i with _ | _ | i <;> simp at h
theorem Fl.but {w w' : World} {v : Value} {n k : Nat} {zs : List Int} {B : Nat} {cs : Array Value} {T : TypeId} (h : Fl w v n k zs) (hB : w.heap[B]? = some (.cells cs T (0, 0))) (hno : NoInt cs) (hs : w.heap.size ≤ w'.heap.size) (hk : ∀ b, b < w.heap.size → b ≠ B → w'.heap[b]? = w.heap[b]?) : Fl w' v n k zs := by
  obtain ⟨h0, h0', a, cap, rfl, h1, h2, h3⟩ := h
  refine ⟨h0, h0', a, cap, rfl, h1, h2, ?_⟩
  rcases h3 with h3 | ⟨b, off, rfl, hlt, hc⟩
  · exact .inl h3
  · refine .inr ⟨b, off, rfl, Nat.lt_of_lt_of_le hlt hs, fun j hj => ?_⟩
    have hcj := hc j hj
    have hne : b ≠ B := fun e => by
      subst e
      rw [cell_of_row _ _ _ _ _ _ hB] at hcj
      exact hno _ _ hcj
    have hh := hk b hlt hne
    rw [← hcj]
    unfold World.cell?
    rw [hh]
theorem set_kept (w : World) (B j : Nat) (u : Value) : ∀ b, b < w.heap.size → b ≠ B → (w.setCell ⟨B, j, none⟩ u).heap[b]? = w.heap[b]? := fun b _ hne => Below.heap_setCell _ _ _ _ hne
theorem OwnB.set_ {base : Nat} {w : World} {v : Value} {bs : List Bool} (h : OwnB base w v bs) {B j : Nat} (hne : v.ownBlock ≠ some B) (u : Value) : OwnB base (w.setCell ⟨B, j, none⟩ u) v bs := ownsRow_setCell_other h hne u
theorem two_set {w : World} {B : Nat} {x y u : Value} {T : TypeId} (h : w.heap[B]? = some (.cells #[x, y] T (0, 0))) : (w.setCell ⟨B, 0, none⟩ u).heap[B]? = some (.cells #[u, y] T (0, 0)) := by
  rw [heap_setCell_same w B _ _ _ _ h]
  rfl
theorem two_set1 {w : World} {B : Nat} {x y u : Value} {T : TypeId} (h : w.heap[B]? = some (.cells #[x, y] T (0, 0))) : (w.setCell ⟨B, 1, none⟩ u).heap[B]? = some (.cells #[x, u] T (0, 0)) := by
  rw [heap_setCell_same w B _ _ _ _ h]
  rfl

theorem bools_rep (n : Nat) (x : Bool) : bools (List.replicate n x) = List.replicate n (.bool x) := by
  unfold bools
  rw [List.map_replicate]
theorem Acts.below {w w' : World} {v : Value} {A : List Ac} (h : Acts w v A) (hb : Below w.heap.size w w') : Acts w' v A := by
  obtain ⟨a, cap, rfl, h1, h2, h3⟩ := h
  refine ⟨a, cap, rfl, h1, h2, fun j hj => ?_⟩
  obtain ⟨b, off, e, hl, hg, c0, c1, c2, c3⟩ := h3 j hj
  exact ⟨b, off, e, Nat.lt_of_lt_of_le hl hb.size, hg, below_cell hb hl c0, below_cell hb hl c1, below_cell hb hl c2, below_cell hb hl c3⟩
structure Mid (WD : World) (M8 BX : Nat) (w : World) (v1 v2 vis : Value) (S : List Sp) (T : List St) (bs : List Bool) : Prop where
  lo : M8 < BX
  bel : Below M8 WD w
  m8 : w.heap[M8]? = some (.cells #[v1, v2] 28 (0, 0))
  bx : w.heap[BX]? = some (.cells #[vis] 57 (0, 0))
  sp : Spans w v1 S
  si : Sites w v2 T
  own : OwnB 0 w vis bs
theorem Mid.below {WD w w' : World} {M8 BX : Nat} {v1 v2 vis : Value} {S : List Sp} {T : List St} {bs : List Bool} (h : Mid WD M8 BX w v1 v2 vis S T bs) (hb : Below w.heap.size w w') : Mid WD M8 BX w' v1 v2 vis S T bs where
  lo := h.lo
  bel := h.bel.trans (hb.mono (Nat.le_of_lt (row_lt h.m8)))
  m8 := (hb.block M8 (row_lt h.m8)).trans h.m8
  bx := (hb.block BX (row_lt h.bx)).trans h.bx
  sp := h.sp.below hb (Nat.le_refl _)
  si := h.si.below hb (Nat.le_refl _)
  own := h.own.below hb
theorem Mid.alloc {WD w : World} {M8 BX : Nat} {v1 v2 vis : Value} {S : List Sp} {T : List St} {bs : List Bool} (h : Mid WD M8 BX w v1 v2 vis S T bs) (o : Obj) : Mid WD M8 BX (w.alloc o) v1 v2 vis S T bs := h.below ((Below.refl _ w).alloc (Nat.le_refl _) o)
/-- New marks are stored. -/
theorem Mid.putM {WD w w1 : World} {M8 BX : Nat} {v1 v2 vis u1 u2 : Value} {S S' : List Sp} {T T' : List St} {bs : List Bool} (h : Mid WD M8 BX w v1 v2 vis S T bs) (hb : Below w.heap.size w w1) (h1 : Spans w1 u1 S') (h2 : Sites w1 u2 T') :
    Mid WD M8 BX ((w1.setCell ⟨M8, 0, none⟩ u1).setCell ⟨M8, 1, none⟩ u2) u1 u2 vis S' T' bs := by
  have k := h.below hb
  obtain ⟨a1, c1, e1⟩ := k.sp.is_slice
  obtain ⟨a2, c2, e2⟩ := k.si.is_slice
  obtain ⟨a3, c3, e3⟩ := h1.is_slice
  have n1 : NoInt #[v1, v2] := by rw [e1, e2]; exact NoInt.two _ _ _ _ _ _
  have n2 : NoInt #[u1, v2] := by rw [e3, e2]; exact NoInt.two _ _ _ _ _ _
  have hs : ∀ (w : World) (a : Addr) (u : Value), w.heap.size ≤ (w.setCell a u).heap.size := fun w a u => by simp
  have ne : vis.ownBlock ≠ some M8 := row_ne_block k.own k.m8 (by decide)
  have m1 := two_set (u := u1) k.m8
  have hl := h.lo
  refine ⟨hl, (k.bel.setCell (p := ⟨M8, 0, none⟩) (Nat.le_refl _) _).setCell (p := ⟨M8, 1, none⟩) (Nat.le_refl _) _, two_set1 m1, ?_, ?_, ?_, ?_⟩
  · rw [Below.heap_setCell _ _ _ _ (by show BX ≠ M8; omega), Below.heap_setCell _ _ _ _ (by show BX ≠ M8; omega)]
    exact k.bx
  · exact Fl.but (Fl.but h1 k.m8 n1 (hs _ _ _) (set_kept _ _ _ _)) m1 n2 (hs _ _ _) (set_kept _ _ _ _)
  · exact Fl.but (Fl.but h2 k.m8 n1 (hs _ _ _) (set_kept _ _ _ _)) m1 n2 (hs _ _ _) (set_kept _ _ _ _)
  · exact (k.own.set_ ne _).set_ ne _
/-- A new row of bools is stored. -/
theorem Mid.putB {WD w w3 : World} {M8 BX base : Nat} {v1 v2 vis v3 : Value} {S : List Sp} {T : List St} {bs bs' : List Bool} (h : Mid WD M8 BX w v1 v2 vis S T bs) (hb : Below w.heap.size w w3) (ho : OwnB base w3 v3 bs') :
    Mid WD M8 BX (w3.setCell ⟨BX, 0, none⟩ v3) v1 v2 v3 S T bs' := by
  have k := h.below hb
  obtain ⟨a1, c1, e1, _⟩ := k.own.bls.is_slice
  have n1 : NoInt #[vis] := by rw [e1]; exact NoInt.one _ _ _
  have hs : ∀ (w : World) (a : Addr) (u : Value), w.heap.size ≤ (w.setCell a u).heap.size := fun w a u => by simp
  have hl := h.lo
  refine ⟨hl, k.bel.setCell (p := ⟨BX, 0, none⟩) (by show M8 ≤ BX; omega) _, ?_, one_setCell k.bx, ?_, ?_, ?_⟩
  · rw [Below.heap_setCell _ _ _ _ (by show M8 ≠ BX; omega)]
    exact k.m8
  · exact Fl.but k.sp k.bx n1 (hs _ _ _) (set_kept _ _ _ _)
  · exact Fl.but k.si k.bx n1 (hs _ _ _) (set_kept _ _ _ _)
  · exact (ho.mono (Nat.zero_le _)).set_ (row_ne_block ho k.bx (by decide)) _
/-- The bounds that the loop over the acts keeps. -/
structure Run (j : Nat) (S : List Sp) (T : List St) (bs : List Bool) : Prop where
  hs : HS 1099511627776 S T bs
  lt : T.length ≤ 300 + j
  lb : bs.length ≤ 3050
theorem Run.put {j : Nat} {S : List Sp} {T : List St} {bs : List Bool} (h : Run j S T bs) {p k : Nat} (hp : p ≤ bs.length) (hk : bs.length + k ≤ 3050) (mk : Int) {v : Bool} (hv : v = decide (max mk 0 = 1099511627776)) : Run (j + 1) (pPut S p k mk) (pPutT T p k) (bs.take p ++ List.replicate k v ++ bs.drop p) where
  hs := h.hs.put hp mk hv
  lt := by have := pPutT_len T p k; have := h.lt; omega
  lb := by rw [putB_len bs p k v hp]; exact hk
theorem Run.take_ {j : Nat} {S : List Sp} {T : List St} {bs : List Bool} (h : Run j S T bs) {a b : Nat} (hab : a ≤ b) (hb : b ≤ bs.length) (mk : Int) : Run (j + 1) (pTake S a b) (pTakeT T a b mk) (bs.take a ++ bs.drop b) where
  hs := h.hs.take_ hab hb mk
  lt := by have := pTakeT_len T a b mk; have := h.lt; omega
  lb := by rw [takeB_len bs a b hab hb]; have := h.lb; omega
/-- Put, Take, the closure: at such a world. -/
theorem Mid.put_ {WD w : World} {M8 BX j : Nat} {v1 v2 vis : Value} {S : List Sp} {T : List St} {bs : List Bool} (h : Mid WD M8 BX w v1 v2 vis S T bs) (r : Run j S T bs) (hj : j ≤ 100) {p k : Nat} (hp : p ≤ bs.length) (hk : k ≤ 100) (mk : Int) (hmk : i64 mk) :
    Calls Try.prog 12 #[.agg #[v1, v2], .int .i64 p, .int .i64 k, .int .i64 mk] w (GivesM w (pPut S p k mk) (pPutT T p k)) := by
  have := r.hs.len
  have := r.lb
  have := r.lt
  exact put_any bs.length p k mk w h.sp h.si r.hs.rs r.hs.rt (by omega) (by omega) (by omega) (by omega) (by omega) hmk (by omega) (by omega)
theorem Mid.take_ {WD w : World} {M8 BX j : Nat} {v1 v2 vis : Value} {S : List Sp} {T : List St} {bs : List Bool} (h : Mid WD M8 BX w v1 v2 vis S T bs) (r : Run j S T bs) (hj : j ≤ 100) {a b : Nat} (hab : a ≤ b) (hb : b ≤ bs.length) (mk : Int) (hmk : i64 mk) :
    Calls Try.prog 16 #[.agg #[v1, v2], .int .i64 a, .int .i64 b, .int .i64 mk] w (GivesM w (pTake S a b) (pTakeT T a b mk)) := by
  have := r.hs.len
  have := r.lb
  have := r.lt
  exact take_any bs.length a b mk w h.sp h.si r.hs.rs r.hs.rt (by omega) (by omega) (by omega) (by omega) hmk (by omega) (by omega)
theorem Mid.clo_ {WD w : World} {M8 BX : Nat} {v1 v2 vis : Value} {S : List Sp} {T : List St} {bs : List Bool} (h : Mid WD M8 BX w v1 v2 vis S T bs) {p k : Nat} (hp : p ≤ bs.length) (hb : bs.length ≤ 3050) (hk : k ≤ 100) (x : Bool) :
    Calls Try.prog 26 #[.int .i64 p, .int .i64 k, .bool x, .pointer (some ⟨BX, 0, none⟩)] w fun e w' => e = .returned (.tuple #[]) ∧ ∃ vis', Mid WD M8 BX w' v1 v2 vis' S T (bs.take p ++ List.replicate k x ++ bs.drop p) := by
  refine (clo_any w h.bx h.own hp hk (by omega)).mono ?_
  rintro e w' ⟨rfl, w3, v3, hb3, rfl, ho⟩
  exact ⟨rfl, v3, h.putB hb3 ho⟩
theorem Mid.cells {WD w : World} {M8 BX : Nat} {v1 v2 vis : Value} {S : List Sp} {T : List St} {bs : List Bool} (h : Mid WD M8 BX w v1 v2 vis S T bs) :
    w.cell? ⟨M8, 0, none⟩ = some v1 ∧ w.cell? ⟨M8, 1, none⟩ = some v2 ∧ w.cell? ⟨BX, 0, none⟩ = some vis ∧ w.frozen? ⟨M8, 0, none⟩ = false ∧ w.frozen? ⟨M8, 1, none⟩ = false ∧ w.frozen? ⟨BX, 0, none⟩ = false := by
  refine ⟨?_, ?_, cell_of_one h.bx, block_frozen h.m8, block_frozen h.m8, free_of_one h.bx⟩ <;> (rw [cell_of_row _ _ _ _ _ _ h.m8]; rfl)
/-- A row made empty, behind W6. -/
def EB (W6 w : World) : Prop := OwnB W6.heap.size w (.slice (some ⟨W6.heap.size, 0, none⟩) 0 0) [] ∧ Below W6.heap.size W6 w
theorem own_drew {base : Nat} {w : World} {v : Value} {bs : List Bool} (h : OwnB base w v bs) (n : Nat) : OwnB base (w.drewN n) v bs := h.below (below_drews (Below.refl _ w) n)
theorem own_drew1 {base : Nat} {w : World} {v : Value} {bs : List Bool} (h : OwnB base w v bs) : OwnB base w.drew v bs := h.below (Below.refl _ w).drew
theorem EB.make (W6 : World) : EB W6 (W6.alloc (.cells #[] 4)) :=
  ⟨⟨rfl, .inr ⟨W6.heap.size, 0, #[], rfl, Nat.le_refl _, heap_alloc_new _ _, Nat.le_refl _, Nat.zero_le _, rfl, rfl⟩⟩, (Below.refl _ W6).alloc (Nat.le_refl _) _⟩
theorem EB.make_drew (W6 : World) (n : Nat) : EB W6 ((W6.drewN n).alloc (.cells #[] 4)) := by
  have hs : (W6.drewN n).heap.size = W6.heap.size := by simp
  refine ⟨⟨rfl, .inr ⟨W6.heap.size, 0, #[], rfl, Nat.le_refl _, ?_, Nat.le_refl _, Nat.zero_le _, rfl, rfl⟩⟩, (below_drews (Below.refl _ W6) n).alloc (by omega) _⟩
  have := heap_alloc_new (W6.drewN n) (.cells #[] 4)
  rwa [hs] at this
theorem EB.drewN {W6 w : World} (h : EB W6 w) (n : Nat) : EB W6 (w.drewN n) := ⟨own_drew h.1 n, below_drews h.2 n⟩
theorem EB.drew {W6 w : World} (h : EB W6 w) : EB W6 w.drew := ⟨own_drew1 h.1, h.2.drew⟩
theorem EB.own {W6 w : World} (h : EB W6 w) : OwnB W6.heap.size w (.slice (some ⟨W6.heap.size, 0, none⟩) 0 0) [] := h.1
theorem EB.bel {W6 w : World} (h : EB W6 w) : Below W6.heap.size W6 w := h.2
end Go.Proofs.Ytkbadhkjhkmlfaa.Rig
