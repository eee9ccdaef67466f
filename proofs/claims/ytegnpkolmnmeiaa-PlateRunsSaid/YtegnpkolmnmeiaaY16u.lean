/- Plate: the plain text's disk in memory; its Full, firm, Get, Loose, New, step; Ints. -/
import Derived.Test.YtegnpkolmnmeiaaY16t
set_option linter.unusedVariables false
set_option linter.unusedSimpArgs false
set_option maxRecDepth 100000
namespace Go.Proofs.Ytegnpkolmnmeiaa.Plt
open Go.RowKit Go.Lib Go.Proofs.Ytegnpkolmnmeiaa.Bx

def keyL (i : Nat) : Lit := .int .i64 ((i : Nat) : Int)
theorem keyL_inj {i j : Nat} (h : keyL i = keyL j) : i = j := by
  unfold keyL at h
  injection h with _ h
  omega
structure Rm (base : Nat) (w : World) (R M1 M2 c : Nat) (f1 f2 : Lit → Option Value) (u : Nat → Value) (D : DK) : Prop where
  hR : base ≤ R
  h1 : base ≤ M1
  h2 : base ≤ M2
  ne : M1 ≠ M2
  blk : w.heap[R]? = some (.cells #[.int .i64 (D.n : Nat), .int .i64 D.left, .bool D.off, .map (some M1), .map (some M2)] 42 (0, 0))
  m1 : MapF Try.prog 3 w M1 c f1
  m2 : MapF Try.prog 3 w M2 c f2
  k1 : ∀ i, i < D.n → f1 (keyL i) = some (.string (D.P i).f) ∨ (f1 (keyL i) = none ∧ (D.P i).f = blank)
  k2 : ∀ i, i < D.n → (f2 (keyL i)).getD (.slice none 0 0) = u i ∧ Rk.RowK 1 w (u i) (cellsT (D.P i).l)
  hu : ∀ i, i < D.n → ∀ b, (u i).ownBlock = some b → b ≠ R ∧ b ≠ M1 ∧ b ≠ M2 ∧ base ≤ b ∧ b < w.heap.size
  n1 : 1 ≤ D.n
  n2 : D.n ≤ 16384
  left1 : -1 ≤ D.left
  left2 : D.left ≤ 9223372036854775807
def RFt (R M1 M2 : Nat) (u : Nat → Value) (n : Nat) (g : Nat) : Prop := g = R ∨ g = M1 ∨ g = M2 ∨ ∃ i, i < n ∧ (u i).ownBlock = some g
def Three (R M1 M2 : Nat) (g : Nat) : Prop := g = R ∨ g = M1 ∨ g = M2
def RDisk (base : Nat) (w : World) (R c : Nat) (F : Nat → Prop) (D : DK) : Prop := ∃ M1 M2 f1 f2 u, Rm base w R M1 M2 c f1 f2 u D ∧ F = RFt R M1 M2 u D.n
section
variable {base R M1 M2 c : Nat} {w w' : World} {f1 f2 : Lit → Option Value} {u : Nat → Value} {D : DK}
theorem Rm.lt (h : Rm base w R M1 M2 c f1 f2 u D) : ∀ g, RFt R M1 M2 u D.n g → base ≤ g ∧ g < w.heap.size := by
  rintro g (rfl | rfl | rfl | ⟨i, hi, e⟩)
  · exact ⟨h.hR, (Array.getElem?_eq_some_iff.1 h.blk).1⟩
  · exact ⟨h.h1, h.m1.lt⟩
  · exact ⟨h.h2, h.m2.lt⟩
  · exact (h.hu i hi g e).2.2.2
theorem map_block {k : TypeId} {b n : Nat} {f : Lit → Option Value} (h : MapF Try.prog k w b n f) : ∃ es cl, w.heap[b]? = some (.map es cl) := by
  obtain ⟨D, ⟨es, cl, h, _⟩, _⟩ := h
  exact ⟨es, cl, h⟩
theorem Rm.neR (h : Rm base w R M1 M2 c f1 f2 u D) : R ≠ M1 ∧ R ≠ M2 := by
  refine ⟨?_, ?_⟩
  · rintro rfl
    obtain ⟨es, cl, q⟩ := map_block h.m1
    have := h.blk
    rw [q] at this
    cases this
  · rintro rfl
    obtain ⟨es, cl, q⟩ := map_block h.m2
    have := h.blk
    rw [q] at this
    cases this
theorem Rm.kept (h : Rm base w R M1 M2 c f1 f2 u D) (hz : w.heap.size ≤ w'.heap.size) (hs : ∀ g, RFt R M1 M2 u D.n g → w'.heap[g]? = w.heap[g]?) : Rm base w' R M1 M2 c f1 f2 u D :=
  ⟨h.hR, h.h1, h.h2, h.ne, by rw [hs R (.inl rfl)]; exact h.blk, h.m1.same (hs _ (.inr (.inl rfl))), h.m2.same (hs _ (.inr (.inr (.inl rfl)))), h.k1,
    fun i hi => ⟨(h.k2 i hi).1, rowk_same (h.k2 i hi).2 hz (fun b e => hs b (.inr (.inr (.inr ⟨i, hi, e⟩))))⟩, fun i hi b e => by have := h.hu i hi b e; exact ⟨this.1, this.2.1, this.2.2.1, this.2.2.2.1, Nat.lt_of_lt_of_le this.2.2.2.2 hz⟩, h.n1, h.n2, h.left1, h.left2⟩
theorem Rm.below (h : Rm base w R M1 M2 c f1 f2 u D) (hb : Below w.heap.size w w') : Rm base w' R M1 M2 c f1 f2 u D := h.kept hb.size fun g hg => hb.block g (h.lt g hg).2
theorem Rm.mono (h : Rm base w R M1 M2 c f1 f2 u D) {c' : Nat} (hc : c ≤ c') : Rm base w R M1 M2 c' f1 f2 u D :=
  ⟨h.hR, h.h1, h.h2, h.ne, h.blk, h.m1.mono hc, h.m2.mono hc, h.k1, h.k2, h.hu, h.n1, h.n2, h.left1, h.left2⟩
theorem RDisk.lt {F : Nat → Prop} (h : RDisk base w R c F D) : ∀ g, F g → base ≤ g ∧ g < w.heap.size := by
  obtain ⟨M1, M2, f1, f2, u, h, rfl⟩ := h
  exact h.lt
theorem RDisk.below {F : Nat → Prop} (h : RDisk base w R c F D) (hb : Below w.heap.size w w') : RDisk base w' R c F D := by
  obtain ⟨M1, M2, f1, f2, u, h, rfl⟩ := h
  exact ⟨M1, M2, f1, f2, u, h.below hb, rfl⟩
theorem RDisk.chg {F F' : Nat → Prop} (h : RDisk base w R c F D) (hc : Chg F' w w') (hd : ∀ g, F g → ¬ F' g) : RDisk base w' R c F D := by
  obtain ⟨M1, M2, f1, f2, u, h, rfl⟩ := h
  exact ⟨M1, M2, f1, f2, u, h.kept hc.size (fun g hg => hc.block g (h.lt g hg).2 (hd g hg)), rfl⟩
theorem RDisk.mono {F : Nat → Prop} (h : RDisk base w R c F D) {c' : Nat} (hc : c ≤ c') : RDisk base w R c' F D := by
  obtain ⟨M1, M2, f1, f2, u, h, rfl⟩ := h
  exact ⟨M1, M2, f1, f2, u, h.mono hc, rfl⟩
theorem Rm.cells (h : Rm base w R M1 M2 c f1 f2 u D) : w.cell? ⟨R, 0, none⟩ = some (.int .i64 (D.n : Nat)) ∧ w.cell? ⟨R, 1, none⟩ = some (.int .i64 D.left) ∧ w.cell? ⟨R, 2, none⟩ = some (.bool D.off) ∧ w.cell? ⟨R, 3, none⟩ = some (.map (some M1)) ∧ w.cell? ⟨R, 4, none⟩ = some (.map (some M2)) ∧
    w.frozen? ⟨R, 1, none⟩ = false ∧ w.frozen? ⟨R, 2, none⟩ = false ∧ w.frozen? ⟨R, 4, none⟩ = false := by
  obtain ⟨a, b, c, d, e⟩ := five_cells h.blk
  exact ⟨a, b, c, d, e, free_at h.blk, free_at h.blk, free_at h.blk⟩
/-- Behind a store into the disk's own block: its limit, or whether it is off. -/
theorem Rm.set (h : Rm base w R M1 M2 c f1 f2 u D) (o : Nat) (x : Value) (off : Bool) (left : Int) (hl1 : -1 ≤ left) (hl2 : left ≤ 9223372036854775807)
    (hb : #[Value.int .i64 (D.n : Nat), .int .i64 D.left, .bool D.off, .map (some M1), .map (some M2)].setIfInBounds o x = #[.int .i64 (D.n : Nat), .int .i64 left, .bool off, .map (some M1), .map (some M2)]) : Rm base (w.setCell ⟨R, o, none⟩ x) R M1 M2 c f1 f2 u ⟨D.n, D.P, off, left⟩ := by
  have hc : ∀ k, k ≠ R → (w.setCell ⟨R, o, none⟩ x).heap[k]? = w.heap[k]? := fun k hk => Below.heap_setCell _ _ _ _ hk
  have hz : (w.setCell ⟨R, o, none⟩ x).heap.size = w.heap.size := by simp [World.setCell]
  refine ⟨h.hR, h.h1, h.h2, h.ne, ?_, h.m1.same (hc _ (fun e => h.neR.1 e.symm)), h.m2.same (hc _ (fun e => h.neR.2 e.symm)), h.k1, fun i hi => ⟨(h.k2 i hi).1, rowk_same (h.k2 i hi).2 (Nat.le_of_eq hz.symm) (fun b e => hc b (h.hu i hi b e).1)⟩, fun i hi b e => by rw [hz]; exact h.hu i hi b e, h.n1, h.n2, hl1, hl2⟩
  rw [set_block h.blk, hb]
end
set_option maxHeartbeats 1000000 in
theorem ints_same {v1 v2 : Value} {L : List Nat} (w : World) (h1 : Rk.RowK 1 w v1 (cellsN L)) (h2 : Rk.RowK 1 w v2 (cellsN L)) :
    Calls Try.prog 19 #[v1, v2] w fun e w' => e = .returned (.bool true) ∧ ∃ q, w' = w.drewN q := by
  obtain ⟨a, ca, rfl, hla, hca, hc1⟩ := row_ints h1
  obtain ⟨b, cb, rfl, hlb, hcb, hc2⟩ := row_ints h2
  have H1 := Lib.hid hc1
  have H2 := Lib.hid hc2
  obtain ⟨n, hn⟩ : ∃ n, n = L.length := ⟨_, rfl⟩
  rw [← hn] at hla hlb ⊢
  replace hn := Lib.hid hn
  clear hc1 hc2 h1 h2
  go_enter Try.func19, Try.ntmps19
  go_wp2_with fail
  go_loopw [5] (fun i wr => ∃ k q : Nat, k ≤ n ∧ i = .int .i64 k ∧ wr = w.drewN q) (fun i _ => n - (RowKit.intOf i).toNat)
  case atStart => exact ⟨0, 0, Nat.zero_le _, rfl, rfl⟩
  case round =>
    obtain ⟨k, q, hk, rfl, rfl⟩ := hrel
    by_cases hlt : k < n
    · have hkl : k < L.length := by rw [← hn.out]; exact hlt
      obtain ⟨b1, g1, rfl, hb1, c1⟩ := H1.out k hkl
      obtain ⟨b2, g2, rfl, hb2, c2⟩ := H2.out k hkl
      generalize ((L.getD k 0 : Nat) : Int) = x at *
      have i0 : (0 : Int) ≤ (k : Int) := by omega
      have i1 : (k : Int) < (n : Int) := by omega
      have e0 : (x != x) = false := by simp
      clear H1 H2
      go_wp2_with fail
      go_quiet (fail)
      go_wp2
      go_roundw
      case rel => exact ⟨k + 1, _, by omega, by go_num, rfl⟩
      case measure => simp [RowKit.intOf]; omega
    · clear H1 H2
      go_wp2
      go_ret
      exact ⟨rfl, q, rfl⟩
theorem made0 (n : Nat) : (madeCells #[Value.int IntKind.u8 0] n).toList = List.replicate n (Value.int .u8 0) := toList_madeCells_one _ _
set_option maxHeartbeats 1000000 in
theorem full_any (s : ByteArray) (w : World) (hs : s.size ≤ 128) : Calls Try.prog 30 #[.string s] w fun e w' => e = .returned (.string (fullB s)) ∧ Below w.heap.size w w' := by
  obtain ⟨i0, hi, hz0, hz1, hz2⟩ := Rk.kparts infoU8
  obtain ⟨k, hk⟩ : ∃ k, k = 128 - s.size := ⟨_, rfl⟩
  have hkz : s.size + k = 128 := by omega
  have A2 : Hid (i0.bytes * k ≤ 281474976710656) := by show _ ≤ _; rw [hz2]; omega
  have A3 : Hid (k ≤ maxLen) := by show _ ≤ _; unfold maxLen; omega
  have A4 : Hid (w.heap.size ≤ w.heap.size) := Nat.le_refl _
  have hki : (128 : Int) - (s.size : Nat) = (k : Nat) := by omega
  have HI := Lib.hid hi
  have HZ0 := Lib.hid hz0
  have HZ1 := Lib.hid hz1
  have HK := Lib.hid hk
  clear hi hz0 hz1 hz2 hk hkz
  go_enter Try.func30, Try.ntmps30
  go_wp2_with (at_make; refine wpList_make_full _ rfl _ _ 63 rfl w.heap.size 5 i0 (.int .u8 0) 1 Try.underlying63 HI.out HZ0.out HZ1.out .i64 .i64 _ _ k rfl rfl rfl rfl A2.out A3.out A4.out ?_)
  intro w2 r2 g2
  have HB : Hid (Below w.heap.size w w2) := (Below.refl _ _).grown g2 (Nat.le_refl _) (fun k e => by cases e)
  have CV : (convert 63 9 (.slice (some ⟨w.heap.size, 0, none⟩) k k)).run Try.prog w2 = .ok (.string ⟨(List.replicate k 0).toArray⟩) w2 := by
    have := run_convert_bytes_back (P := Try.prog) w2 63 9 5 ⟨w.heap.size, 0, none⟩ k (List.replicate k 0) Try.underlying63 Try.underlying5 Try.underlying9 (fun j hj => by
      have hj' : j < k := by simpa using hj
      have hc := World.ownsRow.cells r2 (g := w.heap.size) rfl j (.int .u8 0) (by
        rw [made0, List.getElem?_replicate, if_pos hj'])
      rw [hc, List.getElem_replicate]
      rfl)
    rw [List.length_replicate] at this
    exact this
  have HE : Hid (s ++ (⟨(List.replicate k 0).toArray⟩ : ByteArray) = fullB s) := by
    show _ = _
    rw [HK.out]
    apply bytes_inj
    show (s ++ _).data.toList = _
    rw [ByteArray.data_append, Array.toList_append]
    rfl
  clear r2 g2
  go_wp2_with fail
  go_ret
  exact ⟨by rw [← HE.out, List.toArray_replicate]; rfl, HB.out⟩
end Go.Proofs.Ytegnpkolmnmeiaa.Plt
