/- Contracts of each (with the two closures that are handed to it), Text and Parts. -/
import Derived.Test.YtengmiolcfgdiaaDoorWalkV
import Derived.Test.YtengmiolcfgdiaaDoorWrite
import Derived.Test.YtengmiolcfgdiaaDoorRow
import Derived.Laws.AppendOwn
import Derived.OneCell
set_option linter.unusedVariables false
namespace Go.Proofs.YtengmiolcfgdiaaDoor.Con
open Go.RowKit Go.Lib Go.Proofs.YtengmiolcfgdiaaDoor.Let Go.Proofs.YtengmiolcfgdiaaDoor.Tree

/-- What a call that writes bytes to a builder gives. -/
def Wrote (B b : Nat) (bs : List Value) (w : World) (e : Ending) (w' : World) : Prop := e = .returned (.tuple #[]) ∧ Lib.IsBuilder 77 5 B b bs w' ∧ Below B w w'

theorem strCells_mk (l : List UInt8) : Lib.strCells (mk l) = Lib.byteCells l := by
  unfold Lib.strCells Lib.byteCells
  rw [Let.mk_data]

theorem text1_any (B b : Nat) (bs : List Value) (s : List UInt8) (w : World) (h : Lib.IsBuilder 77 5 B b bs w) (hl : bs.length + s.length ≤ 140737488355328) (hB : B ≤ w.heap.size) :
    Calls Tryd.prog 45 #[.string (mk s), .pointer (some ⟨b, 0, none⟩)] w (Wrote B b (bs ++ Lib.byteCells s) w) := by
  have C : Hid (∀ w, Lib.IsBuilder 77 5 B b bs w → B ≤ w.heap.size → Calls Tryd.prog 46 #[.pointer (some ⟨b, 0, none⟩), .string (mk s)] w fun e w' => e = .returned (.tuple #[.int .i64 (mk s).size, .nilIface]) ∧ (Lib.BuilderAt 77 5 B b (.pointer (some ⟨b, 0, none⟩)) (bs ++ Lib.strCells (mk s)) w' ∧ Below B w w')) :=
    fun w h1 h2 => Tryd.Builder_WriteString B b bs (mk s) w h1 (by rw [mk_size]; exact hl) h2
  go_enter Tryd.func45, Tryd.ntmps45
  go_wp2_with fail
  refine (C.out _ h hB).mono ?_
  rintro e w1 ⟨rfl, h1, hb⟩
  rw [strCells_mk] at h1
  go_wp2_with fail
  go_end0
  exact ⟨rfl, .inr h1, hb⟩

set_option maxRecDepth 100000 in
set_option maxHeartbeats 400000 in
theorem eachT_any (B b : Nat) : ∀ {t : T} {v : Value} (w0 w : World) (bs : List Value), w0.heap.size = B → Rp w0 t v → t.okn → Below B w0 w → Lib.IsBuilder 77 5 B b bs w → bs.length + t.by ≤ 140737488355328 →
    Calls Tryd.prog 44 #[v, .func (.func 45) #[] #[.pointer (some ⟨b, 0, none⟩)]] w (Wrote B b (bs ++ Lib.byteCells t.txt) w) := by
  intro t
  induction t with
  | nil =>
    intro v w0 w bs hB h n hb hbd hl
    obtain rfl : v = .pointer none := h
    subst hB
    have e : bs ++ Lib.byteCells T.nil.txt = bs := by simp [T.txt, Lib.byteCells]
    rw [e]
    have HB := Lib.hid hbd
    have HR : Hid (Rp w T.nil (.pointer none)) := rfl
    clear e hbd
    go_enter Tryd.func44, Tryd.ntmps44
    go_wp2_with fail
    refine (bytes_any _ HR.out).mono ?_
    rintro e w1 ⟨rfl, rfl⟩
    go_wp2_with fail
    go_end0
    exact ⟨rfl, HB.out, Below.refl _ _⟩
  | leaf s =>
    intro v w0 w bs hB h n hb hbd hl
    subst hB
    have ok : (T.leaf s).ok := by
      rcases n with h | h
      · cases h
      · exact h
    have hp := T.ok_by ok
    have HR := Lib.hid (Rp.below hb (Nat.le_refl _) h)
    obtain ⟨q, vl, vr, rfl, ⟨h0, h1, h2, h3, h4, h5, h6⟩, -, -⟩ := HR.out.unfold (ok_not_nil ok)
    change w.cell? ⟨q, 0, none⟩ = some (.string (mk s)) at h1
    change w.cell? ⟨q, 5, none⟩ = some (.int .i64 (0 : Nat)) at h6
    have hz : (((T.leaf s).by : Int) == 0) = false := by rw [beq_eq_false_iff_ne]; omega
    have HC := Lib.hid (text1_any w0.heap.size b bs s w hbd hl hb.size)
    clear h h2 h3 h4 h5 hbd hl hp ok n
    go_enter Tryd.func44, Tryd.ntmps44
    go_wp2_with fail
    refine (bytes_any _ HR.out).mono ?_
    rintro e w1 ⟨rfl, rfl⟩
    go_wp2_with fail
    refine HC.out.mono ?_
    rintro e w1 ⟨rfl, hbd, hb1⟩
    go_wp2_with fail
    go_end0
    exact ⟨rfl, hbd, hb1⟩
  | node l r il ir =>
    intro v w0 w bs hB h n hb hbd hl
    subst hB
    have ok : (T.node l r).ok := by
      rcases n with h | h
      · cases h
      · exact h
    have hp := T.ok_by ok
    have HR := Lib.hid (Rp.below hb (Nat.le_refl _) h)
    obtain ⟨q, vl, vr, rfl, ⟨h0, h1, h2, h3, h4, h5, h6⟩, hl0, hr0⟩ := h.unfold (ok_not_nil ok)
    have HL : Hid (Rp w0 l vl) := hl0
    have HRR : Hid (Rp w0 r vr) := hr0
    have h2w := below_cell hb h0 h2
    have h6w := below_cell hb h0 h6
    have hz : (((T.node l r).by : Int) == 0) = false := by rw [beq_eq_false_iff_ne]; omega
    have hzh : (((T.node l r).ht : Int) == 0) = false := by
      have : (T.node l r).ht = max l.ht r.ht + 1 := rfl
      rw [beq_eq_false_iff_ne]
      omega
    have ey : (T.node l r).by = l.by + r.by := rfl
    have el : (Lib.byteCells l.txt).length = l.by := by rw [T.by_txt]; simp [Lib.byteCells]
    have IL : Hid (∀ w, Below w0.heap.size w0 w → Lib.IsBuilder 77 5 w0.heap.size b bs w → Calls Tryd.prog 44 #[vl, .func (.func 45) #[] #[.pointer (some ⟨b, 0, none⟩)]] w (Wrote w0.heap.size b (bs ++ Lib.byteCells l.txt) w)) :=
      fun w h1 h2 => il w0 w bs rfl hl0 (.inr ok.1) h1 h2 (by omega)
    have IR : Hid (∀ w, Below w0.heap.size w0 w → Lib.IsBuilder 77 5 w0.heap.size b (bs ++ Lib.byteCells l.txt) w → Calls Tryd.prog 44 #[vr, .func (.func 45) #[] #[.pointer (some ⟨b, 0, none⟩)]] w (Wrote w0.heap.size b ((bs ++ Lib.byteCells l.txt) ++ Lib.byteCells r.txt) w)) :=
      fun w h1 h2 => ir w0 w _ rfl hr0 (.inr ok.2.1) h1 h2 (by rw [List.length_append]; omega)
    have ee : Hid (bs ++ Lib.byteCells (T.node l r).txt = (bs ++ Lib.byteCells l.txt) ++ Lib.byteCells r.txt) := by show _ = _; simp [T.txt, Lib.byteCells]
    rw [ee.out]
    have HBD := Lib.hid hbd
    have KP : Hid (∀ w', Below w0.heap.size w0 w' → w'.cell? ⟨q, 2, none⟩ = some vr) := fun w' h => below_cell h h0 h3
    clear il ir h hl0 hr0 h1 h2 h3 h4 h5 h6 hbd hl hp ok n ey el ee
    generalize (T.node l r).ht = H at *
    go_enter Tryd.func44, Tryd.ntmps44
    go_wp2_with fail
    refine (bytes_any _ HR.out).mono ?_
    rintro e w1 ⟨rfl, rfl⟩
    go_wp2_with fail
    refine (IL.out _ hb HBD.out).mono ?_
    rintro e w1 ⟨rfl, hbd1, hb1⟩
    have hb2 := hb.trans hb1
    have h3w := KP.out _ hb2
    go_wp2_with fail
    refine (IR.out _ hb2 hbd1).mono ?_
    rintro e w2 ⟨rfl, hbd2, hb3⟩
    go_wp2_with fail
    go_end0
    exact ⟨rfl, hbd2, hb1.trans hb3⟩

set_option maxRecDepth 100000 in
set_option maxHeartbeats 400000 in
theorem text_any {t : T} {v : Value} (w : World) (h : Rp w t v) (n : t.okn) (hby : t.by ≤ 1073741824) : Calls Tryd.prog 16 #[v] w fun e w' => e = .returned (.string (mk t.txt)) ∧ Below w.heap.size w w' := by
  have H := Lib.hid h
  obtain ⟨w1, hw1⟩ : ∃ w1, w1 = w.alloc (.cells #[.pointer none, .slice none 0 0] 77) := ⟨_, rfl⟩
  have hb0 : Below w.heap.size w w1 := by rw [hw1]; exact (Below.refl _ w).alloc (Nat.le_refl _) _
  have hbk : w1.heap[w.heap.size]? = some (.cells #[.pointer none, .slice none 0 0] 77 (0, 0)) := by rw [hw1]; exact heap_alloc_new w _
  have C1 : Hid (∀ w', w'.heap[w.heap.size]? = some (.cells #[.pointer none, .slice none 0 0] 77 (0, 0)) → w.heap.size ≤ w'.heap.size → Calls Tryd.prog 42 #[.pointer (some ⟨w.heap.size, 0, none⟩), .int .i64 t.by] w' fun e w2 => e = .returned (.tuple #[]) ∧ (Lib.BuilderAt 77 5 w.heap.size w.heap.size (.pointer (some ⟨w.heap.size, 0, none⟩)) [] w2 ∧ Below w.heap.size w' w2)) :=
    fun w' h1 h2 => Tryd.Builder_Grow_fresh w.heap.size w.heap.size t.by w' (Nat.le_refl _) h1 h2 (by omega)
  have C2 : Hid (∀ w', Below w.heap.size w w' → Lib.BuilderAt 77 5 w.heap.size w.heap.size (.pointer (some ⟨w.heap.size, 0, none⟩)) [] w' → Calls Tryd.prog 44 #[v, .func (.func 45) #[] #[.pointer (some ⟨w.heap.size, 0, none⟩)]] w' (Wrote w.heap.size w.heap.size ([] ++ Lib.byteCells t.txt) w')) :=
    fun w' h1 h2 => eachT_any w.heap.size w.heap.size w w' [] rfl h n h1 (.inr h2) (by simp; omega)
  have C3 : Hid (∀ w', w.heap.size ≤ w'.heap.size → Lib.IsBuilder 77 5 w.heap.size w.heap.size (Lib.byteCells t.txt) w' → Calls Tryd.prog 47 #[.pointer (some ⟨w.heap.size, 0, none⟩)] w' fun e w2 => e = .returned (.string (mk t.txt)) ∧ Below w.heap.size w' w2) :=
    fun w' h1 h2 => Tryd.Builder_String_any w.heap.size w.heap.size t.txt w' h2 h1
  have hmf : ∀ (fn : Fn) (first cap : Array Value) (w : World), (Instr.makeFunc fn first cap).run Tryd.prog w = .ok (.func fn first cap) w := fun _ _ _ _ => rfl
  have HN := Lib.hid n
  have HW := Lib.hid hw1
  have HK := Lib.hid hbk
  clear h n hw1 hbk
  go_enter Tryd.func16, Tryd.ntmps16
  go_wp2_with fail
  rw [← HW.out]
  refine (bytes_any _ (Rp.below hb0 (Nat.le_refl _) H.out)).mono ?_
  rintro e w2 ⟨rfl, rfl⟩
  go_wp2_with fail
  refine (C1.out _ HK.out hb0.size).mono ?_
  rintro e w2 ⟨rfl, h1, hb1⟩
  have hb2 := hb0.trans hb1
  go_wp2_with fail
  refine (C2.out _ hb2 h1).mono ?_
  rintro e w3 ⟨rfl, h2, hb3⟩
  rw [List.nil_append] at h2
  have hb4 := hb2.trans hb3
  go_wp2_with fail
  refine (C3.out _ hb4.size h2).mono ?_
  rintro e w4 ⟨rfl, hb5⟩
  go_wp2_with fail
  go_ret
  exact ⟨rfl, hb4.trans hb5⟩

theorem parts_by {t : T} (h : t.ok) : t.parts.length ≤ t.by := by
  induction t with
  | nil => exact absurd h id
  | leaf s => exact T.ok_by (t := .leaf s) h
  | node l r il ir =>
    have := il h.1
    have := ir h.2.1
    simp only [T.parts, T.by, List.length_append]
    omega

/-- Parts as cells. -/
def strs (l : List (List UInt8)) : List Value := l.map fun p => Value.string (mk p)
theorem strs_len (l : List (List UInt8)) : (strs l).length = l.length := by simp [strs]
theorem strs_app (a b : List (List UInt8)) : strs (a ++ b) = strs a ++ strs b := by simp [strs]

theorem infoS : (Tryd.prog.info? 9).map (fun i => (i.zero, i.size, i.bytes)) = some (some (.string ByteArray.empty), 1, 16) := by kernel_rfl

/-- The variable in block q holds a list of parts, which the call owns from block B on. -/
def PartsAt (B q : Nat) (ps : List (List UInt8)) (w : World) : Prop :=
  B ≤ q ∧ ∃ v, w.heap[q]? = some (.cells #[v] 113 (0, 0)) ∧ w.ownsRow B 9 1 v ps.length (strs ps) ∧ v.ownBlock ≠ some q

def WroteP (B q : Nat) (ps : List (List UInt8)) (w : World) (e : Ending) (w' : World) : Prop := e = .returned (.tuple #[]) ∧ PartsAt B q ps w' ∧ Below B w w'

theorem own_other {w : World} {B q : Nat} {u v : Value} {n : Nat} {xs : List Value} (hown : w.ownsRow B 9 1 v n xs) (hq : w.heap[q]? = some (.cells #[u] 113 (0, 0))) : v.ownBlock ≠ some q := by
  intro e
  rcases hown.2 with ⟨rfl, _⟩ | ⟨g, cap, cur, rfl, hbg, hg, _⟩
  · cases e
  · have : g = q := by simpa [Value.ownBlock] using e
    subst this
    rw [hg] at hq
    simp at hq

end Go.Proofs.YtengmiolcfgdiaaDoor.Con
