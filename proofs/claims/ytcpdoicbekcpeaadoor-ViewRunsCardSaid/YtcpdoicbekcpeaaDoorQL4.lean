/- A slice that is only read: its value and the cells that it reaches. Contracts of both Letters, and of Same. (*strings.Builder).WriteString laid at this dump: the numbers that its body names (the tool that lays the others stops here: a type that no body names any more). Contracts of each (with the two closures that are handed to it), Text and Parts. -/
import Derived.Test.YtcpdoicbekcpeaaDoorChecked
import Derived.WalkKit
import Derived.Below
import Derived.WalkSmall
import Derived.Test.YtcpdoicbekcpeaaDoorQL2
import Derived.Laws.MakeOwn
import Derived.Lib.OthersKept
import Derived.Deep.QuietTactic
import Derived.BigQuiet
import Derived.Shelf.Strings.Builder1
import Derived.Test.YtcpdoicbekcpeaaDoorShelf
import Derived.Test.YtcpdoicbekcpeaaDoorQL3
import Derived.Laws.AppendOwn
import Derived.OneCell
set_option linter.unusedVariables false
set_option maxRecDepth 100000
namespace Go.Proofs.YtcpdoicbekcpeaaDoor.Con
open Go.RowKit

/-- The slice v has the cells xs, one an element. -/
def Row (w : World) (v : Value) (xs : List Value) : Prop :=
  ∃ a cap, v = .slice a xs.length cap ∧ xs.length ≤ cap ∧ cap ≤ maxLen ∧ (xs = [] ∨ ∃ b off, a = some ⟨b, off, none⟩ ∧ b < w.heap.size ∧ ∀ j (h : j < xs.length), w.cell? ⟨b, off + j, none⟩ = some xs[j])

theorem Row.below {w w' : World} {v : Value} {xs : List Value} (h : Row w v xs) {B : Nat} (hb : Below B w w') (hB : w.heap.size ≤ B) : Row w' v xs := by
  obtain ⟨a, cap, rfl, h1, h2, h3⟩ := h
  refine ⟨a, cap, rfl, h1, h2, ?_⟩
  rcases h3 with rfl | ⟨b, off, rfl, hlt, hc⟩
  · exact .inl rfl
  · refine .inr ⟨b, off, rfl, Nat.lt_of_lt_of_le hlt hb.size, fun j hj => ?_⟩
    rw [hb.cell (p := ⟨b, off + j, none⟩) (Nat.lt_of_lt_of_le hlt hB)]
    exact hc j hj

theorem Row.of_owns {w : World} {base : Nat} {e : TypeId} {v : Value} {n : Nat} {xs : List Value} (h : w.ownsRow base e 1 v n xs) : Row w v xs := by
  have hn : xs.length = n := by have := h.1; omega
  rcases h.2 with ⟨rfl, h0⟩ | ⟨g, cap, cur, rfl, hb, hg, hle, hm, hsz, htake⟩
  · subst h0
    have : xs = [] := List.eq_nil_of_length_eq_zero hn
    subst this
    exact ⟨none, 0, rfl, Nat.le_refl _, Nat.zero_le _, .inl rfl⟩
  · refine ⟨some ⟨g, 0, none⟩, cap, by rw [hn], by omega, hm, ?_⟩
    by_cases hx : xs = []
    · exact .inl hx
    · refine .inr ⟨g, 0, rfl, (Array.getElem?_eq_some_iff.1 hg).1, fun j hj => ?_⟩
      have hc := World.ownsRow.cells h (g := g) rfl j xs[j] (List.getElem?_eq_getElem hj)
      have hadd : (⟨g, 0, none⟩ : Addr).add j = ⟨g, j, none⟩ := by unfold Addr.add; split <;> simp_all
      rw [hadd] at hc
      rw [Nat.zero_add]
      exact hc
end Go.Proofs.YtcpdoicbekcpeaaDoor.Con

namespace Go.Proofs.YtcpdoicbekcpeaaDoor.Con
open Go.RowKit Go.Lib Go.Proofs.YtcpdoicbekcpeaaDoor.Let

theorem info32 : (Tryd.prog.info? 21).map (fun i => (i.zero, i.size, i.bytes)) = some (some (.int .i32 0), 1, 4) := by kernel_rfl

/-- Letters as cells. -/
def cells (l : List Nat) : List Value := l.map fun r : Nat => Value.int .i32 (r : Int)
theorem cells_len (l : List Nat) : (cells l).length = l.length := by simp [cells]
theorem cells_get (l : List Nat) (j : Nat) (h : j < (cells l).length) : (cells l)[j] = .int .i32 (l[j]'(by rw [cells_len] at h; exact h)) := by simp [cells]

theorem take_cells {l : List Nat} {k : Nat} (h : k < l.length) : cells (l.take (k + 1)) = cells (l.take k) ++ [.int .i32 (l[k])] := by
  unfold cells
  rw [List.take_succ_eq_append_getElem h, List.map_append]
  rfl

/-- Letter number k is what is decoded at its place. -/
theorem letter_at (l : List UInt8) (k : Nat) (h : k < cnt l) : (lets l)[k]'h = (decodeL (l.drop (byt k l))).1 := by
  have h1 := lets_drop k l
  have h2 : l.drop (byt k l) ≠ [] := by
    intro e
    have := byt_lt h
    have h3 := congrArg List.length e
    rw [List.length_drop, List.length_nil] at h3
    omega
  rw [lets_step _ h2] at h1
  have h3 : ((lets l).drop k)[0]? = some (decodeL (l.drop (byt k l))).1 := by rw [← h1]; rfl
  rw [List.getElem?_drop, Nat.add_zero, List.getElem?_eq_getElem h] at h3
  exact Option.some.inj h3


set_option maxRecDepth 100000 in
set_option maxHeartbeats 800000 in
theorem rletters_any (s : ByteArray) (w : World) (hs : s.size ≤ 1073741824) :
    Calls Tryd.prog 76 #[.string s] w fun e w' => ∃ v, e = .returned v ∧ w'.ownsRow w.heap.size 21 1 v (lets s.data.toList).length (cells (lets s.data.toList)) ∧ Below w.heap.size w w' := by
  obtain ⟨i0, hi, hz0, hz1, hz2⟩ := info_parts info32
  go_enter Tryd.func76, Tryd.ntmps76
  go_wp2
  go_loopw [0, 3] (fun t v wr => ∃ k : Nat, t = .string (mk (s.data.toList.drop (byt k s.data.toList))) ∧ k ≤ cnt s.data.toList ∧ wr.ownsRow w.heap.size 21 1 v k (cells ((lets s.data.toList).take k)) ∧ Below w.heap.size w wr) (fun t _ _ => strLen t)
  case atStart => exact ⟨0, by rw [byt_zero, List.drop_zero, mk_self], Nat.zero_le _, World.ownsRow_nil _ _ _ _, Below.refl _ _⟩
  case round =>
    obtain ⟨k, rfl, hk, hown, hnx⟩ := hrel
    have hsz0 := sz s
    have hcl := cnt_len s.data.toList
    rw [sz] at hcl
    by_cases hlt : k < cnt s.data.toList
    · have hb := byt_lt hlt
      rw [sz] at hb
      have hlast := Lib.hid (letter_at s.data.toList k hlt)
      have htk := Lib.hid (take_cells hlt)
      have hsu := Lib.hid (byt_succ k s.data.toList (byt_lt hlt))
      have hbl := byt_le (k + 1) s.data.toList
      rw [hsu.out, sz] at hbl
      have hlen : Hid ((s.data.toList.drop (byt k s.data.toList)).length = s.size - byt k s.data.toList) := by show _ = _; rw [List.length_drop, sz]
      have hne : s.data.toList.drop (byt k s.data.toList) ≠ [] := by
        intro e
        have h3 := congrArg List.length e
        rw [hlen.out, List.length_nil] at h3
        omega
      have hd := mk_empty_ne hne
      have hpos := dl_pos (s.data.toList.drop (byt k s.data.toList))
      have hll : (s.data.toList.drop (byt k s.data.toList)).length ≤ s.size := by rw [hlen.out]; omega
      have hl0 : 0 < (s.data.toList.drop (byt k s.data.toList)).length := by rw [hlen.out]; omega
      have hle := dl_le _ hne
      have hdd : Hid (∀ n, (s.data.toList.drop (byt k s.data.toList)).drop n = s.data.toList.drop (byt k s.data.toList + n)) := fun n => List.drop_drop ..
      generalize hL : s.data.toList.drop (byt k s.data.toList) = L at *
      replace hL := Lib.hid hL
      clear hne hsz0
      have hms : (mk L).size = L.length := mk_size L
      have hC : Hid (∀ w, Calls Tryd.prog 75 #[.string (mk L)] w fun e w' => e = .returned (.tuple #[.int .i64 (decodeL L).2, .int .i32 (decodeL L).1]) ∧ w = w') := fun w => by
        have := size_any (mk L) w (by rw [mk_size]; unfold maxLen; omega) (by rw [mk_size]; omega)
        rw [Let.mk_data] at this
        exact this
      have hx : ∀ n, (mk L).extract n L.length = mk (L.drop n) := fun n => by rw [← mk_size L, mk_ext]
      generalize hD : decodeL L = D at *
      replace hD := Lib.hid hD
      obtain ⟨r, n⟩ := D
      simp only at hC hle hpos hbl hsu hlast
      go_wp2_with (first
        | (go_at_call 75; refine (hC.out _).mono ?_; rintro e w' ⟨rfl, rfl⟩)
        | (at_builtin; refine wpList_append_own _ rfl _ _ 127 rfl w.heap.size 21 i0 (.int .i32 0) 1 4 Tryd.underlying127 hi hz0 hz1 hz2 rfl (by decide) _ _ _ rfl (hown.alloc _) ⟨wr.heap.size, 0, none⟩ 1 1 [.int .i32 r] rfl rfl ?c1 ?c2 ?c3 ?c4 ?c5 ?_))
      case c1 =>
        intro j u hj
        match j, hj with
        | 0, hj => simp at hj; subst hj; simp [Addr.add]
      case c2 => intro u hu; simp at hu; subst hu; rfl
      case c3 => unfold maxLen; omega
      case c4 => omega
      case c5 => have := hnx.size; simp; omega
      intro v' w1 hown' hgrow _
      have hbel : Below w.heap.size w w1 := (hnx.alloc hnx.size _).grown hgrow (by have := hnx.size; simp; omega) (fun j hj => by have := (hown.lt j hj).1; omega)
      clear hgrow hown
      go_wp2
      go_roundw
      case rel => exact ⟨k + 1, by rw [hsu.out, ← hdd.out], by omega, by rw [htk.out, hlast.out]; exact hown', hbel⟩
      case measure => rw [strLen_mk, strLen_mk, List.length_drop]; omega
    · have hke : k = cnt s.data.toList := by omega
      subst hke
      have hL : s.data.toList.drop (byt (cnt s.data.toList) s.data.toList) = [] := by rw [byt_cnt, List.drop_length]
      have hd : (mk (s.data.toList.drop (byt (cnt s.data.toList) s.data.toList))).toList.isEmpty = true := by rw [hL]; exact mk_empty_nil
      clear hL
      have htl : Hid ((lets s.data.toList).take (cnt s.data.toList) = lets s.data.toList) := List.take_length
      go_wp2
      go_ret
      rw [htl.out] at hown
      exact ⟨_, rfl, hown, hnx⟩

theorem owns_iterAt {w : World} {base : Nat} {e : TypeId} {size : Nat} {v : Value} {n : Nat} {xs : List Value} (h : w.ownsRow base e size v n xs) {k : Nat} {s : ByteArray} {p : Nat} (hk : w.heap[k]? = some (.stringIter s p)) (q : Nat) :
    (w.iterAt k s q).ownsRow base e size v n xs := by
  refine ⟨h.1, ?_⟩
  rcases h.2 with hn | ⟨g, cap, cur, hv, hbg, hg, rest⟩
  · exact .inl hn
  · have hkg : g ≠ k := by
      intro e1
      rw [e1, hk] at hg
      cases hg
    exact .inr ⟨g, cap, cur, hv, hbg, (iterAt_other w k g s q hkg).trans hg, rest⟩

/-- An append leaves an iterator where it stood. -/
theorem iter_kept {w w1 : World} {base : Nat} {e : TypeId} {size : Nat} {v : Value} {n : Nat} {xs : List Value} (h : w.ownsRow base e size v n xs) {k : Nat} {s : ByteArray} {p : Nat} (hk : w.heap[k]? = some (.stringIter s p)) {o : Obj}
    (hg : (w.alloc o).grownBy w1 v.ownBlock) : w1.heap[k]? = some (.stringIter s p) := by
  have hlt : k < w.heap.size := (Array.getElem?_eq_some_iff.1 hk).1
  rw [hg.block k (by simp; omega) ?_, Below.heap_alloc w o k hlt, hk]
  intro e1
  rcases h.2 with ⟨rfl, _⟩ | ⟨g, cap, cur, rfl, hbg, hg', rest⟩
  · cases e1
  · have e2 : k = g := Option.some.inj e1
    rw [e2, hg'] at hk
    cases hk

theorem getD_of {l : List Nat} {k : Nat} (h : k < l.length) : l[k] = l.getD k 0 := by
  rw [List.getD_eq_getElem?_getD, List.getElem?_eq_getElem h, Option.getD_some]

end Go.Proofs.YtcpdoicbekcpeaaDoor.Con

namespace Go.Proofs
open Go.Shelf
def Tryd.lays166_ren : Go.Shelf.Ren := ⟨fun | 166 => 72 | 240 => 103 | 276 => 127 | n => n, fun | 0 => 0 | 3 => 3 | 4 => 4 | 9 => 9 | 20 => 20 | 37 => 113 | 70 => 112 | 72 => 115 | 75 => 119 | 80 => 40 | 164 => 173 | 5 => 5 | n => n, fun | n => n⟩
theorem Tryd.lays166 : Go.Proofs.Lays.n166 Tryd.prog Tryd.lays166_ren := {
  mixed := by kernel_rfl
  f166 := Tryd.func72.trans (congrArg some (by kernel_rfl))
  f240 := Tryd.func103.trans (congrArg some (by kernel_rfl))
  f276 := Tryd.func127.trans (congrArg some (by kernel_rfl))
  t0 := Tryd.underlying0
  a0 := Tryd.isAgg0
  z0 := Tryd.sizeOf0
  v0 := Tryd.zeroValue0
  t3 := Tryd.underlying3
  a3 := Tryd.isAgg3
  z3 := Tryd.sizeOf3
  v3 := Tryd.zeroValue3
  t4 := Tryd.underlying4
  a4 := Tryd.isAgg4
  z4 := Tryd.sizeOf4
  v4 := Tryd.zeroValue4
  t9 := Tryd.underlying9
  a9 := Tryd.isAgg9
  z9 := Tryd.sizeOf9
  v9 := Tryd.zeroValue9
  t20 := Tryd.underlying20
  a20 := Tryd.isAgg20
  z20 := Tryd.sizeOf20
  v20 := Tryd.zeroValue20
  t37 := Tryd.underlying113
  a37 := Tryd.isAgg113
  z37 := Tryd.sizeOf113
  v37 := Tryd.zeroValue113
  t70 := Tryd.underlying112
  a70 := Tryd.isAgg112
  z70 := Tryd.sizeOf112
  v70 := Tryd.zeroValue112
  t72 := Tryd.underlying115
  a72 := Tryd.isAgg115
  z72 := Tryd.sizeOf115
  v72 := Tryd.zeroValue115
  t75 := Tryd.underlying119
  a75 := Tryd.isAgg119
  z75 := Tryd.sizeOf119
  v75 := Tryd.zeroValue119
  t164 := Tryd.underlying173
  a164 := Tryd.isAgg173
  z164 := Tryd.sizeOf173
  v164 := Tryd.zeroValue173 }
theorem Tryd.Builder_Extra_166 : Builder.Extra Tryd.prog Tryd.lays166_ren := {
  sizeBuilder := by kernel_rfl
  liesBuilder := by kernel_rfl
  t5 := Tryd.underlying5
  a5 := Tryd.isAgg5
  z5 := Tryd.sizeOf5
  v5 := Tryd.zeroValue5
  infoByte := by kernel_rfl
  cellsByte := by kernel_rfl
  sizeByte := by kernel_rfl
  neB5 := by decide }
open Go.RowKit in
theorem Tryd.Builder_WriteString (B b : Nat) (bs : List Value) (s : ByteArray) (w : World) (h : Lib.IsBuilder 115 5 B b bs w) (hlen : bs.length + s.size ≤ 140737488355328) (hBw : B ≤ w.heap.size) :
    Calls Tryd.prog 72 #[.pointer (some ⟨b, 0, none⟩), .string s] w fun e w' => e = .returned (.tuple #[.int .i64 s.size, .nilIface]) ∧ (Lib.BuilderAt 115 5 B b (.pointer (some ⟨b, 0, none⟩)) (bs ++ Lib.strCells s) w' ∧ Below B w w') := Any.Builder_WriteString Tryd.lays166 Tryd.Builder_Extra_166 B b bs s w h hlen hBw
end Go.Proofs

namespace Go.Proofs.YtcpdoicbekcpeaaDoor.Con
open Go.RowKit Go.Lib Go.Proofs.YtcpdoicbekcpeaaDoor.Let Go.Proofs.YtcpdoicbekcpeaaDoor.Tree

/-- What a call that writes bytes to a builder gives. -/
def Wrote (B b : Nat) (bs : List Value) (w : World) (e : Ending) (w' : World) : Prop := e = .returned (.tuple #[]) ∧ Lib.IsBuilder 115 5 B b bs w' ∧ Below B w w'

theorem strCells_mk (l : List UInt8) : Lib.strCells (mk l) = Lib.byteCells l := by
  unfold Lib.strCells Lib.byteCells
  rw [Let.mk_data]

theorem text1_any (B b : Nat) (bs : List Value) (s : List UInt8) (w : World) (h : Lib.IsBuilder 115 5 B b bs w) (hl : bs.length + s.length ≤ 140737488355328) (hB : B ≤ w.heap.size) :
    Calls Tryd.prog 71 #[.string (mk s), .pointer (some ⟨b, 0, none⟩)] w (Wrote B b (bs ++ Lib.byteCells s) w) := by
  have C : Hid (∀ w, Lib.IsBuilder 115 5 B b bs w → B ≤ w.heap.size → Calls Tryd.prog 72 #[.pointer (some ⟨b, 0, none⟩), .string (mk s)] w fun e w' => e = .returned (.tuple #[.int .i64 (mk s).size, .nilIface]) ∧ (Lib.BuilderAt 115 5 B b (.pointer (some ⟨b, 0, none⟩)) (bs ++ Lib.strCells (mk s)) w' ∧ Below B w w')) :=
    fun w h1 h2 => Tryd.Builder_WriteString B b bs (mk s) w h1 (by rw [mk_size]; exact hl) h2
  go_enter Tryd.func71, Tryd.ntmps71
  go_wp2_with fail
  refine (C.out _ h hB).mono ?_
  rintro e w1 ⟨rfl, h1, hb⟩
  rw [strCells_mk] at h1
  go_wp2_with fail
  go_end0
  exact ⟨rfl, .inr h1, hb⟩

set_option maxRecDepth 100000 in
set_option maxHeartbeats 400000 in
theorem eachT_any (B b : Nat) : ∀ {t : T} {v : Value} (w0 w : World) (bs : List Value), w0.heap.size = B → Rp w0 t v → t.okn → Below B w0 w → Lib.IsBuilder 115 5 B b bs w → bs.length + t.by ≤ 140737488355328 →
    Calls Tryd.prog 70 #[v, .func (.func 71) #[] #[.pointer (some ⟨b, 0, none⟩)]] w (Wrote B b (bs ++ Lib.byteCells t.txt) w) := by
  intro t
  induction t with
  | nil =>
    intro v w0 w bs hB h n hb hbd hl
    obtain rfl : v = .pointer none := h
    subst hB
    have e : bs ++ Lib.byteCells T.nil.txt = bs := by simp [T.txt, Lib.byteCells]
    rw [e]
    have HB := Lib.hid hbd
    have HR : Hid (Rp w T.nil (.pointer none)) := rfl
    clear e hbd
    go_enter Tryd.func70, Tryd.ntmps70
    go_wp2_with fail
    refine (bytes_any _ HR.out).mono ?_
    rintro e w1 ⟨rfl, rfl⟩
    go_wp2_with fail
    go_end0
    exact ⟨rfl, HB.out, Below.refl _ _⟩
  | leaf s =>
    intro v w0 w bs hB h n hb hbd hl
    subst hB
    have ok : (T.leaf s).ok := by
      rcases n with h | h
      · cases h
      · exact h
    have hp := T.ok_by ok
    have HR := Lib.hid (Rp.below hb (Nat.le_refl _) h)
    obtain ⟨q, vl, vr, rfl, ⟨h0, h1, h2, h3, h4, h5, h6⟩, -, -⟩ := HR.out.unfold (ok_not_nil ok)
    change w.cell? ⟨q, 0, none⟩ = some (.string (mk s)) at h1
    change w.cell? ⟨q, 5, none⟩ = some (.int .i64 (0 : Nat)) at h6
    have hz : (((T.leaf s).by : Int) == 0) = false := by rw [beq_eq_false_iff_ne]; omega
    have HC := Lib.hid (text1_any w0.heap.size b bs s w hbd hl hb.size)
    clear h h2 h3 h4 h5 hbd hl hp ok n
    go_enter Tryd.func70, Tryd.ntmps70
    go_wp2_with fail
    refine (bytes_any _ HR.out).mono ?_
    rintro e w1 ⟨rfl, rfl⟩
    go_wp2_with fail
    refine HC.out.mono ?_
    rintro e w1 ⟨rfl, hbd, hb1⟩
    go_wp2_with fail
    go_end0
    exact ⟨rfl, hbd, hb1⟩
  | node l r il ir =>
    intro v w0 w bs hB h n hb hbd hl
    subst hB
    have ok : (T.node l r).ok := by
      rcases n with h | h
      · cases h
      · exact h
    have hp := T.ok_by ok
    have HR := Lib.hid (Rp.below hb (Nat.le_refl _) h)
    obtain ⟨q, vl, vr, rfl, ⟨h0, h1, h2, h3, h4, h5, h6⟩, hl0, hr0⟩ := h.unfold (ok_not_nil ok)
    have HL : Hid (Rp w0 l vl) := hl0
    have HRR : Hid (Rp w0 r vr) := hr0
    have h2w := below_cell hb h0 h2
    have h6w := below_cell hb h0 h6
    have hz : (((T.node l r).by : Int) == 0) = false := by rw [beq_eq_false_iff_ne]; omega
    have hzh : (((T.node l r).ht : Int) == 0) = false := by
      have : (T.node l r).ht = max l.ht r.ht + 1 := rfl
      rw [beq_eq_false_iff_ne]
      omega
    have ey : (T.node l r).by = l.by + r.by := rfl
    have el : (Lib.byteCells l.txt).length = l.by := by rw [T.by_txt]; simp [Lib.byteCells]
    have IL : Hid (∀ w, Below w0.heap.size w0 w → Lib.IsBuilder 115 5 w0.heap.size b bs w → Calls Tryd.prog 70 #[vl, .func (.func 71) #[] #[.pointer (some ⟨b, 0, none⟩)]] w (Wrote w0.heap.size b (bs ++ Lib.byteCells l.txt) w)) :=
      fun w h1 h2 => il w0 w bs rfl hl0 (.inr ok.1) h1 h2 (by omega)
    have IR : Hid (∀ w, Below w0.heap.size w0 w → Lib.IsBuilder 115 5 w0.heap.size b (bs ++ Lib.byteCells l.txt) w → Calls Tryd.prog 70 #[vr, .func (.func 71) #[] #[.pointer (some ⟨b, 0, none⟩)]] w (Wrote w0.heap.size b ((bs ++ Lib.byteCells l.txt) ++ Lib.byteCells r.txt) w)) :=
      fun w h1 h2 => ir w0 w _ rfl hr0 (.inr ok.2.1) h1 h2 (by rw [List.length_append]; omega)
    have ee : Hid (bs ++ Lib.byteCells (T.node l r).txt = (bs ++ Lib.byteCells l.txt) ++ Lib.byteCells r.txt) := by show _ = _; simp [T.txt, Lib.byteCells]
    rw [ee.out]
    have HBD := Lib.hid hbd
    have KP : Hid (∀ w', Below w0.heap.size w0 w' → w'.cell? ⟨q, 2, none⟩ = some vr) := fun w' h => below_cell h h0 h3
    clear il ir h hl0 hr0 h1 h2 h3 h4 h5 h6 hbd hl hp ok n ey el ee
    generalize (T.node l r).ht = H at *
    go_enter Tryd.func70, Tryd.ntmps70
    go_wp2_with fail
    refine (bytes_any _ HR.out).mono ?_
    rintro e w1 ⟨rfl, rfl⟩
    go_wp2_with fail
    refine (IL.out _ hb HBD.out).mono ?_
    rintro e w1 ⟨rfl, hbd1, hb1⟩
    have hb2 := hb.trans hb1
    have h3w := KP.out _ hb2
    go_wp2_with fail
    refine (IR.out _ hb2 hbd1).mono ?_
    rintro e w2 ⟨rfl, hbd2, hb3⟩
    go_wp2_with fail
    go_end0
    exact ⟨rfl, hbd2, hb1.trans hb3⟩

set_option maxRecDepth 100000 in
set_option maxHeartbeats 400000 in
theorem text_any {t : T} {v : Value} (w : World) (h : Rp w t v) (n : t.okn) (hby : t.by ≤ 1073741824) : Calls Tryd.prog 16 #[v] w fun e w' => e = .returned (.string (mk t.txt)) ∧ Below w.heap.size w w' := by
  have H := Lib.hid h
  obtain ⟨w1, hw1⟩ : ∃ w1, w1 = w.alloc (.cells #[.pointer none, .slice none 0 0] 115) := ⟨_, rfl⟩
  have hb0 : Below w.heap.size w w1 := by rw [hw1]; exact (Below.refl _ w).alloc (Nat.le_refl _) _
  have hbk : w1.heap[w.heap.size]? = some (.cells #[.pointer none, .slice none 0 0] 115 (0, 0)) := by rw [hw1]; exact heap_alloc_new w _
  have C1 : Hid (∀ w', w'.heap[w.heap.size]? = some (.cells #[.pointer none, .slice none 0 0] 115 (0, 0)) → w.heap.size ≤ w'.heap.size → Calls Tryd.prog 68 #[.pointer (some ⟨w.heap.size, 0, none⟩), .int .i64 t.by] w' fun e w2 => e = .returned (.tuple #[]) ∧ (Lib.BuilderAt 115 5 w.heap.size w.heap.size (.pointer (some ⟨w.heap.size, 0, none⟩)) [] w2 ∧ Below w.heap.size w' w2)) :=
    fun w' h1 h2 => Tryd.Builder_Grow_fresh w.heap.size w.heap.size t.by w' (Nat.le_refl _) h1 h2 (by omega)
  have C2 : Hid (∀ w', Below w.heap.size w w' → Lib.BuilderAt 115 5 w.heap.size w.heap.size (.pointer (some ⟨w.heap.size, 0, none⟩)) [] w' → Calls Tryd.prog 70 #[v, .func (.func 71) #[] #[.pointer (some ⟨w.heap.size, 0, none⟩)]] w' (Wrote w.heap.size w.heap.size ([] ++ Lib.byteCells t.txt) w')) :=
    fun w' h1 h2 => eachT_any w.heap.size w.heap.size w w' [] rfl h n h1 (.inr h2) (by simp; omega)
  have C3 : Hid (∀ w', w.heap.size ≤ w'.heap.size → Lib.IsBuilder 115 5 w.heap.size w.heap.size (Lib.byteCells t.txt) w' → Calls Tryd.prog 73 #[.pointer (some ⟨w.heap.size, 0, none⟩)] w' fun e w2 => e = .returned (.string (mk t.txt)) ∧ Below w.heap.size w' w2) :=
    fun w' h1 h2 => Tryd.Builder_String_any w.heap.size w.heap.size t.txt w' h2 h1
  have hmf : ∀ (fn : Fn) (first cap : Array Value) (w : World), (Instr.makeFunc fn first cap).run Tryd.prog w = .ok (.func fn first cap) w := fun _ _ _ _ => rfl
  have HN := Lib.hid n
  have HW := Lib.hid hw1
  have HK := Lib.hid hbk
  clear h n hw1 hbk
  go_enter Tryd.func16, Tryd.ntmps16
  go_wp2_with fail
  rw [← HW.out]
  refine (bytes_any _ (Rp.below hb0 (Nat.le_refl _) H.out)).mono ?_
  rintro e w2 ⟨rfl, rfl⟩
  go_wp2_with fail
  refine (C1.out _ HK.out hb0.size).mono ?_
  rintro e w2 ⟨rfl, h1, hb1⟩
  have hb2 := hb0.trans hb1
  go_wp2_with fail
  refine (C2.out _ hb2 h1).mono ?_
  rintro e w3 ⟨rfl, h2, hb3⟩
  rw [List.nil_append] at h2
  have hb4 := hb2.trans hb3
  go_wp2_with fail
  refine (C3.out _ hb4.size h2).mono ?_
  rintro e w4 ⟨rfl, hb5⟩
  go_wp2_with fail
  go_ret
  exact ⟨rfl, hb4.trans hb5⟩

theorem parts_by {t : T} (h : t.ok) : t.parts.length ≤ t.by := by
  induction t with
  | nil => exact absurd h id
  | leaf s => exact T.ok_by (t := .leaf s) h
  | node l r il ir =>
    have := il h.1
    have := ir h.2.1
    simp only [T.parts, T.by, List.length_append]
    omega

/-- Parts as cells. -/
def strs (l : List (List UInt8)) : List Value := l.map fun p => Value.string (mk p)
theorem strs_len (l : List (List UInt8)) : (strs l).length = l.length := by simp [strs]
theorem strs_app (a b : List (List UInt8)) : strs (a ++ b) = strs a ++ strs b := by simp [strs]

theorem infoS : (Tryd.prog.info? 9).map (fun i => (i.zero, i.size, i.bytes)) = some (some (.string ByteArray.empty), 1, 16) := by kernel_rfl

/-- The variable in block q holds a list of parts, which the call owns from block B on. -/
def PartsAt (B q : Nat) (ps : List (List UInt8)) (w : World) : Prop :=
  B ≤ q ∧ ∃ v, w.heap[q]? = some (.cells #[v] 93 (0, 0)) ∧ w.ownsRow B 9 1 v ps.length (strs ps) ∧ v.ownBlock ≠ some q

def WroteP (B q : Nat) (ps : List (List UInt8)) (w : World) (e : Ending) (w' : World) : Prop := e = .returned (.tuple #[]) ∧ PartsAt B q ps w' ∧ Below B w w'

theorem own_other {w : World} {B q : Nat} {u v : Value} {n : Nat} {xs : List Value} (hown : w.ownsRow B 9 1 v n xs) (hq : w.heap[q]? = some (.cells #[u] 93 (0, 0))) : v.ownBlock ≠ some q := by
  intro e
  rcases hown.2 with ⟨rfl, _⟩ | ⟨g, cap, cur, rfl, hbg, hg, _⟩
  · cases e
  · have : g = q := by simpa [Value.ownBlock] using e
    subst this
    rw [hg] at hq
    simp at hq

end Go.Proofs.YtcpdoicbekcpeaaDoor.Con
