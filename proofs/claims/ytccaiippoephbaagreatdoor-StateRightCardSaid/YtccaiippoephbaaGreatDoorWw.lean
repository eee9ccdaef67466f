/- A slice that is only read: its value and the cells that it reaches. -/
import Derived.Test.YtccaiippoephbaaGreatDoorChecked
import Derived.WalkKit
import Derived.Below
import Derived.WalkSmall
import Derived.Test.YtccaiippoephbaaGreatDoorWv
import Derived.Shelf.Strings.Builder1
import Derived.Test.YtccaiippoephbaaGreatDoorShelf
import Derived.Laws.AppendOwn
import Derived.OneCell
import Derived.Test.YtccaiippoephbaaGreatDoorWu
import Derived.Laws.MakeOwn
import Derived.Lib.OthersKept
import Derived.Deep.QuietTactic
import Derived.BigQuiet
set_option maxRecDepth 100000
set_option linter.unusedVariables false
namespace Go.Proofs.YtccaiippoephbaaGreatDoor.Con
open Go.RowKit

/-- The slice v has the cells xs, one an element. -/
def Row (w : World) (v : Value) (xs : List Value) : Prop :=
  ∃ a cap, v = .slice a xs.length cap ∧ xs.length ≤ cap ∧ cap ≤ maxLen ∧ (xs = [] ∨ ∃ b off, a = some ⟨b, off, none⟩ ∧ b < w.heap.size ∧ ∀ j (h : j < xs.length), w.cell? ⟨b, off + j, none⟩ = some xs[j])

theorem Row.below {w w' : World} {v : Value} {xs : List Value} (h : Row w v xs) {B : Nat} (hb : Below B w w') (hB : w.heap.size ≤ B) : Row w' v xs := by
  obtain ⟨a, cap, rfl, h1, h2, h3⟩ := h
  refine ⟨a, cap, rfl, h1, h2, ?_⟩
  rcases h3 with rfl | ⟨b, off, rfl, hlt, hc⟩
  · exact .inl rfl
  · refine .inr ⟨b, off, rfl, Nat.lt_of_lt_of_le hlt hb.size, fun j hj => ?_⟩
    rw [hb.cell (p := ⟨b, off + j, none⟩) (Nat.lt_of_lt_of_le hlt hB)]
    exact hc j hj

theorem Row.of_owns {w : World} {base : Nat} {e : TypeId} {v : Value} {n : Nat} {xs : List Value} (h : w.ownsRow base e 1 v n xs) : Row w v xs := by
  have hn : xs.length = n := by have := h.1; omega
  rcases h.2 with ⟨rfl, h0⟩ | ⟨g, cap, cur, rfl, hb, hg, hle, hm, hsz, htake⟩
  · subst h0
    have : xs = [] := List.eq_nil_of_length_eq_zero hn
    subst this
    exact ⟨none, 0, rfl, Nat.le_refl _, Nat.zero_le _, .inl rfl⟩
  · refine ⟨some ⟨g, 0, none⟩, cap, by rw [hn], by omega, hm, ?_⟩
    by_cases hx : xs = []
    · exact .inl hx
    · refine .inr ⟨g, 0, rfl, (Array.getElem?_eq_some_iff.1 hg).1, fun j hj => ?_⟩
      have hc := World.ownsRow.cells h (g := g) rfl j xs[j] (List.getElem?_eq_getElem hj)
      have hadd : (⟨g, 0, none⟩ : Addr).add j = ⟨g, j, none⟩ := by unfold Addr.add; split <;> simp_all
      rw [hadd] at hc
      rw [Nat.zero_add]
      exact hc
end Go.Proofs.YtccaiippoephbaaGreatDoor.Con
/- Contracts of each (with the two closures that are handed to it), Text and Parts. -/
set_option maxRecDepth 100000
set_option linter.unusedVariables false
namespace Go.Proofs.YtccaiippoephbaaGreatDoor.Con
open Go.RowKit Go.Lib Go.Proofs.YtccaiippoephbaaGreatDoor.Let Go.Proofs.YtccaiippoephbaaGreatDoor.Tree

/-- Parts as cells. -/
def strs (l : List (List UInt8)) : List Value := l.map fun p => Value.string (mk p)
theorem strs_len (l : List (List UInt8)) : (strs l).length = l.length := by simp [strs]
theorem strs_app (a b : List (List UInt8)) : strs (a ++ b) = strs a ++ strs b := by simp [strs]

theorem infoS : (Tryz.prog.info? 9).map (fun i => (i.zero, i.size, i.bytes)) = some (some (.string ByteArray.empty), 1, 16) := by kernel_rfl

end Go.Proofs.YtccaiippoephbaaGreatDoor.Con
/- Contracts of both Letters, and of Same. -/
set_option maxRecDepth 100000
set_option linter.unusedVariables false
namespace Go.Proofs.YtccaiippoephbaaGreatDoor.Con
open Go.RowKit Go.Lib Go.Proofs.YtccaiippoephbaaGreatDoor.Let

theorem info32 : (Tryz.prog.info? 21).map (fun i => (i.zero, i.size, i.bytes)) = some (some (.int .i32 0), 1, 4) := by kernel_rfl

/-- Letters as cells. -/
def cells (l : List Nat) : List Value := l.map fun r : Nat => Value.int .i32 (r : Int)
theorem take_cells {l : List Nat} {k : Nat} (h : k < l.length) : cells (l.take (k + 1)) = cells (l.take k) ++ [.int .i32 (l[k])] := by
  unfold cells
  rw [List.take_succ_eq_append_getElem h, List.map_append]
  rfl

/-- Letter number k is what is decoded at its place. -/
theorem letter_at (l : List UInt8) (k : Nat) (h : k < cnt l) : (lets l)[k]'h = (decodeL (l.drop (byt k l))).1 := by
  have h1 := lets_drop k l
  have h2 : l.drop (byt k l) ≠ [] := by
    intro e
    have := byt_lt h
    have h3 := congrArg List.length e
    rw [List.length_drop, List.length_nil] at h3
    omega
  rw [lets_step _ h2] at h1
  have h3 : ((lets l).drop k)[0]? = some (decodeL (l.drop (byt k l))).1 := by rw [← h1]; rfl
  rw [List.getElem?_drop, Nat.add_zero, List.getElem?_eq_getElem h] at h3
  exact Option.some.inj h3


set_option maxRecDepth 100000 in
set_option maxHeartbeats 800000 in
theorem rletters_any (s : ByteArray) (w : World) (hs : s.size ≤ 1073741824) :
    Calls Tryz.prog 111 #[.string s] w fun e w' => ∃ v, e = .returned v ∧ w'.ownsRow w.heap.size 21 1 v (lets s.data.toList).length (cells (lets s.data.toList)) ∧ Below w.heap.size w w' := by
  obtain ⟨i0, hi, hz0, hz1, hz2⟩ := info_parts info32
  go_enter Tryz.func111, Tryz.ntmps111
  go_wp2
  go_loopw [0, 3] (fun t v wr => ∃ k : Nat, t = .string (mk (s.data.toList.drop (byt k s.data.toList))) ∧ k ≤ cnt s.data.toList ∧ wr.ownsRow w.heap.size 21 1 v k (cells ((lets s.data.toList).take k)) ∧ Below w.heap.size w wr) (fun t _ _ => strLen t)
  case atStart => exact ⟨0, by rw [byt_zero, List.drop_zero, mk_self], Nat.zero_le _, World.ownsRow_nil _ _ _ _, Below.refl _ _⟩
  case round =>
    obtain ⟨k, rfl, hk, hown, hnx⟩ := hrel
    have hsz0 := sz s
    have hcl := cnt_len s.data.toList
    rw [sz] at hcl
    by_cases hlt : k < cnt s.data.toList
    · have hb := byt_lt hlt
      rw [sz] at hb
      have hlast := Lib.hid (letter_at s.data.toList k hlt)
      have htk := Lib.hid (take_cells hlt)
      have hsu := Lib.hid (byt_succ k s.data.toList (byt_lt hlt))
      have hbl := byt_le (k + 1) s.data.toList
      rw [hsu.out, sz] at hbl
      have hlen : Hid ((s.data.toList.drop (byt k s.data.toList)).length = s.size - byt k s.data.toList) := by show _ = _; rw [List.length_drop, sz]
      have hne : s.data.toList.drop (byt k s.data.toList) ≠ [] := by
        intro e
        have h3 := congrArg List.length e
        rw [hlen.out, List.length_nil] at h3
        omega
      have hd := mk_empty_ne hne
      have hpos := dl_pos (s.data.toList.drop (byt k s.data.toList))
      have hll : (s.data.toList.drop (byt k s.data.toList)).length ≤ s.size := by rw [hlen.out]; omega
      have hl0 : 0 < (s.data.toList.drop (byt k s.data.toList)).length := by rw [hlen.out]; omega
      have hle := dl_le _ hne
      have hdd : Hid (∀ n, (s.data.toList.drop (byt k s.data.toList)).drop n = s.data.toList.drop (byt k s.data.toList + n)) := fun n => List.drop_drop ..
      generalize hL : s.data.toList.drop (byt k s.data.toList) = L at *
      replace hL := Lib.hid hL
      clear hne hsz0
      have hms : (mk L).size = L.length := mk_size L
      have hC : Hid (∀ w, Calls Tryz.prog 96 #[.string (mk L)] w fun e w' => e = .returned (.tuple #[.int .i64 (decodeL L).2, .int .i32 (decodeL L).1]) ∧ w = w') := fun w => by
        have := size_any (mk L) w (by rw [mk_size]; unfold maxLen; omega) (by rw [mk_size]; omega)
        rw [Let.mk_data] at this
        exact this
      have hx : ∀ n, (mk L).extract n L.length = mk (L.drop n) := fun n => by rw [← mk_size L, mk_ext]
      generalize hD : decodeL L = D at *
      replace hD := Lib.hid hD
      obtain ⟨r, n⟩ := D
      simp only at hC hle hpos hbl hsu hlast
      go_wp2_with (first
        | (go_at_call 96; refine (hC.out _).mono ?_; rintro e w' ⟨rfl, rfl⟩)
        | (at_builtin; refine wpList_append_own _ rfl _ _ 185 rfl w.heap.size 21 i0 (.int .i32 0) 1 4 Tryz.underlying185 hi hz0 hz1 hz2 rfl (by decide) _ _ _ rfl (hown.alloc _) ⟨wr.heap.size, 0, none⟩ 1 1 [.int .i32 r] rfl rfl ?c1 ?c2 ?c3 ?c4 ?c5 ?_))
      case c1 =>
        intro j u hj
        match j, hj with
        | 0, hj => simp at hj; subst hj; simp [Addr.add]
      case c2 => intro u hu; simp at hu; subst hu; rfl
      case c3 => unfold maxLen; omega
      case c4 => omega
      case c5 => have := hnx.size; simp; omega
      intro v' w1 hown' hgrow _
      have hbel : Below w.heap.size w w1 := (hnx.alloc hnx.size _).grown hgrow (by have := hnx.size; simp; omega) (fun j hj => by have := (hown.lt j hj).1; omega)
      clear hgrow hown
      go_wp2
      go_roundw
      case rel => exact ⟨k + 1, by rw [hsu.out, ← hdd.out], by omega, by rw [htk.out, hlast.out]; exact hown', hbel⟩
      case measure => rw [strLen_mk, strLen_mk, List.length_drop]; omega
    · have hke : k = cnt s.data.toList := by omega
      subst hke
      have hL : s.data.toList.drop (byt (cnt s.data.toList) s.data.toList) = [] := by rw [byt_cnt, List.drop_length]
      have hd : (mk (s.data.toList.drop (byt (cnt s.data.toList) s.data.toList))).toList.isEmpty = true := by rw [hL]; exact mk_empty_nil
      clear hL
      have htl : Hid ((lets s.data.toList).take (cnt s.data.toList) = lets s.data.toList) := List.take_length
      go_wp2
      go_ret
      rw [htl.out] at hown
      exact ⟨_, rfl, hown, hnx⟩

theorem owns_iterAt {w : World} {base : Nat} {e : TypeId} {size : Nat} {v : Value} {n : Nat} {xs : List Value} (h : w.ownsRow base e size v n xs) {k : Nat} {s : ByteArray} {p : Nat} (hk : w.heap[k]? = some (.stringIter s p)) (q : Nat) :
    (w.iterAt k s q).ownsRow base e size v n xs := by
  refine ⟨h.1, ?_⟩
  rcases h.2 with hn | ⟨g, cap, cur, hv, hbg, hg, rest⟩
  · exact .inl hn
  · have hkg : g ≠ k := by
      intro e1
      rw [e1, hk] at hg
      cases hg
    exact .inr ⟨g, cap, cur, hv, hbg, (iterAt_other w k g s q hkg).trans hg, rest⟩

/-- An append leaves an iterator where it stood. -/
theorem iter_kept {w w1 : World} {base : Nat} {e : TypeId} {size : Nat} {v : Value} {n : Nat} {xs : List Value} (h : w.ownsRow base e size v n xs) {k : Nat} {s : ByteArray} {p : Nat} (hk : w.heap[k]? = some (.stringIter s p)) {o : Obj}
    (hg : (w.alloc o).grownBy w1 v.ownBlock) : w1.heap[k]? = some (.stringIter s p) := by
  have hlt : k < w.heap.size := (Array.getElem?_eq_some_iff.1 hk).1
  rw [hg.block k (by simp; omega) ?_, Below.heap_alloc w o k hlt, hk]
  intro e1
  rcases h.2 with ⟨rfl, _⟩ | ⟨g, cap, cur, rfl, hbg, hg', rest⟩
  · cases e1
  · have e2 : k = g := Option.some.inj e1
    rw [e2, hg'] at hk
    cases hk

end Go.Proofs.YtccaiippoephbaaGreatDoor.Con
