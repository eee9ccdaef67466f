/- Contracts of both Letters, and of Same. -/
import Derived.Test.YtihcifcigeijlaaWalkD
import Derived.Test.YtihcifcigeijlaaRow
import Derived.Laws.MakeOwn
import Derived.Lib.OthersKept
import Derived.Deep.QuietTactic
import Derived.BigQuiet
set_option linter.unusedVariables false
namespace Go.Proofs.Ytihcifcigeijlaa.Con
open Go.RowKit Go.Lib Go.Proofs.Ytihcifcigeijlaa.Let

theorem info32 : (Try.prog.info? 21).map (fun i => (i.zero, i.size, i.bytes)) = some (some (.int .i32 0), 1, 4) := by kernel_rfl

/-- Letters as cells. -/
def cells (l : List Nat) : List Value := l.map fun r : Nat => Value.int .i32 (r : Int)
theorem cells_len (l : List Nat) : (cells l).length = l.length := by simp [cells]
theorem cells_get (l : List Nat) (j : Nat) (h : j < (cells l).length) : (cells l)[j] = .int .i32 (l[j]'(by rw [cells_len] at h; exact h)) := by simp [cells]

theorem take_cells {l : List Nat} {k : Nat} (h : k < l.length) : cells (l.take (k + 1)) = cells (l.take k) ++ [.int .i32 (l[k])] := by
  unfold cells
  rw [List.take_succ_eq_append_getElem h, List.map_append]
  rfl

/-- Letter number k is what is decoded at its place. -/
theorem letter_at (l : List UInt8) (k : Nat) (h : k < cnt l) : (lets l)[k]'h = (decodeL (l.drop (byt k l))).1 := by
  have h1 := lets_drop k l
  have h2 : l.drop (byt k l) ≠ [] := by
    intro e
    have := byt_lt h
    have h3 := congrArg List.length e
    rw [List.length_drop, List.length_nil] at h3
    omega
  rw [lets_step _ h2] at h1
  have h3 : ((lets l).drop k)[0]? = some (decodeL (l.drop (byt k l))).1 := by rw [← h1]; rfl
  rw [List.getElem?_drop, Nat.add_zero, List.getElem?_eq_getElem h] at h3
  exact Option.some.inj h3


set_option maxRecDepth 100000 in
set_option maxHeartbeats 800000 in
theorem rletters_any (s : ByteArray) (w : World) (hs : s.size ≤ 1073741824) :
    Calls Try.prog 10 #[.string s] w fun e w' => ∃ v, e = .returned v ∧ w'.ownsRow w.heap.size 21 1 v (lets s.data.toList).length (cells (lets s.data.toList)) ∧ Below w.heap.size w w' := by
  obtain ⟨i0, hi, hz0, hz1, hz2⟩ := info_parts info32
  go_enter Try.func10, Try.ntmps10
  go_wp2
  go_loopw [0, 3] (fun t v wr => ∃ k : Nat, t = .string (mk (s.data.toList.drop (byt k s.data.toList))) ∧ k ≤ cnt s.data.toList ∧ wr.ownsRow w.heap.size 21 1 v k (cells ((lets s.data.toList).take k)) ∧ Below w.heap.size w wr) (fun t _ _ => strLen t)
  case atStart => exact ⟨0, by rw [byt_zero, List.drop_zero, mk_self], Nat.zero_le _, World.ownsRow_nil _ _ _ _, Below.refl _ _⟩
  case round =>
    obtain ⟨k, rfl, hk, hown, hnx⟩ := hrel
    have hsz0 := sz s
    have hcl := cnt_len s.data.toList
    rw [sz] at hcl
    by_cases hlt : k < cnt s.data.toList
    · have hb := byt_lt hlt
      rw [sz] at hb
      have hlast := Lib.hid (letter_at s.data.toList k hlt)
      have htk := Lib.hid (take_cells hlt)
      have hsu := Lib.hid (byt_succ k s.data.toList (byt_lt hlt))
      have hbl := byt_le (k + 1) s.data.toList
      rw [hsu.out, sz] at hbl
      have hlen : Hid ((s.data.toList.drop (byt k s.data.toList)).length = s.size - byt k s.data.toList) := by show _ = _; rw [List.length_drop, sz]
      have hne : s.data.toList.drop (byt k s.data.toList) ≠ [] := by
        intro e
        have h3 := congrArg List.length e
        rw [hlen.out, List.length_nil] at h3
        omega
      have hd := mk_empty_ne hne
      have hpos := dl_pos (s.data.toList.drop (byt k s.data.toList))
      have hll : (s.data.toList.drop (byt k s.data.toList)).length ≤ s.size := by rw [hlen.out]; omega
      have hl0 : 0 < (s.data.toList.drop (byt k s.data.toList)).length := by rw [hlen.out]; omega
      have hle := dl_le _ hne
      have hdd : Hid (∀ n, (s.data.toList.drop (byt k s.data.toList)).drop n = s.data.toList.drop (byt k s.data.toList + n)) := fun n => List.drop_drop ..
      generalize hL : s.data.toList.drop (byt k s.data.toList) = L at *
      replace hL := Lib.hid hL
      clear hne hsz0
      have hms : (mk L).size = L.length := mk_size L
      have hC : Hid (∀ w, Calls Try.prog 20 #[.string (mk L)] w fun e w' => e = .returned (.tuple #[.int .i64 (decodeL L).2, .int .i32 (decodeL L).1]) ∧ w = w') := fun w => by
        have := size_any (mk L) w (by rw [mk_size]; unfold maxLen; omega) (by rw [mk_size]; omega)
        rw [Let.mk_data] at this
        exact this
      have hx : ∀ n, (mk L).extract n L.length = mk (L.drop n) := fun n => by rw [← mk_size L, mk_ext]
      generalize hD : decodeL L = D at *
      replace hD := Lib.hid hD
      obtain ⟨r, n⟩ := D
      simp only at hC hle hpos hbl hsu hlast
      go_wp2_with (first
        | (go_at_call 20; refine (hC.out _).mono ?_; rintro e w' ⟨rfl, rfl⟩)
        | (at_builtin; refine wpList_append_own _ rfl _ _ 22 rfl w.heap.size 21 i0 (.int .i32 0) 1 4 Try.underlying22 hi hz0 hz1 hz2 rfl (by decide) _ _ _ rfl (hown.alloc _) ⟨wr.heap.size, 0, none⟩ 1 1 [.int .i32 r] rfl rfl ?c1 ?c2 ?c3 ?c4 ?c5 ?_))
      case c1 =>
        intro j u hj
        match j, hj with
        | 0, hj => simp at hj; subst hj; simp [Addr.add]
      case c2 => intro u hu; simp at hu; subst hu; rfl
      case c3 => unfold maxLen; omega
      case c4 => omega
      case c5 => have := hnx.size; simp; omega
      intro v' w1 hown' hgrow _
      have hbel : Below w.heap.size w w1 := (hnx.alloc hnx.size _).grown hgrow (by have := hnx.size; simp; omega) (fun j hj => by have := (hown.lt j hj).1; omega)
      clear hgrow hown
      go_wp2
      go_roundw
      case rel => exact ⟨k + 1, by rw [hsu.out, ← hdd.out], by omega, by rw [htk.out, hlast.out]; exact hown', hbel⟩
      case measure => rw [strLen_mk, strLen_mk, List.length_drop]; omega
    · have hke : k = cnt s.data.toList := by omega
      subst hke
      have hL : s.data.toList.drop (byt (cnt s.data.toList) s.data.toList) = [] := by rw [byt_cnt, List.drop_length]
      have hd : (mk (s.data.toList.drop (byt (cnt s.data.toList) s.data.toList))).toList.isEmpty = true := by rw [hL]; exact mk_empty_nil
      clear hL
      have htl : Hid ((lets s.data.toList).take (cnt s.data.toList) = lets s.data.toList) := List.take_length
      go_wp2
      go_ret
      rw [htl.out] at hown
      exact ⟨_, rfl, hown, hnx⟩

theorem owns_iterAt {w : World} {base : Nat} {e : TypeId} {size : Nat} {v : Value} {n : Nat} {xs : List Value} (h : w.ownsRow base e size v n xs) {k : Nat} {s : ByteArray} {p : Nat} (hk : w.heap[k]? = some (.stringIter s p)) (q : Nat) :
    (w.iterAt k s q).ownsRow base e size v n xs := by
  refine ⟨h.1, ?_⟩
  rcases h.2 with hn | ⟨g, cap, cur, hv, hbg, hg, rest⟩
  · exact .inl hn
  · have hkg : g ≠ k := by
      intro e1
      rw [e1, hk] at hg
      cases hg
    exact .inr ⟨g, cap, cur, hv, hbg, (iterAt_other w k g s q hkg).trans hg, rest⟩

/-- An append leaves an iterator where it stood. -/
theorem iter_kept {w w1 : World} {base : Nat} {e : TypeId} {size : Nat} {v : Value} {n : Nat} {xs : List Value} (h : w.ownsRow base e size v n xs) {k : Nat} {s : ByteArray} {p : Nat} (hk : w.heap[k]? = some (.stringIter s p)) {o : Obj}
    (hg : (w.alloc o).grownBy w1 v.ownBlock) : w1.heap[k]? = some (.stringIter s p) := by
  have hlt : k < w.heap.size := (Array.getElem?_eq_some_iff.1 hk).1
  rw [hg.block k (by simp; omega) ?_, Below.heap_alloc w o k hlt, hk]
  intro e1
  rcases h.2 with ⟨rfl, _⟩ | ⟨g, cap, cur, rfl, hbg, hg', rest⟩
  · cases e1
  · have e2 : k = g := Option.some.inj e1
    rw [e2, hg'] at hk
    cases hk

set_option maxRecDepth 100000 in
set_option maxHeartbeats 800000 in
theorem letters_any (s : ByteArray) (w : World) (hs : s.size ≤ 1073741824) :
    Calls Try.prog 8 #[.string s] w fun e w' => ∃ v, e = .returned v ∧ w'.ownsRow w.heap.size 21 1 v (lets s.data.toList).length (cells (lets s.data.toList)) ∧ Below w.heap.size w w' := by
  obtain ⟨i0, hi, hz0, hz1, hz2⟩ := info_parts info32
  have hcl := cnt_len s.data.toList
  rw [sz] at hcl
  go_enter Try.func8, Try.ntmps8
  go_wp2_with fail
  refine (count_any s _ (by unfold maxLen; omega)).mono ?_
  rintro e w0 ⟨rfl, hb0⟩
  go_wp2_with (at_make; refine wpList_make_own _ rfl _ _ 22 rfl w.heap.size 21 i0 (.int .i32 0) 1 Try.underlying22 hi hz0 hz1 _ _ _ (cnt s.data.toList) rfl rfl rfl ?b2 ?b3 hb0.size ?_)
  case b2 => rw [hz2]; omega
  case b3 => unfold maxLen; omega
  intro w1 hown1 hgrow1
  have hb1 : Below w.heap.size w w1 := hb0.grown hgrow1 hb0.size (fun k h => by cases h)
  clear hgrow1 hb0
  obtain ⟨I, hI⟩ : ∃ I, w1.heap.size = I := ⟨_, rfl⟩
  go_wp2
  go_loopw [3] (fun v wr => ∃ k : Nat, wr.heap[I]? = some (.stringIter s (byt k s.data.toList)) ∧ k ≤ cnt s.data.toList ∧ wr.ownsRow w.heap.size 21 1 v k (cells ((lets s.data.toList).take k)) ∧ Below w.heap.size w wr) (fun _ wr => s.size - wr.iterPos I)
  case atStart => exact ⟨0, by rw [← hI]; exact World.iter_heap _ _ _, Nat.zero_le _, hown1.alloc _, hb1.alloc hb1.size _⟩
  case round =>
    obtain ⟨k, hit, hk, hown, hnx⟩ := hrel
    have hi2 := byt_lt_iff k s.data.toList
    have hbb := byt_le k s.data.toList
    rw [sz] at hi2 hbb
    have hbase : w.heap.size ≤ I := by rw [← hI]; exact hb1.size
    by_cases hp : byt k s.data.toList < s.size
    · have hlt := hi2.1 hp
      have hnx1 : ∀ ty, (Instr.next (.pointer (some ⟨I, 0, none⟩)) true ty).run Try.prog wr = _ := fun ty => run_next_any_at wr I s _ ty hit hp
      have hlast := Lib.hid (letter_at s.data.toList k hlt)
      have htk := Lib.hid (take_cells hlt)
      have hwd := width_pos s (byt k s.data.toList)
      have hbn := Lib.hid (byt_next s k hp)
      have hd := Lib.hid (dec_at s (byt k s.data.toList))
      have hit2 := Lib.hid (iterAt_heap wr I s _ (byt k s.data.toList + (Utf8.decode s (byt k s.data.toList)).2) hit)
      have hown2 := owns_iterAt hown hit (byt k s.data.toList + (Utf8.decode s (byt k s.data.toList)).2)
      have hbel2 := below_iterAt hnx hbase s (byt k s.data.toList + (Utf8.decode s (byt k s.data.toList)).2)
      have hip := Lib.hid (iterPos_of hit)
      obtain ⟨W1, hW1⟩ : ∃ W1, wr.iterAt I s (byt k s.data.toList + (Utf8.decode s (byt k s.data.toList)).2) = W1 := ⟨_, rfl⟩
      rw [hW1] at hnx1 hown2 hbel2 hit2
      replace hW1 := Lib.hid hW1
      clear hi2 hit hown hI
      go_wp2_with (at_builtin; refine wpList_append_own _ rfl _ _ 22 rfl w.heap.size 21 i0 (.int .i32 0) 1 4 Try.underlying22 hi hz0 hz1 hz2 rfl (by decide) _ _ _ rfl (hown2.alloc _) ⟨W1.heap.size, 0, none⟩ 1 1 [.int .i32 (Utf8.decode s (byt k s.data.toList)).1] rfl rfl ?c1 ?c2 ?c3 ?c4 ?c5 ?_)
      case c1 =>
        intro j u hj
        match j, hj with
        | 0, hj => simp at hj; subst hj; simp [Addr.add]
      case c2 => intro u hu; simp at hu; subst hu; rfl
      case c3 => unfold maxLen; omega
      case c4 => omega
      case c5 => have := hbel2.size; simp; omega
      intro v' w2 hown' hgrow _
      have hit3 := Lib.hid (iter_kept hown2 hit2.out hgrow)
      have hbel : Below w.heap.size w w2 := (hbel2.alloc hbel2.size _).grown hgrow (by have := hbel2.size; simp; omega) (fun j hj => by have := (hown2.lt j hj).1; omega)
      clear hgrow hown2 hit2
      go_wp2
      go_roundw
      case rel => exact ⟨k + 1, by rw [hit3.out, hbn.out], by omega, by rw [htk.out, hlast.out, ← hd.out]; exact hown', hbel⟩
      case measure => rw [hip.out, iterPos_of hit3.out]; omega
    · have hnx1 : ∀ ty, (Instr.next (.pointer (some ⟨I, 0, none⟩)) true ty).run Try.prog wr = _ := fun ty => run_next_end_at wr I s _ ty hit hp
      have hke : ¬ k < cnt s.data.toList := fun h => hp (hi2.2 h)
      have hke2 : k = cnt s.data.toList := by omega
      have htl : Hid ((lets s.data.toList).take (cnt s.data.toList) = lets s.data.toList) := List.take_length
      subst hke2
      clear hi2 hit hI
      go_wp2
      go_ret
      rw [htl.out] at hown
      exact ⟨_, rfl, hown, hnx⟩

theorem getD_of {l : List Nat} {k : Nat} (h : k < l.length) : l[k] = l.getD k 0 := by
  rw [List.getD_eq_getElem?_getD, List.getElem?_eq_getElem h, Option.getD_some]

set_option maxRecDepth 100000 in
set_option maxHeartbeats 400000 in
/-- The same letters: they are the same. -/
theorem same_yes (va vb : Value) (xs : List Nat) (w : World) (ha : Row w va (cells xs)) (hb : Row w vb (cells xs)) (hx : xs.length ≤ 1073741824) :
    Calls Try.prog 9 #[va, vb] w fun e w' => e = .returned (.bool true) ∧ Below w.heap.size w w' := by
  obtain ⟨a, ca, rfl, _, _, h3⟩ := ha
  obtain ⟨b, cb, rfl, _, _, h4⟩ := hb
  have ha' : ∀ k : Nat, k < xs.length → ∃ p o, a = some ⟨p, o, none⟩ ∧ w.cell? ⟨p, o + k, none⟩ = some (.int .i32 (xs.getD k 0 : Nat)) := fun k hk => by
    rcases h3 with h | ⟨p, o, rfl, _, h⟩
    · have := cells_len xs
      rw [h] at this
      simp at this
      omega
    · refine ⟨p, o, rfl, ?_⟩
      rw [h k (by rw [cells_len]; exact hk), cells_get, getD_of]
  have hb' : ∀ k : Nat, k < xs.length → ∃ p o, b = some ⟨p, o, none⟩ ∧ w.cell? ⟨p, o + k, none⟩ = some (.int .i32 (xs.getD k 0 : Nat)) := fun k hk => by
    rcases h4 with h | ⟨p, o, rfl, _, h⟩
    · have := cells_len xs
      rw [h] at this
      simp at this
      omega
    · refine ⟨p, o, rfl, ?_⟩
      rw [h k (by rw [cells_len]; exact hk), cells_get, getD_of]
  rw [cells_len]
  clear h3 h4
  replace ha' := Lib.hid ha'
  replace hb' := Lib.hid hb'
  generalize xs.length = n at *
  go_enter Try.func9, Try.ntmps9
  go_wp2
  go_loopw [5] (fun i wr => ∃ k d : Nat, i = .int .i64 k ∧ k ≤ n ∧ wr = w.drewN d) (fun i _ => n - (intOf i).toNat)
  case atStart => exact ⟨0, 0, rfl, Nat.zero_le _, rfl⟩
  case round =>
    obtain ⟨k, d, rfl, hk, rfl⟩ := hrel
    by_cases hlt : k < n
    · obtain ⟨p, o, rfl, hc1⟩ := ha'.out k hlt
      obtain ⟨p', o', rfl, hc2⟩ := hb'.out k hlt
      generalize ((xs.getD k 0 : Nat) : Int) = x at hc1 hc2
      go_wp2
      go_quiet (fail)
      go_wp2
      go_roundw
      case rel => exact ⟨k + 1, _, by go_num, by omega, rfl⟩
      case measure => simp [intOf]; omega
    · go_wp2
      go_ret
      exact ⟨rfl, below_drews (Below.refl _ _) _⟩
end Go.Proofs.Ytihcifcigeijlaa.Con
