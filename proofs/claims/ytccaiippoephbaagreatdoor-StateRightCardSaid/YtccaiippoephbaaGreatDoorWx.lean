/- Contracts of letters.Right, pieces, tree, New. -/
import Derived.Test.YtccaiippoephbaaGreatDoorWw
import Derived.Shelf.Unicode.DecodeSlow
import Derived.Lib.Small
import Derived.Lib.OthersKept
set_option maxRecDepth 100000
set_option linter.unusedVariables false
namespace Go.Proofs.YtccaiippoephbaaGreatDoor.Con
open Go.RowKit Go.Lib Go.Proofs.YtccaiippoephbaaGreatDoor.Let Go.Proofs.YtccaiippoephbaaGreatDoor.Tree

/-- The two tables of unicode/utf8 lie as the program lays them. -/
def Tabs (w : World) : Prop := Lib.Utf8Tabs (Tryz.lays196_ren.g 3) (Tryz.lays196_ren.g 4) w
theorem Tabs.below {w w' : World} (h : Tabs w) (hb : Below w.heap.size w w') : Tabs w' := Utf8Tabs_below h hb

theorem lright_any (s : ByteArray) (w : World) (hs : s.size ≤ maxLen) (hT : Tabs w) :
    Calls Tryz.prog 98 #[.string s] w fun e w' => e = .returned (.bool (right s.data.toList)) ∧ Below w.heap.size w w' := by
  have C : Hid (Calls Tryz.prog 113 #[.string s] w fun e w' => e = .returned (.bool (Lib.validD s.data.toList)) ∧ Below w.heap.size w w') := Any.utf8_ValidString Tryz.lays196 s w (by unfold maxLen at hs; omega) hT
  clear hT
  go_enter Tryz.func98, Tryz.ntmps98
  go_wp2_with fail
  refine C.out.mono ?_
  rintro e w1 ⟨rfl, hb⟩
  go_wp2_with fail
  go_ret
  exact ⟨rfl, hb⟩

theorem runeLen_N (n b0 b1 b2 b3 : Nat) (hok : ¬ ((decodeN n b0 b1 b2 b3).1 = 65533 ∧ (decodeN n b0 b1 b2 b3).2 = 1)) (h0 : b0 < 256) : Lib.runeLen ((decodeN n b0 b1 b2 b3).1 : Nat) = ((decodeN n b0 b1 b2 b3).2 : Nat) := by
  unfold decodeN at hok ⊢
  unfold Lib.runeLen
  by_cases a0 : b0 < 128
  · rw [if_pos a0]
    simp only
    repeat' split
    all_goals omega
  rw [if_neg a0] at hok ⊢
  by_cases a1 : b0 / 32 = 6 ∧ (1 < n ∧ b1 / 64 = 2)
  · rw [if_pos a1] at hok ⊢
    by_cases g : b0 % 32 * 64 + b1 % 64 ≥ 128
    · rw [if_pos g]
      simp only
      repeat' split
      all_goals omega
    · rw [if_neg g] at hok
      exact absurd ⟨rfl, rfl⟩ hok
  rw [if_neg a1] at hok ⊢
  by_cases a2 : b0 / 16 = 14 ∧ (1 < n ∧ b1 / 64 = 2) ∧ (2 < n ∧ b2 / 64 = 2)
  · rw [if_pos a2] at hok ⊢
    by_cases g : b0 % 16 * 4096 + b1 % 64 * 64 + b2 % 64 ≥ 2048 ∧ (b0 % 16 * 4096 + b1 % 64 * 64 + b2 % 64 < 55296 ∨ (57344 ≤ b0 % 16 * 4096 + b1 % 64 * 64 + b2 % 64 ∧ b0 % 16 * 4096 + b1 % 64 * 64 + b2 % 64 ≤ 1114111))
    · rw [if_pos g]
      simp only
      repeat' split
      all_goals omega
    · rw [if_neg g] at hok
      exact absurd ⟨rfl, rfl⟩ hok
  rw [if_neg a2] at hok ⊢
  by_cases a3 : b0 / 8 = 30 ∧ (1 < n ∧ b1 / 64 = 2) ∧ (2 < n ∧ b2 / 64 = 2) ∧ (3 < n ∧ b3 / 64 = 2)
  · rw [if_pos a3] at hok ⊢
    by_cases g : b0 % 8 * 262144 + b1 % 64 * 4096 + b2 % 64 * 64 + b3 % 64 ≥ 65536 ∧ (b0 % 8 * 262144 + b1 % 64 * 4096 + b2 % 64 * 64 + b3 % 64 < 55296 ∨ (57344 ≤ b0 % 8 * 262144 + b1 % 64 * 4096 + b2 % 64 * 64 + b3 % 64 ∧ b0 % 8 * 262144 + b1 % 64 * 4096 + b2 % 64 * 64 + b3 % 64 ≤ 1114111))
    · rw [if_pos g]
      simp only
      repeat' split
      all_goals omega
    · rw [if_neg g] at hok
      exact absurd ⟨rfl, rfl⟩ hok
  · rw [if_neg a3] at hok
    exact absurd ⟨rfl, rfl⟩ hok
theorem runeLen_L {l : List UInt8} (h : ¬ bad l) : Lib.runeLen ((decodeL l).1 : Nat) = ((decodeL l).2 : Nat) := by
  unfold bad at h
  rw [decodeL_N] at h ⊢
  exact runeLen_N _ _ _ _ _ h (UInt8.toNat_lt _)
theorem width4 (l : List UInt8) : (decodeL l).2 ≤ 4 := by
  rw [decodeL_N]
  unfold decodeN
  repeat' split
  all_goals simp only []
  all_goals omega
theorem good_at {l : List UInt8} (hr : right l = true) {k : Nat} (h : byt k l < l.length) : ¬ bad (l.drop (byt k l)) := by
  have hne : l.drop (byt k l) ≠ [] := by
    intro e
    have := congrArg List.length e
    rw [List.length_drop, List.length_nil] at this
    omega
  exact ((right_step _ hne).1 (right_drop k l hr)).1
theorem right_mid {l : List UInt8} (hr : right l = true) {j k : Nat} (hjk : j ≤ k) : right ((l.take (byt k l)).drop (byt j l)) = true := by
  obtain ⟨r1, c1⟩ := right_take k l hr
  by_cases h : j ≤ cnt l
  · have e := byt_app_left (l.drop (byt k l)) _ r1 j (by omega)
    rw [List.take_append_drop] at e
    rw [e]
    exact right_drop j _ r1
  · have e : byt j l = l.length := byt_all (by omega)
    rw [e, List.drop_eq_nil_of_le (by rw [List.length_take]; omega)]
    rfl

/-- The parts so far. -/
structure Pcs (L : List UInt8) (k j : Nat) (ps : List (List UInt8)) : Prop where
  jk : j ≤ k
  kc : k ≤ cnt L
  near : byt k L ≤ byt j L + 64
  flat : ps.flatten = L.take (byt j L)
  ok : ∀ p ∈ ps, okp p

theorem okp_len {ps : List (List UInt8)} (h : ∀ p ∈ ps, okp p) : ps.length ≤ ps.flatten.length := by
  induction ps with
  | nil => exact Nat.le_refl _
  | cons p r ih =>
    have h1 := ih (fun q hq => h q (List.mem_cons_of_mem _ hq))
    have h2 := List.length_pos_iff.2 (h p (List.mem_cons_self)).1
    simp only [List.flatten_cons, List.length_append, List.length_cons]
    omega
theorem Pcs.len {L : List UInt8} {k j : Nat} {ps : List (List UInt8)} (h : Pcs L k j ps) : ps.length ≤ L.length := by
  have := okp_len h.ok
  rw [h.flat, List.length_take] at this
  omega
theorem Pcs.go {L : List UInt8} {k j : Nat} {ps : List (List UInt8)} (h : Pcs L k j ps) (hk : k < cnt L) (hn : byt (k + 1) L ≤ byt j L + 64) : Pcs L (k + 1) j ps :=
  ⟨by have := h.jk; omega, hk, hn, h.flat, h.ok⟩
theorem Pcs.put {L : List UInt8} {k j : Nat} {ps : List (List UInt8)} (hr : right L = true) (h : Pcs L k j ps) (hk : k < cnt L) (hn : ¬ byt (k + 1) L ≤ byt j L + 64) :
    Pcs L (k + 1) k (ps ++ [(L.take (byt k L)).drop (byt j L)]) := by
  have h1 := byt_succ k L (byt_lt hk)
  have h4 := width4 (L.drop (byt k L))
  have hle := byt_le k L
  refine ⟨by omega, hk, by omega, ?_, ?_⟩
  · rw [List.flatten_append, h.flat]
    simp only [List.flatten_cons, List.flatten_nil, List.append_nil]
    have hj : byt j L ≤ byt k L := byt_mono h.jk L
    rw [show L.take (byt j L) = (L.take (byt k L)).take (byt j L) by rw [List.take_take, Nat.min_eq_left hj], List.take_append_drop]
  · intro p hp
    rw [List.mem_append] at hp
    rcases hp with hp | hp
    · exact h.ok p hp
    · rw [List.mem_singleton] at hp
      subst hp
      refine ⟨?_, ?_, right_mid hr h.jk⟩
      · intro e
        have := congrArg List.length e
        rw [List.length_drop, List.length_take, List.length_nil] at this
        omega
      · rw [List.length_drop, List.length_take]
        have := h.near
        omega
/-- All parts of a text. -/
structure Pall (L : List UInt8) (ps : List (List UInt8)) : Prop where
  flat : ps.flatten = L
  ok : ∀ p ∈ ps, okp p
theorem Pcs.fin {L : List UInt8} {j : Nat} {ps : List (List UInt8)} (h : Pcs L (cnt L) j ps) (he : ¬ byt j L < L.length) : Pall L ps := by
  have := byt_le j L
  refine ⟨?_, h.ok⟩
  rw [h.flat, show byt j L = L.length by omega, List.take_length]
theorem Pcs.last {L : List UInt8} {j : Nat} {ps : List (List UInt8)} (hr : right L = true) (h : Pcs L (cnt L) j ps) (he : byt j L < L.length) : Pall L (ps ++ [L.drop (byt j L)]) := by
  have hn := h.near
  rw [byt_cnt] at hn
  refine ⟨?_, ?_⟩
  · rw [List.flatten_append, h.flat]
    simp only [List.flatten_cons, List.flatten_nil, List.append_nil]
    rw [List.take_append_drop]
  · intro p hp
    rw [List.mem_append] at hp
    rcases hp with hp | hp
    · exact h.ok p hp
    · rw [List.mem_singleton] at hp
      subst hp
      refine ⟨?_, ?_, right_drop _ _ hr⟩
      · intro e
        have := congrArg List.length e
        rw [List.length_drop, List.length_nil] at this
        omega
      · rw [List.length_drop]
        omega
end Go.Proofs.YtccaiippoephbaaGreatDoor.Con
/- Contracts of pieces, tree, New and of. -/
set_option maxRecDepth 100000
set_option linter.unusedVariables false
namespace Go.Proofs.YtccaiippoephbaaGreatDoor.Con
open Go.RowKit Go.Lib Go.Proofs.YtccaiippoephbaaGreatDoor.Let Go.Proofs.YtccaiippoephbaaGreatDoor.Tree

def SomeParts (w : World) (L : List UInt8) (e : Ending) (w' : World) : Prop := ∃ u ps, e = .returned u ∧ Pall L ps ∧ w'.ownsRow w.heap.size 9 1 u ps.length (strs ps) ∧ Below w.heap.size w w'

set_option maxRecDepth 100000 in
set_option maxHeartbeats 1600000 in
theorem pieces_any (s : ByteArray) (w : World) (hs : s.size ≤ 1073741824) (hr : right s.data.toList = true) :
    Calls Tryz.prog 100 #[.string s] w (SomeParts w s.data.toList) := by
  obtain ⟨i0, hi, hz0, hz1, hz2⟩ := info_parts infoS
  have HR := Lib.hid hr
  clear hr
  go_enter Tryz.func100, Tryz.ntmps100
  go_wp2
  go_loopw [3, 4] (fun v f wr => ∃ k j ps, f = .int .i64 (byt j s.data.toList) ∧ wr.heap[w.heap.size]? = some (.stringIter s (byt k s.data.toList)) ∧ Pcs s.data.toList k j ps ∧ wr.ownsRow w.heap.size 9 1 v ps.length (strs ps) ∧ Below w.heap.size w wr) (fun _ _ wr => s.size - wr.iterPos w.heap.size)
  case atStart => exact ⟨0, 0, [], rfl, World.iter_heap _ _ _, ⟨Nat.le_refl _, Nat.zero_le _, by simp [byt_zero], by simp [byt_zero], by simp⟩, World.ownsRow_nil _ _ _ _, below_iter _ _ _⟩
  case round =>
    obtain ⟨k, j, ps, rfl, hit, hpc, hown, hnx⟩ := hrel
    have hi2 := byt_lt_iff k s.data.toList
    have hbb := byt_le k s.data.toList
    have hjk := byt_mono hpc.jk s.data.toList
    have hlen := hpc.len
    have hnear := hpc.near
    rw [sz] at hi2 hbb hlen
    have HP := Lib.hid hpc
    clear hpc
    by_cases hp : byt k s.data.toList < s.size
    · have hlt := hi2.1 hp
      have hnx1 : ∀ ty, (Instr.next (.pointer (some ⟨w.heap.size, 0, none⟩)) true ty).run Tryz.prog wr = _ := fun ty => run_next_any_at wr w.heap.size s _ ty hit hp
      have hwd := width_pos s (byt k s.data.toList)
      have hbn := Lib.hid (byt_next s k hp)
      have hd := Lib.hid (dec_at s (byt k s.data.toList))
      have hrl : Hid (Lib.runeLen ((Utf8.decode s (byt k s.data.toList)).1 : Nat) = ((Utf8.decode s (byt k s.data.toList)).2 : Nat)) := by
        show _ = _
        rw [dec_at]
        exact runeLen_L (good_at HR.out (by rw [sz]; exact hp))
      have hw4 : (Utf8.decode s (byt k s.data.toList)).2 ≤ 4 := by rw [dec_at]; exact width4 _
      have hit2 := Lib.hid (iterAt_heap wr w.heap.size s _ (byt k s.data.toList + (Utf8.decode s (byt k s.data.toList)).2) hit)
      have hown2 := owns_iterAt hown hit (byt k s.data.toList + (Utf8.decode s (byt k s.data.toList)).2)
      have hbel2 := below_iterAt hnx (Nat.le_refl _) s (byt k s.data.toList + (Utf8.decode s (byt k s.data.toList)).2)
      have hip := Lib.hid (iterPos_of hit)
      have hle2 := byt_le (k + 1) s.data.toList
      rw [sz] at hle2
      obtain ⟨W1, hW1⟩ : ∃ W1, wr.iterAt w.heap.size s (byt k s.data.toList + (Utf8.decode s (byt k s.data.toList)).2) = W1 := ⟨_, rfl⟩
      rw [hW1] at hnx1 hown2 hbel2 hit2
      replace hW1 := Lib.hid hW1
      have CR : Hid (∀ w, Calls Tryz.prog 117 #[.int .i32 (Utf8.decode s (byt k s.data.toList)).1] w fun e w' => e = .returned (.int .i64 (Utf8.decode s (byt k s.data.toList)).2) ∧ w = w') := fun w =>
        (Tryz.utf8_RuneLen (Utf8.decode s (byt k s.data.toList)).1 w).mono fun e w' h => ⟨by rw [h.1, hrl.out], h.2.symm⟩
      have hsum := hbn.out
      clear hi2 hit hown hnx hrl hd
      generalize hD : Utf8.decode s (byt k s.data.toList) = D at *
      replace hD := Lib.hid hD
      by_cases hbig : byt k s.data.toList + D.2 ≤ byt j s.data.toList + 64
      · have hnext : Hid (Pcs s.data.toList (k + 1) j ps) := HP.out.go hlt (by rw [← hsum]; exact hbig)
        have hsum' := Lib.hid hsum
        clear hsum
        go_wp2_with fail
        refine (CR.out _).mono ?_
        rintro e w2 ⟨rfl, rfl⟩
        go_wp2
        go_roundw
        case rel => exact ⟨k + 1, j, ps, rfl, by rw [hit2.out, hbn.out], hnext.out, hown2, hbel2⟩
        case measure => rw [hip.out, iterPos_of hit2.out]; omega
      · have hnext : Hid (Pcs s.data.toList (k + 1) k (ps ++ [(s.data.toList.take (byt k s.data.toList)).drop (byt j s.data.toList)])) := HP.out.put HR.out hlt (by rw [← hsum]; exact hbig)
        have hsum' := Lib.hid hsum
        have hx : s.extract (byt j s.data.toList) (byt k s.data.toList) = mk ((s.data.toList.take (byt k s.data.toList)).drop (byt j s.data.toList)) := mk_extract _ _ _
        clear hsum
        go_wp2_with fail
        refine (CR.out _).mono ?_
        rintro e w2 ⟨rfl, rfl⟩
        go_wp2_with (at_builtin; refine wpList_append_own _ rfl _ _ 164 rfl w.heap.size 9 i0 (.string ByteArray.empty) 1 16 Tryz.underlying164 hi hz0 hz1 hz2 rfl (by decide) _ _ _ rfl (hown2.alloc _) ⟨W1.heap.size, 0, none⟩ 1 1 [.string (mk ((s.data.toList.take (byt k s.data.toList)).drop (byt j s.data.toList)))] rfl rfl ?c1 ?c2 ?c3 ?c4 ?c5 ?_)
        case c1 =>
          intro j u hj
          match j, hj with
          | 0, hj => simp at hj; subst hj; simp [Addr.add]
        case c2 => intro u hu; simp at hu; subst hu; rfl
        case c3 => unfold maxLen; omega
        case c4 => omega
        case c5 => have := hbel2.size; simp; omega
        intro v' w2 hown' hgrow _
        have hit3 := Lib.hid (iter_kept hown2 hit2.out hgrow)
        have hbel : Below w.heap.size w w2 := (hbel2.alloc hbel2.size _).grown hgrow (by have := hbel2.size; simp; omega) (fun j hj => by have := (hown2.lt j hj).1; omega)
        have hown4 : Hid (w2.ownsRow w.heap.size 9 1 v' (ps ++ [(s.data.toList.take (byt k s.data.toList)).drop (byt j s.data.toList)]).length (strs (ps ++ [(s.data.toList.take (byt k s.data.toList)).drop (byt j s.data.toList)]))) := by
          show World.ownsRow _ _ _ _ _ _ _
          rw [strs_app, List.length_append]
          exact hown'
        clear hgrow hown2 hit2 hown'
        go_wp2
        go_roundw
        case rel => exact ⟨k + 1, k, _, rfl, by rw [hit3.out, hbn.out], hnext.out, hown4.out, hbel⟩
        case measure => rw [hip.out, iterPos_of hit3.out]; omega
    · have hnx1 : ∀ ty, (Instr.next (.pointer (some ⟨w.heap.size, 0, none⟩)) true ty).run Tryz.prog wr = _ := fun ty => run_next_end_at wr w.heap.size s _ ty hit hp
      have hke : ¬ k < cnt s.data.toList := fun h => hp (hi2.2 h)
      have hke2 : k = cnt s.data.toList := by have := HP.out.kc; omega
      subst hke2
      clear hi2 hit hke
      by_cases hend : byt j s.data.toList < s.size
      · have hfin : Hid (Pall s.data.toList (ps ++ [s.data.toList.drop (byt j s.data.toList)])) := HP.out.last HR.out (by rw [sz]; exact hend)
        have hx : s.extract (byt j s.data.toList) s.size = mk (s.data.toList.drop (byt j s.data.toList)) := by rw [mk_extract, ← sz s, List.take_length]
        go_wp2_with (at_builtin; refine wpList_append_own _ rfl _ _ 164 rfl w.heap.size 9 i0 (.string ByteArray.empty) 1 16 Tryz.underlying164 hi hz0 hz1 hz2 rfl (by decide) _ _ _ rfl (hown.alloc _) ⟨wr.heap.size, 0, none⟩ 1 1 [.string (mk (s.data.toList.drop (byt j s.data.toList)))] rfl rfl ?c1 ?c2 ?c3 ?c4 ?c5 ?_)
        case c1 =>
          intro j u hj
          match j, hj with
          | 0, hj => simp at hj; subst hj; simp [Addr.add]
        case c2 => intro u hu; simp at hu; subst hu; rfl
        case c3 => unfold maxLen; omega
        case c4 => omega
        case c5 => have := hnx.size; simp; omega
        intro v' w2 hown' hgrow _
        have hbel : Below w.heap.size w w2 := (hnx.alloc hnx.size _).grown hgrow (by have := hnx.size; simp; omega) (fun j hj => by have := (hown.lt j hj).1; omega)
        clear hgrow hown
        go_wp2
        go_ret
        refine ⟨_, _, rfl, hfin.out, ?_, hbel⟩
        rw [strs_app, List.length_append]
        exact hown'
      · have hfin : Hid (Pall s.data.toList ps) := HP.out.fin (by rw [sz]; exact hend)
        go_wp2
        go_ret
        exact ⟨_, _, rfl, hfin.out, hown, hnx⟩

/-- The tree of a list of parts. -/
def mkT (l : List (List UInt8)) : T :=
  if h : l.length = 0 then .nil
  else if h1 : l.length = 1 then .leaf (l.headD [])
  else .node (mkT (l.take (l.length / 2))) (mkT (l.drop (l.length / 2)))
termination_by l.length
decreasing_by
  · rw [List.length_take]; omega
  · rw [List.length_drop]; omega
theorem mkT_nil {l : List (List UInt8)} (h : l.length = 0) : mkT l = .nil := by rw [mkT, dif_pos h]
theorem mkT_one {l : List (List UInt8)} (h : l.length = 1) : mkT l = .leaf (l.headD []) := by rw [mkT, dif_neg (by omega), dif_pos h]
theorem mkT_two {l : List (List UInt8)} (h : 2 ≤ l.length) : mkT l = .node (mkT (l.take (l.length / 2))) (mkT (l.drop (l.length / 2))) := by rw [mkT, dif_neg (by omega), dif_neg (by omega)]

/-- The height of a tree of so many parts. -/
def hgt (n : Nat) : Nat := if h : n ≤ 1 then 0 else max (hgt (n / 2)) (hgt (n - n / 2)) + 1
termination_by n
decreasing_by all_goals omega
theorem hgt_one {n : Nat} (h : n ≤ 1) : hgt n = 0 := by rw [hgt, dif_pos h]
theorem hgt_two {n : Nat} (h : 2 ≤ n) : hgt n = max (hgt (n / 2)) (hgt (n - n / 2)) + 1 := by rw [hgt, dif_neg (by omega)]
theorem hgt_step : ∀ N n, n ≤ N → hgt n ≤ hgt (n + 1) ∧ hgt (n + 1) ≤ hgt n + 1 := by
  intro N
  induction N with
  | zero =>
    intro n hn
    rw [hgt_one (show n ≤ 1 by omega), hgt_one (show n + 1 ≤ 1 by omega)]
    omega
  | succ N ih =>
    intro n hn
    by_cases h1 : n ≤ 1
    · by_cases h0 : n + 1 ≤ 1
      · rw [hgt_one h1, hgt_one h0]
        omega
      · have : n = 1 := by omega
        subst this
        rw [hgt_two (show 2 ≤ 1 + 1 by omega), hgt_one (show 1 ≤ 1 by omega)]
        omega
    · rw [hgt_two (show 2 ≤ n by omega), hgt_two (show 2 ≤ n + 1 by omega)]
      have a := ih (n / 2) (by omega)
      by_cases hpar : n % 2 = 0
      · have e1 : (n + 1) / 2 = n / 2 := by omega
        have e2 : n + 1 - (n + 1) / 2 = n / 2 + 1 := by omega
        have e3 : n - n / 2 = n / 2 := by omega
        rw [e2, e1, e3]
        omega
      · have e1 : (n + 1) / 2 = n / 2 + 1 := by omega
        have e2 : n + 1 - (n + 1) / 2 = n / 2 + 1 := by omega
        have e3 : n - n / 2 = n / 2 + 1 := by omega
        rw [e2, e1, e3]
        omega
theorem mkT_ok : ∀ (n : Nat) {l : List (List UInt8)}, l.length ≤ n → (∀ p ∈ l, okp p) → (mkT l).txt = l.flatten ∧ (1 ≤ l.length → (mkT l).ok ∧ (mkT l).ht = hgt l.length) := by
  intro n
  induction n with
  | zero =>
    intro l hn hl
    have : l = [] := List.eq_nil_of_length_eq_zero (by omega)
    subst this
    rw [mkT_nil rfl]
    exact ⟨rfl, fun h => absurd h (by simp)⟩
  | succ n ih =>
    intro l hn hl
    by_cases h0 : l.length = 0
    · have : l = [] := List.eq_nil_of_length_eq_zero h0
      subst this
      rw [mkT_nil rfl]
      exact ⟨rfl, fun h => absurd h (by simp)⟩
    by_cases h1 : l.length = 1
    · obtain ⟨p, rfl⟩ := List.length_eq_one_iff.1 h1
      rw [mkT_one h1]
      refine ⟨by simp [T.txt], fun _ => ⟨hl p (by simp), ?_⟩⟩
      rw [h1, hgt_one (Nat.le_refl 1)]
      rfl
    · have ha := ih (l := l.take (l.length / 2)) (by rw [List.length_take]; omega) (fun p hp => hl p (List.mem_of_mem_take hp))
      have hb := ih (l := l.drop (l.length / 2)) (by rw [List.length_drop]; omega) (fun p hp => hl p (List.mem_of_mem_drop hp))
      have la : (l.take (l.length / 2)).length = l.length / 2 := by rw [List.length_take]; omega
      have lb : (l.drop (l.length / 2)).length = l.length - l.length / 2 := by rw [List.length_drop]
      obtain ⟨a1, a2⟩ := ha
      obtain ⟨b1, b2⟩ := hb
      rw [la] at a2
      rw [lb] at b2
      obtain ⟨a3, a4⟩ := a2 (by omega)
      obtain ⟨b3, b4⟩ := b2 (by omega)
      rw [mkT_two (by omega)]
      have hs := hgt_step (l.length / 2) (l.length / 2) (Nat.le_refl _)
      have hlr : hgt (l.length / 2) ≤ hgt (l.length - l.length / 2) ∧ hgt (l.length - l.length / 2) ≤ hgt (l.length / 2) + 1 := by
        by_cases hpar : l.length % 2 = 0
        · rw [show l.length - l.length / 2 = l.length / 2 by omega]
          omega
        · rw [show l.length - l.length / 2 = l.length / 2 + 1 by omega]
          exact hs
      refine ⟨?_, fun _ => ⟨⟨a3, b3, by omega, by omega⟩, ?_⟩⟩
      · show (mkT _).txt ++ (mkT _).txt = _
        rw [a1, b1, ← List.flatten_append, List.take_append_drop]
      · show max _ _ + 1 = _
        rw [a4, b4, hgt_two (n := l.length) (by omega)]
theorem mkT_okn {l : List (List UInt8)} (hl : ∀ p ∈ l, okp p) : (mkT l).okn ∧ (mkT l).txt = l.flatten := by
  obtain ⟨h1, h2⟩ := mkT_ok l.length (Nat.le_refl _) hl
  refine ⟨?_, h1⟩
  by_cases h0 : l.length = 0
  · rw [mkT_nil h0]
    exact .inl rfl
  · exact .inr (h2 (by omega)).1

theorem Row.take {w : World} {b off cap : Nat} {xs : List Value} {n : Nat} (h : Row w (.slice (some ⟨b, off, none⟩) xs.length cap) xs) (hb : b < w.heap.size) (hn : n ≤ xs.length) : Row w (.slice (some ⟨b, off, none⟩) n cap) (xs.take n) := by
  obtain ⟨a, c, e, h1, h2, h3⟩ := h
  injection e with e1 e2 e3
  subst e1 e3
  have hl : (xs.take n).length = n := by rw [List.length_take]; omega
  refine ⟨_, _, by rw [hl], by omega, h2, ?_⟩
  rcases h3 with h | ⟨b', off', e, hlt, hc⟩
  · exact .inl (by rw [h]; simp)
  · refine .inr ⟨b', off', e, hlt, fun j hj => ?_⟩
    rw [hc j (by omega)]
    simp
theorem Row.drop {w : World} {b off cap : Nat} {xs : List Value} {n : Nat} (h : Row w (.slice (some ⟨b, off, none⟩) xs.length cap) xs) (hb : b < w.heap.size) (hn : n ≤ xs.length) : Row w (.slice (some ⟨b, off + n, none⟩) (xs.length - n) (cap - n)) (xs.drop n) := by
  obtain ⟨a, c, e, h1, h2, h3⟩ := h
  injection e with e1 e2 e3
  subst e1 e3
  have hl : (xs.drop n).length = xs.length - n := by rw [List.length_drop]
  refine ⟨_, _, by rw [hl], by omega, by omega, ?_⟩
  rcases h3 with h | ⟨b', off', e, hlt, hc⟩
  · exact .inl (by rw [h]; simp)
  · injection e with e
    injection e with e1 e2
    subst e1 e2
    refine .inr ⟨b, off + n, rfl, hlt, fun j hj => ?_⟩
    rw [show off + n + j = off + (n + j) by omega, hc (n + j) (by omega)]
    simp
theorem strs_take (l : List (List UInt8)) (n : Nat) : strs (l.take n) = (strs l).take n := by simp [strs, List.map_take]
theorem strs_drop (l : List (List UInt8)) (n : Nat) : strs (l.drop n) = (strs l).drop n := by simp [strs, List.map_drop]

theorem clone_any (l : List UInt8) (w : World) (h : l.length ≤ 1073741824) : Calls Tryz.prog 115 #[.string (mk l)] w fun e w' => e = .returned (.string (mk l)) ∧ Below w.heap.size w w' := by
  have C : Hid (∀ w, Calls Tryz.prog 143 #[.string (mk l)] w fun e w' => e = .returned (.string (mk l)) ∧ Below w.heap.size w w') := fun w => Tryz.stringslite_Clone (mk l) w (by rw [mk_size]; omega)
  go_enter Tryz.func115, Tryz.ntmps115
  go_wp2_with fail
  refine (C.out _).mono ?_
  rintro e w1 ⟨rfl, hb⟩
  go_wp2_with fail
  go_ret
  exact ⟨rfl, hb⟩

theorem flat_take (l : List (List UInt8)) (n : Nat) : (l.take n).flatten.length + (l.drop n).flatten.length = l.flatten.length := by
  rw [← List.length_append, ← List.flatten_append, List.take_append_drop]

set_option maxRecDepth 100000 in
set_option maxHeartbeats 1600000 in
theorem tree_any : ∀ (n : Nat) {l : List (List UInt8)} {v : Value} (w : World), l.length ≤ n → Row w v (strs l) → (∀ p ∈ l, okp p) → l.flatten.length ≤ 1073741824 →
    Calls Tryz.prog 99 #[v] w (Made w (mkT l)) := by
  intro n
  induction n with
  | zero =>
    intro l v w hn hrow hl hby
    have e0 : l = [] := List.eq_nil_of_length_eq_zero (by omega)
    subst e0
    rw [mkT_nil rfl]
    obtain ⟨a, cap, rfl, h1, h2, h3⟩ := hrow
    change Calls Tryz.prog 99 #[.slice a 0 cap] w (Made w .nil)
    clear h1 h2 h3 hl hby hn
    go_enter Tryz.func99, Tryz.ntmps99
    go_wp2_with fail
    go_ret
    exact ⟨_, rfl, rfl, Below.refl _ _⟩
  | succ n ih =>
    intro l v w hn hrow hl hby
    by_cases h0 : l.length = 0
    · have e0 : l = [] := List.eq_nil_of_length_eq_zero h0
      subst e0
      rw [mkT_nil rfl]
      obtain ⟨a, cap, rfl, h1, h2, h3⟩ := hrow
      change Calls Tryz.prog 99 #[.slice a 0 cap] w (Made w .nil)
      clear h0 h1 h2 h3 hl hby hn ih
      go_enter Tryz.func99, Tryz.ntmps99
      go_wp2_with fail
      go_ret
      exact ⟨_, rfl, rfl, Below.refl _ _⟩
    by_cases h1 : l.length = 1
    · obtain ⟨p, rfl⟩ := List.length_eq_one_iff.1 h1
      rw [mkT_one h1]
      obtain ⟨a, cap, rfl, g1, g2, g3⟩ := hrow
      have hp := hl p (by simp)
      rcases g3 with h | ⟨b, off, rfl, hlt, hc⟩
      · simp [strs] at h
      have c0 : w.cell? ⟨b, off, none⟩ = some (.string (mk p)) := hc 0 (by simp [strs])
      change Calls Tryz.prog 99 #[.slice (some ⟨b, off, none⟩) 1 cap] w (Made w (.leaf p))
      have hpl : p.length ≤ 1073741824 := by have := hp.2.1; omega
      have C2 : Hid (p.length ≤ maxLen) := by show _ ≤ _; unfold maxLen; omega
      have g1' : 1 ≤ cap := g1
      clear h0 h1 hc hl hby hn ih g1
      unfold maxLen at g2
      go_enter Tryz.func99, Tryz.ntmps99
      go_wp2_with fail
      refine (clone_any p _ hpl).mono ?_
      rintro e w1 ⟨rfl, hb⟩
      go_wp2_with fail
      refine (leaf_mk p _ C2.out).mono ?_
      rintro e w2 ⟨v2, rfl, hr, hb2⟩
      go_wp2_with fail
      go_ret
      exact ⟨_, rfl, hr, below_more hb hb2⟩
    · rw [mkT_two (by omega)]
      obtain ⟨a, cap, rfl, g1, g2, g3⟩ := hrow
      rcases g3 with h | ⟨b, off, rfl, hlt, hc⟩
      · have := congrArg List.length h
        rw [strs_len, List.length_nil] at this
        omega
      have hrow : Row w (.slice (some ⟨b, off, none⟩) (strs l).length cap) (strs l) := ⟨_, _, rfl, g1, g2, .inr ⟨b, off, rfl, hlt, hc⟩⟩
      obtain ⟨h, hh⟩ : ∃ h : Nat, h = l.length / 2 := ⟨_, rfl⟩
      have r1 := hrow.take hlt (n := h) (by rw [strs_len]; omega)
      have r2 := hrow.drop hlt (n := h) (by rw [strs_len]; omega)
      rw [← strs_take] at r1
      rw [← strs_drop, strs_len] at r2
      rw [← hh]
      have fl := flat_take l h
      obtain ⟨o1, t1⟩ := mkT_okn (l := l.take h) (fun p hp => hl p (List.mem_of_mem_take hp))
      obtain ⟨o2, t2⟩ := mkT_okn (l := l.drop h) (fun p hp => hl p (List.mem_of_mem_drop hp))
      have k1 : (mkT (l.take h)).ok := ((mkT_ok _ (Nat.le_refl _) (fun p hp => hl p (List.mem_of_mem_take hp))).2 (by rw [List.length_take]; omega)).1
      have k2 : (mkT (l.drop h)).ok := ((mkT_ok _ (Nat.le_refl _) (fun p hp => hl p (List.mem_of_mem_drop hp))).2 (by rw [List.length_drop]; omega)).1
      have I1 : Hid (∀ w, Row w (.slice (some ⟨b, off, none⟩) h cap) (strs (l.take h)) → Calls Tryz.prog 99 #[.slice (some ⟨b, off, none⟩) h cap] w (Made w (mkT (l.take h)))) := fun w r => ih w (by rw [List.length_take]; omega) r (fun p hp => hl p (List.mem_of_mem_take hp)) (by omega)
      have I2 : Hid (∀ w, Row w (.slice (some ⟨b, off + h, none⟩) (l.length - h) (cap - h)) (strs (l.drop h)) → Calls Tryz.prog 99 #[.slice (some ⟨b, off + h, none⟩) (l.length - h : Nat) (cap - h)] w (Made w (mkT (l.drop h)))) := fun w r => ih w (by rw [List.length_drop]; omega) r (fun p hp => hl p (List.mem_of_mem_drop hp)) (by omega)
      have B1 : Hid ((mkT (l.take h)).by + (mkT (l.drop h)).by ≤ 1073741824) := by show _ ≤ _; rw [T.by_txt, T.by_txt, t1, t2]; omega
      have R1 := Lib.hid r1
      have R2 := Lib.hid r2
      rw [strs_len] at g1 ⊢
      have e2 : (l.length : Int) / 2 = (h : Int) := by omega
      have q1 : (0 : Int) ≤ (h : Int) := by omega
      have q2 : (h : Int) ≤ (l.length : Int) := by omega
      have q3 : (l.length : Int) ≤ (cap : Int) := by omega
      have q4 : (h : Int) ≤ (cap : Int) := by omega
      have q5 : ¬ cap = h := by omega
      have z0 : ((l.length : Int) == 0) = false := by rw [beq_eq_false_iff_ne]; omega
      have z1 : ((l.length : Int) == 1) = false := by rw [beq_eq_false_iff_ne]; omega
      have hD : Hid (∀ n, Below w.heap.size w (w.drewN n)) := fun n => below_drews (Below.refl _ _) n
      have z2 : 2 ≤ l.length := by omega
      have z3 : Hid (h = l.length / 2) := hh
      clear h0 h1 hc hl hby hn ih hrow r1 r2 hh fl o1 o2 t1 t2
      unfold maxLen at g2
      generalize l.length = m at *
      go_enter Tryz.func99, Tryz.ntmps99
      go_wp2_with fail
      go_region_held3 (fun w' => Below w.heap.size w w')
        (focus ((repeat first | assumption | exact hD.out _ | exact Below.refl _ _ | apply Below.drew | apply below_drews); done))
        (first
          | (go_at_call 99; (with_reducible refine (I1.out _ ?_).mono ?_); (focus (refine Row.below R1.out ?_ (Nat.le_refl _); (repeat first | assumption | exact hD.out _ | exact Below.refl _ _ | apply Below.drew | apply below_drews); done)); rintro e w1 ⟨v, rfl, hr, hb⟩; have hb1 := below_more (w := w) (by (repeat first | assumption | exact hD.out _ | exact Below.refl _ _ | apply Below.drew | apply below_drews)) hb)
          | (go_at_call 99; (with_reducible refine (I2.out _ ?_).mono ?_); (focus (refine Row.below R2.out ?_ (Nat.le_refl _); (repeat first | assumption | exact hD.out _ | exact Below.refl _ _ | apply Below.drew | apply below_drews); done)); rintro e w2 ⟨v2, rfl, hr2, hb2⟩; have hb3 := below_more (w := w) (by (repeat first | assumption | exact hD.out _ | exact Below.refl _ _ | apply Below.drew | apply below_drews)) hb2)
          | (go_at_call 116; (with_reducible refine (node_any _ (Rp.below hb2 (Nat.le_refl _) hr) hr2 k1 k2 B1.out).mono ?_); rintro e w4 ⟨v4, rfl, hr4, hb4⟩; have hb5 := below_more (w := w) (by (repeat first | assumption | exact hD.out _ | exact Below.refl _ _ | apply Below.drew | apply below_drews)) hb4))
      go_wp2_with fail
      go_ret
      exact ⟨_, rfl, hr4, hb5⟩
end Go.Proofs.YtccaiippoephbaaGreatDoor.Con
/- Contracts of New and of, of the reference's Count, Drop, Least, Laid; has. -/
set_option maxRecDepth 100000
set_option linter.unusedVariables false
namespace Go.Proofs.YtccaiippoephbaaGreatDoor.Con
open Go.RowKit Go.Lib Go.Proofs.YtccaiippoephbaaGreatDoor.Let Go.Proofs.YtccaiippoephbaaGreatDoor.Tree

/-- A rope that is this text. -/
def IsRope (w : World) (L : List UInt8) (v : Value) : Prop := ∃ t, Rp w t v ∧ t.okn ∧ t.txt = L
theorem IsRope.below {w w' : World} {L : List UInt8} {v : Value} (h : IsRope w L v) {B : Nat} (hb : Below B w w') (hB : w.heap.size ≤ B) : IsRope w' L v := by
  obtain ⟨t, h1, h2, h3⟩ := h
  exact ⟨t, Rp.below hb hB h1, h2, h3⟩
def NewYes (w : World) (L : List UInt8) (e : Ending) (w' : World) : Prop := ∃ v, e = .returned (.tuple #[v, .bool true]) ∧ IsRope w' L v ∧ Below w.heap.size w w'
set_option maxRecDepth 100000 in
set_option maxHeartbeats 400000 in
theorem new_yes (s : ByteArray) (w : World) (hs : s.size ≤ 1073741824) (hr : right s.data.toList = true) (hT : Tabs w) :
    Calls Tryz.prog 83 #[.string s] w (NewYes w s.data.toList) := by
  have C1 : Hid (Calls Tryz.prog 98 #[.string s] w fun e w' => e = .returned (.bool true) ∧ Below w.heap.size w w') := by
    have := lright_any s w (by unfold maxLen; omega) hT
    rw [hr] at this
    exact this
  have C2 : Hid (∀ w, Calls Tryz.prog 100 #[.string s] w (SomeParts w s.data.toList)) := fun w => pieces_any s w hs hr
  have hsz := sz s
  have HS : Hid (s.data.toList.length ≤ 1073741824) := by show _ ≤ _; omega
  clear hr hT hsz
  go_enter Tryz.func83, Tryz.ntmps83
  go_wp2_with fail
  refine C1.out.mono ?_
  rintro e w1 ⟨rfl, hb1⟩
  go_wp2_with fail
  refine (C2.out _).mono ?_
  rintro e w2 ⟨u, ps, rfl, hp, hown, hb2⟩
  have C3 : Hid (∀ w, Row w u (strs ps) → Calls Tryz.prog 99 #[u] w (Made w (mkT ps))) := fun w h => tree_any _ w (Nat.le_refl _) h hp.ok (by rw [hp.flat]; exact HS.out)
  have hrow := Lib.hid (Row.of_owns hown)
  have HP := Lib.hid hp
  clear hp hown
  go_wp2_with fail
  refine (C3.out _ hrow.out).mono ?_
  rintro e w3 ⟨v, rfl, hr3, hb3⟩
  go_wp2_with fail
  go_ret2
  obtain ⟨o, t⟩ := mkT_okn HP.out.ok
  exact ⟨_, rfl, ⟨_, hr3, o, by rw [t, HP.out.flat]⟩, below_more (below_more hb1 hb2) hb3⟩

set_option maxRecDepth 100000 in
set_option maxHeartbeats 400000 in
theorem new_no (s : ByteArray) (w : World) (hs : s.size ≤ 1073741824) (hr : right s.data.toList = false) (hT : Tabs w) :
    Calls Tryz.prog 83 #[.string s] w fun e w' => e = .returned (.tuple #[.pointer none, .bool false]) ∧ Below w.heap.size w w' := by
  have C1 : Hid (Calls Tryz.prog 98 #[.string s] w fun e w' => e = .returned (.bool false) ∧ Below w.heap.size w w') := by
    have := lright_any s w (by unfold maxLen; omega) hT
    rw [hr] at this
    exact this
  clear hr hT
  go_enter Tryz.func83, Tryz.ntmps83
  go_wp2_with fail
  refine C1.out.mono ?_
  rintro e w1 ⟨rfl, hb1⟩
  go_wp2_with fail
  go_ret2
  exact ⟨rfl, hb1⟩

set_option maxRecDepth 100000 in
theorem rcount_any (s : ByteArray) (w : World) (hs : s.size ≤ 1073741824) :
    Calls Tryz.prog 95 #[.string s] w fun e w' => e = .returned (.int .i64 (cnt s.data.toList)) ∧ Below w.heap.size w w' := by
  go_enter Tryz.func95, Tryz.ntmps95
  go_wp2_with fail
  refine (rletters_any s _ hs).mono ?_
  rintro e w1 ⟨v, rfl, hown, hb⟩
  obtain ⟨a, cap, rfl⟩ : ∃ a cap, v = .slice a (cnt s.data.toList) cap := by
    rcases hown.2 with ⟨hv, h0⟩ | ⟨g, cap, cur, hv, _⟩
    · refine ⟨none, 0, ?_⟩
      rw [hv]
      have h0' : cnt s.data.toList = 0 := h0
      rw [h0']
    · exact ⟨_, _, hv⟩
  clear hown
  go_wp2_with fail
  go_ret
  exact ⟨rfl, hb⟩

theorem flat_len (ps : List (List UInt8)) (k : Nat) : (ps.take k).flatten.length ≤ ps.flatten.length := by
  have := flat_take ps k
  omega
end Go.Proofs.YtccaiippoephbaaGreatDoor.Con
/- The ropes' contracts, said of texts. -/
set_option maxRecDepth 100000
set_option linter.unusedVariables false
namespace Go.Proofs.YtccaiippoephbaaGreatDoor.Con
open Go.RowKit Go.Lib Go.Proofs.YtccaiippoephbaaGreatDoor.Let Go.Proofs.YtccaiippoephbaaGreatDoor.Tree

theorem IsRope.by {w : World} {L : List UInt8} {v : Value} (h : IsRope w L v) : ∃ t, Rp w t v ∧ t.okn ∧ t.txt = L ∧ t.by = L.length := by
  obtain ⟨t, h1, h2, h3⟩ := h
  exact ⟨t, h1, h2, h3, by rw [T.by_txt, h3]⟩

theorem nil_is (w : World) : IsRope w [] (.pointer none) := ⟨.nil, rfl, .inl rfl, rfl⟩

theorem put_len (x : List UInt8) (a : Int) (y : List UInt8) : (put x a y).length = x.length + y.length := by
  unfold put
  rw [List.length_append, List.length_append, List.length_take, List.length_drop]
  have := byt_le a.toNat x
  omega

end Go.Proofs.YtccaiippoephbaaGreatDoor.Con
