/- Words: the program's reader: bytes, a number, a text, a bool; or a panic. -/
import Derived.Test.YthegkookfpnbeaaGs
import Derived.Test.YthegkookfpnbeaaShelf
import Derived.Defers
import Derived.Recover
import Derived.Laws.Pointers
import Derived.Laws.BitsLemmas
import Derived.Deep.RegionWith
import Derived.StillTailTactics
import Derived.Test.YthegkookfpnbeaaZo
set_option linter.unusedVariables false
set_option linter.unusedSimpArgs false
set_option maxRecDepth 100000
namespace Go.Proofs.Ythegkookfpnbeaa.Wds
open Go.RowKit Go.Lib Go.Proofs.Ythegkookfpnbeaa.Bx Go.Proofs.Ythegkookfpnbeaa.Frm

/-- The program's reader at block B. -/
def At1 (w : World) (B : Nat) (l : List UInt8) : Prop := w.heap[B]? = some (.cells #[.string (mkB l)] 101 (0, 0))
theorem At1.cell {w : World} {B : Nat} {l : List UInt8} (h : At1 w B l) : w.cell? ⟨B, 0, none⟩ = some (.string (mkB l)) ∧ B < w.heap.size ∧ w.frozen? ⟨B, 0, none⟩ = false := ⟨one_cell h, (Array.getElem?_eq_some_iff.1 h).1, free_at h⟩
theorem At1.below {w w' : World} {B : Nat} {l : List UInt8} (h : At1 w B l) (hb : Below w.heap.size w w') : At1 w' B l := (hb.block B h.cell.2.1).trans h
theorem At1.set {w : World} {B : Nat} {l : List UInt8} (h : At1 w B l) (l' : List UInt8) : At1 (w.setCell ⟨B, 0, none⟩ (.string (mkB l'))) B l' := set_block h
def unr : Value := .iface 130 (.agg #[])
/-- What a step of reading owes: what is read, or a panic. -/
def Got (w : World) (B : Nat) (x : Value) (r : Rd) : Ending → World → Prop := fun e w' => w.grownBy w' (some B) ∧ ((r.bad = false ∧ e = .returned x ∧ At1 w' B r.s) ∨ (r.bad = true ∧ e = .panicked [{ v := unr, recovered := false }]))
theorem hmi : ∀ (x : Value) (w : World), (Instr.makeInterface 130 x).run Try.prog w = .ok (.iface 130 x) w := fun x w => run_makeInterface _ _ _ (by kernel_rfl)
set_option maxHeartbeats 2000000 in
theorem giveup_any (B : Nat) (w : World) : Calls Try.prog 57 #[.pointer (some ⟨B, 0, none⟩)] w fun e w' => e = .panicked [{ v := unr, recovered := false }] ∧ w' = w := by
  have hmi := hmi
  go_enter Try.func57, Try.ntmps57
  go_wp2_with fail
  exact ⟨rfl, rfl, rfl⟩
set_option maxHeartbeats 8000000 in
theorem ptake_any {l : List UInt8} {B : Nat} {w : World} (h : At1 w B l) (n : Nat) (hn : n ≤ 65535) (hl : l.length ≤ 9223372036854775807) : Calls Try.prog 71 #[.pointer (some ⟨B, 0, none⟩), .int .i64 (n : Nat)] w (Got w B (.string (mkB (takeR ⟨l, false⟩ n).1)) (takeR ⟨l, false⟩ n).2) := by
  obtain ⟨c0, hB, f0⟩ := h.cell
  obtain ⟨m, hm⟩ : ∃ m, m = l.length := ⟨_, rfl⟩
  obtain ⟨s, hs⟩ : ∃ s, s = mkB l := ⟨_, rfl⟩
  have hsz : s.size = m := by rw [hs, mkB_size, hm]
  have hmi := hmi
  by_cases hbad : m < n
  · have e : takeR ⟨l, false⟩ n = (List.replicate n 0, ⟨l, true⟩) := by
      unfold takeR
      rw [if_pos (.inr (by rw [← hm]; exact hbad))]
    have g1 : (m : Int) < (n : Int) := by omega
    have g2 : decide ((m : Int) < (n : Int)) = true := decide_eq_true g1
    have FE : Hid (w.grownBy w (some B)) := grown_refl _ _
    have C := Lib.hid (giveup_any B w)
    rw [e]
    rw [← hs] at c0
    clear hs hm h e hl
    go_enter Try.func71, Try.ntmps71
    go_wp2_with fail
    refine C.out.mono ?_
    rintro e w1 ⟨rfl, rfl⟩
    clear C
    go_wp2_with fail
    exact ⟨rfl, FE.out, .inr ⟨rfl, rfl⟩⟩
  · have e : takeR ⟨l, false⟩ n = (l.take n, ⟨l.drop n, false⟩) := by
      unfold takeR
      rw [if_neg (by rw [← hm]; rintro (h | h); cases h; exact hbad h)]
    rw [e]
    have g1 : ¬ (m : Int) < (n : Int) := by omega
    have g2 : decide ((m : Int) < (n : Int)) = false := decide_eq_false g1
    obtain ⟨s1, hs1⟩ : ∃ s1, s1 = mkB (l.take n) := ⟨_, rfl⟩
    obtain ⟨s2, hs2⟩ : ∃ s2, s2 = mkB (l.drop n) := ⟨_, rfl⟩
    have XS1 : ∀ w, (Instr.slice 9 (.string s) none (some (.int .i64 (n : Nat))) none).run Try.prog w = .ok (.string s1) w := fun w => by
      rw [hs, hs1]
      exact slice_to w l (by omega)
    have XS2 : ∀ w, (Instr.slice 9 (.string s) (some (.int .i64 (n : Nat))) none none).run Try.prog w = .ok (.string s2) w := fun w => by
      rw [hs, hs2]
      exact slice_from w l (by omega)
    have n0 : (0 : Int) ≤ (n : Int) := by omega
    have nm : (n : Int) ≤ (m : Int) := by omega
    rw [← hs] at c0
    have HF : Hid (At1 (w.setCell ⟨B, 0, none⟩ (.string s2)) B (l.drop n)) := by
      rw [hs2]
      exact h.set _
    have HG : Hid (w.grownBy (w.setCell ⟨B, 0, none⟩ (.string s2)) (some B)) := grown_put (grown_refl _ _)
    rw [← hs1]
    clear hs hm hs1 hs2 h hl
    go_enter Try.func71, Try.ntmps71
    go_wp2_with fail
    go_ret
    exact ⟨HG.out, .inl ⟨rfl, rfl, HF.out⟩⟩
end Go.Proofs.Ythegkookfpnbeaa.Wds
/- Words: the program's reader: a byte, a number, a bool. -/
set_option linter.unusedVariables false
set_option linter.unusedSimpArgs false
set_option maxRecDepth 100000
namespace Go.Proofs.Ythegkookfpnbeaa.Wds
open Go.RowKit Go.Lib Go.Proofs.Ythegkookfpnbeaa.Bx Go.Proofs.Ythegkookfpnbeaa.Frm

set_option maxHeartbeats 8000000 in
theorem pbyte_rd {l : List UInt8} {B : Nat} {w : World} (h : At1 w B l) (hl : l.length ≤ 9223372036854775807) : Calls Try.prog 58 #[.pointer (some ⟨B, 0, none⟩)] w (Got w B (.int .i64 ((lenR ⟨l, false⟩).1 : Nat)) (lenR ⟨l, false⟩).2) := by
  have C := Lib.hid (ptake_any h 1 (by decide) hl)
  obtain ⟨t, ht⟩ : ∃ t, t = (takeR ⟨l, false⟩ 1).1 := ⟨_, rfl⟩
  obtain ⟨r1, hr1⟩ : ∃ r1, r1 = (takeR ⟨l, false⟩ 1).2 := ⟨_, rfl⟩
  have hlt : t.length = 1 := by rw [ht]; exact take_len _ _
  obtain ⟨x, hx⟩ : ∃ x, x = (t.getD 0 0).toNat := ⟨_, rfl⟩
  have HR : Hid ((lenR ⟨l, false⟩).1 = x ∧ (lenR ⟨l, false⟩).2 = r1) := ⟨by rw [hx, ht]; rfl, by rw [hr1]; rfl⟩
  have x8 : x < 256 := by rw [hx]; exact UInt8.toNat_lt _
  have XI : ∀ w, (Instr.index 9 (.string (mkB t)) (.int .i64 0)).run Try.prog w = .ok (.int .u8 (x : Nat)) w := fun w => by
    rw [hx]
    exact byte_run w t .i64 (i := 0) (by omega)
  rw [← ht, ← hr1] at C
  have hsz : (mkB t).size = 1 := by rw [mkB_size, hlt]
  rw [HR.out.1, HR.out.2]
  generalize mkB t = s at *
  clear ht hl h hx hlt hr1 HR
  go_enter Try.func58, Try.ntmps58
  go_wp2_with fail
  refine C.out.mono ?_
  rintro e w1 ⟨G, (⟨hb, rfl, K⟩ | ⟨hb, rfl⟩)⟩
  · have FE : Hid (Got w B (.int .i64 (x : Nat)) r1 (.returned (.int .i64 (x : Nat))) w1) := ⟨G, .inl ⟨hb, rfl, K⟩⟩
    clear G K hb C
    go_wp2_with fail
    go_ret
    exact FE.out
  · have FE : Hid (Got w B (.int .i64 (x : Nat)) r1 (.panicked [{ v := unr, recovered := false }]) w1) := ⟨G, .inr ⟨hb, rfl⟩⟩
    clear G hb C
    go_wp2_with fail
    exact ⟨rfl, FE.out⟩
set_option maxHeartbeats 8000000 in
theorem pbool_rd {l : List UInt8} {B : Nat} {w : World} (h : At1 w B l) (hl : l.length ≤ 9223372036854775807) : Calls Try.prog 74 #[.pointer (some ⟨B, 0, none⟩)] w (Got w B (.bool (flagR ⟨l, false⟩).1) (flagR ⟨l, false⟩).2) := by
  have C := Lib.hid (pbyte_rd h hl)
  obtain ⟨x, hx⟩ : ∃ x, x = (lenR ⟨l, false⟩).1 := ⟨_, rfl⟩
  obtain ⟨r1, hr1⟩ : ∃ r1, r1 = (lenR ⟨l, false⟩).2 := ⟨_, rfl⟩
  have HR : Hid ((flagR ⟨l, false⟩).1 = decide (x = 1) ∧ (flagR ⟨l, false⟩).2 = if 1 < x then ⟨r1.s, true⟩ else r1) := ⟨by rw [hx]; rfl, by rw [hx, hr1]; rfl⟩
  obtain ⟨y, hy⟩ : ∃ y, y = (flagR ⟨l, false⟩).1 := ⟨_, rfl⟩
  obtain ⟨r2, hr2⟩ : ∃ r2, r2 = (flagR ⟨l, false⟩).2 := ⟨_, rfl⟩
  rw [← hx, ← hr1] at C
  rw [← hy, ← hr2] at HR ⊢
  clear h hl hx hr1 hy hr2
  go_enter Try.func74, Try.ntmps74
  go_wp2_with fail
  refine C.out.mono ?_
  rintro e w1 ⟨G, (⟨hb, rfl, K⟩ | ⟨hb, rfl⟩)⟩
  · by_cases h1 : 1 < x
    · have q1 : (1 : Int) < (x : Int) := by omega
      have C2 := Lib.hid (giveup_any B w1)
      have FE : Hid (Got w B (.bool y) r2 (.panicked [{ v := unr, recovered := false }]) w1) := ⟨G, .inr ⟨by rw [HR.out.2, if_pos h1], rfl⟩⟩
      clear G K hb C
      go_wp2_with fail
      refine C2.out.mono ?_
      rintro e w2 ⟨rfl, rfl⟩
      clear C2
      go_wp2_with fail
      exact ⟨rfl, FE.out⟩
    · have q1 : ¬ (1 : Int) < (x : Int) := by omega
      have FE : Hid (Got w B (.bool y) r2 (.returned (.bool ((x : Int) == 1))) w1) := by
        show Got _ _ _ _ _ _
        rw [HR.out.1, HR.out.2, if_neg h1]
        exact ⟨G, .inl ⟨hb, by congr 2; rw [show ((x : Int) == 1) = decide ((x : Int) = 1) from rfl]; exact decide_eq_decide.2 (by omega), K⟩⟩
      clear G K hb C
      go_wp2_with fail
      all_goals exact bodyPost_ret (v := .bool ((x : Int) == 1)) (by simp [results, Try.results74, go_sem]) rfl FE.out
  · have FE : Hid (Got w B (.bool y) r2 (.panicked [{ v := unr, recovered := false }]) w1) := ⟨G, .inr ⟨by rw [HR.out.2]; split; rfl; exact hb, rfl⟩⟩
    clear G hb C
    go_wp2_with fail
    exact ⟨rfl, FE.out⟩
set_option maxHeartbeats 8000000 in
theorem pnum_rd {l : List UInt8} {B : Nat} {w : World} (h : At1 w B l) (hl : l.length ≤ 9223372036854775807) : Calls Try.prog 60 #[.pointer (some ⟨B, 0, none⟩)] w (Got w B (.int .i64 (numR ⟨l, false⟩).1) (numR ⟨l, false⟩).2) := by
  have C := Lib.hid (ptake_any h 8 (by decide) hl)
  obtain ⟨t, ht⟩ : ∃ t, t = (takeR ⟨l, false⟩ 8).1 := ⟨_, rfl⟩
  obtain ⟨r1, hr1⟩ : ∃ r1, r1 = (takeR ⟨l, false⟩ 8).2 := ⟨_, rfl⟩
  have hlt : t.length = 8 := by rw [ht]; exact take_len _ _
  have HR : Hid ((numR ⟨l, false⟩).1 = back (valN t) ∧ (numR ⟨l, false⟩).2 = r1) := ⟨by rw [ht]; rfl, by rw [hr1]; rfl⟩
  rw [← ht, ← hr1] at C
  rw [HR.out.1, HR.out.2]
  obtain ⟨s, hs⟩ : ∃ s, s = mkB t := ⟨_, rfl⟩
  have HS : Hid (s = mkB t ∧ t.length = 8) := ⟨hs, hlt⟩
  have hsz : s.size = 8 := by rw [hs, mkB_size, hlt]
  rw [← hs] at C
  clear ht hl hs h hlt hr1 HR
  go_enter Try.func60, Try.ntmps60
  go_wp2_with fail
  refine C.out.mono ?_
  rintro e w1 ⟨G, (⟨hb, rfl, K⟩ | ⟨hb, rfl⟩)⟩
  · have FN : Hid (∀ x, x = back (valN t) → Got w B (.int .i64 (back (valN t))) r1 (.returned (.int .i64 x)) w1) := fun x hx => ⟨G, .inl ⟨hb, by rw [hx], K⟩⟩
    clear G K hb C
    go_wp2_with fail
    go_loopg [4, 10] 8 (fun g n_ i_ wr => wr = w1 ∧ ∃ (i : Nat), i ≤ 8 ∧ 8 - i ≤ g ∧ i_ = .int .i64 i ∧ n_ = .int .u64 (valN (t.take i) : Nat))
    case atStart => exact ⟨rfl, 0, by omega, by omega, rfl, rfl⟩
    case round =>
      obtain ⟨rfl, i, hi, hg, rfl, rfl⟩ := hrel
      by_cases hi8 : i < 8
      · have iw : ((i : Nat) : Int) < 8 := by omega
        have n0 : (0 : Int) ≤ (i : Int) := by omega
        obtain ⟨y, hy⟩ : ∃ y : UInt8, y = t.getD i 0 := ⟨_, rfl⟩
        have XI : ∀ w, (Instr.index 9 (.string s) (.int .i64 (i : Nat))).run Try.prog w = .ok (.int .u8 (y.toNat : Nat)) w := fun w => by
          rw [HS.out.1, hy]
          exact byte_run w t .i64 (by rw [HS.out.2]; exact hi8)
        obtain ⟨a, ha⟩ : ∃ a, a = valN (t.take i) := ⟨_, rfl⟩
        have hb : Hid (valN (t.take (i + 1)) = a * 256 + y.toNat) := by show _ = _; rw [ha, hy]; exact val_next (by rw [HS.out.2]; exact hi8)
        have y8 : y.toNat < 256 := y.toNat_lt
        have hlt : a * 256 + y.toNat < 18446744073709551616 := by
          rw [← hb.out]
          have h1 := val_lt (i + 1) (t.take (i + 1)) (by rw [List.length_take, HS.out.2]; omega)
          exact Nat.lt_of_lt_of_le h1 (Nat.le_trans (Nat.pow_le_pow_right (by decide) (show i + 1 ≤ 8 by omega)) (by decide))
        rw [← ha]
        clear ha hy
        generalize y.toNat = x at *
        have hor : bits .or .u64 ((a : Int) * 256) (x : Int) = ((a * 256 + x : Nat) : Int) := by
          rw [bits_join .u64 64 (by decide) (fun n h0 h1 => IntWalk.u64_in n (by omega)) 8 _ _ (by omega) (by omega) (by omega) (by omega) (by omega) (by omega)]
          omega
        have hw1 : IntKind.u64.wrap ((a : Int) * 256) = (a : Int) * 256 := IntWalk.u64_in _ (by omega)
        have hw2 : IntKind.u64.wrap (x : Int) = (x : Int) := IntWalk.u64_in _ (by omega)
        go_wp2_with fail
        go_roundg (8 - (i + 1))
        case measure => omega
        case rel => exact ⟨rfl, i + 1, by omega, Nat.le_refl _, by go_num, by rw [hb.out]; go_num⟩
      · obtain rfl : i = 8 := by omega
        have iw : ¬ (((8 : Nat) : Int) < 8) := by omega
        have et : t.take 8 = t := List.take_of_length_le (by rw [HS.out.2]; exact Nat.le_refl _)
        rw [et]
        have WB := wrap_back (valN t)
        have FE := Lib.hid (FN.out _ rfl)
        generalize valN t = v at *
        generalize back v = z at *
        clear et FN
        go_wp2_with fail
        go_ret
        exact FE.out
  · have FE : Hid (Got w B (.int .i64 (back (valN t))) r1 (.panicked [{ v := unr, recovered := false }]) w1) := ⟨G, .inr ⟨hb, rfl⟩⟩
    clear G hb C
    go_wp2_with fail
    exact ⟨rfl, FE.out⟩
end Go.Proofs.Ythegkookfpnbeaa.Wds
/- Words: the program's reader: a text. -/
set_option linter.unusedVariables false
set_option linter.unusedSimpArgs false
set_option maxRecDepth 100000
namespace Go.Proofs.Ythegkookfpnbeaa.Wds
open Go.RowKit Go.Lib Go.Proofs.Ythegkookfpnbeaa.Bx Go.Proofs.Ythegkookfpnbeaa.Frm

theorem still_tail {P : Program} {id : Nat} {Q : Exit → Act → World → Prop} {a : Act} {w : World} {l : List Oper} (n : Nat) (hm : P.follows .mixedOrders = true) (hB : Region.lexTailB .any l.toArray n = true)
    (h : wpStill P l.toArray w.drew (fun a' => wpList P l.toArray Q (l.drop n) a' w.drew) (l.take n) a) : (Code.region id l.toArray true).wp P Q a w := wp_region_still_tail n hm hB h
set_option maxHeartbeats 2000000 in
theorem clone_any (s : ByteArray) (w : World) (h : s.size ≤ 281474976710656) : Calls Try.prog 72 #[.string s] w fun e w' => e = .returned (.string s) ∧ Below w.heap.size w w' := by
  have C := Lib.hid (Try.stringslite_Clone s w h)
  clear h
  go_enter Try.func72, Try.ntmps72
  go_wp2_with fail
  refine C.out.mono ?_
  rintro e w1 ⟨rfl, b1⟩
  go_wp2_with fail
  go_ret
  exact ⟨rfl, b1⟩
theorem Got.below {w w1 w2 : World} {B : Nat} {r : Rd} (g : w.grownBy w1 (some B)) (hb : r.bad = false) (k : At1 w1 B r.s) (x : Value) (b : Below w1.heap.size w1 w2) : Got w B x r (.returned x) w2 := ⟨grown_below g b, .inl ⟨hb, rfl, k.below b⟩⟩
theorem still_all {P : Program} {id : Nat} {Q : Exit → Act → World → Prop} {a : Act} {w : World} {l : List Oper} (hm : P.follows .mixedOrders = true) (hB : Region.lexB .any l.toArray = true)
    (h : wpStill P l.toArray w.drew (fun a' => Q .normal a' w.drew) l a) : (Code.region id l.toArray true).wp P Q a w := wp_region_still_lit hm hB h
/-- A length in two bytes, read. -/
def pairR (r : Rd) : Nat × Rd := (hd (takeR r 2).1, (takeR r 2).2)
theorem text_pair (r : Rd) : textR r = if (pairR r).2.bad = true ∨ (pairR r).2.s.length < (pairR r).1 then ([], ⟨(pairR r).2.s, true⟩) else takeR (pairR r).2 (pairR r).1 := rfl
theorem pair_le (l : List UInt8) (hl : l.length ≤ 9223372036854775807) : (pairR ⟨l, false⟩).2.s.length ≤ 9223372036854775807 := by
  unfold pairR takeR
  split
  · exact hl
  · show (l.drop 2).length ≤ _
    rw [List.length_drop]; omega
theorem pair_lt (r : Rd) : (pairR r).1 ≤ 65535 := by
  unfold pairR hd
  have h1 := UInt8.toNat_lt ((takeR r 2).1.getD 0 0)
  have h2 := UInt8.toNat_lt ((takeR r 2).1.getD 1 0)
  show _ * 256 + _ ≤ 65535
  omega
set_option maxHeartbeats 8000000 in
theorem ppair_rd {l : List UInt8} {B : Nat} {w : World} (h : At1 w B l) (hl : l.length ≤ 9223372036854775807) : Calls Try.prog 73 #[.pointer (some ⟨B, 0, none⟩)] w (Got w B (.int .i64 ((pairR ⟨l, false⟩).1 : Nat)) (pairR ⟨l, false⟩).2) := by
  have C := Lib.hid (ptake_any h 2 (by decide) hl)
  obtain ⟨t, ht⟩ : ∃ t, t = (takeR ⟨l, false⟩ 2).1 := ⟨_, rfl⟩
  obtain ⟨r1, hr1⟩ : ∃ r1, r1 = (takeR ⟨l, false⟩ 2).2 := ⟨_, rfl⟩
  have hlt : t.length = 2 := by rw [ht]; exact take_len _ _
  have hr1l : r1.s.length ≤ 9223372036854775807 := by
    rw [hr1]
    unfold takeR
    split
    · exact hl
    · show (l.drop 2).length ≤ _
      rw [List.length_drop]; omega
  obtain ⟨x, hx⟩ : ∃ x, x = (t.getD 0 0).toNat := ⟨_, rfl⟩
  obtain ⟨y, hy⟩ : ∃ y, y = (t.getD 1 0).toNat := ⟨_, rfl⟩
  obtain ⟨n, hn⟩ : ∃ n, n = hd t := ⟨_, rfl⟩
  have HR : Hid ((pairR ⟨l, false⟩).1 = n ∧ (pairR ⟨l, false⟩).2 = r1) := ⟨by rw [hn, ht]; rfl, by rw [hr1]; rfl⟩
  have x8 : x < 256 := by rw [hx]; exact UInt8.toNat_lt _
  have y8 : y < 256 := by rw [hy]; exact UInt8.toNat_lt _
  have hxy : x * 256 + y = n := by rw [hn, hx, hy]; rfl
  have hxi : bits .or .i64 ((x : Int) * 256) (y : Int) = (n : Nat) := by
    rw [bits_join .i64 16 (by decide) (fun n h0 h1 => IntWalk.i64_in n (by omega)) 8 _ _ (by omega) (by omega) (by omega) (by omega) (by omega) (by omega)]
    omega
  have XI0 : ∀ w, (Instr.index 9 (.string (mkB t)) (.int .i64 0)).run Try.prog w = .ok (.int .u8 (x : Nat)) w := fun w => by
    rw [hx]
    exact byte_run w t .i64 (i := 0) (by omega)
  have XI1 : ∀ w, (Instr.index 9 (.string (mkB t)) (.int .i64 1)).run Try.prog w = .ok (.int .u8 (y : Nat)) w := fun w => by
    rw [hy]
    exact byte_run w t .i64 (i := 1) (by omega)
  rw [← ht, ← hr1] at C
  rw [HR.out.1, HR.out.2]
  have hsz : (mkB t).size = 2 := by rw [mkB_size, hlt]
  generalize mkB t = s at *
  clear ht hlt h hx hy hr1 hn HR hr1l hl
  go_enter Try.func73, Try.ntmps73
  go_wp2_with fail
  refine C.out.mono ?_
  rintro e w1 ⟨G, (⟨hb, rfl, K⟩ | ⟨hb, rfl⟩)⟩
  · have FE : Hid (∀ w2, w2 = w1.drew → Got w B (.int .i64 (n : Nat)) r1 (.returned (.int .i64 (n : Nat))) w2) := fun w2 e => by
      subst e
      exact ⟨grown_below G (Below.drew (Below.refl _ _)), .inl ⟨hb, rfl, K⟩⟩
    clear G K hb C
    have w1x : IntKind.i64.wrap (x : Int) = (x : Int) := IntWalk.i64_in _ (by omega)
    have w2x : IntKind.i64.wrap ((x : Int) * 256) = (x : Int) * 256 := IntWalk.i64_in _ (by omega)
    have w3x : IntKind.i64.wrap (y : Int) = (y : Int) := IntWalk.i64_in _ (by omega)
    go_wp2_with fail
    refine still_all (by kernel_rfl) (by kernel_rfl) ?_
    have FE2 := Lib.hid (FE.out _ rfl)
    clear FE
    generalize w1.drew = w2 at FE2 ⊢
    repeat still_step
    refine wpStill_nil ?_
    clear w1x w2x w3x hxi XI0 XI1
    go_wp2_with fail
    go_ret
    exact FE2.out
  · have FE : Hid (Got w B (.int .i64 (n : Nat)) r1 (.panicked [{ v := unr, recovered := false }]) w1) := ⟨G, .inr ⟨hb, rfl⟩⟩
    clear G hb C
    go_wp2_with fail
    exact ⟨rfl, FE.out⟩
set_option maxHeartbeats 8000000 in
theorem ptext_rd {l : List UInt8} {B : Nat} {w : World} (h : At1 w B l) (hl : l.length ≤ 9223372036854775807) : Calls Try.prog 59 #[.pointer (some ⟨B, 0, none⟩)] w (Got w B (.string (mkB (textR ⟨l, false⟩).1)) (textR ⟨l, false⟩).2) := by
  have C := Lib.hid (ppair_rd h hl)
  obtain ⟨n, hn⟩ : ∃ n, n = (pairR ⟨l, false⟩).1 := ⟨_, rfl⟩
  obtain ⟨r1, hr1⟩ : ∃ r1, r1 = (pairR ⟨l, false⟩).2 := ⟨_, rfl⟩
  have hr1l : r1.s.length ≤ 9223372036854775807 := by rw [hr1]; exact pair_le l hl
  have hn6 : n ≤ 65535 := by rw [hn]; exact pair_lt _
  obtain ⟨T, hT⟩ : ∃ T, T = (textR ⟨l, false⟩).1 := ⟨_, rfl⟩
  obtain ⟨r2, hr2⟩ : ∃ r2, r2 = (textR ⟨l, false⟩).2 := ⟨_, rfl⟩
  have HR : Hid ((T, r2) = if r1.bad = true ∨ r1.s.length < n then ([], ⟨r1.s, true⟩) else takeR r1 n) := by
    show _ = _
    rw [hn, hr1, hT, hr2, ← text_pair]
  rw [← hn, ← hr1] at C
  rw [← hT, ← hr2]
  clear h hr1 hn hT hr2
  go_enter Try.func59, Try.ntmps59
  go_wp2_with fail
  refine C.out.mono ?_
  rintro e w1 ⟨G, (⟨hb, rfl, K⟩ | ⟨hb, rfl⟩)⟩
  · obtain ⟨l1, b1⟩ := r1
    obtain rfl : b1 = false := hb
    have CT : Hid (Calls Try.prog 71 #[.pointer (some ⟨B, 0, none⟩), .int .i64 (n : Nat)] w1 fun e w2 => (e = .returned (.string (mkB T)) ∧ (∀ w3, Below w2.heap.size w2 w3 → Got w B (.string (mkB T)) r2 (.returned (.string (mkB T))) w3)) ∨ (e = .panicked [{ v := unr, recovered := false }] ∧ Got w B (.string (mkB T)) r2 (.panicked [{ v := unr, recovered := false }]) w2)) := by
      have h := ptake_any (w := w1) K n hn6 hr1l
      refine h.mono ?_
      rintro e w2 ⟨G2, (⟨hb2, rfl, K2⟩ | ⟨hb2, rfl⟩)⟩
      · have hq : ¬ ((⟨l1, false⟩ : Rd).bad = true ∨ (⟨l1, false⟩ : Rd).s.length < n) := fun h9 => by
          have h8 : (takeR ⟨l1, false⟩ n).2.bad = true := by unfold takeR; rw [if_pos h9]
          rw [hb2] at h8; cases h8
        have e1 := HR.out
        rw [if_neg hq] at e1
        have e2 := congrArg Prod.fst e1
        have e3 := congrArg Prod.snd e1
        simp only at e2 e3
        rw [e2, e3]
        refine .inl ⟨rfl, fun w3 b3 => Got.below (grown_trans G G2) hb2 K2 _ b3⟩
      · have hq : ((⟨l1, false⟩ : Rd).bad = true ∨ (⟨l1, false⟩ : Rd).s.length < n) := by
          unfold takeR at hb2
          split at hb2
          · assumption
          · cases hb2
        have e1 := HR.out
        rw [if_pos hq] at e1
        have e3 := congrArg Prod.snd e1
        simp only at e3
        rw [e3]
        exact .inr ⟨rfl, grown_trans G G2, .inr ⟨rfl, rfl⟩⟩
    have CC : Hid (∀ w', Calls Try.prog 72 #[.string (mkB T)] w' fun e w'' => e = .returned (.string (mkB T)) ∧ Below w'.heap.size w' w'') := fun w' => clone_any _ w' (by
      rw [mkB_size]
      have e1 := congrArg Prod.fst HR.out
      simp only at e1
      rw [e1]
      split
      · exact Nat.zero_le _
      · rw [take_len]; omega)
    clear G K HR hr1l hl C
    generalize mkB T = u at *
    go_wp2_with fail
    refine CT.out.mono ?_
    rintro e w3 (⟨rfl, FE⟩ | ⟨rfl, FE⟩)
    · have FE' := Lib.hid FE
      clear FE CT
      go_wp2_with fail
      refine (CC.out _).mono ?_
      rintro e w4 ⟨rfl, b4⟩
      have FE2 := Lib.hid (FE'.out _ b4)
      clear FE' b4 CC
      go_wp2_with fail
      go_ret
      exact FE2.out
    · have FE' := Lib.hid FE
      clear FE CT
      go_wp2_with fail
      exact ⟨rfl, FE'.out⟩
  · have FE : Hid (Got w B (.string (mkB T)) r2 (.panicked [{ v := unr, recovered := false }]) w1) := ⟨G, .inr ⟨by
      have e1 := HR.out
      rw [if_pos (.inl hb)] at e1
      have e3 := congrArg Prod.snd e1
      simp only at e3
      rw [e3], rfl⟩⟩
    clear G hb C HR
    go_wp2_with fail
    exact ⟨rfl, FE.out⟩
end Go.Proofs.Ythegkookfpnbeaa.Wds
/- Words: the program's reader: what is asked. -/
set_option linter.unusedVariables false
set_option linter.unusedSimpArgs false
set_option maxRecDepth 100000
namespace Go.Proofs.Ythegkookfpnbeaa.Wds
open Go.RowKit Go.Lib Go.Proofs.Ythegkookfpnbeaa.Bx Go.Proofs.Ythegkookfpnbeaa.Frm

theorem region_pure {P : Program} {Q : Exit → Act → World → Prop} {id : Nat} {a : Act} {w : World} {l : List Oper} (hd tl : List Nat) (hm : P.follows .mixedOrders = true) (hB : (Region.noSelect l.toArray && Zo.orderB .any l.toArray tl hd (Array.replicate l.length false) && decide (hd.length + tl.length ≤ l.length)) = true)
    (hQ : ∀ d v c a w, Q (.panic c) (Act.put a d v) w → Q (.panic c) a w)
    (h : ∀ wd : World, Hid (wd = w.drew) → Zo.wpPure P l.toArray (fun a' => wpList P l.toArray Q (tl.filterMap fun i => l[i]?) a' wd) (hd.filterMap fun i => l[i]?) a) : (Code.region id l.toArray true).wp P Q a w := Zo.region_order hd tl hm hB hQ (h _ rfl)
theorem take_le (r : Rd) (n : Nat) : (takeR r n).2.s.length ≤ r.s.length := by
  unfold takeR
  split
  · exact Nat.le_refl _
  · show (r.s.drop n).length ≤ _
    rw [List.length_drop]; omega
theorem take_stuck (r : Rd) (n : Nat) (h : r.bad = true) : (takeR r n).2.bad = true := by unfold takeR; rw [if_pos (.inl h)]
theorem numR_le (r : Rd) : (numR r).2.s.length ≤ r.s.length := take_le r 8
theorem numR_stuck (r : Rd) (h : r.bad = true) : (numR r).2.bad = true := take_stuck r 8 h
theorem lenR_le (r : Rd) : (lenR r).2.s.length ≤ r.s.length := take_le r 1
theorem lenR_stuck (r : Rd) (h : r.bad = true) : (lenR r).2.bad = true := take_stuck r 1 h
theorem flagR_le (r : Rd) : (flagR r).2.s.length ≤ r.s.length := by
  unfold flagR
  simp only
  split
  · exact take_le r 1
  · exact take_le r 1
theorem flagR_stuck (r : Rd) (h : r.bad = true) : (flagR r).2.bad = true := by
  unfold flagR
  simp only
  split
  · rfl
  · exact take_stuck r 1 h
theorem textR_le (r : Rd) : (textR r).2.s.length ≤ r.s.length := by
  unfold textR
  split
  · exact take_le r 2
  · exact Nat.le_trans (take_le _ _) (take_le r 2)
theorem textR_stuck (r : Rd) (h : r.bad = true) : (textR r).2.bad = true := by
  unfold textR
  split
  · rfl
  · exact take_stuck _ _ (take_stuck r 2 h)
theorem rd_eta {r : Rd} (h : r.bad = false) : r = ⟨r.s, false⟩ := by cases r; simp only at h; rw [h]
theorem num_step {B : Nat} {r : Rd} {x : Int} {r' : Rd} {w : World} (hx : numR r = (x, r')) (hb : r.bad = false) (hl : r.s.length ≤ 9223372036854775807) (k : At1 w B r.s) : Calls Try.prog 60 #[.pointer (some ⟨B, 0, none⟩)] w (Got w B (.int .i64 x) r') := by
  have h := pnum_rd k hl
  rw [← rd_eta hb, hx] at h
  exact h
theorem text_step {B : Nat} {r : Rd} {x : List UInt8} {r' : Rd} {w : World} (hx : textR r = (x, r')) (hb : r.bad = false) (hl : r.s.length ≤ 9223372036854775807) (k : At1 w B r.s) : Calls Try.prog 59 #[.pointer (some ⟨B, 0, none⟩)] w (Got w B (.string (mkB x)) r') := by
  have h := ptext_rd k hl
  rw [← rd_eta hb, hx] at h
  exact h
theorem flag_step {B : Nat} {r : Rd} {x : Bool} {r' : Rd} {w : World} (hx : flagR r = (x, r')) (hb : r.bad = false) (hl : r.s.length ≤ 9223372036854775807) (k : At1 w B r.s) : Calls Try.prog 74 #[.pointer (some ⟨B, 0, none⟩)] w (Got w B (.bool x) r') := by
  have h := pbool_rd k hl
  rw [← rd_eta hb, hx] at h
  exact h
theorem len_step {B : Nat} {r : Rd} {x : Nat} {r' : Rd} {w : World} (hx : lenR r = (x, r')) (hb : r.bad = false) (hl : r.s.length ≤ 9223372036854775807) (k : At1 w B r.s) : Calls Try.prog 58 #[.pointer (some ⟨B, 0, none⟩)] w (Got w B (.int .i64 (x : Nat)) r') := by
  have h := pbyte_rd k hl
  rw [← rd_eta hb, hx] at h
  exact h
theorem num_le {r : Rd} {x : Int} {r' : Rd} {n : Nat} (hx : numR r = (x, r')) (hl : r.s.length ≤ n) : r'.s.length ≤ n := by have := numR_le r; rw [hx] at this; exact Nat.le_trans this hl
theorem text_le' {r : Rd} {x : List UInt8} {r' : Rd} {n : Nat} (hx : textR r = (x, r')) (hl : r.s.length ≤ n) : r'.s.length ≤ n := by have := textR_le r; rw [hx] at this; exact Nat.le_trans this hl
theorem flag_le {r : Rd} {x : Bool} {r' : Rd} {n : Nat} (hx : flagR r = (x, r')) (hl : r.s.length ≤ n) : r'.s.length ≤ n := by have := flagR_le r; rw [hx] at this; exact Nat.le_trans this hl
theorem len_le {r : Rd} {x : Nat} {r' : Rd} {n : Nat} (hx : lenR r = (x, r')) (hl : r.s.length ≤ n) : r'.s.length ≤ n := by have := lenR_le r; rw [hx] at this; exact Nat.le_trans this hl
theorem num_stuck {r : Rd} {x : Int} {r' : Rd} (hx : numR r = (x, r')) (h : r.bad = true) : r'.bad = true := by have := numR_stuck r h; rw [hx] at this; exact this
theorem text_stuck {r : Rd} {x : List UInt8} {r' : Rd} (hx : textR r = (x, r')) (h : r.bad = true) : r'.bad = true := by have := textR_stuck r h; rw [hx] at this; exact this
theorem flag_stuck {r : Rd} {x : Bool} {r' : Rd} (hx : flagR r = (x, r')) (h : r.bad = true) : r'.bad = true := by have := flagR_stuck r h; rw [hx] at this; exact this
theorem len_stuck {r : Rd} {x : Nat} {r' : Rd} (hx : lenR r = (x, r')) (h : r.bad = true) : r'.bad = true := by have := lenR_stuck r h; rw [hx] at this; exact this
set_option maxHeartbeats 4000000 in
theorem prd1 {B : Nat} {w : World} (r0 : Rd) (r1 : Rd) (r2 : Rd) (x1 : List UInt8) (x2 : List UInt8) (e1 : textR r0 = (x1, r1)) (e2 : textR r1 = (x2, r2)) (hb0 : r0.bad = false) (hl : r0.s.length ≤ 9223372036854775807) (h : At1 w B r0.s) : Calls Try.prog 61 #[.pointer (some ⟨B, 0, none⟩), .int .u8 1] w (Got w B (.iface 64 (.agg #[.string (mkB x1), .string (mkB x2)])) r2) := by
  have hmi : ∀ (x : Value) (w : World), (Instr.makeInterface 64 x).run Try.prog w = .ok (.iface 64 x) w := fun x w => run_makeInterface _ _ _ (by kernel_rfl)
  have l0 := hl
  have l1 := text_le' e1 l0
  have l2 := text_le' e2 l1
  have S2 : Hid (r2.bad = true → r2.bad = true) := fun h => h
  have S1 : Hid (r1.bad = true → r2.bad = true) := fun h => S2.out (text_stuck e2 h)
  have C1 : Hid (∀ w', r0.bad = false → At1 w' B r0.s → Calls Try.prog 59 #[.pointer (some ⟨B, 0, none⟩)] w' (Got w' B (.string (mkB x1)) r1)) := fun w' hb k => text_step e1 hb l0 k
  have C2 : Hid (∀ w', r1.bad = false → At1 w' B r1.s → Calls Try.prog 59 #[.pointer (some ⟨B, 0, none⟩)] w' (Got w' B (.string (mkB x2)) r2)) := fun w' hb k => text_step e2 hb l1 k
  have Q0 : Hid (∀ wd, wd = w.drew → r0.bad = false ∧ At1 wd B r0.s ∧ w.grownBy wd (some B)) := fun wd e => by subst e; exact ⟨hb0, h, grown_below (grown_refl _ _) (Below.drew (Below.refl _ _))⟩
  clear h hl hb0 l0 l1 l2 e1 e2
  generalize mkB x1 = y1 at *
  generalize mkB x2 = y2 at *
  go_enter Try.func61, Try.ntmps61
  go_upto_region 3 with fail
  refine region_pure [0, 1, 2, 4, 5, 6] [3, 7, 8, 9, 10] (by kernel_rfl) (by kernel_rfl) (fun d _ _ _ _ h => by cases d <;> exact h) (fun wd hwd => ?_)
  simp only [List.filterMap_cons, List.filterMap_nil, List.getElem?_cons_zero, List.getElem?_cons_succ]
  replace Q0 := Lib.hid (Q0.out wd hwd.out)
  clear hwd
  repeat (refine Zo.wpPure_step (fun K hK => ?_); go_simp; refine hK _ ?_; clear hK K)
  refine Zo.wpPure_nil ?_
  go_wp2_with fail
  refine (C1.out _ Q0.out.1 Q0.out.2.1).mono ?_
  rintro e w1 ⟨G, (⟨hb, rfl, K⟩ | ⟨hb, rfl⟩)⟩
  rotate_left
  · have FE : Hid (Got w B (.iface 64 (.agg #[.string y1, .string y2])) r2 (.panicked [{ v := unr, recovered := false }]) w1) := ⟨grown_trans Q0.out.2.2 G, .inr ⟨S1.out hb, rfl⟩⟩
    clear G hb
    go_wp2_with fail
    exact ⟨rfl, FE.out⟩
  have Q1 : Hid (r1.bad = false ∧ At1 w1 B r1.s ∧ w.grownBy w1 (some B)) := ⟨hb, K, grown_trans Q0.out.2.2 G⟩
  clear G hb K C1 Q0
  go_wp2_with fail
  refine (C2.out _ Q1.out.1 Q1.out.2.1).mono ?_
  rintro e w2 ⟨G, (⟨hb, rfl, K⟩ | ⟨hb, rfl⟩)⟩
  rotate_left
  · have FE : Hid (Got w B (.iface 64 (.agg #[.string y1, .string y2])) r2 (.panicked [{ v := unr, recovered := false }]) w2) := ⟨grown_trans Q1.out.2.2 G, .inr ⟨S2.out hb, rfl⟩⟩
    clear G hb
    go_wp2_with fail
    exact ⟨rfl, FE.out⟩
  have Q2 : Hid (r2.bad = false ∧ At1 w2 B r2.s ∧ w.grownBy w2 (some B)) := ⟨hb, K, grown_trans Q1.out.2.2 G⟩
  clear G hb K C2 Q1
  have FE : Hid (Got w B (.iface 64 (.agg #[.string y1, .string y2])) r2 (.returned (.iface 64 (.agg #[.string y1, .string y2]))) w2) := ⟨Q2.out.2.2, .inl ⟨Q2.out.1, rfl, Q2.out.2.1⟩⟩
  go_wp2_with fail
  all_goals exact bodyPost_ret (v := .iface 64 (.agg #[.string y1, .string y2])) (by simp [results, Try.results61, go_sem]) rfl FE.out
set_option maxHeartbeats 4000000 in
theorem prd2 {B : Nat} {w : World} (r0 : Rd)    (hb0 : r0.bad = false) (hl : r0.s.length ≤ 9223372036854775807) (h : At1 w B r0.s) : Calls Try.prog 61 #[.pointer (some ⟨B, 0, none⟩), .int .u8 2] w (Got w B (.iface 28 (.agg #[])) r0) := by
  have hmi : ∀ (x : Value) (w : World), (Instr.makeInterface 28 x).run Try.prog w = .ok (.iface 28 x) w := fun x w => run_makeInterface _ _ _ (by kernel_rfl)
  have FE : Hid (Got w B (.iface 28 (.agg #[])) r0 (.returned (.iface 28 (.agg #[]))) w) := ⟨grown_refl _ _, .inl ⟨hb0, rfl, h⟩⟩
  clear h hl hb0
  go_enter Try.func61, Try.ntmps61
  go_wp2_with fail
  all_goals exact bodyPost_ret (v := .iface 28 (.agg #[])) (by simp [results, Try.results61, go_sem]) rfl FE.out
set_option maxHeartbeats 4000000 in
theorem prd3 {B : Nat} {w : World} (r0 : Rd) (r1 : Rd) (x1 : Int) (e1 : numR r0 = (x1, r1)) (hb0 : r0.bad = false) (hl : r0.s.length ≤ 9223372036854775807) (h : At1 w B r0.s) : Calls Try.prog 61 #[.pointer (some ⟨B, 0, none⟩), .int .u8 3] w (Got w B (.iface 66 (.agg #[.int .i64 x1])) r1) := by
  have hmi : ∀ (x : Value) (w : World), (Instr.makeInterface 66 x).run Try.prog w = .ok (.iface 66 x) w := fun x w => run_makeInterface _ _ _ (by kernel_rfl)
  have l0 := hl
  have l1 := num_le e1 l0
  have S1 : Hid (r1.bad = true → r1.bad = true) := fun h => h
  have C1 : Hid (∀ w', r0.bad = false → At1 w' B r0.s → Calls Try.prog 60 #[.pointer (some ⟨B, 0, none⟩)] w' (Got w' B (.int .i64 x1) r1)) := fun w' hb k => num_step e1 hb l0 k
  have Q0 : Hid (r0.bad = false ∧ At1 w B r0.s ∧ w.grownBy w (some B)) := ⟨hb0, h, grown_refl _ _⟩
  clear h hl hb0 l0 l1 e1
  go_enter Try.func61, Try.ntmps61
  go_wp2_with fail
  refine (C1.out _ Q0.out.1 Q0.out.2.1).mono ?_
  rintro e w1 ⟨G, (⟨hb, rfl, K⟩ | ⟨hb, rfl⟩)⟩
  rotate_left
  · have FE : Hid (Got w B (.iface 66 (.agg #[.int .i64 x1])) r1 (.panicked [{ v := unr, recovered := false }]) w1) := ⟨grown_trans Q0.out.2.2 G, .inr ⟨S1.out hb, rfl⟩⟩
    clear G hb
    go_wp2_with fail
    exact ⟨rfl, FE.out⟩
  have Q1 : Hid (r1.bad = false ∧ At1 w1 B r1.s ∧ w.grownBy w1 (some B)) := ⟨hb, K, grown_trans Q0.out.2.2 G⟩
  clear G hb K C1 Q0
  have FE : Hid (Got w B (.iface 66 (.agg #[.int .i64 x1])) r1 (.returned (.iface 66 (.agg #[.int .i64 x1]))) w1) := ⟨Q1.out.2.2, .inl ⟨Q1.out.1, rfl, Q1.out.2.1⟩⟩
  go_wp2_with fail
  all_goals exact bodyPost_ret (v := .iface 66 (.agg #[.int .i64 x1])) (by simp [results, Try.results61, go_sem]) rfl FE.out
set_option maxHeartbeats 4000000 in
theorem prd4 {B : Nat} {w : World} (r0 : Rd) (r1 : Rd) (r2 : Rd) (r3 : Rd) (r4 : Rd) (x1 : Int) (x2 : Int) (x3 : Int) (x4 : List UInt8) (e1 : numR r0 = (x1, r1)) (e2 : numR r1 = (x2, r2)) (e3 : numR r2 = (x3, r3)) (e4 : textR r3 = (x4, r4)) (hb0 : r0.bad = false) (hl : r0.s.length ≤ 9223372036854775807) (h : At1 w B r0.s) : Calls Try.prog 61 #[.pointer (some ⟨B, 0, none⟩), .int .u8 4] w (Got w B (.iface 68 (.agg #[.int .i64 x1, .int .i64 x2, .int .i64 x3, .string (mkB x4)])) r4) := by
  have hmi : ∀ (x : Value) (w : World), (Instr.makeInterface 68 x).run Try.prog w = .ok (.iface 68 x) w := fun x w => run_makeInterface _ _ _ (by kernel_rfl)
  have l0 := hl
  have l1 := num_le e1 l0
  have l2 := num_le e2 l1
  have l3 := num_le e3 l2
  have l4 := text_le' e4 l3
  have S4 : Hid (r4.bad = true → r4.bad = true) := fun h => h
  have S3 : Hid (r3.bad = true → r4.bad = true) := fun h => S4.out (text_stuck e4 h)
  have S2 : Hid (r2.bad = true → r4.bad = true) := fun h => S3.out (num_stuck e3 h)
  have S1 : Hid (r1.bad = true → r4.bad = true) := fun h => S2.out (num_stuck e2 h)
  have C1 : Hid (∀ w', r0.bad = false → At1 w' B r0.s → Calls Try.prog 60 #[.pointer (some ⟨B, 0, none⟩)] w' (Got w' B (.int .i64 x1) r1)) := fun w' hb k => num_step e1 hb l0 k
  have C2 : Hid (∀ w', r1.bad = false → At1 w' B r1.s → Calls Try.prog 60 #[.pointer (some ⟨B, 0, none⟩)] w' (Got w' B (.int .i64 x2) r2)) := fun w' hb k => num_step e2 hb l1 k
  have C3 : Hid (∀ w', r2.bad = false → At1 w' B r2.s → Calls Try.prog 60 #[.pointer (some ⟨B, 0, none⟩)] w' (Got w' B (.int .i64 x3) r3)) := fun w' hb k => num_step e3 hb l2 k
  have C4 : Hid (∀ w', r3.bad = false → At1 w' B r3.s → Calls Try.prog 59 #[.pointer (some ⟨B, 0, none⟩)] w' (Got w' B (.string (mkB x4)) r4)) := fun w' hb k => text_step e4 hb l3 k
  have Q0 : Hid (∀ wd, wd = w.drew → r0.bad = false ∧ At1 wd B r0.s ∧ w.grownBy wd (some B)) := fun wd e => by subst e; exact ⟨hb0, h, grown_below (grown_refl _ _) (Below.drew (Below.refl _ _))⟩
  clear h hl hb0 l0 l1 l2 l3 l4 e1 e2 e3 e4
  generalize mkB x4 = y4 at *
  go_enter Try.func61, Try.ntmps61
  go_upto_region 9 with fail
  refine region_pure [0, 1, 2, 4, 5, 6, 8, 9, 10, 12, 13, 14] [3, 7, 11, 15, 16, 17, 18] (by kernel_rfl) (by kernel_rfl) (fun d _ _ _ _ h => by cases d <;> exact h) (fun wd hwd => ?_)
  simp only [List.filterMap_cons, List.filterMap_nil, List.getElem?_cons_zero, List.getElem?_cons_succ]
  replace Q0 := Lib.hid (Q0.out wd hwd.out)
  clear hwd
  repeat (refine Zo.wpPure_step (fun K hK => ?_); go_simp; refine hK _ ?_; clear hK K)
  refine Zo.wpPure_nil ?_
  go_wp2_with fail
  refine (C1.out _ Q0.out.1 Q0.out.2.1).mono ?_
  rintro e w1 ⟨G, (⟨hb, rfl, K⟩ | ⟨hb, rfl⟩)⟩
  rotate_left
  · have FE : Hid (Got w B (.iface 68 (.agg #[.int .i64 x1, .int .i64 x2, .int .i64 x3, .string y4])) r4 (.panicked [{ v := unr, recovered := false }]) w1) := ⟨grown_trans Q0.out.2.2 G, .inr ⟨S1.out hb, rfl⟩⟩
    clear G hb
    go_wp2_with fail
    exact ⟨rfl, FE.out⟩
  have Q1 : Hid (r1.bad = false ∧ At1 w1 B r1.s ∧ w.grownBy w1 (some B)) := ⟨hb, K, grown_trans Q0.out.2.2 G⟩
  clear G hb K C1 Q0
  go_wp2_with fail
  refine (C2.out _ Q1.out.1 Q1.out.2.1).mono ?_
  rintro e w2 ⟨G, (⟨hb, rfl, K⟩ | ⟨hb, rfl⟩)⟩
  rotate_left
  · have FE : Hid (Got w B (.iface 68 (.agg #[.int .i64 x1, .int .i64 x2, .int .i64 x3, .string y4])) r4 (.panicked [{ v := unr, recovered := false }]) w2) := ⟨grown_trans Q1.out.2.2 G, .inr ⟨S2.out hb, rfl⟩⟩
    clear G hb
    go_wp2_with fail
    exact ⟨rfl, FE.out⟩
  have Q2 : Hid (r2.bad = false ∧ At1 w2 B r2.s ∧ w.grownBy w2 (some B)) := ⟨hb, K, grown_trans Q1.out.2.2 G⟩
  clear G hb K C2 Q1
  go_wp2_with fail
  refine (C3.out _ Q2.out.1 Q2.out.2.1).mono ?_
  rintro e w3 ⟨G, (⟨hb, rfl, K⟩ | ⟨hb, rfl⟩)⟩
  rotate_left
  · have FE : Hid (Got w B (.iface 68 (.agg #[.int .i64 x1, .int .i64 x2, .int .i64 x3, .string y4])) r4 (.panicked [{ v := unr, recovered := false }]) w3) := ⟨grown_trans Q2.out.2.2 G, .inr ⟨S3.out hb, rfl⟩⟩
    clear G hb
    go_wp2_with fail
    exact ⟨rfl, FE.out⟩
  have Q3 : Hid (r3.bad = false ∧ At1 w3 B r3.s ∧ w.grownBy w3 (some B)) := ⟨hb, K, grown_trans Q2.out.2.2 G⟩
  clear G hb K C3 Q2
  go_wp2_with fail
  refine (C4.out _ Q3.out.1 Q3.out.2.1).mono ?_
  rintro e w4 ⟨G, (⟨hb, rfl, K⟩ | ⟨hb, rfl⟩)⟩
  rotate_left
  · have FE : Hid (Got w B (.iface 68 (.agg #[.int .i64 x1, .int .i64 x2, .int .i64 x3, .string y4])) r4 (.panicked [{ v := unr, recovered := false }]) w4) := ⟨grown_trans Q3.out.2.2 G, .inr ⟨S4.out hb, rfl⟩⟩
    clear G hb
    go_wp2_with fail
    exact ⟨rfl, FE.out⟩
  have Q4 : Hid (r4.bad = false ∧ At1 w4 B r4.s ∧ w.grownBy w4 (some B)) := ⟨hb, K, grown_trans Q3.out.2.2 G⟩
  clear G hb K C4 Q3
  have FE : Hid (Got w B (.iface 68 (.agg #[.int .i64 x1, .int .i64 x2, .int .i64 x3, .string y4])) r4 (.returned (.iface 68 (.agg #[.int .i64 x1, .int .i64 x2, .int .i64 x3, .string y4]))) w4) := ⟨Q4.out.2.2, .inl ⟨Q4.out.1, rfl, Q4.out.2.1⟩⟩
  go_wp2_with fail
  all_goals exact bodyPost_ret (v := .iface 68 (.agg #[.int .i64 x1, .int .i64 x2, .int .i64 x3, .string y4])) (by simp [results, Try.results61, go_sem]) rfl FE.out
set_option maxHeartbeats 4000000 in
theorem prd5 {B : Nat} {w : World} (r0 : Rd) (r1 : Rd) (r2 : Rd) (r3 : Rd) (r4 : Rd) (x1 : Int) (x2 : Int) (x3 : Int) (x4 : Int) (e1 : numR r0 = (x1, r1)) (e2 : numR r1 = (x2, r2)) (e3 : numR r2 = (x3, r3)) (e4 : numR r3 = (x4, r4)) (hb0 : r0.bad = false) (hl : r0.s.length ≤ 9223372036854775807) (h : At1 w B r0.s) : Calls Try.prog 61 #[.pointer (some ⟨B, 0, none⟩), .int .u8 5] w (Got w B (.iface 70 (.agg #[.int .i64 x1, .int .i64 x2, .int .i64 x3, .int .i64 x4])) r4) := by
  have hmi : ∀ (x : Value) (w : World), (Instr.makeInterface 70 x).run Try.prog w = .ok (.iface 70 x) w := fun x w => run_makeInterface _ _ _ (by kernel_rfl)
  have l0 := hl
  have l1 := num_le e1 l0
  have l2 := num_le e2 l1
  have l3 := num_le e3 l2
  have l4 := num_le e4 l3
  have S4 : Hid (r4.bad = true → r4.bad = true) := fun h => h
  have S3 : Hid (r3.bad = true → r4.bad = true) := fun h => S4.out (num_stuck e4 h)
  have S2 : Hid (r2.bad = true → r4.bad = true) := fun h => S3.out (num_stuck e3 h)
  have S1 : Hid (r1.bad = true → r4.bad = true) := fun h => S2.out (num_stuck e2 h)
  have C1 : Hid (∀ w', r0.bad = false → At1 w' B r0.s → Calls Try.prog 60 #[.pointer (some ⟨B, 0, none⟩)] w' (Got w' B (.int .i64 x1) r1)) := fun w' hb k => num_step e1 hb l0 k
  have C2 : Hid (∀ w', r1.bad = false → At1 w' B r1.s → Calls Try.prog 60 #[.pointer (some ⟨B, 0, none⟩)] w' (Got w' B (.int .i64 x2) r2)) := fun w' hb k => num_step e2 hb l1 k
  have C3 : Hid (∀ w', r2.bad = false → At1 w' B r2.s → Calls Try.prog 60 #[.pointer (some ⟨B, 0, none⟩)] w' (Got w' B (.int .i64 x3) r3)) := fun w' hb k => num_step e3 hb l2 k
  have C4 : Hid (∀ w', r3.bad = false → At1 w' B r3.s → Calls Try.prog 60 #[.pointer (some ⟨B, 0, none⟩)] w' (Got w' B (.int .i64 x4) r4)) := fun w' hb k => num_step e4 hb l3 k
  have Q0 : Hid (∀ wd, wd = w.drew → r0.bad = false ∧ At1 wd B r0.s ∧ w.grownBy wd (some B)) := fun wd e => by subst e; exact ⟨hb0, h, grown_below (grown_refl _ _) (Below.drew (Below.refl _ _))⟩
  clear h hl hb0 l0 l1 l2 l3 l4 e1 e2 e3 e4
  go_enter Try.func61, Try.ntmps61
  go_upto_region 11 with fail
  refine region_pure [0, 1, 2, 4, 5, 6, 8, 9, 10, 12, 13, 14] [3, 7, 11, 15, 16, 17, 18] (by kernel_rfl) (by kernel_rfl) (fun d _ _ _ _ h => by cases d <;> exact h) (fun wd hwd => ?_)
  simp only [List.filterMap_cons, List.filterMap_nil, List.getElem?_cons_zero, List.getElem?_cons_succ]
  replace Q0 := Lib.hid (Q0.out wd hwd.out)
  clear hwd
  repeat (refine Zo.wpPure_step (fun K hK => ?_); go_simp; refine hK _ ?_; clear hK K)
  refine Zo.wpPure_nil ?_
  go_wp2_with fail
  refine (C1.out _ Q0.out.1 Q0.out.2.1).mono ?_
  rintro e w1 ⟨G, (⟨hb, rfl, K⟩ | ⟨hb, rfl⟩)⟩
  rotate_left
  · have FE : Hid (Got w B (.iface 70 (.agg #[.int .i64 x1, .int .i64 x2, .int .i64 x3, .int .i64 x4])) r4 (.panicked [{ v := unr, recovered := false }]) w1) := ⟨grown_trans Q0.out.2.2 G, .inr ⟨S1.out hb, rfl⟩⟩
    clear G hb
    go_wp2_with fail
    exact ⟨rfl, FE.out⟩
  have Q1 : Hid (r1.bad = false ∧ At1 w1 B r1.s ∧ w.grownBy w1 (some B)) := ⟨hb, K, grown_trans Q0.out.2.2 G⟩
  clear G hb K C1 Q0
  go_wp2_with fail
  refine (C2.out _ Q1.out.1 Q1.out.2.1).mono ?_
  rintro e w2 ⟨G, (⟨hb, rfl, K⟩ | ⟨hb, rfl⟩)⟩
  rotate_left
  · have FE : Hid (Got w B (.iface 70 (.agg #[.int .i64 x1, .int .i64 x2, .int .i64 x3, .int .i64 x4])) r4 (.panicked [{ v := unr, recovered := false }]) w2) := ⟨grown_trans Q1.out.2.2 G, .inr ⟨S2.out hb, rfl⟩⟩
    clear G hb
    go_wp2_with fail
    exact ⟨rfl, FE.out⟩
  have Q2 : Hid (r2.bad = false ∧ At1 w2 B r2.s ∧ w.grownBy w2 (some B)) := ⟨hb, K, grown_trans Q1.out.2.2 G⟩
  clear G hb K C2 Q1
  go_wp2_with fail
  refine (C3.out _ Q2.out.1 Q2.out.2.1).mono ?_
  rintro e w3 ⟨G, (⟨hb, rfl, K⟩ | ⟨hb, rfl⟩)⟩
  rotate_left
  · have FE : Hid (Got w B (.iface 70 (.agg #[.int .i64 x1, .int .i64 x2, .int .i64 x3, .int .i64 x4])) r4 (.panicked [{ v := unr, recovered := false }]) w3) := ⟨grown_trans Q2.out.2.2 G, .inr ⟨S3.out hb, rfl⟩⟩
    clear G hb
    go_wp2_with fail
    exact ⟨rfl, FE.out⟩
  have Q3 : Hid (r3.bad = false ∧ At1 w3 B r3.s ∧ w.grownBy w3 (some B)) := ⟨hb, K, grown_trans Q2.out.2.2 G⟩
  clear G hb K C3 Q2
  go_wp2_with fail
  refine (C4.out _ Q3.out.1 Q3.out.2.1).mono ?_
  rintro e w4 ⟨G, (⟨hb, rfl, K⟩ | ⟨hb, rfl⟩)⟩
  rotate_left
  · have FE : Hid (Got w B (.iface 70 (.agg #[.int .i64 x1, .int .i64 x2, .int .i64 x3, .int .i64 x4])) r4 (.panicked [{ v := unr, recovered := false }]) w4) := ⟨grown_trans Q3.out.2.2 G, .inr ⟨S4.out hb, rfl⟩⟩
    clear G hb
    go_wp2_with fail
    exact ⟨rfl, FE.out⟩
  have Q4 : Hid (r4.bad = false ∧ At1 w4 B r4.s ∧ w.grownBy w4 (some B)) := ⟨hb, K, grown_trans Q3.out.2.2 G⟩
  clear G hb K C4 Q3
  have FE : Hid (Got w B (.iface 70 (.agg #[.int .i64 x1, .int .i64 x2, .int .i64 x3, .int .i64 x4])) r4 (.returned (.iface 70 (.agg #[.int .i64 x1, .int .i64 x2, .int .i64 x3, .int .i64 x4]))) w4) := ⟨Q4.out.2.2, .inl ⟨Q4.out.1, rfl, Q4.out.2.1⟩⟩
  go_wp2_with fail
  all_goals exact bodyPost_ret (v := .iface 70 (.agg #[.int .i64 x1, .int .i64 x2, .int .i64 x3, .int .i64 x4])) (by simp [results, Try.results61, go_sem]) rfl FE.out
set_option maxHeartbeats 4000000 in
theorem prd6 {B : Nat} {w : World} (r0 : Rd) (r1 : Rd) (r2 : Rd) (r3 : Rd) (r4 : Rd) (r5 : Rd) (x1 : Int) (x2 : Int) (x3 : Int) (x4 : Int) (x5 : Int) (e1 : numR r0 = (x1, r1)) (e2 : numR r1 = (x2, r2)) (e3 : numR r2 = (x3, r3)) (e4 : numR r3 = (x4, r4)) (e5 : numR r4 = (x5, r5)) (hb0 : r0.bad = false) (hl : r0.s.length ≤ 9223372036854775807) (h : At1 w B r0.s) : Calls Try.prog 61 #[.pointer (some ⟨B, 0, none⟩), .int .u8 6] w (Got w B (.iface 72 (.agg #[.int .i64 x1, .int .i64 x2, .int .i64 x3, .int .i64 x4, .int .i64 x5])) r5) := by
  have hmi : ∀ (x : Value) (w : World), (Instr.makeInterface 72 x).run Try.prog w = .ok (.iface 72 x) w := fun x w => run_makeInterface _ _ _ (by kernel_rfl)
  have l0 := hl
  have l1 := num_le e1 l0
  have l2 := num_le e2 l1
  have l3 := num_le e3 l2
  have l4 := num_le e4 l3
  have l5 := num_le e5 l4
  have S5 : Hid (r5.bad = true → r5.bad = true) := fun h => h
  have S4 : Hid (r4.bad = true → r5.bad = true) := fun h => S5.out (num_stuck e5 h)
  have S3 : Hid (r3.bad = true → r5.bad = true) := fun h => S4.out (num_stuck e4 h)
  have S2 : Hid (r2.bad = true → r5.bad = true) := fun h => S3.out (num_stuck e3 h)
  have S1 : Hid (r1.bad = true → r5.bad = true) := fun h => S2.out (num_stuck e2 h)
  have C1 : Hid (∀ w', r0.bad = false → At1 w' B r0.s → Calls Try.prog 60 #[.pointer (some ⟨B, 0, none⟩)] w' (Got w' B (.int .i64 x1) r1)) := fun w' hb k => num_step e1 hb l0 k
  have C2 : Hid (∀ w', r1.bad = false → At1 w' B r1.s → Calls Try.prog 60 #[.pointer (some ⟨B, 0, none⟩)] w' (Got w' B (.int .i64 x2) r2)) := fun w' hb k => num_step e2 hb l1 k
  have C3 : Hid (∀ w', r2.bad = false → At1 w' B r2.s → Calls Try.prog 60 #[.pointer (some ⟨B, 0, none⟩)] w' (Got w' B (.int .i64 x3) r3)) := fun w' hb k => num_step e3 hb l2 k
  have C4 : Hid (∀ w', r3.bad = false → At1 w' B r3.s → Calls Try.prog 60 #[.pointer (some ⟨B, 0, none⟩)] w' (Got w' B (.int .i64 x4) r4)) := fun w' hb k => num_step e4 hb l3 k
  have C5 : Hid (∀ w', r4.bad = false → At1 w' B r4.s → Calls Try.prog 60 #[.pointer (some ⟨B, 0, none⟩)] w' (Got w' B (.int .i64 x5) r5)) := fun w' hb k => num_step e5 hb l4 k
  have Q0 : Hid (∀ wd, wd = w.drew → r0.bad = false ∧ At1 wd B r0.s ∧ w.grownBy wd (some B)) := fun wd e => by subst e; exact ⟨hb0, h, grown_below (grown_refl _ _) (Below.drew (Below.refl _ _))⟩
  clear h hl hb0 l0 l1 l2 l3 l4 l5 e1 e2 e3 e4 e5
  go_enter Try.func61, Try.ntmps61
  go_upto_region 13 with fail
  refine region_pure [0, 1, 2, 4, 5, 6, 8, 9, 10, 12, 13, 14, 16, 17, 18] [3, 7, 11, 15, 19, 20, 21, 22] (by kernel_rfl) (by kernel_rfl) (fun d _ _ _ _ h => by cases d <;> exact h) (fun wd hwd => ?_)
  simp only [List.filterMap_cons, List.filterMap_nil, List.getElem?_cons_zero, List.getElem?_cons_succ]
  replace Q0 := Lib.hid (Q0.out wd hwd.out)
  clear hwd
  repeat (refine Zo.wpPure_step (fun K hK => ?_); go_simp; refine hK _ ?_; clear hK K)
  refine Zo.wpPure_nil ?_
  go_wp2_with fail
  refine (C1.out _ Q0.out.1 Q0.out.2.1).mono ?_
  rintro e w1 ⟨G, (⟨hb, rfl, K⟩ | ⟨hb, rfl⟩)⟩
  rotate_left
  · have FE : Hid (Got w B (.iface 72 (.agg #[.int .i64 x1, .int .i64 x2, .int .i64 x3, .int .i64 x4, .int .i64 x5])) r5 (.panicked [{ v := unr, recovered := false }]) w1) := ⟨grown_trans Q0.out.2.2 G, .inr ⟨S1.out hb, rfl⟩⟩
    clear G hb
    go_wp2_with fail
    exact ⟨rfl, FE.out⟩
  have Q1 : Hid (r1.bad = false ∧ At1 w1 B r1.s ∧ w.grownBy w1 (some B)) := ⟨hb, K, grown_trans Q0.out.2.2 G⟩
  clear G hb K C1 Q0
  go_wp2_with fail
  refine (C2.out _ Q1.out.1 Q1.out.2.1).mono ?_
  rintro e w2 ⟨G, (⟨hb, rfl, K⟩ | ⟨hb, rfl⟩)⟩
  rotate_left
  · have FE : Hid (Got w B (.iface 72 (.agg #[.int .i64 x1, .int .i64 x2, .int .i64 x3, .int .i64 x4, .int .i64 x5])) r5 (.panicked [{ v := unr, recovered := false }]) w2) := ⟨grown_trans Q1.out.2.2 G, .inr ⟨S2.out hb, rfl⟩⟩
    clear G hb
    go_wp2_with fail
    exact ⟨rfl, FE.out⟩
  have Q2 : Hid (r2.bad = false ∧ At1 w2 B r2.s ∧ w.grownBy w2 (some B)) := ⟨hb, K, grown_trans Q1.out.2.2 G⟩
  clear G hb K C2 Q1
  go_wp2_with fail
  refine (C3.out _ Q2.out.1 Q2.out.2.1).mono ?_
  rintro e w3 ⟨G, (⟨hb, rfl, K⟩ | ⟨hb, rfl⟩)⟩
  rotate_left
  · have FE : Hid (Got w B (.iface 72 (.agg #[.int .i64 x1, .int .i64 x2, .int .i64 x3, .int .i64 x4, .int .i64 x5])) r5 (.panicked [{ v := unr, recovered := false }]) w3) := ⟨grown_trans Q2.out.2.2 G, .inr ⟨S3.out hb, rfl⟩⟩
    clear G hb
    go_wp2_with fail
    exact ⟨rfl, FE.out⟩
  have Q3 : Hid (r3.bad = false ∧ At1 w3 B r3.s ∧ w.grownBy w3 (some B)) := ⟨hb, K, grown_trans Q2.out.2.2 G⟩
  clear G hb K C3 Q2
  go_wp2_with fail
  refine (C4.out _ Q3.out.1 Q3.out.2.1).mono ?_
  rintro e w4 ⟨G, (⟨hb, rfl, K⟩ | ⟨hb, rfl⟩)⟩
  rotate_left
  · have FE : Hid (Got w B (.iface 72 (.agg #[.int .i64 x1, .int .i64 x2, .int .i64 x3, .int .i64 x4, .int .i64 x5])) r5 (.panicked [{ v := unr, recovered := false }]) w4) := ⟨grown_trans Q3.out.2.2 G, .inr ⟨S4.out hb, rfl⟩⟩
    clear G hb
    go_wp2_with fail
    exact ⟨rfl, FE.out⟩
  have Q4 : Hid (r4.bad = false ∧ At1 w4 B r4.s ∧ w.grownBy w4 (some B)) := ⟨hb, K, grown_trans Q3.out.2.2 G⟩
  clear G hb K C4 Q3
  go_wp2_with fail
  refine (C5.out _ Q4.out.1 Q4.out.2.1).mono ?_
  rintro e w5 ⟨G, (⟨hb, rfl, K⟩ | ⟨hb, rfl⟩)⟩
  rotate_left
  · have FE : Hid (Got w B (.iface 72 (.agg #[.int .i64 x1, .int .i64 x2, .int .i64 x3, .int .i64 x4, .int .i64 x5])) r5 (.panicked [{ v := unr, recovered := false }]) w5) := ⟨grown_trans Q4.out.2.2 G, .inr ⟨S5.out hb, rfl⟩⟩
    clear G hb
    go_wp2_with fail
    exact ⟨rfl, FE.out⟩
  have Q5 : Hid (r5.bad = false ∧ At1 w5 B r5.s ∧ w.grownBy w5 (some B)) := ⟨hb, K, grown_trans Q4.out.2.2 G⟩
  clear G hb K C5 Q4
  have FE : Hid (Got w B (.iface 72 (.agg #[.int .i64 x1, .int .i64 x2, .int .i64 x3, .int .i64 x4, .int .i64 x5])) r5 (.returned (.iface 72 (.agg #[.int .i64 x1, .int .i64 x2, .int .i64 x3, .int .i64 x4, .int .i64 x5]))) w5) := ⟨Q5.out.2.2, .inl ⟨Q5.out.1, rfl, Q5.out.2.1⟩⟩
  go_wp2_with fail
  all_goals exact bodyPost_ret (v := .iface 72 (.agg #[.int .i64 x1, .int .i64 x2, .int .i64 x3, .int .i64 x4, .int .i64 x5])) (by simp [results, Try.results61, go_sem]) rfl FE.out
set_option maxHeartbeats 4000000 in
theorem prd7 {B : Nat} {w : World} (r0 : Rd) (r1 : Rd) (r2 : Rd) (r3 : Rd) (r4 : Rd) (r5 : Rd) (r6 : Rd) (x1 : Int) (x2 : Int) (x3 : Int) (x4 : Int) (x5 : Int) (x6 : Int) (e1 : numR r0 = (x1, r1)) (e2 : numR r1 = (x2, r2)) (e3 : numR r2 = (x3, r3)) (e4 : numR r3 = (x4, r4)) (e5 : numR r4 = (x5, r5)) (e6 : numR r5 = (x6, r6)) (hb0 : r0.bad = false) (hl : r0.s.length ≤ 9223372036854775807) (h : At1 w B r0.s) : Calls Try.prog 61 #[.pointer (some ⟨B, 0, none⟩), .int .u8 7] w (Got w B (.iface 74 (.agg #[.int .i64 x1, .int .i64 x2, .int .i64 x3, .int .i64 x4, .int .i64 x5, .int .i64 x6])) r6) := by
  have hmi : ∀ (x : Value) (w : World), (Instr.makeInterface 74 x).run Try.prog w = .ok (.iface 74 x) w := fun x w => run_makeInterface _ _ _ (by kernel_rfl)
  have l0 := hl
  have l1 := num_le e1 l0
  have l2 := num_le e2 l1
  have l3 := num_le e3 l2
  have l4 := num_le e4 l3
  have l5 := num_le e5 l4
  have l6 := num_le e6 l5
  have S6 : Hid (r6.bad = true → r6.bad = true) := fun h => h
  have S5 : Hid (r5.bad = true → r6.bad = true) := fun h => S6.out (num_stuck e6 h)
  have S4 : Hid (r4.bad = true → r6.bad = true) := fun h => S5.out (num_stuck e5 h)
  have S3 : Hid (r3.bad = true → r6.bad = true) := fun h => S4.out (num_stuck e4 h)
  have S2 : Hid (r2.bad = true → r6.bad = true) := fun h => S3.out (num_stuck e3 h)
  have S1 : Hid (r1.bad = true → r6.bad = true) := fun h => S2.out (num_stuck e2 h)
  have C1 : Hid (∀ w', r0.bad = false → At1 w' B r0.s → Calls Try.prog 60 #[.pointer (some ⟨B, 0, none⟩)] w' (Got w' B (.int .i64 x1) r1)) := fun w' hb k => num_step e1 hb l0 k
  have C2 : Hid (∀ w', r1.bad = false → At1 w' B r1.s → Calls Try.prog 60 #[.pointer (some ⟨B, 0, none⟩)] w' (Got w' B (.int .i64 x2) r2)) := fun w' hb k => num_step e2 hb l1 k
  have C3 : Hid (∀ w', r2.bad = false → At1 w' B r2.s → Calls Try.prog 60 #[.pointer (some ⟨B, 0, none⟩)] w' (Got w' B (.int .i64 x3) r3)) := fun w' hb k => num_step e3 hb l2 k
  have C4 : Hid (∀ w', r3.bad = false → At1 w' B r3.s → Calls Try.prog 60 #[.pointer (some ⟨B, 0, none⟩)] w' (Got w' B (.int .i64 x4) r4)) := fun w' hb k => num_step e4 hb l3 k
  have C5 : Hid (∀ w', r4.bad = false → At1 w' B r4.s → Calls Try.prog 60 #[.pointer (some ⟨B, 0, none⟩)] w' (Got w' B (.int .i64 x5) r5)) := fun w' hb k => num_step e5 hb l4 k
  have C6 : Hid (∀ w', r5.bad = false → At1 w' B r5.s → Calls Try.prog 60 #[.pointer (some ⟨B, 0, none⟩)] w' (Got w' B (.int .i64 x6) r6)) := fun w' hb k => num_step e6 hb l5 k
  have Q0 : Hid (∀ wd, wd = w.drew → r0.bad = false ∧ At1 wd B r0.s ∧ w.grownBy wd (some B)) := fun wd e => by subst e; exact ⟨hb0, h, grown_below (grown_refl _ _) (Below.drew (Below.refl _ _))⟩
  clear h hl hb0 l0 l1 l2 l3 l4 l5 l6 e1 e2 e3 e4 e5 e6
  go_enter Try.func61, Try.ntmps61
  go_upto_region 15 with fail
  refine region_pure [0, 1, 2, 4, 5, 6, 8, 9, 10, 12, 13, 14, 16, 17, 18, 20, 21, 22] [3, 7, 11, 15, 19, 23, 24, 25, 26] (by kernel_rfl) (by kernel_rfl) (fun d _ _ _ _ h => by cases d <;> exact h) (fun wd hwd => ?_)
  simp only [List.filterMap_cons, List.filterMap_nil, List.getElem?_cons_zero, List.getElem?_cons_succ]
  replace Q0 := Lib.hid (Q0.out wd hwd.out)
  clear hwd
  repeat (refine Zo.wpPure_step (fun K hK => ?_); go_simp; refine hK _ ?_; clear hK K)
  refine Zo.wpPure_nil ?_
  go_wp2_with fail
  refine (C1.out _ Q0.out.1 Q0.out.2.1).mono ?_
  rintro e w1 ⟨G, (⟨hb, rfl, K⟩ | ⟨hb, rfl⟩)⟩
  rotate_left
  · have FE : Hid (Got w B (.iface 74 (.agg #[.int .i64 x1, .int .i64 x2, .int .i64 x3, .int .i64 x4, .int .i64 x5, .int .i64 x6])) r6 (.panicked [{ v := unr, recovered := false }]) w1) := ⟨grown_trans Q0.out.2.2 G, .inr ⟨S1.out hb, rfl⟩⟩
    clear G hb
    go_wp2_with fail
    exact ⟨rfl, FE.out⟩
  have Q1 : Hid (r1.bad = false ∧ At1 w1 B r1.s ∧ w.grownBy w1 (some B)) := ⟨hb, K, grown_trans Q0.out.2.2 G⟩
  clear G hb K C1 Q0
  go_wp2_with fail
  refine (C2.out _ Q1.out.1 Q1.out.2.1).mono ?_
  rintro e w2 ⟨G, (⟨hb, rfl, K⟩ | ⟨hb, rfl⟩)⟩
  rotate_left
  · have FE : Hid (Got w B (.iface 74 (.agg #[.int .i64 x1, .int .i64 x2, .int .i64 x3, .int .i64 x4, .int .i64 x5, .int .i64 x6])) r6 (.panicked [{ v := unr, recovered := false }]) w2) := ⟨grown_trans Q1.out.2.2 G, .inr ⟨S2.out hb, rfl⟩⟩
    clear G hb
    go_wp2_with fail
    exact ⟨rfl, FE.out⟩
  have Q2 : Hid (r2.bad = false ∧ At1 w2 B r2.s ∧ w.grownBy w2 (some B)) := ⟨hb, K, grown_trans Q1.out.2.2 G⟩
  clear G hb K C2 Q1
  go_wp2_with fail
  refine (C3.out _ Q2.out.1 Q2.out.2.1).mono ?_
  rintro e w3 ⟨G, (⟨hb, rfl, K⟩ | ⟨hb, rfl⟩)⟩
  rotate_left
  · have FE : Hid (Got w B (.iface 74 (.agg #[.int .i64 x1, .int .i64 x2, .int .i64 x3, .int .i64 x4, .int .i64 x5, .int .i64 x6])) r6 (.panicked [{ v := unr, recovered := false }]) w3) := ⟨grown_trans Q2.out.2.2 G, .inr ⟨S3.out hb, rfl⟩⟩
    clear G hb
    go_wp2_with fail
    exact ⟨rfl, FE.out⟩
  have Q3 : Hid (r3.bad = false ∧ At1 w3 B r3.s ∧ w.grownBy w3 (some B)) := ⟨hb, K, grown_trans Q2.out.2.2 G⟩
  clear G hb K C3 Q2
  go_wp2_with fail
  refine (C4.out _ Q3.out.1 Q3.out.2.1).mono ?_
  rintro e w4 ⟨G, (⟨hb, rfl, K⟩ | ⟨hb, rfl⟩)⟩
  rotate_left
  · have FE : Hid (Got w B (.iface 74 (.agg #[.int .i64 x1, .int .i64 x2, .int .i64 x3, .int .i64 x4, .int .i64 x5, .int .i64 x6])) r6 (.panicked [{ v := unr, recovered := false }]) w4) := ⟨grown_trans Q3.out.2.2 G, .inr ⟨S4.out hb, rfl⟩⟩
    clear G hb
    go_wp2_with fail
    exact ⟨rfl, FE.out⟩
  have Q4 : Hid (r4.bad = false ∧ At1 w4 B r4.s ∧ w.grownBy w4 (some B)) := ⟨hb, K, grown_trans Q3.out.2.2 G⟩
  clear G hb K C4 Q3
  go_wp2_with fail
  refine (C5.out _ Q4.out.1 Q4.out.2.1).mono ?_
  rintro e w5 ⟨G, (⟨hb, rfl, K⟩ | ⟨hb, rfl⟩)⟩
  rotate_left
  · have FE : Hid (Got w B (.iface 74 (.agg #[.int .i64 x1, .int .i64 x2, .int .i64 x3, .int .i64 x4, .int .i64 x5, .int .i64 x6])) r6 (.panicked [{ v := unr, recovered := false }]) w5) := ⟨grown_trans Q4.out.2.2 G, .inr ⟨S5.out hb, rfl⟩⟩
    clear G hb
    go_wp2_with fail
    exact ⟨rfl, FE.out⟩
  have Q5 : Hid (r5.bad = false ∧ At1 w5 B r5.s ∧ w.grownBy w5 (some B)) := ⟨hb, K, grown_trans Q4.out.2.2 G⟩
  clear G hb K C5 Q4
  go_wp2_with fail
  refine (C6.out _ Q5.out.1 Q5.out.2.1).mono ?_
  rintro e w6 ⟨G, (⟨hb, rfl, K⟩ | ⟨hb, rfl⟩)⟩
  rotate_left
  · have FE : Hid (Got w B (.iface 74 (.agg #[.int .i64 x1, .int .i64 x2, .int .i64 x3, .int .i64 x4, .int .i64 x5, .int .i64 x6])) r6 (.panicked [{ v := unr, recovered := false }]) w6) := ⟨grown_trans Q5.out.2.2 G, .inr ⟨S6.out hb, rfl⟩⟩
    clear G hb
    go_wp2_with fail
    exact ⟨rfl, FE.out⟩
  have Q6 : Hid (r6.bad = false ∧ At1 w6 B r6.s ∧ w.grownBy w6 (some B)) := ⟨hb, K, grown_trans Q5.out.2.2 G⟩
  clear G hb K C6 Q5
  have FE : Hid (Got w B (.iface 74 (.agg #[.int .i64 x1, .int .i64 x2, .int .i64 x3, .int .i64 x4, .int .i64 x5, .int .i64 x6])) r6 (.returned (.iface 74 (.agg #[.int .i64 x1, .int .i64 x2, .int .i64 x3, .int .i64 x4, .int .i64 x5, .int .i64 x6]))) w6) := ⟨Q6.out.2.2, .inl ⟨Q6.out.1, rfl, Q6.out.2.1⟩⟩
  go_wp2_with fail
  all_goals exact bodyPost_ret (v := .iface 74 (.agg #[.int .i64 x1, .int .i64 x2, .int .i64 x3, .int .i64 x4, .int .i64 x5, .int .i64 x6])) (by simp [results, Try.results61, go_sem]) rfl FE.out
set_option maxHeartbeats 4000000 in
theorem prd8 {B : Nat} {w : World} (r0 : Rd) (r1 : Rd) (x1 : Int) (e1 : numR r0 = (x1, r1)) (hb0 : r0.bad = false) (hl : r0.s.length ≤ 9223372036854775807) (h : At1 w B r0.s) : Calls Try.prog 61 #[.pointer (some ⟨B, 0, none⟩), .int .u8 8] w (Got w B (.iface 76 (.agg #[.int .i64 x1])) r1) := by
  have hmi : ∀ (x : Value) (w : World), (Instr.makeInterface 76 x).run Try.prog w = .ok (.iface 76 x) w := fun x w => run_makeInterface _ _ _ (by kernel_rfl)
  have l0 := hl
  have l1 := num_le e1 l0
  have S1 : Hid (r1.bad = true → r1.bad = true) := fun h => h
  have C1 : Hid (∀ w', r0.bad = false → At1 w' B r0.s → Calls Try.prog 60 #[.pointer (some ⟨B, 0, none⟩)] w' (Got w' B (.int .i64 x1) r1)) := fun w' hb k => num_step e1 hb l0 k
  have Q0 : Hid (r0.bad = false ∧ At1 w B r0.s ∧ w.grownBy w (some B)) := ⟨hb0, h, grown_refl _ _⟩
  clear h hl hb0 l0 l1 e1
  go_enter Try.func61, Try.ntmps61
  go_wp2_with fail
  refine (C1.out _ Q0.out.1 Q0.out.2.1).mono ?_
  rintro e w1 ⟨G, (⟨hb, rfl, K⟩ | ⟨hb, rfl⟩)⟩
  rotate_left
  · have FE : Hid (Got w B (.iface 76 (.agg #[.int .i64 x1])) r1 (.panicked [{ v := unr, recovered := false }]) w1) := ⟨grown_trans Q0.out.2.2 G, .inr ⟨S1.out hb, rfl⟩⟩
    clear G hb
    go_wp2_with fail
    exact ⟨rfl, FE.out⟩
  have Q1 : Hid (r1.bad = false ∧ At1 w1 B r1.s ∧ w.grownBy w1 (some B)) := ⟨hb, K, grown_trans Q0.out.2.2 G⟩
  clear G hb K C1 Q0
  have FE : Hid (Got w B (.iface 76 (.agg #[.int .i64 x1])) r1 (.returned (.iface 76 (.agg #[.int .i64 x1]))) w1) := ⟨Q1.out.2.2, .inl ⟨Q1.out.1, rfl, Q1.out.2.1⟩⟩
  go_wp2_with fail
  all_goals exact bodyPost_ret (v := .iface 76 (.agg #[.int .i64 x1])) (by simp [results, Try.results61, go_sem]) rfl FE.out
set_option maxHeartbeats 4000000 in
theorem prd9 {B : Nat} {w : World} (r0 : Rd) (r1 : Rd) (x1 : Int) (e1 : numR r0 = (x1, r1)) (hb0 : r0.bad = false) (hl : r0.s.length ≤ 9223372036854775807) (h : At1 w B r0.s) : Calls Try.prog 61 #[.pointer (some ⟨B, 0, none⟩), .int .u8 9] w (Got w B (.iface 77 (.agg #[.int .i64 x1])) r1) := by
  have hmi : ∀ (x : Value) (w : World), (Instr.makeInterface 77 x).run Try.prog w = .ok (.iface 77 x) w := fun x w => run_makeInterface _ _ _ (by kernel_rfl)
  have l0 := hl
  have l1 := num_le e1 l0
  have S1 : Hid (r1.bad = true → r1.bad = true) := fun h => h
  have C1 : Hid (∀ w', r0.bad = false → At1 w' B r0.s → Calls Try.prog 60 #[.pointer (some ⟨B, 0, none⟩)] w' (Got w' B (.int .i64 x1) r1)) := fun w' hb k => num_step e1 hb l0 k
  have Q0 : Hid (r0.bad = false ∧ At1 w B r0.s ∧ w.grownBy w (some B)) := ⟨hb0, h, grown_refl _ _⟩
  clear h hl hb0 l0 l1 e1
  go_enter Try.func61, Try.ntmps61
  go_wp2_with fail
  refine (C1.out _ Q0.out.1 Q0.out.2.1).mono ?_
  rintro e w1 ⟨G, (⟨hb, rfl, K⟩ | ⟨hb, rfl⟩)⟩
  rotate_left
  · have FE : Hid (Got w B (.iface 77 (.agg #[.int .i64 x1])) r1 (.panicked [{ v := unr, recovered := false }]) w1) := ⟨grown_trans Q0.out.2.2 G, .inr ⟨S1.out hb, rfl⟩⟩
    clear G hb
    go_wp2_with fail
    exact ⟨rfl, FE.out⟩
  have Q1 : Hid (r1.bad = false ∧ At1 w1 B r1.s ∧ w.grownBy w1 (some B)) := ⟨hb, K, grown_trans Q0.out.2.2 G⟩
  clear G hb K C1 Q0
  have FE : Hid (Got w B (.iface 77 (.agg #[.int .i64 x1])) r1 (.returned (.iface 77 (.agg #[.int .i64 x1]))) w1) := ⟨Q1.out.2.2, .inl ⟨Q1.out.1, rfl, Q1.out.2.1⟩⟩
  go_wp2_with fail
  all_goals exact bodyPost_ret (v := .iface 77 (.agg #[.int .i64 x1])) (by simp [results, Try.results61, go_sem]) rfl FE.out
set_option maxHeartbeats 4000000 in
theorem prd10 {B : Nat} {w : World} (r0 : Rd) (r1 : Rd) (x1 : Int) (e1 : numR r0 = (x1, r1)) (hb0 : r0.bad = false) (hl : r0.s.length ≤ 9223372036854775807) (h : At1 w B r0.s) : Calls Try.prog 61 #[.pointer (some ⟨B, 0, none⟩), .int .u8 10] w (Got w B (.iface 78 (.agg #[.int .i64 x1])) r1) := by
  have hmi : ∀ (x : Value) (w : World), (Instr.makeInterface 78 x).run Try.prog w = .ok (.iface 78 x) w := fun x w => run_makeInterface _ _ _ (by kernel_rfl)
  have l0 := hl
  have l1 := num_le e1 l0
  have S1 : Hid (r1.bad = true → r1.bad = true) := fun h => h
  have C1 : Hid (∀ w', r0.bad = false → At1 w' B r0.s → Calls Try.prog 60 #[.pointer (some ⟨B, 0, none⟩)] w' (Got w' B (.int .i64 x1) r1)) := fun w' hb k => num_step e1 hb l0 k
  have Q0 : Hid (r0.bad = false ∧ At1 w B r0.s ∧ w.grownBy w (some B)) := ⟨hb0, h, grown_refl _ _⟩
  clear h hl hb0 l0 l1 e1
  go_enter Try.func61, Try.ntmps61
  go_wp2_with fail
  refine (C1.out _ Q0.out.1 Q0.out.2.1).mono ?_
  rintro e w1 ⟨G, (⟨hb, rfl, K⟩ | ⟨hb, rfl⟩)⟩
  rotate_left
  · have FE : Hid (Got w B (.iface 78 (.agg #[.int .i64 x1])) r1 (.panicked [{ v := unr, recovered := false }]) w1) := ⟨grown_trans Q0.out.2.2 G, .inr ⟨S1.out hb, rfl⟩⟩
    clear G hb
    go_wp2_with fail
    exact ⟨rfl, FE.out⟩
  have Q1 : Hid (r1.bad = false ∧ At1 w1 B r1.s ∧ w.grownBy w1 (some B)) := ⟨hb, K, grown_trans Q0.out.2.2 G⟩
  clear G hb K C1 Q0
  have FE : Hid (Got w B (.iface 78 (.agg #[.int .i64 x1])) r1 (.returned (.iface 78 (.agg #[.int .i64 x1]))) w1) := ⟨Q1.out.2.2, .inl ⟨Q1.out.1, rfl, Q1.out.2.1⟩⟩
  go_wp2_with fail
  all_goals exact bodyPost_ret (v := .iface 78 (.agg #[.int .i64 x1])) (by simp [results, Try.results61, go_sem]) rfl FE.out
set_option maxHeartbeats 4000000 in
theorem prd11 {B : Nat} {w : World} (r0 : Rd) (r1 : Rd) (r2 : Rd) (r3 : Rd) (x1 : Int) (x2 : Int) (x3 : Int) (e1 : numR r0 = (x1, r1)) (e2 : numR r1 = (x2, r2)) (e3 : numR r2 = (x3, r3)) (hb0 : r0.bad = false) (hl : r0.s.length ≤ 9223372036854775807) (h : At1 w B r0.s) : Calls Try.prog 61 #[.pointer (some ⟨B, 0, none⟩), .int .u8 11] w (Got w B (.iface 80 (.agg #[.int .i64 x1, .int .i64 x2, .int .i64 x3])) r3) := by
  have hmi : ∀ (x : Value) (w : World), (Instr.makeInterface 80 x).run Try.prog w = .ok (.iface 80 x) w := fun x w => run_makeInterface _ _ _ (by kernel_rfl)
  have l0 := hl
  have l1 := num_le e1 l0
  have l2 := num_le e2 l1
  have l3 := num_le e3 l2
  have S3 : Hid (r3.bad = true → r3.bad = true) := fun h => h
  have S2 : Hid (r2.bad = true → r3.bad = true) := fun h => S3.out (num_stuck e3 h)
  have S1 : Hid (r1.bad = true → r3.bad = true) := fun h => S2.out (num_stuck e2 h)
  have C1 : Hid (∀ w', r0.bad = false → At1 w' B r0.s → Calls Try.prog 60 #[.pointer (some ⟨B, 0, none⟩)] w' (Got w' B (.int .i64 x1) r1)) := fun w' hb k => num_step e1 hb l0 k
  have C2 : Hid (∀ w', r1.bad = false → At1 w' B r1.s → Calls Try.prog 60 #[.pointer (some ⟨B, 0, none⟩)] w' (Got w' B (.int .i64 x2) r2)) := fun w' hb k => num_step e2 hb l1 k
  have C3 : Hid (∀ w', r2.bad = false → At1 w' B r2.s → Calls Try.prog 60 #[.pointer (some ⟨B, 0, none⟩)] w' (Got w' B (.int .i64 x3) r3)) := fun w' hb k => num_step e3 hb l2 k
  have Q0 : Hid (∀ wd, wd = w.drew → r0.bad = false ∧ At1 wd B r0.s ∧ w.grownBy wd (some B)) := fun wd e => by subst e; exact ⟨hb0, h, grown_below (grown_refl _ _) (Below.drew (Below.refl _ _))⟩
  clear h hl hb0 l0 l1 l2 l3 e1 e2 e3
  go_enter Try.func61, Try.ntmps61
  go_upto_region 23 with fail
  refine region_pure [0, 1, 2, 4, 5, 6, 8, 9, 10] [3, 7, 11, 12, 13, 14] (by kernel_rfl) (by kernel_rfl) (fun d _ _ _ _ h => by cases d <;> exact h) (fun wd hwd => ?_)
  simp only [List.filterMap_cons, List.filterMap_nil, List.getElem?_cons_zero, List.getElem?_cons_succ]
  replace Q0 := Lib.hid (Q0.out wd hwd.out)
  clear hwd
  repeat (refine Zo.wpPure_step (fun K hK => ?_); go_simp; refine hK _ ?_; clear hK K)
  refine Zo.wpPure_nil ?_
  go_wp2_with fail
  refine (C1.out _ Q0.out.1 Q0.out.2.1).mono ?_
  rintro e w1 ⟨G, (⟨hb, rfl, K⟩ | ⟨hb, rfl⟩)⟩
  rotate_left
  · have FE : Hid (Got w B (.iface 80 (.agg #[.int .i64 x1, .int .i64 x2, .int .i64 x3])) r3 (.panicked [{ v := unr, recovered := false }]) w1) := ⟨grown_trans Q0.out.2.2 G, .inr ⟨S1.out hb, rfl⟩⟩
    clear G hb
    go_wp2_with fail
    exact ⟨rfl, FE.out⟩
  have Q1 : Hid (r1.bad = false ∧ At1 w1 B r1.s ∧ w.grownBy w1 (some B)) := ⟨hb, K, grown_trans Q0.out.2.2 G⟩
  clear G hb K C1 Q0
  go_wp2_with fail
  refine (C2.out _ Q1.out.1 Q1.out.2.1).mono ?_
  rintro e w2 ⟨G, (⟨hb, rfl, K⟩ | ⟨hb, rfl⟩)⟩
  rotate_left
  · have FE : Hid (Got w B (.iface 80 (.agg #[.int .i64 x1, .int .i64 x2, .int .i64 x3])) r3 (.panicked [{ v := unr, recovered := false }]) w2) := ⟨grown_trans Q1.out.2.2 G, .inr ⟨S2.out hb, rfl⟩⟩
    clear G hb
    go_wp2_with fail
    exact ⟨rfl, FE.out⟩
  have Q2 : Hid (r2.bad = false ∧ At1 w2 B r2.s ∧ w.grownBy w2 (some B)) := ⟨hb, K, grown_trans Q1.out.2.2 G⟩
  clear G hb K C2 Q1
  go_wp2_with fail
  refine (C3.out _ Q2.out.1 Q2.out.2.1).mono ?_
  rintro e w3 ⟨G, (⟨hb, rfl, K⟩ | ⟨hb, rfl⟩)⟩
  rotate_left
  · have FE : Hid (Got w B (.iface 80 (.agg #[.int .i64 x1, .int .i64 x2, .int .i64 x3])) r3 (.panicked [{ v := unr, recovered := false }]) w3) := ⟨grown_trans Q2.out.2.2 G, .inr ⟨S3.out hb, rfl⟩⟩
    clear G hb
    go_wp2_with fail
    exact ⟨rfl, FE.out⟩
  have Q3 : Hid (r3.bad = false ∧ At1 w3 B r3.s ∧ w.grownBy w3 (some B)) := ⟨hb, K, grown_trans Q2.out.2.2 G⟩
  clear G hb K C3 Q2
  have FE : Hid (Got w B (.iface 80 (.agg #[.int .i64 x1, .int .i64 x2, .int .i64 x3])) r3 (.returned (.iface 80 (.agg #[.int .i64 x1, .int .i64 x2, .int .i64 x3]))) w3) := ⟨Q3.out.2.2, .inl ⟨Q3.out.1, rfl, Q3.out.2.1⟩⟩
  go_wp2_with fail
  all_goals exact bodyPost_ret (v := .iface 80 (.agg #[.int .i64 x1, .int .i64 x2, .int .i64 x3])) (by simp [results, Try.results61, go_sem]) rfl FE.out
set_option maxHeartbeats 4000000 in
theorem prd12 {B : Nat} {w : World} (r0 : Rd) (r1 : Rd) (r2 : Rd) (x1 : Int) (x2 : Int) (e1 : numR r0 = (x1, r1)) (e2 : numR r1 = (x2, r2)) (hb0 : r0.bad = false) (hl : r0.s.length ≤ 9223372036854775807) (h : At1 w B r0.s) : Calls Try.prog 61 #[.pointer (some ⟨B, 0, none⟩), .int .u8 12] w (Got w B (.iface 82 (.agg #[.int .i64 x1, .int .i64 x2])) r2) := by
  have hmi : ∀ (x : Value) (w : World), (Instr.makeInterface 82 x).run Try.prog w = .ok (.iface 82 x) w := fun x w => run_makeInterface _ _ _ (by kernel_rfl)
  have l0 := hl
  have l1 := num_le e1 l0
  have l2 := num_le e2 l1
  have S2 : Hid (r2.bad = true → r2.bad = true) := fun h => h
  have S1 : Hid (r1.bad = true → r2.bad = true) := fun h => S2.out (num_stuck e2 h)
  have C1 : Hid (∀ w', r0.bad = false → At1 w' B r0.s → Calls Try.prog 60 #[.pointer (some ⟨B, 0, none⟩)] w' (Got w' B (.int .i64 x1) r1)) := fun w' hb k => num_step e1 hb l0 k
  have C2 : Hid (∀ w', r1.bad = false → At1 w' B r1.s → Calls Try.prog 60 #[.pointer (some ⟨B, 0, none⟩)] w' (Got w' B (.int .i64 x2) r2)) := fun w' hb k => num_step e2 hb l1 k
  have Q0 : Hid (∀ wd, wd = w.drew → r0.bad = false ∧ At1 wd B r0.s ∧ w.grownBy wd (some B)) := fun wd e => by subst e; exact ⟨hb0, h, grown_below (grown_refl _ _) (Below.drew (Below.refl _ _))⟩
  clear h hl hb0 l0 l1 l2 e1 e2
  go_enter Try.func61, Try.ntmps61
  go_upto_region 25 with fail
  refine region_pure [0, 1, 2, 4, 5, 6] [3, 7, 8, 9, 10] (by kernel_rfl) (by kernel_rfl) (fun d _ _ _ _ h => by cases d <;> exact h) (fun wd hwd => ?_)
  simp only [List.filterMap_cons, List.filterMap_nil, List.getElem?_cons_zero, List.getElem?_cons_succ]
  replace Q0 := Lib.hid (Q0.out wd hwd.out)
  clear hwd
  repeat (refine Zo.wpPure_step (fun K hK => ?_); go_simp; refine hK _ ?_; clear hK K)
  refine Zo.wpPure_nil ?_
  go_wp2_with fail
  refine (C1.out _ Q0.out.1 Q0.out.2.1).mono ?_
  rintro e w1 ⟨G, (⟨hb, rfl, K⟩ | ⟨hb, rfl⟩)⟩
  rotate_left
  · have FE : Hid (Got w B (.iface 82 (.agg #[.int .i64 x1, .int .i64 x2])) r2 (.panicked [{ v := unr, recovered := false }]) w1) := ⟨grown_trans Q0.out.2.2 G, .inr ⟨S1.out hb, rfl⟩⟩
    clear G hb
    go_wp2_with fail
    exact ⟨rfl, FE.out⟩
  have Q1 : Hid (r1.bad = false ∧ At1 w1 B r1.s ∧ w.grownBy w1 (some B)) := ⟨hb, K, grown_trans Q0.out.2.2 G⟩
  clear G hb K C1 Q0
  go_wp2_with fail
  refine (C2.out _ Q1.out.1 Q1.out.2.1).mono ?_
  rintro e w2 ⟨G, (⟨hb, rfl, K⟩ | ⟨hb, rfl⟩)⟩
  rotate_left
  · have FE : Hid (Got w B (.iface 82 (.agg #[.int .i64 x1, .int .i64 x2])) r2 (.panicked [{ v := unr, recovered := false }]) w2) := ⟨grown_trans Q1.out.2.2 G, .inr ⟨S2.out hb, rfl⟩⟩
    clear G hb
    go_wp2_with fail
    exact ⟨rfl, FE.out⟩
  have Q2 : Hid (r2.bad = false ∧ At1 w2 B r2.s ∧ w.grownBy w2 (some B)) := ⟨hb, K, grown_trans Q1.out.2.2 G⟩
  clear G hb K C2 Q1
  have FE : Hid (Got w B (.iface 82 (.agg #[.int .i64 x1, .int .i64 x2])) r2 (.returned (.iface 82 (.agg #[.int .i64 x1, .int .i64 x2]))) w2) := ⟨Q2.out.2.2, .inl ⟨Q2.out.1, rfl, Q2.out.2.1⟩⟩
  go_wp2_with fail
  all_goals exact bodyPost_ret (v := .iface 82 (.agg #[.int .i64 x1, .int .i64 x2])) (by simp [results, Try.results61, go_sem]) rfl FE.out
set_option maxHeartbeats 4000000 in
theorem prd13 {B : Nat} {w : World} (r0 : Rd) (r1 : Rd) (r2 : Rd) (r3 : Rd) (x1 : Int) (x2 : Int) (x3 : Int) (e1 : numR r0 = (x1, r1)) (e2 : numR r1 = (x2, r2)) (e3 : numR r2 = (x3, r3)) (hb0 : r0.bad = false) (hl : r0.s.length ≤ 9223372036854775807) (h : At1 w B r0.s) : Calls Try.prog 61 #[.pointer (some ⟨B, 0, none⟩), .int .u8 13] w (Got w B (.iface 84 (.agg #[.int .i64 x1, .int .i64 x2, .int .i64 x3])) r3) := by
  have hmi : ∀ (x : Value) (w : World), (Instr.makeInterface 84 x).run Try.prog w = .ok (.iface 84 x) w := fun x w => run_makeInterface _ _ _ (by kernel_rfl)
  have l0 := hl
  have l1 := num_le e1 l0
  have l2 := num_le e2 l1
  have l3 := num_le e3 l2
  have S3 : Hid (r3.bad = true → r3.bad = true) := fun h => h
  have S2 : Hid (r2.bad = true → r3.bad = true) := fun h => S3.out (num_stuck e3 h)
  have S1 : Hid (r1.bad = true → r3.bad = true) := fun h => S2.out (num_stuck e2 h)
  have C1 : Hid (∀ w', r0.bad = false → At1 w' B r0.s → Calls Try.prog 60 #[.pointer (some ⟨B, 0, none⟩)] w' (Got w' B (.int .i64 x1) r1)) := fun w' hb k => num_step e1 hb l0 k
  have C2 : Hid (∀ w', r1.bad = false → At1 w' B r1.s → Calls Try.prog 60 #[.pointer (some ⟨B, 0, none⟩)] w' (Got w' B (.int .i64 x2) r2)) := fun w' hb k => num_step e2 hb l1 k
  have C3 : Hid (∀ w', r2.bad = false → At1 w' B r2.s → Calls Try.prog 60 #[.pointer (some ⟨B, 0, none⟩)] w' (Got w' B (.int .i64 x3) r3)) := fun w' hb k => num_step e3 hb l2 k
  have Q0 : Hid (∀ wd, wd = w.drew → r0.bad = false ∧ At1 wd B r0.s ∧ w.grownBy wd (some B)) := fun wd e => by subst e; exact ⟨hb0, h, grown_below (grown_refl _ _) (Below.drew (Below.refl _ _))⟩
  clear h hl hb0 l0 l1 l2 l3 e1 e2 e3
  go_enter Try.func61, Try.ntmps61
  go_upto_region 27 with fail
  refine region_pure [0, 1, 2, 4, 5, 6, 8, 9, 10] [3, 7, 11, 12, 13, 14] (by kernel_rfl) (by kernel_rfl) (fun d _ _ _ _ h => by cases d <;> exact h) (fun wd hwd => ?_)
  simp only [List.filterMap_cons, List.filterMap_nil, List.getElem?_cons_zero, List.getElem?_cons_succ]
  replace Q0 := Lib.hid (Q0.out wd hwd.out)
  clear hwd
  repeat (refine Zo.wpPure_step (fun K hK => ?_); go_simp; refine hK _ ?_; clear hK K)
  refine Zo.wpPure_nil ?_
  go_wp2_with fail
  refine (C1.out _ Q0.out.1 Q0.out.2.1).mono ?_
  rintro e w1 ⟨G, (⟨hb, rfl, K⟩ | ⟨hb, rfl⟩)⟩
  rotate_left
  · have FE : Hid (Got w B (.iface 84 (.agg #[.int .i64 x1, .int .i64 x2, .int .i64 x3])) r3 (.panicked [{ v := unr, recovered := false }]) w1) := ⟨grown_trans Q0.out.2.2 G, .inr ⟨S1.out hb, rfl⟩⟩
    clear G hb
    go_wp2_with fail
    exact ⟨rfl, FE.out⟩
  have Q1 : Hid (r1.bad = false ∧ At1 w1 B r1.s ∧ w.grownBy w1 (some B)) := ⟨hb, K, grown_trans Q0.out.2.2 G⟩
  clear G hb K C1 Q0
  go_wp2_with fail
  refine (C2.out _ Q1.out.1 Q1.out.2.1).mono ?_
  rintro e w2 ⟨G, (⟨hb, rfl, K⟩ | ⟨hb, rfl⟩)⟩
  rotate_left
  · have FE : Hid (Got w B (.iface 84 (.agg #[.int .i64 x1, .int .i64 x2, .int .i64 x3])) r3 (.panicked [{ v := unr, recovered := false }]) w2) := ⟨grown_trans Q1.out.2.2 G, .inr ⟨S2.out hb, rfl⟩⟩
    clear G hb
    go_wp2_with fail
    exact ⟨rfl, FE.out⟩
  have Q2 : Hid (r2.bad = false ∧ At1 w2 B r2.s ∧ w.grownBy w2 (some B)) := ⟨hb, K, grown_trans Q1.out.2.2 G⟩
  clear G hb K C2 Q1
  go_wp2_with fail
  refine (C3.out _ Q2.out.1 Q2.out.2.1).mono ?_
  rintro e w3 ⟨G, (⟨hb, rfl, K⟩ | ⟨hb, rfl⟩)⟩
  rotate_left
  · have FE : Hid (Got w B (.iface 84 (.agg #[.int .i64 x1, .int .i64 x2, .int .i64 x3])) r3 (.panicked [{ v := unr, recovered := false }]) w3) := ⟨grown_trans Q2.out.2.2 G, .inr ⟨S3.out hb, rfl⟩⟩
    clear G hb
    go_wp2_with fail
    exact ⟨rfl, FE.out⟩
  have Q3 : Hid (r3.bad = false ∧ At1 w3 B r3.s ∧ w.grownBy w3 (some B)) := ⟨hb, K, grown_trans Q2.out.2.2 G⟩
  clear G hb K C3 Q2
  have FE : Hid (Got w B (.iface 84 (.agg #[.int .i64 x1, .int .i64 x2, .int .i64 x3])) r3 (.returned (.iface 84 (.agg #[.int .i64 x1, .int .i64 x2, .int .i64 x3]))) w3) := ⟨Q3.out.2.2, .inl ⟨Q3.out.1, rfl, Q3.out.2.1⟩⟩
  go_wp2_with fail
  all_goals exact bodyPost_ret (v := .iface 84 (.agg #[.int .i64 x1, .int .i64 x2, .int .i64 x3])) (by simp [results, Try.results61, go_sem]) rfl FE.out
set_option maxHeartbeats 4000000 in
theorem prd14 {B : Nat} {w : World} (r0 : Rd) (r1 : Rd) (r2 : Rd) (r3 : Rd) (r4 : Rd) (x1 : Int) (x2 : Int) (x3 : Bool) (x4 : Bool) (e1 : numR r0 = (x1, r1)) (e2 : numR r1 = (x2, r2)) (e3 : flagR r2 = (x3, r3)) (e4 : flagR r3 = (x4, r4)) (hb0 : r0.bad = false) (hl : r0.s.length ≤ 9223372036854775807) (h : At1 w B r0.s) : Calls Try.prog 61 #[.pointer (some ⟨B, 0, none⟩), .int .u8 14] w (Got w B (.iface 86 (.agg #[.int .i64 x1, .int .i64 x2, .bool x3, .bool x4])) r4) := by
  have hmi : ∀ (x : Value) (w : World), (Instr.makeInterface 86 x).run Try.prog w = .ok (.iface 86 x) w := fun x w => run_makeInterface _ _ _ (by kernel_rfl)
  have l0 := hl
  have l1 := num_le e1 l0
  have l2 := num_le e2 l1
  have l3 := flag_le e3 l2
  have l4 := flag_le e4 l3
  have S4 : Hid (r4.bad = true → r4.bad = true) := fun h => h
  have S3 : Hid (r3.bad = true → r4.bad = true) := fun h => S4.out (flag_stuck e4 h)
  have S2 : Hid (r2.bad = true → r4.bad = true) := fun h => S3.out (flag_stuck e3 h)
  have S1 : Hid (r1.bad = true → r4.bad = true) := fun h => S2.out (num_stuck e2 h)
  have C1 : Hid (∀ w', r0.bad = false → At1 w' B r0.s → Calls Try.prog 60 #[.pointer (some ⟨B, 0, none⟩)] w' (Got w' B (.int .i64 x1) r1)) := fun w' hb k => num_step e1 hb l0 k
  have C2 : Hid (∀ w', r1.bad = false → At1 w' B r1.s → Calls Try.prog 60 #[.pointer (some ⟨B, 0, none⟩)] w' (Got w' B (.int .i64 x2) r2)) := fun w' hb k => num_step e2 hb l1 k
  have C3 : Hid (∀ w', r2.bad = false → At1 w' B r2.s → Calls Try.prog 74 #[.pointer (some ⟨B, 0, none⟩)] w' (Got w' B (.bool x3) r3)) := fun w' hb k => flag_step e3 hb l2 k
  have C4 : Hid (∀ w', r3.bad = false → At1 w' B r3.s → Calls Try.prog 74 #[.pointer (some ⟨B, 0, none⟩)] w' (Got w' B (.bool x4) r4)) := fun w' hb k => flag_step e4 hb l3 k
  have Q0 : Hid (∀ wd, wd = w.drew → r0.bad = false ∧ At1 wd B r0.s ∧ w.grownBy wd (some B)) := fun wd e => by subst e; exact ⟨hb0, h, grown_below (grown_refl _ _) (Below.drew (Below.refl _ _))⟩
  clear h hl hb0 l0 l1 l2 l3 l4 e1 e2 e3 e4
  go_enter Try.func61, Try.ntmps61
  go_upto_region 29 with fail
  refine region_pure [0, 1, 2, 4, 5, 6, 8, 9, 10, 12, 13, 14] [3, 7, 11, 15, 16, 17, 18] (by kernel_rfl) (by kernel_rfl) (fun d _ _ _ _ h => by cases d <;> exact h) (fun wd hwd => ?_)
  simp only [List.filterMap_cons, List.filterMap_nil, List.getElem?_cons_zero, List.getElem?_cons_succ]
  replace Q0 := Lib.hid (Q0.out wd hwd.out)
  clear hwd
  repeat (refine Zo.wpPure_step (fun K hK => ?_); go_simp; refine hK _ ?_; clear hK K)
  refine Zo.wpPure_nil ?_
  go_wp2_with fail
  refine (C1.out _ Q0.out.1 Q0.out.2.1).mono ?_
  rintro e w1 ⟨G, (⟨hb, rfl, K⟩ | ⟨hb, rfl⟩)⟩
  rotate_left
  · have FE : Hid (Got w B (.iface 86 (.agg #[.int .i64 x1, .int .i64 x2, .bool x3, .bool x4])) r4 (.panicked [{ v := unr, recovered := false }]) w1) := ⟨grown_trans Q0.out.2.2 G, .inr ⟨S1.out hb, rfl⟩⟩
    clear G hb
    go_wp2_with fail
    exact ⟨rfl, FE.out⟩
  have Q1 : Hid (r1.bad = false ∧ At1 w1 B r1.s ∧ w.grownBy w1 (some B)) := ⟨hb, K, grown_trans Q0.out.2.2 G⟩
  clear G hb K C1 Q0
  go_wp2_with fail
  refine (C2.out _ Q1.out.1 Q1.out.2.1).mono ?_
  rintro e w2 ⟨G, (⟨hb, rfl, K⟩ | ⟨hb, rfl⟩)⟩
  rotate_left
  · have FE : Hid (Got w B (.iface 86 (.agg #[.int .i64 x1, .int .i64 x2, .bool x3, .bool x4])) r4 (.panicked [{ v := unr, recovered := false }]) w2) := ⟨grown_trans Q1.out.2.2 G, .inr ⟨S2.out hb, rfl⟩⟩
    clear G hb
    go_wp2_with fail
    exact ⟨rfl, FE.out⟩
  have Q2 : Hid (r2.bad = false ∧ At1 w2 B r2.s ∧ w.grownBy w2 (some B)) := ⟨hb, K, grown_trans Q1.out.2.2 G⟩
  clear G hb K C2 Q1
  go_wp2_with fail
  refine (C3.out _ Q2.out.1 Q2.out.2.1).mono ?_
  rintro e w3 ⟨G, (⟨hb, rfl, K⟩ | ⟨hb, rfl⟩)⟩
  rotate_left
  · have FE : Hid (Got w B (.iface 86 (.agg #[.int .i64 x1, .int .i64 x2, .bool x3, .bool x4])) r4 (.panicked [{ v := unr, recovered := false }]) w3) := ⟨grown_trans Q2.out.2.2 G, .inr ⟨S3.out hb, rfl⟩⟩
    clear G hb
    go_wp2_with fail
    exact ⟨rfl, FE.out⟩
  have Q3 : Hid (r3.bad = false ∧ At1 w3 B r3.s ∧ w.grownBy w3 (some B)) := ⟨hb, K, grown_trans Q2.out.2.2 G⟩
  clear G hb K C3 Q2
  go_wp2_with fail
  refine (C4.out _ Q3.out.1 Q3.out.2.1).mono ?_
  rintro e w4 ⟨G, (⟨hb, rfl, K⟩ | ⟨hb, rfl⟩)⟩
  rotate_left
  · have FE : Hid (Got w B (.iface 86 (.agg #[.int .i64 x1, .int .i64 x2, .bool x3, .bool x4])) r4 (.panicked [{ v := unr, recovered := false }]) w4) := ⟨grown_trans Q3.out.2.2 G, .inr ⟨S4.out hb, rfl⟩⟩
    clear G hb
    go_wp2_with fail
    exact ⟨rfl, FE.out⟩
  have Q4 : Hid (r4.bad = false ∧ At1 w4 B r4.s ∧ w.grownBy w4 (some B)) := ⟨hb, K, grown_trans Q3.out.2.2 G⟩
  clear G hb K C4 Q3
  have FE : Hid (Got w B (.iface 86 (.agg #[.int .i64 x1, .int .i64 x2, .bool x3, .bool x4])) r4 (.returned (.iface 86 (.agg #[.int .i64 x1, .int .i64 x2, .bool x3, .bool x4]))) w4) := ⟨Q4.out.2.2, .inl ⟨Q4.out.1, rfl, Q4.out.2.1⟩⟩
  go_wp2_with fail
  all_goals exact bodyPost_ret (v := .iface 86 (.agg #[.int .i64 x1, .int .i64 x2, .bool x3, .bool x4])) (by simp [results, Try.results61, go_sem]) rfl FE.out
set_option maxHeartbeats 4000000 in
theorem prd15 {B : Nat} {w : World} (r0 : Rd) (r1 : Rd) (r2 : Rd) (x1 : Int) (x2 : Int) (e1 : numR r0 = (x1, r1)) (e2 : numR r1 = (x2, r2)) (hb0 : r0.bad = false) (hl : r0.s.length ≤ 9223372036854775807) (h : At1 w B r0.s) : Calls Try.prog 61 #[.pointer (some ⟨B, 0, none⟩), .int .u8 15] w (Got w B (.iface 88 (.agg #[.int .i64 x1, .int .i64 x2])) r2) := by
  have hmi : ∀ (x : Value) (w : World), (Instr.makeInterface 88 x).run Try.prog w = .ok (.iface 88 x) w := fun x w => run_makeInterface _ _ _ (by kernel_rfl)
  have l0 := hl
  have l1 := num_le e1 l0
  have l2 := num_le e2 l1
  have S2 : Hid (r2.bad = true → r2.bad = true) := fun h => h
  have S1 : Hid (r1.bad = true → r2.bad = true) := fun h => S2.out (num_stuck e2 h)
  have C1 : Hid (∀ w', r0.bad = false → At1 w' B r0.s → Calls Try.prog 60 #[.pointer (some ⟨B, 0, none⟩)] w' (Got w' B (.int .i64 x1) r1)) := fun w' hb k => num_step e1 hb l0 k
  have C2 : Hid (∀ w', r1.bad = false → At1 w' B r1.s → Calls Try.prog 60 #[.pointer (some ⟨B, 0, none⟩)] w' (Got w' B (.int .i64 x2) r2)) := fun w' hb k => num_step e2 hb l1 k
  have Q0 : Hid (∀ wd, wd = w.drew → r0.bad = false ∧ At1 wd B r0.s ∧ w.grownBy wd (some B)) := fun wd e => by subst e; exact ⟨hb0, h, grown_below (grown_refl _ _) (Below.drew (Below.refl _ _))⟩
  clear h hl hb0 l0 l1 l2 e1 e2
  go_enter Try.func61, Try.ntmps61
  go_upto_region 31 with fail
  refine region_pure [0, 1, 2, 4, 5, 6] [3, 7, 8, 9, 10] (by kernel_rfl) (by kernel_rfl) (fun d _ _ _ _ h => by cases d <;> exact h) (fun wd hwd => ?_)
  simp only [List.filterMap_cons, List.filterMap_nil, List.getElem?_cons_zero, List.getElem?_cons_succ]
  replace Q0 := Lib.hid (Q0.out wd hwd.out)
  clear hwd
  repeat (refine Zo.wpPure_step (fun K hK => ?_); go_simp; refine hK _ ?_; clear hK K)
  refine Zo.wpPure_nil ?_
  go_wp2_with fail
  refine (C1.out _ Q0.out.1 Q0.out.2.1).mono ?_
  rintro e w1 ⟨G, (⟨hb, rfl, K⟩ | ⟨hb, rfl⟩)⟩
  rotate_left
  · have FE : Hid (Got w B (.iface 88 (.agg #[.int .i64 x1, .int .i64 x2])) r2 (.panicked [{ v := unr, recovered := false }]) w1) := ⟨grown_trans Q0.out.2.2 G, .inr ⟨S1.out hb, rfl⟩⟩
    clear G hb
    go_wp2_with fail
    exact ⟨rfl, FE.out⟩
  have Q1 : Hid (r1.bad = false ∧ At1 w1 B r1.s ∧ w.grownBy w1 (some B)) := ⟨hb, K, grown_trans Q0.out.2.2 G⟩
  clear G hb K C1 Q0
  go_wp2_with fail
  refine (C2.out _ Q1.out.1 Q1.out.2.1).mono ?_
  rintro e w2 ⟨G, (⟨hb, rfl, K⟩ | ⟨hb, rfl⟩)⟩
  rotate_left
  · have FE : Hid (Got w B (.iface 88 (.agg #[.int .i64 x1, .int .i64 x2])) r2 (.panicked [{ v := unr, recovered := false }]) w2) := ⟨grown_trans Q1.out.2.2 G, .inr ⟨S2.out hb, rfl⟩⟩
    clear G hb
    go_wp2_with fail
    exact ⟨rfl, FE.out⟩
  have Q2 : Hid (r2.bad = false ∧ At1 w2 B r2.s ∧ w.grownBy w2 (some B)) := ⟨hb, K, grown_trans Q1.out.2.2 G⟩
  clear G hb K C2 Q1
  have FE : Hid (Got w B (.iface 88 (.agg #[.int .i64 x1, .int .i64 x2])) r2 (.returned (.iface 88 (.agg #[.int .i64 x1, .int .i64 x2]))) w2) := ⟨Q2.out.2.2, .inl ⟨Q2.out.1, rfl, Q2.out.2.1⟩⟩
  go_wp2_with fail
  all_goals exact bodyPost_ret (v := .iface 88 (.agg #[.int .i64 x1, .int .i64 x2])) (by simp [results, Try.results61, go_sem]) rfl FE.out
set_option maxHeartbeats 4000000 in
theorem prd_none {B : Nat} {w : World} (k : Nat) (hk : k ≤ 255) (hk2 : k = 0 ∨ 15 < k) (X : Value) (r : Rd) (hr : r.bad = true) : Calls Try.prog 61 #[.pointer (some ⟨B, 0, none⟩), .int .u8 (k : Nat)] w (Got w B X r) := by
  have hmi := hmi
  have FE : Hid (Got w B X r (.panicked [{ v := unr, recovered := false }]) w) := ⟨grown_refl _ _, .inr ⟨hr, rfl⟩⟩
  have n1 : ¬ (k : Int) = 1 := by omega
  have n2 : ¬ (k : Int) = 2 := by omega
  have n3 : ¬ (k : Int) = 3 := by omega
  have n4 : ¬ (k : Int) = 4 := by omega
  have n5 : ¬ (k : Int) = 5 := by omega
  have n6 : ¬ (k : Int) = 6 := by omega
  have n7 : ¬ (k : Int) = 7 := by omega
  have n8 : ¬ (k : Int) = 8 := by omega
  have n9 : ¬ (k : Int) = 9 := by omega
  have n10 : ¬ (k : Int) = 10 := by omega
  have n11 : ¬ (k : Int) = 11 := by omega
  have n12 : ¬ (k : Int) = 12 := by omega
  have n13 : ¬ (k : Int) = 13 := by omega
  have n14 : ¬ (k : Int) = 14 := by omega
  have n15 : ¬ (k : Int) = 15 := by omega
  clear hr hk hk2
  have C := Lib.hid (giveup_any B w)
  go_enter Try.func61, Try.ntmps61
  go_wp2_with fail
  refine C.out.mono ?_
  rintro e w1 ⟨rfl, rfl⟩
  clear C
  go_wp2_with fail
  exact ⟨rfl, FE.out⟩
end Go.Proofs.Ythegkookfpnbeaa.Wds
/- Words: the program's reader: a call. -/
set_option linter.unusedVariables false
set_option linter.unusedSimpArgs false
set_option maxRecDepth 100000
namespace Go.Proofs.Ythegkookfpnbeaa.Wds
open Go.RowKit Go.Lib Go.Proofs.Ythegkookfpnbeaa.Bx Go.Proofs.Ythegkookfpnbeaa.Frm

/-- What is read behind the number of a call. -/
def tailR (k : Nat) (r : Rd) : Pl × Rd :=
  let q4 := numsR (countN k) r
  let q5 := skipT ((k : Int) = 1 ∨ (k : Int) = 4) q4.2
  let q6 := skipT ((k : Int) = 1) q5.2
  let q7 := skipF ((k : Int) = 14) q6.2
  let q8 := skipF ((k : Int) = 14) q7.2
  (⟨k, [], 0, q4.1 ++ List.replicate (6 - countN k) 0, q5.1, q6.1, q7.1, q8.1⟩, q8.2)
def tailW (k : Nat) (r : Rd) : Rd := if k = 0 ∨ 15 < k then ⟨r.s, true⟩ else (tailR k r).2
theorem pask_rd {B : Nat} {w : World} (k : Nat) (hk : k ≤ 255) (r : Rd) (hb : r.bad = false) (hl : r.s.length ≤ 9223372036854775807) (h : At1 w B r.s) : Calls Try.prog 61 #[.pointer (some ⟨B, 0, none⟩), .int .u8 (k : Nat)] w (Got w B (askV (tailR k r).1) (tailW k r)) := by
  unfold tailW
  by_cases ho : k = 0 ∨ 15 < k
  · rw [if_pos ho]
    exact prd_none k hk ho _ _ rfl
  · rw [if_neg ho]
    match k, ho with
    | 0, h => exact absurd (.inl rfl) h
    | 1, _ => exact prd1 r _ _ _ _ rfl rfl hb hl h
    | 2, _ => exact prd2 r    hb hl h
    | 3, _ => exact prd3 r _ _ rfl hb hl h
    | 4, _ => exact prd4 r _ _ _ _ _ _ _ _ rfl rfl rfl rfl hb hl h
    | 5, _ => exact prd5 r _ _ _ _ _ _ _ _ rfl rfl rfl rfl hb hl h
    | 6, _ => exact prd6 r _ _ _ _ _ _ _ _ _ _ rfl rfl rfl rfl rfl hb hl h
    | 7, _ => exact prd7 r _ _ _ _ _ _ _ _ _ _ _ _ rfl rfl rfl rfl rfl rfl hb hl h
    | 8, _ => exact prd8 r _ _ rfl hb hl h
    | 9, _ => exact prd9 r _ _ rfl hb hl h
    | 10, _ => exact prd10 r _ _ rfl hb hl h
    | 11, _ => exact prd11 r _ _ _ _ _ _ rfl rfl rfl hb hl h
    | 12, _ => exact prd12 r _ _ _ _ rfl rfl hb hl h
    | 13, _ => exact prd13 r _ _ _ _ _ _ rfl rfl rfl hb hl h
    | 14, _ => exact prd14 r _ _ _ _ _ _ _ _ rfl rfl rfl rfl hb hl h
    | 15, _ => exact prd15 r _ _ _ _ rfl rfl hb hl h
    | n + 16, h => exact absurd (.inr (by omega)) h
end Go.Proofs.Ythegkookfpnbeaa.Wds
