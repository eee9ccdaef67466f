/- Words: the program's reader: bytes, a number, a text, a bool; or a panic. -/
import Derived.Test.YtccaiippoephbaaGreatDoorVd
import Derived.Test.YtccaiippoephbaaGreatDoorShelf
import Derived.Defers
import Derived.Recover
import Derived.Laws.Pointers
import Derived.Laws.BitsLemmas
import Derived.Deep.RegionWith
import Derived.StillTailTactics
import Derived.Test.YtccaiippoephbaaGreatDoorProg
import Derived.Orders
import Derived.Tactics
set_option linter.unusedVariables false
set_option linter.unusedSimpArgs false
set_option maxRecDepth 100000
namespace Go.Proofs.YtccaiippoephbaaGreatDoor.Wds
open Go.RowKit Go.Lib Go.Proofs.YtccaiippoephbaaGreatDoor.Bx Go.Proofs.YtccaiippoephbaaGreatDoor.Frm

/-- The program's reader at block B. -/
def At1 (w : World) (B : Nat) (l : List UInt8) : Prop := w.heap[B]? = some (.cells #[.string (mkB l)] 180 (0, 0))
theorem At1.cell {w : World} {B : Nat} {l : List UInt8} (h : At1 w B l) : w.cell? ⟨B, 0, none⟩ = some (.string (mkB l)) ∧ B < w.heap.size ∧ w.frozen? ⟨B, 0, none⟩ = false := ⟨Bx.one_cell h, (Array.getElem?_eq_some_iff.1 h).1, free_at h⟩
theorem At1.below {w w' : World} {B : Nat} {l : List UInt8} (h : At1 w B l) (hb : Below w.heap.size w w') : At1 w' B l := (hb.block B h.cell.2.1).trans h
theorem At1.set {w : World} {B : Nat} {l : List UInt8} (h : At1 w B l) (l' : List UInt8) : At1 (w.setCell ⟨B, 0, none⟩ (.string (mkB l'))) B l' := set_block h
def unr : Value := .iface 204 (.agg #[])
/-- What a step of reading owes: what is read, or a panic. -/
def Got (w : World) (B : Nat) (x : Value) (r : Rd) : Ending → World → Prop := fun e w' => w.grownBy w' (some B) ∧ ((r.bad = false ∧ e = .returned x ∧ At1 w' B r.s) ∨ (r.bad = true ∧ e = .panicked [{ v := unr, recovered := false }]))
theorem hmi : ∀ (x : Value) (w : World), (Instr.makeInterface 204 x).run Tryz.prog w = .ok (.iface 204 x) w := fun x w => run_makeInterface _ _ _ (by kernel_rfl)
set_option maxHeartbeats 2000000 in
theorem giveup_any (B : Nat) (w : World) : Calls Tryz.prog 131 #[.pointer (some ⟨B, 0, none⟩)] w fun e w' => e = .panicked [{ v := unr, recovered := false }] ∧ w' = w := by
  have hmi := hmi
  go_enter Tryz.func131, Tryz.ntmps131
  go_wp2_with fail
  exact ⟨rfl, rfl, rfl⟩
set_option maxHeartbeats 8000000 in
theorem ptake_any {l : List UInt8} {B : Nat} {w : World} (h : At1 w B l) (n : Nat) (hn : n ≤ 65535) (hl : l.length ≤ 9223372036854775807) : Calls Tryz.prog 152 #[.pointer (some ⟨B, 0, none⟩), .int .i64 (n : Nat)] w (Got w B (.string (mkB (takeR ⟨l, false⟩ n).1)) (takeR ⟨l, false⟩ n).2) := by
  obtain ⟨c0, hB, f0⟩ := h.cell
  obtain ⟨m, hm⟩ : ∃ m, m = l.length := ⟨_, rfl⟩
  obtain ⟨s, hs⟩ : ∃ s, s = mkB l := ⟨_, rfl⟩
  have hsz : s.size = m := by rw [hs, mkB_size, hm]
  have hmi := hmi
  by_cases hbad : m < n
  · have e : takeR ⟨l, false⟩ n = (List.replicate n 0, ⟨l, true⟩) := by
      unfold takeR
      rw [if_pos (.inr (by rw [← hm]; exact hbad))]
    have g1 : (m : Int) < (n : Int) := by omega
    have g2 : decide ((m : Int) < (n : Int)) = true := decide_eq_true g1
    have FE : Hid (w.grownBy w (some B)) := grown_refl _ _
    have C := Lib.hid (giveup_any B w)
    rw [e]
    rw [← hs] at c0
    clear hs hm h e hl
    go_enter Tryz.func152, Tryz.ntmps152
    go_wp2_with fail
    refine C.out.mono ?_
    rintro e w1 ⟨rfl, rfl⟩
    clear C
    go_wp2_with fail
    exact ⟨rfl, FE.out, .inr ⟨rfl, rfl⟩⟩
  · have e : takeR ⟨l, false⟩ n = (l.take n, ⟨l.drop n, false⟩) := by
      unfold takeR
      rw [if_neg (by rw [← hm]; rintro (h | h); cases h; exact hbad h)]
    rw [e]
    have g1 : ¬ (m : Int) < (n : Int) := by omega
    have g2 : decide ((m : Int) < (n : Int)) = false := decide_eq_false g1
    obtain ⟨s1, hs1⟩ : ∃ s1, s1 = mkB (l.take n) := ⟨_, rfl⟩
    obtain ⟨s2, hs2⟩ : ∃ s2, s2 = mkB (l.drop n) := ⟨_, rfl⟩
    have XS1 : ∀ w, (Instr.slice 9 (.string s) none (some (.int .i64 (n : Nat))) none).run Tryz.prog w = .ok (.string s1) w := fun w => by
      rw [hs, hs1]
      exact slice_to w l (by omega)
    have XS2 : ∀ w, (Instr.slice 9 (.string s) (some (.int .i64 (n : Nat))) none none).run Tryz.prog w = .ok (.string s2) w := fun w => by
      rw [hs, hs2]
      exact slice_from w l (by omega)
    have n0 : (0 : Int) ≤ (n : Int) := by omega
    have nm : (n : Int) ≤ (m : Int) := by omega
    rw [← hs] at c0
    have HF : Hid (At1 (w.setCell ⟨B, 0, none⟩ (.string s2)) B (l.drop n)) := by
      rw [hs2]
      exact h.set _
    have HG : Hid (w.grownBy (w.setCell ⟨B, 0, none⟩ (.string s2)) (some B)) := grown_put (grown_refl _ _)
    rw [← hs1]
    clear hs hm hs1 hs2 h hl
    go_enter Tryz.func152, Tryz.ntmps152
    go_wp2_with fail
    go_ret
    exact ⟨HG.out, .inl ⟨rfl, rfl, HF.out⟩⟩
end Go.Proofs.YtccaiippoephbaaGreatDoor.Wds
/- Words: the program's reader: a byte, a number, a bool. -/
set_option linter.unusedVariables false
set_option linter.unusedSimpArgs false
set_option maxRecDepth 100000
namespace Go.Proofs.YtccaiippoephbaaGreatDoor.Wds
open Go.RowKit Go.Lib Go.Proofs.YtccaiippoephbaaGreatDoor.Bx Go.Proofs.YtccaiippoephbaaGreatDoor.Frm

set_option maxHeartbeats 8000000 in
theorem pbyte_rd {l : List UInt8} {B : Nat} {w : World} (h : At1 w B l) (hl : l.length ≤ 9223372036854775807) : Calls Tryz.prog 132 #[.pointer (some ⟨B, 0, none⟩)] w (Got w B (.int .i64 ((lenR ⟨l, false⟩).1 : Nat)) (lenR ⟨l, false⟩).2) := by
  have C := Lib.hid (ptake_any h 1 (by decide) hl)
  obtain ⟨t, ht⟩ : ∃ t, t = (takeR ⟨l, false⟩ 1).1 := ⟨_, rfl⟩
  obtain ⟨r1, hr1⟩ : ∃ r1, r1 = (takeR ⟨l, false⟩ 1).2 := ⟨_, rfl⟩
  have hlt : t.length = 1 := by rw [ht]; exact take_len _ _
  obtain ⟨x, hx⟩ : ∃ x, x = (t.getD 0 0).toNat := ⟨_, rfl⟩
  have HR : Hid ((lenR ⟨l, false⟩).1 = x ∧ (lenR ⟨l, false⟩).2 = r1) := ⟨by rw [hx, ht]; rfl, by rw [hr1]; rfl⟩
  have x8 : x < 256 := by rw [hx]; exact UInt8.toNat_lt _
  have XI : ∀ w, (Instr.index 9 (.string (mkB t)) (.int .i64 0)).run Tryz.prog w = .ok (.int .u8 (x : Nat)) w := fun w => by
    rw [hx]
    exact byte_run w t .i64 (i := 0) (by omega)
  rw [← ht, ← hr1] at C
  have hsz : (mkB t).size = 1 := by rw [mkB_size, hlt]
  rw [HR.out.1, HR.out.2]
  generalize mkB t = s at *
  clear ht hl h hx hlt hr1 HR
  go_enter Tryz.func132, Tryz.ntmps132
  go_wp2_with fail
  refine C.out.mono ?_
  rintro e w1 ⟨G, (⟨hb, rfl, K⟩ | ⟨hb, rfl⟩)⟩
  · have FE : Hid (Got w B (.int .i64 (x : Nat)) r1 (.returned (.int .i64 (x : Nat))) w1) := ⟨G, .inl ⟨hb, rfl, K⟩⟩
    clear G K hb C
    go_wp2_with fail
    go_ret
    exact FE.out
  · have FE : Hid (Got w B (.int .i64 (x : Nat)) r1 (.panicked [{ v := unr, recovered := false }]) w1) := ⟨G, .inr ⟨hb, rfl⟩⟩
    clear G hb C
    go_wp2_with fail
    exact ⟨rfl, FE.out⟩
set_option maxHeartbeats 8000000 in
theorem pbool_rd {l : List UInt8} {B : Nat} {w : World} (h : At1 w B l) (hl : l.length ≤ 9223372036854775807) : Calls Tryz.prog 155 #[.pointer (some ⟨B, 0, none⟩)] w (Got w B (.bool (flagR ⟨l, false⟩).1) (flagR ⟨l, false⟩).2) := by
  have C := Lib.hid (pbyte_rd h hl)
  obtain ⟨x, hx⟩ : ∃ x, x = (lenR ⟨l, false⟩).1 := ⟨_, rfl⟩
  obtain ⟨r1, hr1⟩ : ∃ r1, r1 = (lenR ⟨l, false⟩).2 := ⟨_, rfl⟩
  have HR : Hid ((flagR ⟨l, false⟩).1 = decide (x = 1) ∧ (flagR ⟨l, false⟩).2 = if 1 < x then ⟨r1.s, true⟩ else r1) := ⟨by rw [hx]; rfl, by rw [hx, hr1]; rfl⟩
  obtain ⟨y, hy⟩ : ∃ y, y = (flagR ⟨l, false⟩).1 := ⟨_, rfl⟩
  obtain ⟨r2, hr2⟩ : ∃ r2, r2 = (flagR ⟨l, false⟩).2 := ⟨_, rfl⟩
  rw [← hx, ← hr1] at C
  rw [← hy, ← hr2] at HR ⊢
  clear h hl hx hr1 hy hr2
  go_enter Tryz.func155, Tryz.ntmps155
  go_wp2_with fail
  refine C.out.mono ?_
  rintro e w1 ⟨G, (⟨hb, rfl, K⟩ | ⟨hb, rfl⟩)⟩
  · by_cases h1 : 1 < x
    · have q1 : (1 : Int) < (x : Int) := by omega
      have C2 := Lib.hid (giveup_any B w1)
      have FE : Hid (Got w B (.bool y) r2 (.panicked [{ v := unr, recovered := false }]) w1) := ⟨G, .inr ⟨by rw [HR.out.2, if_pos h1], rfl⟩⟩
      clear G K hb C
      go_wp2_with fail
      refine C2.out.mono ?_
      rintro e w2 ⟨rfl, rfl⟩
      clear C2
      go_wp2_with fail
      exact ⟨rfl, FE.out⟩
    · have q1 : ¬ (1 : Int) < (x : Int) := by omega
      have FE : Hid (Got w B (.bool y) r2 (.returned (.bool ((x : Int) == 1))) w1) := by
        show Got _ _ _ _ _ _
        rw [HR.out.1, HR.out.2, if_neg h1]
        exact ⟨G, .inl ⟨hb, by congr 2; rw [show ((x : Int) == 1) = decide ((x : Int) = 1) from rfl]; exact decide_eq_decide.2 (by omega), K⟩⟩
      clear G K hb C
      go_wp2_with fail
      all_goals exact bodyPost_ret (v := .bool ((x : Int) == 1)) (by simp [results, Tryz.results155, go_sem]) rfl FE.out
  · have FE : Hid (Got w B (.bool y) r2 (.panicked [{ v := unr, recovered := false }]) w1) := ⟨G, .inr ⟨by rw [HR.out.2]; split; rfl; exact hb, rfl⟩⟩
    clear G hb C
    go_wp2_with fail
    exact ⟨rfl, FE.out⟩
set_option maxHeartbeats 8000000 in
theorem pnum_rd {l : List UInt8} {B : Nat} {w : World} (h : At1 w B l) (hl : l.length ≤ 9223372036854775807) : Calls Tryz.prog 134 #[.pointer (some ⟨B, 0, none⟩)] w (Got w B (.int .i64 (numR ⟨l, false⟩).1) (numR ⟨l, false⟩).2) := by
  have C := Lib.hid (ptake_any h 8 (by decide) hl)
  obtain ⟨t, ht⟩ : ∃ t, t = (takeR ⟨l, false⟩ 8).1 := ⟨_, rfl⟩
  obtain ⟨r1, hr1⟩ : ∃ r1, r1 = (takeR ⟨l, false⟩ 8).2 := ⟨_, rfl⟩
  have hlt : t.length = 8 := by rw [ht]; exact take_len _ _
  have HR : Hid ((numR ⟨l, false⟩).1 = back (valN t) ∧ (numR ⟨l, false⟩).2 = r1) := ⟨by rw [ht]; rfl, by rw [hr1]; rfl⟩
  rw [← ht, ← hr1] at C
  rw [HR.out.1, HR.out.2]
  obtain ⟨s, hs⟩ : ∃ s, s = mkB t := ⟨_, rfl⟩
  have HS : Hid (s = mkB t ∧ t.length = 8) := ⟨hs, hlt⟩
  have hsz : s.size = 8 := by rw [hs, mkB_size, hlt]
  rw [← hs] at C
  clear ht hl hs h hlt hr1 HR
  go_enter Tryz.func134, Tryz.ntmps134
  go_wp2_with fail
  refine C.out.mono ?_
  rintro e w1 ⟨G, (⟨hb, rfl, K⟩ | ⟨hb, rfl⟩)⟩
  · have FN : Hid (∀ x, x = back (valN t) → Got w B (.int .i64 (back (valN t))) r1 (.returned (.int .i64 x)) w1) := fun x hx => ⟨G, .inl ⟨hb, by rw [hx], K⟩⟩
    clear G K hb C
    go_wp2_with fail
    go_loopg [4, 10] 8 (fun g n_ i_ wr => wr = w1 ∧ ∃ (i : Nat), i ≤ 8 ∧ 8 - i ≤ g ∧ i_ = .int .i64 i ∧ n_ = .int .u64 (valN (t.take i) : Nat))
    case atStart => exact ⟨rfl, 0, by omega, by omega, rfl, rfl⟩
    case round =>
      obtain ⟨rfl, i, hi, hg, rfl, rfl⟩ := hrel
      by_cases hi8 : i < 8
      · have iw : ((i : Nat) : Int) < 8 := by omega
        have n0 : (0 : Int) ≤ (i : Int) := by omega
        obtain ⟨y, hy⟩ : ∃ y : UInt8, y = t.getD i 0 := ⟨_, rfl⟩
        have XI : ∀ w, (Instr.index 9 (.string s) (.int .i64 (i : Nat))).run Tryz.prog w = .ok (.int .u8 (y.toNat : Nat)) w := fun w => by
          rw [HS.out.1, hy]
          exact byte_run w t .i64 (by rw [HS.out.2]; exact hi8)
        obtain ⟨a, ha⟩ : ∃ a, a = valN (t.take i) := ⟨_, rfl⟩
        have hb : Hid (valN (t.take (i + 1)) = a * 256 + y.toNat) := by show _ = _; rw [ha, hy]; exact val_next (by rw [HS.out.2]; exact hi8)
        have y8 : y.toNat < 256 := y.toNat_lt
        have hlt : a * 256 + y.toNat < 18446744073709551616 := by
          rw [← hb.out]
          have h1 := val_lt (i + 1) (t.take (i + 1)) (by rw [List.length_take, HS.out.2]; omega)
          exact Nat.lt_of_lt_of_le h1 (Nat.le_trans (Nat.pow_le_pow_right (by decide) (show i + 1 ≤ 8 by omega)) (by decide))
        rw [← ha]
        clear ha hy
        generalize y.toNat = x at *
        have hor : bits .or .u64 ((a : Int) * 256) (x : Int) = ((a * 256 + x : Nat) : Int) := by
          rw [bits_join .u64 64 (by decide) (fun n h0 h1 => IntWalk.u64_in n (by omega)) 8 _ _ (by omega) (by omega) (by omega) (by omega) (by omega) (by omega)]
          omega
        have hw1 : IntKind.u64.wrap ((a : Int) * 256) = (a : Int) * 256 := IntWalk.u64_in _ (by omega)
        have hw2 : IntKind.u64.wrap (x : Int) = (x : Int) := IntWalk.u64_in _ (by omega)
        go_wp2_with fail
        go_roundg (8 - (i + 1))
        case measure => omega
        case rel => exact ⟨rfl, i + 1, by omega, Nat.le_refl _, by go_num, by rw [hb.out]; go_num⟩
      · obtain rfl : i = 8 := by omega
        have iw : ¬ (((8 : Nat) : Int) < 8) := by omega
        have et : t.take 8 = t := List.take_of_length_le (by rw [HS.out.2]; exact Nat.le_refl _)
        rw [et]
        have WB := wrap_back (valN t)
        have FE := Lib.hid (FN.out _ rfl)
        generalize valN t = v at *
        generalize back v = z at *
        clear et FN
        go_wp2_with fail
        go_ret
        exact FE.out
  · have FE : Hid (Got w B (.int .i64 (back (valN t))) r1 (.panicked [{ v := unr, recovered := false }]) w1) := ⟨G, .inr ⟨hb, rfl⟩⟩
    clear G hb C
    go_wp2_with fail
    exact ⟨rfl, FE.out⟩
end Go.Proofs.YtccaiippoephbaaGreatDoor.Wds
/- Words: the program's reader: a text. -/
set_option linter.unusedVariables false
set_option linter.unusedSimpArgs false
set_option maxRecDepth 100000
namespace Go.Proofs.YtccaiippoephbaaGreatDoor.Wds
open Go.RowKit Go.Lib Go.Proofs.YtccaiippoephbaaGreatDoor.Bx Go.Proofs.YtccaiippoephbaaGreatDoor.Frm

theorem still_tail {P : Program} {id : Nat} {Q : Exit → Act → World → Prop} {a : Act} {w : World} {l : List Oper} (n : Nat) (hm : P.follows .mixedOrders = true) (hB : Region.lexTailB .any l.toArray n = true)
    (h : wpStill P l.toArray w.drew (fun a' => wpList P l.toArray Q (l.drop n) a' w.drew) (l.take n) a) : (Code.region id l.toArray true).wp P Q a w := wp_region_still_tail n hm hB h
set_option maxHeartbeats 2000000 in
theorem clone_any (s : ByteArray) (w : World) (h : s.size ≤ 281474976710656) : Calls Tryz.prog 115 #[.string s] w fun e w' => e = .returned (.string s) ∧ Below w.heap.size w w' := by
  have C := Lib.hid (Tryz.stringslite_Clone s w h)
  clear h
  go_enter Tryz.func115, Tryz.ntmps115
  go_wp2_with fail
  refine C.out.mono ?_
  rintro e w1 ⟨rfl, b1⟩
  go_wp2_with fail
  go_ret
  exact ⟨rfl, b1⟩
theorem Got.below {w w1 w2 : World} {B : Nat} {r : Rd} (g : w.grownBy w1 (some B)) (hb : r.bad = false) (k : At1 w1 B r.s) (x : Value) (b : Below w1.heap.size w1 w2) : Got w B x r (.returned x) w2 := ⟨grown_below g b, .inl ⟨hb, rfl, k.below b⟩⟩
theorem still_all {P : Program} {id : Nat} {Q : Exit → Act → World → Prop} {a : Act} {w : World} {l : List Oper} (hm : P.follows .mixedOrders = true) (hB : Region.lexB .any l.toArray = true)
    (h : wpStill P l.toArray w.drew (fun a' => Q .normal a' w.drew) l a) : (Code.region id l.toArray true).wp P Q a w := wp_region_still_lit hm hB h
/-- A length in two bytes, read. -/
def pairR (r : Rd) : Nat × Rd := (hd (takeR r 2).1, (takeR r 2).2)
theorem text_pair (r : Rd) : textR r = if (pairR r).2.bad = true ∨ (pairR r).2.s.length < (pairR r).1 then ([], ⟨(pairR r).2.s, true⟩) else takeR (pairR r).2 (pairR r).1 := rfl
theorem pair_le (l : List UInt8) (hl : l.length ≤ 9223372036854775807) : (pairR ⟨l, false⟩).2.s.length ≤ 9223372036854775807 := by
  unfold pairR takeR
  split
  · exact hl
  · show (l.drop 2).length ≤ _
    rw [List.length_drop]; omega
theorem pair_lt (r : Rd) : (pairR r).1 ≤ 65535 := by
  unfold pairR hd
  have h1 := UInt8.toNat_lt ((takeR r 2).1.getD 0 0)
  have h2 := UInt8.toNat_lt ((takeR r 2).1.getD 1 0)
  show _ * 256 + _ ≤ 65535
  omega
set_option maxHeartbeats 8000000 in
theorem ppair_rd {l : List UInt8} {B : Nat} {w : World} (h : At1 w B l) (hl : l.length ≤ 9223372036854775807) : Calls Tryz.prog 153 #[.pointer (some ⟨B, 0, none⟩)] w (Got w B (.int .i64 ((pairR ⟨l, false⟩).1 : Nat)) (pairR ⟨l, false⟩).2) := by
  have C := Lib.hid (ptake_any h 2 (by decide) hl)
  obtain ⟨t, ht⟩ : ∃ t, t = (takeR ⟨l, false⟩ 2).1 := ⟨_, rfl⟩
  obtain ⟨r1, hr1⟩ : ∃ r1, r1 = (takeR ⟨l, false⟩ 2).2 := ⟨_, rfl⟩
  have hlt : t.length = 2 := by rw [ht]; exact take_len _ _
  have hr1l : r1.s.length ≤ 9223372036854775807 := by
    rw [hr1]
    unfold takeR
    split
    · exact hl
    · show (l.drop 2).length ≤ _
      rw [List.length_drop]; omega
  obtain ⟨x, hx⟩ : ∃ x, x = (t.getD 0 0).toNat := ⟨_, rfl⟩
  obtain ⟨y, hy⟩ : ∃ y, y = (t.getD 1 0).toNat := ⟨_, rfl⟩
  obtain ⟨n, hn⟩ : ∃ n, n = hd t := ⟨_, rfl⟩
  have HR : Hid ((pairR ⟨l, false⟩).1 = n ∧ (pairR ⟨l, false⟩).2 = r1) := ⟨by rw [hn, ht]; rfl, by rw [hr1]; rfl⟩
  have x8 : x < 256 := by rw [hx]; exact UInt8.toNat_lt _
  have y8 : y < 256 := by rw [hy]; exact UInt8.toNat_lt _
  have hxy : x * 256 + y = n := by rw [hn, hx, hy]; rfl
  have hxi : bits .or .i64 ((x : Int) * 256) (y : Int) = (n : Nat) := by
    rw [bits_join .i64 16 (by decide) (fun n h0 h1 => IntWalk.i64_in n (by omega)) 8 _ _ (by omega) (by omega) (by omega) (by omega) (by omega) (by omega)]
    omega
  have XI0 : ∀ w, (Instr.index 9 (.string (mkB t)) (.int .i64 0)).run Tryz.prog w = .ok (.int .u8 (x : Nat)) w := fun w => by
    rw [hx]
    exact byte_run w t .i64 (i := 0) (by omega)
  have XI1 : ∀ w, (Instr.index 9 (.string (mkB t)) (.int .i64 1)).run Tryz.prog w = .ok (.int .u8 (y : Nat)) w := fun w => by
    rw [hy]
    exact byte_run w t .i64 (i := 1) (by omega)
  rw [← ht, ← hr1] at C
  rw [HR.out.1, HR.out.2]
  have hsz : (mkB t).size = 2 := by rw [mkB_size, hlt]
  generalize mkB t = s at *
  clear ht hlt h hx hy hr1 hn HR hr1l hl
  go_enter Tryz.func153, Tryz.ntmps153
  go_wp2_with fail
  refine C.out.mono ?_
  rintro e w1 ⟨G, (⟨hb, rfl, K⟩ | ⟨hb, rfl⟩)⟩
  · have FE : Hid (∀ w2, w2 = w1.drew → Got w B (.int .i64 (n : Nat)) r1 (.returned (.int .i64 (n : Nat))) w2) := fun w2 e => by
      subst e
      exact ⟨grown_below G (Below.drew (Below.refl _ _)), .inl ⟨hb, rfl, K⟩⟩
    clear G K hb C
    have w1x : IntKind.i64.wrap (x : Int) = (x : Int) := IntWalk.i64_in _ (by omega)
    have w2x : IntKind.i64.wrap ((x : Int) * 256) = (x : Int) * 256 := IntWalk.i64_in _ (by omega)
    have w3x : IntKind.i64.wrap (y : Int) = (y : Int) := IntWalk.i64_in _ (by omega)
    go_wp2_with fail
    refine still_all (by kernel_rfl) (by kernel_rfl) ?_
    have FE2 := Lib.hid (FE.out _ rfl)
    clear FE
    generalize w1.drew = w2 at FE2 ⊢
    repeat still_step
    refine wpStill_nil ?_
    clear w1x w2x w3x hxi XI0 XI1
    go_wp2_with fail
    go_ret
    exact FE2.out
  · have FE : Hid (Got w B (.int .i64 (n : Nat)) r1 (.panicked [{ v := unr, recovered := false }]) w1) := ⟨G, .inr ⟨hb, rfl⟩⟩
    clear G hb C
    go_wp2_with fail
    exact ⟨rfl, FE.out⟩
set_option maxHeartbeats 8000000 in
theorem ptext_rd {l : List UInt8} {B : Nat} {w : World} (h : At1 w B l) (hl : l.length ≤ 9223372036854775807) : Calls Tryz.prog 133 #[.pointer (some ⟨B, 0, none⟩)] w (Got w B (.string (mkB (textR ⟨l, false⟩).1)) (textR ⟨l, false⟩).2) := by
  have C := Lib.hid (ppair_rd h hl)
  obtain ⟨n, hn⟩ : ∃ n, n = (pairR ⟨l, false⟩).1 := ⟨_, rfl⟩
  obtain ⟨r1, hr1⟩ : ∃ r1, r1 = (pairR ⟨l, false⟩).2 := ⟨_, rfl⟩
  have hr1l : r1.s.length ≤ 9223372036854775807 := by rw [hr1]; exact pair_le l hl
  have hn6 : n ≤ 65535 := by rw [hn]; exact pair_lt _
  obtain ⟨T, hT⟩ : ∃ T, T = (textR ⟨l, false⟩).1 := ⟨_, rfl⟩
  obtain ⟨r2, hr2⟩ : ∃ r2, r2 = (textR ⟨l, false⟩).2 := ⟨_, rfl⟩
  have HR : Hid ((T, r2) = if r1.bad = true ∨ r1.s.length < n then ([], ⟨r1.s, true⟩) else takeR r1 n) := by
    show _ = _
    rw [hn, hr1, hT, hr2, ← text_pair]
  rw [← hn, ← hr1] at C
  rw [← hT, ← hr2]
  clear h hr1 hn hT hr2
  go_enter Tryz.func133, Tryz.ntmps133
  go_wp2_with fail
  refine C.out.mono ?_
  rintro e w1 ⟨G, (⟨hb, rfl, K⟩ | ⟨hb, rfl⟩)⟩
  · obtain ⟨l1, b1⟩ := r1
    obtain rfl : b1 = false := hb
    have CT : Hid (Calls Tryz.prog 152 #[.pointer (some ⟨B, 0, none⟩), .int .i64 (n : Nat)] w1 fun e w2 => (e = .returned (.string (mkB T)) ∧ (∀ w3, Below w2.heap.size w2 w3 → Got w B (.string (mkB T)) r2 (.returned (.string (mkB T))) w3)) ∨ (e = .panicked [{ v := unr, recovered := false }] ∧ Got w B (.string (mkB T)) r2 (.panicked [{ v := unr, recovered := false }]) w2)) := by
      have h := ptake_any (w := w1) K n hn6 hr1l
      refine h.mono ?_
      rintro e w2 ⟨G2, (⟨hb2, rfl, K2⟩ | ⟨hb2, rfl⟩)⟩
      · have hq : ¬ ((⟨l1, false⟩ : Rd).bad = true ∨ (⟨l1, false⟩ : Rd).s.length < n) := fun h9 => by
          have h8 : (takeR ⟨l1, false⟩ n).2.bad = true := by unfold takeR; rw [if_pos h9]
          rw [hb2] at h8; cases h8
        have e1 := HR.out
        rw [if_neg hq] at e1
        have e2 := congrArg Prod.fst e1
        have e3 := congrArg Prod.snd e1
        simp only at e2 e3
        rw [e2, e3]
        refine .inl ⟨rfl, fun w3 b3 => Got.below (grown_trans G G2) hb2 K2 _ b3⟩
      · have hq : ((⟨l1, false⟩ : Rd).bad = true ∨ (⟨l1, false⟩ : Rd).s.length < n) := by
          unfold takeR at hb2
          split at hb2
          · assumption
          · cases hb2
        have e1 := HR.out
        rw [if_pos hq] at e1
        have e3 := congrArg Prod.snd e1
        simp only at e3
        rw [e3]
        exact .inr ⟨rfl, grown_trans G G2, .inr ⟨rfl, rfl⟩⟩
    have CC : Hid (∀ w', Calls Tryz.prog 115 #[.string (mkB T)] w' fun e w'' => e = .returned (.string (mkB T)) ∧ Below w'.heap.size w' w'') := fun w' => clone_any _ w' (by
      rw [mkB_size]
      have e1 := congrArg Prod.fst HR.out
      simp only at e1
      rw [e1]
      split
      · exact Nat.zero_le _
      · rw [take_len]; omega)
    clear G K HR hr1l hl C
    generalize mkB T = u at *
    go_wp2_with fail
    refine CT.out.mono ?_
    rintro e w3 (⟨rfl, FE⟩ | ⟨rfl, FE⟩)
    · have FE' := Lib.hid FE
      clear FE CT
      go_wp2_with fail
      refine (CC.out _).mono ?_
      rintro e w4 ⟨rfl, b4⟩
      have FE2 := Lib.hid (FE'.out _ b4)
      clear FE' b4 CC
      go_wp2_with fail
      go_ret
      exact FE2.out
    · have FE' := Lib.hid FE
      clear FE CT
      go_wp2_with fail
      exact ⟨rfl, FE'.out⟩
  · have FE : Hid (Got w B (.string (mkB T)) r2 (.panicked [{ v := unr, recovered := false }]) w1) := ⟨G, .inr ⟨by
      have e1 := HR.out
      rw [if_pos (.inl hb)] at e1
      have e3 := congrArg Prod.snd e1
      simp only at e3
      rw [e3], rfl⟩⟩
    clear G hb C HR
    go_wp2_with fail
    exact ⟨rfl, FE.out⟩
end Go.Proofs.YtccaiippoephbaaGreatDoor.Wds
/- A region that draws its order: what needs no world goes first, the rest in the one order that is left. -/
set_option maxRecDepth 100000
set_option linter.unusedVariables false
set_option linter.unusedSimpArgs false
namespace Go.Proofs.YtccaiippoephbaaGreatDoor.Zo
open Go

section
variable {P : Program} {ops : Array Oper} {Q : Exit → Act → World → Prop} {md : Region.Mode}
/-- Operations that yield their values in whatever world, one behind the other. -/
def wpPure (P : Program) (ops : Array Oper) (Lq : Act → Prop) : List Oper → Act → Prop
  | [], a => Lq a
  | o :: rest, a => if Region.wanted o (yielded ops a.tmps) = true then ∃ v, (∀ w, (execOp a.eval o).run P w = .ok (.value v) w) ∧ wpPure P ops Lq rest (a.put o.dst v) else wpPure P ops Lq rest (a.put o.dst undef)
theorem wpPure_nil {Lq : Act → Prop} {a : Act} (h : Lq a) : wpPure P ops Lq [] a := h
theorem wpPure_step {Lq : Act → Prop} {a : Act} {o : Oper} {rest : List Oper}
    (h : ∀ K : Act → Prop, (∀ a, wpPure P ops Lq rest a → K a) → if Region.wanted o (yielded ops a.tmps) = true then ∃ v, (∀ w, (execOp a.eval o).run P w = .ok (.value v) w) ∧ K (a.put o.dst v) else K (a.put o.dst undef)) : wpPure P ops Lq (o :: rest) a :=
  h _ (fun _ h => h)
/-- May these come first, and is the rest's order forced? -/
def tailB (md : Region.Mode) (ops : Array Oper) : List Nat → Array Bool → Bool
  | i :: tl, listed => (Region.ready md ops listed == [i]) && tailB md ops tl (listed.setIfInBounds i true)
  | [], listed => (Region.ready md ops listed).isEmpty
def orderB (md : Region.Mode) (ops : Array Oper) (tl : List Nat) : List Nat → Array Bool → Bool
  | i :: hd, listed => (Region.ready md ops listed).contains i && (Region.free md ops listed i && orderB md ops tl hd (listed.setIfInBounds i true))
  | [], listed => tailB md ops tl listed
theorem any_tail : ∀ (tl : List Nat) (fuel : Nat) (listed : Array Bool) (a : Act) (w : World), tailB md ops tl listed = true → tl.length ≤ fuel → wpList P ops Q (tl.filterMap fun i => ops[i]?) a w → wpAny P md ops Q fuel listed a w
  | [], fuel, listed, a, w, hB, _, h => wpAny_done (by simpa [tailB] using hB) h fuel
  | i :: tl, 0, listed, a, w, _, hf, _ => by simp at hf
  | i :: tl, fuel + 1, listed, a, w, hB, hf, h => by
    simp only [tailB, Bool.and_eq_true, beq_iff_eq] at hB
    obtain ⟨hr, hB⟩ := hB
    have hi : i ∈ Region.ready md ops listed := by rw [hr]; exact List.mem_singleton.2 rfl
    obtain ⟨_, o, ho, _⟩ := mem_ready.1 hi
    refine wpAny_all hr (by simp) fun j hj => ?_
    obtain rfl := List.mem_singleton.1 hj
    refine wpOp_mono (K := wpList P ops Q (tl.filterMap fun i => ops[i]?)) (fun a' w' h' => any_tail tl fuel _ a' w' hB (by simpa using hf) h') ?_
    unfold wpOp
    rw [ho]
    rw [List.filterMap_cons, ho] at h
    exact h
theorem any_order (hs : Region.noSelect ops = true) (hQ : ∀ d v c a w, Q (.panic c) (Act.put a d v) w → Q (.panic c) a w) : ∀ (hd tl : List Nat) (fuel : Nat) (listed : Array Bool) (a : Act) (w : World), orderB md ops tl hd listed = true → hd.length + tl.length ≤ fuel →
    wpPure P ops (fun a' => wpList P ops Q (tl.filterMap fun i => ops[i]?) a' w) (hd.filterMap fun i => ops[i]?) a → wpAny P md ops Q fuel listed a w
  | [], tl, fuel, listed, a, w, hB, hf, h => any_tail tl fuel listed a w hB (by simpa using hf) h
  | i :: hd, tl, 0, listed, a, w, _, hf, _ => by simp at hf
  | i :: hd, tl, fuel + 1, listed, a, w, hB, hf, h => by
    simp only [orderB, Bool.and_eq_true] at hB
    obtain ⟨hr, hfr, hB⟩ := hB
    have hi : i ∈ Region.ready md ops listed := by simpa using hr
    obtain ⟨_, o, ho, _⟩ := mem_ready.1 hi
    rw [List.filterMap_cons, ho] at h
    simp only [wpPure] at h
    have hl : hd.length + tl.length ≤ fuel := by simp only [List.length_cons] at hf; omega
    split at h
    · rename_i hw
      obtain ⟨v, hv, h⟩ := h
      exact wpAny_take ho hs hfr hr (fun c a w => hQ o.dst v c a w) (Or.inl ⟨hw, hv⟩) (any_order hs hQ hd tl fuel _ _ w hB hl h)
    · rename_i hw
      exact wpAny_take ho hs hfr hr (fun c a w => hQ o.dst undef c a w) (Or.inr ⟨by simpa using hw, rfl⟩) (any_order hs hQ hd tl fuel _ _ w hB hl h)
/-- The region's law. -/
theorem region_order {id : Nat} {a : Act} {w : World} {l : List Oper} (hd tl : List Nat) (hm : P.follows .mixedOrders = true) (hB : (Region.noSelect l.toArray && orderB .any l.toArray tl hd (Array.replicate l.length false) && decide (hd.length + tl.length ≤ l.length)) = true)
    (hQ : ∀ d v c a w, Q (.panic c) (Act.put a d v) w → Q (.panic c) a w)
    (h : wpPure P l.toArray (fun a' => wpList P l.toArray Q (tl.filterMap fun i => l[i]?) a' w.drew) (hd.filterMap fun i => l[i]?) a) : (Code.region id l.toArray true).wp P Q a w := by
  simp only [Bool.and_eq_true, decide_eq_true_eq] at hB
  obtain ⟨⟨hs, hB⟩, hl⟩ := hB
  refine wp_region_any hm ?_
  have e : ∀ k : List Nat, (k.filterMap fun i => l.toArray[i]?) = k.filterMap fun i => l[i]? := fun k => by simp
  refine any_order hs hQ hd tl l.toArray.size _ a w.drew (by simpa using hB) (by simpa using hl) ?_
  rw [e, e]
  exact h
end
end Go.Proofs.YtccaiippoephbaaGreatDoor.Zo
/- Words: the program's reader: what is asked. -/
set_option linter.unusedVariables false
set_option linter.unusedSimpArgs false
set_option maxRecDepth 100000
namespace Go.Proofs.YtccaiippoephbaaGreatDoor.Wds
open Go.RowKit Go.Lib Go.Proofs.YtccaiippoephbaaGreatDoor.Bx Go.Proofs.YtccaiippoephbaaGreatDoor.Frm

theorem region_pure {P : Program} {Q : Exit → Act → World → Prop} {id : Nat} {a : Act} {w : World} {l : List Oper} (hd tl : List Nat) (hm : P.follows .mixedOrders = true) (hB : (Region.noSelect l.toArray && Zo.orderB .any l.toArray tl hd (Array.replicate l.length false) && decide (hd.length + tl.length ≤ l.length)) = true)
    (hQ : ∀ d v c a w, Q (.panic c) (Act.put a d v) w → Q (.panic c) a w)
    (h : ∀ wd : World, Hid (wd = w.drew) → Zo.wpPure P l.toArray (fun a' => wpList P l.toArray Q (tl.filterMap fun i => l[i]?) a' wd) (hd.filterMap fun i => l[i]?) a) : (Code.region id l.toArray true).wp P Q a w := Zo.region_order hd tl hm hB hQ (h _ rfl)
theorem take_le (r : Rd) (n : Nat) : (takeR r n).2.s.length ≤ r.s.length := by
  unfold takeR
  split
  · exact Nat.le_refl _
  · show (r.s.drop n).length ≤ _
    rw [List.length_drop]; omega
theorem take_stuck (r : Rd) (n : Nat) (h : r.bad = true) : (takeR r n).2.bad = true := by unfold takeR; rw [if_pos (.inl h)]
theorem numR_le (r : Rd) : (numR r).2.s.length ≤ r.s.length := take_le r 8
theorem numR_stuck (r : Rd) (h : r.bad = true) : (numR r).2.bad = true := take_stuck r 8 h
theorem lenR_le (r : Rd) : (lenR r).2.s.length ≤ r.s.length := take_le r 1
theorem lenR_stuck (r : Rd) (h : r.bad = true) : (lenR r).2.bad = true := take_stuck r 1 h
theorem flagR_le (r : Rd) : (flagR r).2.s.length ≤ r.s.length := by
  unfold flagR
  simp only
  split
  · exact take_le r 1
  · exact take_le r 1
theorem flagR_stuck (r : Rd) (h : r.bad = true) : (flagR r).2.bad = true := by
  unfold flagR
  simp only
  split
  · rfl
  · exact take_stuck r 1 h
theorem textR_le (r : Rd) : (textR r).2.s.length ≤ r.s.length := by
  unfold textR
  split
  · exact take_le r 2
  · exact Nat.le_trans (take_le _ _) (take_le r 2)
theorem textR_stuck (r : Rd) (h : r.bad = true) : (textR r).2.bad = true := by
  unfold textR
  split
  · rfl
  · exact take_stuck _ _ (take_stuck r 2 h)
theorem rd_eta {r : Rd} (h : r.bad = false) : r = ⟨r.s, false⟩ := by cases r; simp only at h; rw [h]
theorem num_step {B : Nat} {r : Rd} {x : Int} {r' : Rd} {w : World} (hx : numR r = (x, r')) (hb : r.bad = false) (hl : r.s.length ≤ 9223372036854775807) (k : At1 w B r.s) : Calls Tryz.prog 134 #[.pointer (some ⟨B, 0, none⟩)] w (Got w B (.int .i64 x) r') := by
  have h := pnum_rd k hl
  rw [← rd_eta hb, hx] at h
  exact h
theorem text_step {B : Nat} {r : Rd} {x : List UInt8} {r' : Rd} {w : World} (hx : textR r = (x, r')) (hb : r.bad = false) (hl : r.s.length ≤ 9223372036854775807) (k : At1 w B r.s) : Calls Tryz.prog 133 #[.pointer (some ⟨B, 0, none⟩)] w (Got w B (.string (mkB x)) r') := by
  have h := ptext_rd k hl
  rw [← rd_eta hb, hx] at h
  exact h
theorem flag_step {B : Nat} {r : Rd} {x : Bool} {r' : Rd} {w : World} (hx : flagR r = (x, r')) (hb : r.bad = false) (hl : r.s.length ≤ 9223372036854775807) (k : At1 w B r.s) : Calls Tryz.prog 155 #[.pointer (some ⟨B, 0, none⟩)] w (Got w B (.bool x) r') := by
  have h := pbool_rd k hl
  rw [← rd_eta hb, hx] at h
  exact h
theorem len_step {B : Nat} {r : Rd} {x : Nat} {r' : Rd} {w : World} (hx : lenR r = (x, r')) (hb : r.bad = false) (hl : r.s.length ≤ 9223372036854775807) (k : At1 w B r.s) : Calls Tryz.prog 132 #[.pointer (some ⟨B, 0, none⟩)] w (Got w B (.int .i64 (x : Nat)) r') := by
  have h := pbyte_rd k hl
  rw [← rd_eta hb, hx] at h
  exact h
theorem num_le {r : Rd} {x : Int} {r' : Rd} {n : Nat} (hx : numR r = (x, r')) (hl : r.s.length ≤ n) : r'.s.length ≤ n := by have := numR_le r; rw [hx] at this; exact Nat.le_trans this hl
theorem text_le' {r : Rd} {x : List UInt8} {r' : Rd} {n : Nat} (hx : textR r = (x, r')) (hl : r.s.length ≤ n) : r'.s.length ≤ n := by have := textR_le r; rw [hx] at this; exact Nat.le_trans this hl
theorem flag_le {r : Rd} {x : Bool} {r' : Rd} {n : Nat} (hx : flagR r = (x, r')) (hl : r.s.length ≤ n) : r'.s.length ≤ n := by have := flagR_le r; rw [hx] at this; exact Nat.le_trans this hl
theorem len_le {r : Rd} {x : Nat} {r' : Rd} {n : Nat} (hx : lenR r = (x, r')) (hl : r.s.length ≤ n) : r'.s.length ≤ n := by have := lenR_le r; rw [hx] at this; exact Nat.le_trans this hl
theorem num_stuck {r : Rd} {x : Int} {r' : Rd} (hx : numR r = (x, r')) (h : r.bad = true) : r'.bad = true := by have := numR_stuck r h; rw [hx] at this; exact this
theorem text_stuck {r : Rd} {x : List UInt8} {r' : Rd} (hx : textR r = (x, r')) (h : r.bad = true) : r'.bad = true := by have := textR_stuck r h; rw [hx] at this; exact this
theorem flag_stuck {r : Rd} {x : Bool} {r' : Rd} (hx : flagR r = (x, r')) (h : r.bad = true) : r'.bad = true := by have := flagR_stuck r h; rw [hx] at this; exact this
end Go.Proofs.YtccaiippoephbaaGreatDoor.Wds
