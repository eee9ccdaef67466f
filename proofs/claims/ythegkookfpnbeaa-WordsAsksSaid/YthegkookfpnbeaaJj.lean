/- Words: the program's reader: a text. -/
import Derived.Test.YthegkookfpnbeaaJi
import Derived.StillTailTactics
set_option linter.unusedVariables false
set_option linter.unusedSimpArgs false
set_option maxRecDepth 100000
namespace Go.Proofs.Ythegkookfpnbeaa.Wds
open Go.RowKit Go.Lib Go.Proofs.Ythegkookfpnbeaa.Bx Go.Proofs.Ythegkookfpnbeaa.Frm

theorem still_tail {P : Program} {id : Nat} {Q : Exit → Act → World → Prop} {a : Act} {w : World} {l : List Oper} (n : Nat) (hm : P.follows .mixedOrders = true) (hB : Region.lexTailB .any l.toArray n = true)
    (h : wpStill P l.toArray w.drew (fun a' => wpList P l.toArray Q (l.drop n) a' w.drew) (l.take n) a) : (Code.region id l.toArray true).wp P Q a w := wp_region_still_tail n hm hB h
set_option maxHeartbeats 2000000 in
theorem clone_any (s : ByteArray) (w : World) (h : s.size ≤ 281474976710656) : Calls Try.prog 72 #[.string s] w fun e w' => e = .returned (.string s) ∧ Below w.heap.size w w' := by
  have C := Lib.hid (Try.stringslite_Clone s w h)
  clear h
  go_enter Try.func72, Try.ntmps72
  go_wp2_with fail
  refine C.out.mono ?_
  rintro e w1 ⟨rfl, b1⟩
  go_wp2_with fail
  go_ret
  exact ⟨rfl, b1⟩
theorem Got.below {w w1 w2 : World} {B : Nat} {r : Rd} (g : w.grownBy w1 (some B)) (hb : r.bad = false) (k : At1 w1 B r.s) (x : Value) (b : Below w1.heap.size w1 w2) : Got w B x r (.returned x) w2 := ⟨grown_below g b, .inl ⟨hb, rfl, k.below b⟩⟩
theorem still_all {P : Program} {id : Nat} {Q : Exit → Act → World → Prop} {a : Act} {w : World} {l : List Oper} (hm : P.follows .mixedOrders = true) (hB : Region.lexB .any l.toArray = true)
    (h : wpStill P l.toArray w.drew (fun a' => Q .normal a' w.drew) l a) : (Code.region id l.toArray true).wp P Q a w := wp_region_still_lit hm hB h
/-- A length in two bytes, read. -/
def pairR (r : Rd) : Nat × Rd := (hd (takeR r 2).1, (takeR r 2).2)
theorem text_pair (r : Rd) : textR r = if (pairR r).2.bad = true ∨ (pairR r).2.s.length < (pairR r).1 then ([], ⟨(pairR r).2.s, true⟩) else takeR (pairR r).2 (pairR r).1 := rfl
theorem pair_le (l : List UInt8) (hl : l.length ≤ 9223372036854775807) : (pairR ⟨l, false⟩).2.s.length ≤ 9223372036854775807 := by
  unfold pairR takeR
  split
  · exact hl
  · show (l.drop 2).length ≤ _
    rw [List.length_drop]; omega
theorem pair_lt (r : Rd) : (pairR r).1 ≤ 65535 := by
  unfold pairR hd
  have h1 := UInt8.toNat_lt ((takeR r 2).1.getD 0 0)
  have h2 := UInt8.toNat_lt ((takeR r 2).1.getD 1 0)
  show _ * 256 + _ ≤ 65535
  omega
set_option maxHeartbeats 8000000 in
theorem ppair_rd {l : List UInt8} {B : Nat} {w : World} (h : At1 w B l) (hl : l.length ≤ 9223372036854775807) : Calls Try.prog 73 #[.pointer (some ⟨B, 0, none⟩)] w (Got w B (.int .i64 ((pairR ⟨l, false⟩).1 : Nat)) (pairR ⟨l, false⟩).2) := by
  have C := Lib.hid (ptake_any h 2 (by decide) hl)
  obtain ⟨t, ht⟩ : ∃ t, t = (takeR ⟨l, false⟩ 2).1 := ⟨_, rfl⟩
  obtain ⟨r1, hr1⟩ : ∃ r1, r1 = (takeR ⟨l, false⟩ 2).2 := ⟨_, rfl⟩
  have hlt : t.length = 2 := by rw [ht]; exact take_len _ _
  have hr1l : r1.s.length ≤ 9223372036854775807 := by
    rw [hr1]
    unfold takeR
    split
    · exact hl
    · show (l.drop 2).length ≤ _
      rw [List.length_drop]; omega
  obtain ⟨x, hx⟩ : ∃ x, x = (t.getD 0 0).toNat := ⟨_, rfl⟩
  obtain ⟨y, hy⟩ : ∃ y, y = (t.getD 1 0).toNat := ⟨_, rfl⟩
  obtain ⟨n, hn⟩ : ∃ n, n = hd t := ⟨_, rfl⟩
  have HR : Hid ((pairR ⟨l, false⟩).1 = n ∧ (pairR ⟨l, false⟩).2 = r1) := ⟨by rw [hn, ht]; rfl, by rw [hr1]; rfl⟩
  have x8 : x < 256 := by rw [hx]; exact UInt8.toNat_lt _
  have y8 : y < 256 := by rw [hy]; exact UInt8.toNat_lt _
  have hxy : x * 256 + y = n := by rw [hn, hx, hy]; rfl
  have hxi : bits .or .i64 ((x : Int) * 256) (y : Int) = (n : Nat) := by
    rw [bits_join .i64 16 (by decide) (fun n h0 h1 => IntWalk.i64_in n (by omega)) 8 _ _ (by omega) (by omega) (by omega) (by omega) (by omega) (by omega)]
    omega
  have XI0 : ∀ w, (Instr.index 9 (.string (mkB t)) (.int .i64 0)).run Try.prog w = .ok (.int .u8 (x : Nat)) w := fun w => by
    rw [hx]
    exact byte_run w t .i64 (i := 0) (by omega)
  have XI1 : ∀ w, (Instr.index 9 (.string (mkB t)) (.int .i64 1)).run Try.prog w = .ok (.int .u8 (y : Nat)) w := fun w => by
    rw [hy]
    exact byte_run w t .i64 (i := 1) (by omega)
  rw [← ht, ← hr1] at C
  rw [HR.out.1, HR.out.2]
  have hsz : (mkB t).size = 2 := by rw [mkB_size, hlt]
  generalize mkB t = s at *
  clear ht hlt h hx hy hr1 hn HR hr1l hl
  go_enter Try.func73, Try.ntmps73
  go_wp2_with fail
  refine C.out.mono ?_
  rintro e w1 ⟨G, (⟨hb, rfl, K⟩ | ⟨hb, rfl⟩)⟩
  · have FE : Hid (∀ w2, w2 = w1.drew → Got w B (.int .i64 (n : Nat)) r1 (.returned (.int .i64 (n : Nat))) w2) := fun w2 e => by
      subst e
      exact ⟨grown_below G (Below.drew (Below.refl _ _)), .inl ⟨hb, rfl, K⟩⟩
    clear G K hb C
    have w1x : IntKind.i64.wrap (x : Int) = (x : Int) := IntWalk.i64_in _ (by omega)
    have w2x : IntKind.i64.wrap ((x : Int) * 256) = (x : Int) * 256 := IntWalk.i64_in _ (by omega)
    have w3x : IntKind.i64.wrap (y : Int) = (y : Int) := IntWalk.i64_in _ (by omega)
    go_wp2_with fail
    refine still_all (by kernel_rfl) (by kernel_rfl) ?_
    have FE2 := Lib.hid (FE.out _ rfl)
    clear FE
    generalize w1.drew = w2 at FE2 ⊢
    repeat still_step
    refine wpStill_nil ?_
    clear w1x w2x w3x hxi XI0 XI1
    go_wp2_with fail
    go_ret
    exact FE2.out
  · have FE : Hid (Got w B (.int .i64 (n : Nat)) r1 (.panicked [{ v := unr, recovered := false }]) w1) := ⟨G, .inr ⟨hb, rfl⟩⟩
    clear G hb C
    go_wp2_with fail
    exact ⟨rfl, FE.out⟩
set_option maxHeartbeats 8000000 in
theorem ptext_rd {l : List UInt8} {B : Nat} {w : World} (h : At1 w B l) (hl : l.length ≤ 9223372036854775807) : Calls Try.prog 59 #[.pointer (some ⟨B, 0, none⟩)] w (Got w B (.string (mkB (textR ⟨l, false⟩).1)) (textR ⟨l, false⟩).2) := by
  have C := Lib.hid (ppair_rd h hl)
  obtain ⟨n, hn⟩ : ∃ n, n = (pairR ⟨l, false⟩).1 := ⟨_, rfl⟩
  obtain ⟨r1, hr1⟩ : ∃ r1, r1 = (pairR ⟨l, false⟩).2 := ⟨_, rfl⟩
  have hr1l : r1.s.length ≤ 9223372036854775807 := by rw [hr1]; exact pair_le l hl
  have hn6 : n ≤ 65535 := by rw [hn]; exact pair_lt _
  obtain ⟨T, hT⟩ : ∃ T, T = (textR ⟨l, false⟩).1 := ⟨_, rfl⟩
  obtain ⟨r2, hr2⟩ : ∃ r2, r2 = (textR ⟨l, false⟩).2 := ⟨_, rfl⟩
  have HR : Hid ((T, r2) = if r1.bad = true ∨ r1.s.length < n then ([], ⟨r1.s, true⟩) else takeR r1 n) := by
    show _ = _
    rw [hn, hr1, hT, hr2, ← text_pair]
  rw [← hn, ← hr1] at C
  rw [← hT, ← hr2]
  clear h hr1 hn hT hr2
  go_enter Try.func59, Try.ntmps59
  go_wp2_with fail
  refine C.out.mono ?_
  rintro e w1 ⟨G, (⟨hb, rfl, K⟩ | ⟨hb, rfl⟩)⟩
  · obtain ⟨l1, b1⟩ := r1
    obtain rfl : b1 = false := hb
    have CT : Hid (Calls Try.prog 71 #[.pointer (some ⟨B, 0, none⟩), .int .i64 (n : Nat)] w1 fun e w2 => (e = .returned (.string (mkB T)) ∧ (∀ w3, Below w2.heap.size w2 w3 → Got w B (.string (mkB T)) r2 (.returned (.string (mkB T))) w3)) ∨ (e = .panicked [{ v := unr, recovered := false }] ∧ Got w B (.string (mkB T)) r2 (.panicked [{ v := unr, recovered := false }]) w2)) := by
      have h := ptake_any (w := w1) K n hn6 hr1l
      refine h.mono ?_
      rintro e w2 ⟨G2, (⟨hb2, rfl, K2⟩ | ⟨hb2, rfl⟩)⟩
      · have hq : ¬ ((⟨l1, false⟩ : Rd).bad = true ∨ (⟨l1, false⟩ : Rd).s.length < n) := fun h9 => by
          have h8 : (takeR ⟨l1, false⟩ n).2.bad = true := by unfold takeR; rw [if_pos h9]
          rw [hb2] at h8; cases h8
        have e1 := HR.out
        rw [if_neg hq] at e1
        have e2 := congrArg Prod.fst e1
        have e3 := congrArg Prod.snd e1
        simp only at e2 e3
        rw [e2, e3]
        refine .inl ⟨rfl, fun w3 b3 => Got.below (grown_trans G G2) hb2 K2 _ b3⟩
      · have hq : ((⟨l1, false⟩ : Rd).bad = true ∨ (⟨l1, false⟩ : Rd).s.length < n) := by
          unfold takeR at hb2
          split at hb2
          · assumption
          · cases hb2
        have e1 := HR.out
        rw [if_pos hq] at e1
        have e3 := congrArg Prod.snd e1
        simp only at e3
        rw [e3]
        exact .inr ⟨rfl, grown_trans G G2, .inr ⟨rfl, rfl⟩⟩
    have CC : Hid (∀ w', Calls Try.prog 72 #[.string (mkB T)] w' fun e w'' => e = .returned (.string (mkB T)) ∧ Below w'.heap.size w' w'') := fun w' => clone_any _ w' (by
      rw [mkB_size]
      have e1 := congrArg Prod.fst HR.out
      simp only at e1
      rw [e1]
      split
      · exact Nat.zero_le _
      · rw [take_len]; omega)
    clear G K HR hr1l hl C
    generalize mkB T = u at *
    go_wp2_with fail
    refine CT.out.mono ?_
    rintro e w3 (⟨rfl, FE⟩ | ⟨rfl, FE⟩)
    · have FE' := Lib.hid FE
      clear FE CT
      go_wp2_with fail
      refine (CC.out _).mono ?_
      rintro e w4 ⟨rfl, b4⟩
      have FE2 := Lib.hid (FE'.out _ b4)
      clear FE' b4 CC
      go_wp2_with fail
      go_ret
      exact FE2.out
    · have FE' := Lib.hid FE
      clear FE CT
      go_wp2_with fail
      exact ⟨rfl, FE'.out⟩
  · have FE : Hid (Got w B (.string (mkB T)) r2 (.panicked [{ v := unr, recovered := false }]) w1) := ⟨G, .inr ⟨by
      have e1 := HR.out
      rw [if_pos (.inl hb)] at e1
      have e3 := congrArg Prod.snd e1
      simp only at e3
      rw [e3], rfl⟩⟩
    clear G hb C HR
    go_wp2_with fail
    exact ⟨rfl, FE.out⟩
end Go.Proofs.Ythegkookfpnbeaa.Wds
