/- Salt: the program's rightSeal, rightUser, named. -/
import Derived.Test.YtccaiippoephbaaGreatDoorWc
import Derived.BigQuiet
import Derived.Laws.Externs
set_option linter.unusedVariables false
set_option linter.unusedSimpArgs false
set_option maxRecDepth 100000
namespace Go.Proofs.YtccaiippoephbaaGreatDoor.Slt
open Go.RowKit Go.Lib Go.Proofs.YtccaiippoephbaaGreatDoor.Bx

theorem ix_run (s : ByteArray) (c : Int) (w : World) : (callFunc 140 #[.string s, .int .u8 c]).run Tryz.prog w = .ok (.value (.int .i64 (firstIdx s c.toNat.toUInt8))) w := by
  rw [run_callFunc_extern (e := Extern.BytealgIndexByte.indexByte) Tryz.func140 (by kernel_rfl) (by kernel_rfl) (by kernel_rfl) (by kernel_rfl), run_indexByte_string]
  rfl
theorem hex_ix : ∀ c, c < 256 → decide (firstIdx digitsB (Int.toNat (c : Nat)).toUInt8 < 0) = !isHex c := by decide +kernel
theorem ixl_any (s : ByteArray) (c : Int) (w : World) : Calls Tryz.prog 112 #[.string s, .int .u8 c] w fun e w' => e = .returned (.int .i64 (firstIdx s c.toNat.toUInt8)) ∧ w' = w := by
  have HX := fun w => ix_run s c w
  go_enter Tryz.func112, Tryz.ntmps112
  go_wp2_with fail
  go_ret
  exact ⟨rfl, rfl⟩
theorem ixs_any (s : ByteArray) (c : Int) (w : World) : Calls Tryz.prog 97 #[.string s, .int .u8 c] w fun e w' => e = .returned (.int .i64 (firstIdx s c.toNat.toUInt8)) ∧ w' = w := by
  have C := Lib.hid (ixl_any s c w)
  go_enter Tryz.func97, Tryz.ntmps97
  go_wp2_with fail
  refine C.out.mono ?_
  rintro e w1 ⟨rfl, rfl⟩
  go_wp2_with fail
  go_ret
  exact ⟨rfl, rfl⟩
theorem prightSeal_any (s : ByteArray) (w : World) : Calls Tryz.prog 78 #[.string s] w fun e w' => e = .returned (.bool (sealB (bytesN s))) ∧ w' = w := by
  obtain ⟨n, hn⟩ : ∃ n, n = s.size := ⟨_, rfl⟩
  have HL : Hid ((bytesN s).length = n) := by show _ = _; rw [bytesN_len, hn]
  have hsn : s.size = n := hn.symm
  by_cases h64 : n = 64
  · subst h64
    have HYE : Hid ((∀ i, i < 64 → isHex ((bytesN s).getD i 0) = true) → sealB (bytesN s) = true) := fun h => by
      rw [seal_yes (fun i hi => h i (by rw [HL.out] at hi; exact hi)), HL.out]
      rfl
    have HNO : Hid (∀ i, i < 64 → isHex ((bytesN s).getD i 0) = false → sealB (bytesN s) = false) := fun i hi h => seal_no (by rw [HL.out]; exact hi) h
    have HXI : Hid (∀ i, i < 64 → ∀ w, (Instr.index 9 (.string s) (.int .i64 (i : Nat))).run Tryz.prog w = .ok (.int .u8 ((bytesN s).getD i 0 : Nat)) w) := fun i hi w => index_at w s .i64 (by omega)
    have HBY : Hid (∀ i, (bytesN s).getD i 0 < 256) := bytesN_lt s
    obtain ⟨l, hl⟩ : ∃ l, l = bytesN s := ⟨_, rfl⟩
    rw [← hl] at HXI HNO HYE HBY ⊢
    clear hl hn HL
    go_enter Tryz.func78, Tryz.ntmps78
    go_wp2_with fail
    go_loopg [9] 64 (fun g i_ wr => ∃ (i : Nat), i ≤ 64 ∧ 64 - i ≤ g ∧ i_ = .int .i64 i ∧ Hid (∀ j, j < i → isHex (l.getD j 0) = true) ∧ wr = w)
    case atStart => exact ⟨0, by omega, by omega, rfl, fun j hj => absurd hj (by omega), rfl⟩
    case round =>
      obtain ⟨i, hi, hg, rfl, HH, rfl⟩ := hrel
      by_cases hin : i < 64
      · have iw : ((i : Nat) : Int) < 64 := by omega
        have XI := HXI.out i hin
        have HN := Lib.hid (HNO.out i hin)
        have hb := HBY.out i
        have HH2 : Hid (isHex (l.getD i 0) = true → ∀ j, j < i + 1 → isHex (l.getD j 0) = true) := fun h j hj => by
          by_cases e : j = i
          · subst e; exact h
          · exact HH.out j (by omega)
        generalize l.getD i 0 = x at *
        have CI := Lib.hid (ixs_any digitsB (x : Nat) wr)
        have HX2 := hex_ix x hb
        obtain ⟨r, hr⟩ : ∃ r, r = firstIdx digitsB (Int.toNat (x : Nat)).toUInt8 := ⟨_, rfl⟩
        rw [← hr] at CI HX2
        unfold digitsB at CI
        clear hr
        go_wp2_with fail
        refine CI.out.mono ?_
        rintro e w1 ⟨rfl, rfl⟩
        clear CI
        cases hx : isHex x with
        | true =>
          rw [hx] at HX2
          have q1 : ¬ r < 0 := of_decide_eq_false HX2
          have HH3 := Lib.hid (HH2.out hx)
          clear HH2 HN HX2 hx
          go_wp2_with fail
          go_roundg (64 - (i + 1))
          case measure => omega
          case rel => exact ⟨i + 1, by omega, Nat.le_refl _, by go_num, HH3, rfl⟩
        | false =>
          rw [hx] at HX2
          have q1 : r < 0 := of_decide_eq_true HX2
          have hs := HN.out hx
          clear HH2 HN HX2 hx
          go_wp2_with fail
          go_ret
          exact ⟨by first | rfl | (rw [hs]; rfl) | (rw [hs]; done), rfl⟩
      · obtain rfl : i = 64 := by omega
        have iw : ¬ (((64 : Nat) : Int) < 64) := by omega
        have hs := HYE.out HH.out
        go_wp2_with fail
        go_ret
        exact ⟨by first | rfl | (rw [hs]; rfl) | (rw [hs]; done), rfl⟩
  · have hs : sealB (bytesN s) = false := by
      unfold sealB
      rw [HL.out, decide_eq_false h64, Bool.and_false]
    have q1 : ¬ ((n : Int) = 64) := by omega
    clear HL hn
    go_enter Tryz.func78, Tryz.ntmps78
    go_wp2_with fail
    go_ret
    exact ⟨by first | rfl | (rw [hs]; rfl) | (rw [hs]; done), rfl⟩
theorem prightUser_any (n s l : ByteArray) (w : World) : Calls Tryz.prog 52 #[.agg #[.string n, .string s, .string l]] w fun e w' => e = .returned (.bool (!badU ⟨n, s, l⟩)) ∧ Below w.heap.size w w' := by
  obtain ⟨zn, hzn⟩ : ∃ zn, zn = n.size := ⟨_, rfl⟩
  obtain ⟨zs, hzs⟩ : ∃ zs, zs = s.size := ⟨_, rfl⟩
  have HB : Hid (badU ⟨n, s, l⟩ = (decide (zn = 0) || decide (20 < zn) || decide (20 < zs) || !sealB (bytesN l))) := by rw [hzn, hzs]; rfl
  have z1 := hzn.symm
  have z2 := hzs.symm
  have CS : Hid (∀ w', Calls Tryz.prog 78 #[.string l] w' fun e w'' => e = .returned (.bool (sealB (bytesN l))) ∧ w'' = w') := fun w' => prightSeal_any l w'
  have HBA := Lib.hid (below_al (Below.refl w.heap.size w) (.cells #[.string n, .string s, .string l] 42))
  obtain ⟨sb, hsb⟩ : ∃ sb, sb = sealB (bytesN l) := ⟨_, rfl⟩
  rw [← hsb] at CS HB
  obtain ⟨r, hr⟩ : ∃ r, r = badU ⟨n, s, l⟩ := ⟨_, rfl⟩
  rw [← hr] at HB ⊢
  clear hr hsb hzn hzs
  go_enter Tryz.func52, Tryz.ntmps52
  by_cases k0 : zn = 0
  · have q0 : ¬ (1 : Int) ≤ (zn : Int) := by omega
    have hr : r = true := by rw [HB.out, decide_eq_true k0]; rfl
    subst hr
    clear HB
    go_wp2_with fail
    go_ret
    exact ⟨by first | rfl | (simp; done), HBA.out⟩
  have q0 : (1 : Int) ≤ (zn : Int) := by omega
  by_cases k1 : 20 < zn
  · have q1 : ¬ (zn : Int) ≤ 20 := by omega
    have hr : r = true := by rw [HB.out, decide_eq_true k1]; simp
    subst hr
    clear HB
    go_wp2_with fail
    go_ret
    exact ⟨by first | rfl | (simp; done), HBA.out⟩
  have q1 : (zn : Int) ≤ 20 := by omega
  by_cases k2 : 20 < zs
  · have q2 : ¬ (zs : Int) ≤ 20 := by omega
    have hr : r = true := by rw [HB.out, decide_eq_true k2]; simp
    subst hr
    clear HB
    go_wp2_with fail
    go_ret
    exact ⟨by first | rfl | (simp; done), HBA.out⟩
  have q2 : (zs : Int) ≤ 20 := by omega
  have hr : r = !sb := by rw [HB.out, decide_eq_false k0, decide_eq_false k1, decide_eq_false k2]; rfl
  clear HB
  go_wp2_with fail
  refine (CS.out _).mono ?_
  rintro e w1 ⟨rfl, rfl⟩
  go_wp2_with fail
  go_ret
  exact ⟨by rw [hr, Bool.not_not]; rfl, HBA.out⟩
theorem pclo_any (n s l nm : ByteArray) (NB : Nat) (w : World) (h : w.cell? ⟨NB, 0, none⟩ = some (.string nm)) (hlt : NB < w.heap.size) : Calls Tryz.prog 80 #[.agg #[.string n, .string s, .string l], .pointer (some ⟨NB, 0, none⟩)] w fun e w' => e = .returned (.bool (decide (n = nm))) ∧ Below w.heap.size w w' := by
  have HBA := Lib.hid (below_al (Below.refl w.heap.size w) (.cells #[.string n, .string s, .string l] 42))
  have SE := str_eq n nm
  have c0 := vcell (below_al (Below.refl w.heap.size w) (.cells #[.string n, .string s, .string l] 42)) hlt h
  go_enter Tryz.func80, Tryz.ntmps80
  go_wp2_with fail
  go_ret
  exact ⟨by first | rfl | (rw [SE]; done), HBA.out⟩
/-- The users of a slice, as its elements' cells tell them. -/
def UsC (w : World) (a : Option Addr) (n : Nat) (A : List Us) : Prop := ∀ w', Below w.heap.size w w' → ∀ j, j < n → ∃ b off, a = some ⟨b, off, none⟩ ∧ b < w.heap.size ∧ w'.cell? ⟨b, off + j * 3, none⟩ = some (.string (us A j).n) ∧ w'.cell? ⟨b, off + j * 3 + 1, none⟩ = some (.string (us A j).s) ∧ w'.cell? ⟨b, off + j * 3 + 2, none⟩ = some (.string (us A j).l)
theorem UsC.below {w w1 : World} {a : Option Addr} {n : Nat} {A : List Us} (h : UsC w a n A) (hb : Below w.heap.size w w1) : UsC w1 a n A := fun w' hb' j hj => by
  obtain ⟨b, off, e, hlt, c⟩ := h w' (below_on hb hb') j hj
  exact ⟨b, off, e, Nat.lt_of_lt_of_le hlt hb.size, c⟩
def foundU (A : List Us) (n : Nat) (nm : ByteArray) (r : Int) : Prop := (r = -1 ∧ ∀ j, j < n → (us A j).n ≠ nm) ∨ ∃ i : Nat, r = (i : Nat) ∧ i < n ∧ (us A i).n = nm ∧ ∀ j, j < i → (us A j).n ≠ nm
theorem pindex_any {a : Option Addr} {n cap : Nat} {A : List Us} (nm : ByteArray) (NB : Nat) (w : World) (h : UsC w a n A) (hn : n ≤ cap) (hm : cap ≤ maxLen) (hc : w.cell? ⟨NB, 0, none⟩ = some (.string nm)) (hlt : NB < w.heap.size) : Calls Tryz.prog 79 #[.slice a n cap, .func (.func 80) #[] #[.pointer (some ⟨NB, 0, none⟩)]] w fun e w' => ∃ r : Int, e = .returned (.int .i64 r) ∧ foundU A n nm r ∧ Below w.heap.size w w' := by
  have HE := Lib.hid h
  have HC := Lib.hid hc
  have HLT := Lib.hid hlt
  unfold maxLen at hm
  clear h hc hlt
  go_enter Tryz.func79, Tryz.ntmps79
  go_wp2_with fail
  go_loopg [8] n (fun g i_ wr => ∃ (i : Nat), i ≤ n ∧ n - i ≤ g ∧ i_ = .int .i64 i ∧ Hid (∀ j, j < i → (us A j).n ≠ nm) ∧ Below w.heap.size w wr)
  case atStart => exact ⟨0, by omega, by omega, rfl, fun j hj => absurd hj (by omega), Below.refl _ _⟩
  case round =>
    obtain ⟨i, hi, hg, rfl, HH, hbel⟩ := hrel
    have HB := Lib.hid hbel
    by_cases hin : i < n
    · have iw : ((i : Nat) : Int) < (n : Int) := by omega
      have n0 : (0 : Int) ≤ (i : Int) := by omega
      obtain ⟨b, off, rfl, hlt, c0, c1, c2⟩ := HE.out wr hbel i hin
      have CC := Lib.hid (pclo_any (us A i).n (us A i).s (us A i).l nm NB wr (vcell hbel HLT.out HC.out) (Nat.lt_of_lt_of_le HLT.out hbel.size))
      have HH2 : Hid ((us A i).n ≠ nm → ∀ j, j < i + 1 → (us A j).n ≠ nm) := fun h j hj => by
        by_cases e : j = i
        · subst e; exact h
        · exact HH.out j (by omega)
      have HF : Hid ((us A i).n = nm → foundU A n nm (i : Nat)) := fun h => .inr ⟨i, rfl, hin, h, HH.out⟩
      generalize us A i = y at *
      obtain ⟨yn, ys, yl⟩ := y
      simp only at c0 c1 c2 CC HH2 HF
      clear hbel
      go_wp2_with fail
      refine CC.out.mono ?_
      rintro e w1 ⟨rfl, b1⟩
      have HB1 := Lib.hid (below_on HB.out b1)
      clear b1 CC
      by_cases hz : yn = nm
      · have hq : decide (yn = nm) = true := decide_eq_true hz
        have HR := Lib.hid (HF.out hz)
        clear HF HH2 hz
        go_wp2_with fail
        go_ret
        exact ⟨_, rfl, HR.out, HB1.out⟩
      · have hq : decide (yn = nm) = false := decide_eq_false hz
        have HH3 := Lib.hid (HH2.out hz)
        clear HF HH2 hz
        go_wp2_with fail
        go_roundg (n - (i + 1))
        case measure => omega
        case rel => exact ⟨i + 1, by omega, Nat.le_refl _, by go_num, HH3, HB1.out⟩
    · obtain rfl : i = n := by omega
      have iw : ¬ ((i : Int) < (i : Int)) := by omega
      have HR : Hid (foundU A i nm (-1)) := .inl ⟨rfl, HH.out⟩
      clear hbel
      go_wp2_with fail
      go_ret
      exact ⟨_, rfl, HR.out, HB.out⟩
theorem pnamed_any {a : Option Addr} {n cap : Nat} {A : List Us} (nm : ByteArray) (w : World) (h : UsC w a n A) (hn : n ≤ cap) (hm : cap ≤ maxLen) : Calls Tryz.prog 53 #[.slice a n cap, .string nm] w fun e w' => ∃ r : Int, e = .returned (.int .i64 r) ∧ foundU A n nm r ∧ Below w.heap.size w w' := by
  have b1 := below_al (Below.refl w.heap.size w) (.cells #[.string nm] 9)
  have c1 := one_cell (heap_alloc_new w (.cells #[.string nm] 9))
  have CI := Lib.hid (pindex_any nm w.heap.size (w.alloc (.cells #[.string nm] 9)) (h.below b1) hn hm c1 (by simp))
  have HB := Lib.hid b1
  have hmf : ∀ (fn : Fn) (first cap : Array Value) (w : World), (Instr.makeFunc fn first cap).run Tryz.prog w = .ok (.func fn first cap) w := fun fn first cap w => rfl
  clear b1 c1 h
  go_enter Tryz.func53, Tryz.ntmps53
  go_wp2_with fail
  refine CI.out.mono ?_
  rintro e w1 ⟨r, rfl, hf, b2⟩
  have HR := Lib.hid hf
  have HB2 := Lib.hid (below_on HB.out b2)
  clear hf b2 CI
  go_wp2_with fail
  go_ret
  exact ⟨_, rfl, HR.out, HB2.out⟩
end Go.Proofs.YtccaiippoephbaaGreatDoor.Slt
