/- Words: the program's writer: lists. -/
import Derived.Test.YthegkookfpnbeaaJg
import Derived.Test.YthegkookfpnbeaaNe
set_option linter.unusedVariables false
set_option linter.unusedSimpArgs false
set_option maxRecDepth 100000
namespace Go.Proofs.Ythegkookfpnbeaa.Wds
open Go.RowKit Go.Lib Go.Proofs.Ythegkookfpnbeaa.Bx Go.Proofs.Ythegkookfpnbeaa.Frm

/-- A byte put. -/
def byteW (n : Int) (q : List UInt8 × Bool) : List UInt8 × Bool := if 0 ≤ n ∧ n ≤ 255 then (q.1 ++ [UInt8.ofNat n.toNat], q.2) else (q.1, true)
def numW (n : Int) (q : List UInt8 × Bool) : List UInt8 × Bool := (q.1 ++ numL n, q.2)
/-- Things put, until something was wrong. -/
def foldW {α : Type} (f : α → List UInt8 × Bool → List UInt8 × Bool) : List α → List UInt8 × Bool → List UInt8 × Bool
  | [], q => q
  | x :: xs, q => if q.2 = true then q else foldW f xs (f x q)
def listW {α : Type} (f : α → List UInt8 × Bool → List UInt8 × Bool) (xs : List α) (q : List UInt8 × Bool) : List UInt8 × Bool := foldW f xs (byteW xs.length q)
def runW (x : Run) (q : List UInt8 × Bool) : List UInt8 × Bool := tw x.t (q.1 ++ [x.i, x.l].flatMap numL ++ flagL x.o, q.2)
def entW (x : Ent) (q : List UInt8 × Bool) : List UInt8 × Bool := listW numW x.L (listW numW x.S (q.1 ++ [x.u, x.o, x.s].flatMap numL, q.2))
theorem pbyteW_any {base B : Nat} {w : World} {v : Value} {l : List UInt8} {bad : Bool} (h : Wr base w B v l bad) (n : Int) (hl : l.length ≤ 300000000) : Calls Try.prog 23 #[.pointer (some ⟨B, 0, none⟩), .int .i64 n] w (Put base w B v (byteW n (l, bad)).1 (byteW n (l, bad)).2) := by
  unfold byteW
  by_cases h1 : 0 ≤ n ∧ n ≤ 255
  · rw [if_pos h1]
    obtain ⟨k, rfl⟩ : ∃ k : Nat, n = (k : Int) := ⟨n.toNat, by omega⟩
    exact pbyte_yes h k (by omega) hl
  · rw [if_neg h1]
    exact pbyte_no h n (by omega)
theorem byteW_len (n : Int) (q : List UInt8 × Bool) : (byteW n q).1.length ≤ q.1.length + 1 := by
  unfold byteW
  split
  · show (q.1 ++ _).length ≤ _; rw [List.length_append]; exact Nat.le_refl _
  · exact Nat.le_succ _
theorem foldW_len {α : Type} {f : α → List UInt8 × Bool → List UInt8 × Bool} {g : α → Nat} (h : ∀ x q, (f x q).1.length ≤ q.1.length + g x) : ∀ (xs : List α) (q : List UInt8 × Bool), (foldW f xs q).1.length ≤ q.1.length + (xs.map g).sum
  | [], q => by simp [foldW]
  | x :: xs, q => by
    unfold foldW
    split
    · exact Nat.le_add_right _ _
    · have := foldW_len h xs (f x q)
      have := h x q
      simp
      omega
theorem numW_len (n : Int) (q : List UInt8 × Bool) : (numW n q).1.length ≤ q.1.length + 8 := by
  unfold numW
  show (q.1 ++ numL n).length ≤ _
  rw [List.length_append, num_len]
  exact Nat.le_refl _
def sR (x : Run) : Nat := min x.t.length 65535 + 64
def sE (x : Ent) : Nat := 8 * (min x.S.length 255 + min x.L.length 255) + 64
theorem runW_len (x : Run) (q : List UInt8 × Bool) : (runW x q).1.length ≤ q.1.length + sR x := by
  unfold runW sR tw
  have h4 := textX_len q.2 x.t
  have h9 : x.t.length ≤ 65535 → min x.t.length 65535 = x.t.length := fun h => by omega
  have h2 : ([x.i, x.l].flatMap numL).length = 16 := by rw [pnums_len]; rfl
  have h3 : (flagL x.o).length = 1 := rfl
  split
  · rename_i h8
    show (q.1 ++ _ ++ _ ++ _).length ≤ _
    simp only [List.length_append]
    have := h9 h8
    omega
  · show (q.1 ++ _ ++ _).length ≤ _
    simp only [List.length_append]
    omega
theorem sum_8 (xs : List Int) : (xs.map fun _ => 8).sum = 8 * xs.length := by
  induction xs with
  | nil => rfl
  | cons x xs ih => rw [List.map_cons, List.sum_cons, ih, List.length_cons]; omega
theorem fold_stays {α : Type} {f : α → List UInt8 × Bool → List UInt8 × Bool} (xs : List α) {q : List UInt8 × Bool} (h : q.2 = true) : foldW f xs q = q := by
  cases xs with
  | nil => rfl
  | cons x xs => exact if_pos h
theorem nums_listW_len (xs : List Int) (q : List UInt8 × Bool) : (listW numW xs q).1.length ≤ q.1.length + 1 + 8 * min xs.length 255 := by
  have h1 := foldW_len (f := numW) (g := fun _ => 8) numW_len xs (byteW xs.length q)
  have h2 := byteW_len xs.length q
  rw [sum_8] at h1
  unfold listW
  by_cases h9 : xs.length ≤ 255
  · omega
  · have h3 : (byteW xs.length q).2 = true := by unfold byteW; rw [if_neg (by omega)]
    rw [fold_stays xs h3]
    omega
theorem entW_len (x : Ent) (q : List UInt8 × Bool) : (entW x q).1.length ≤ q.1.length + sE x := by
  unfold entW sE
  have h1 := nums_listW_len x.L (listW numW x.S (q.1 ++ [x.u, x.o, x.s].flatMap numL, q.2))
  have h2 := nums_listW_len x.S (q.1 ++ [x.u, x.o, x.s].flatMap numL, q.2)
  have h3 : ([x.u, x.o, x.s].flatMap numL).length = 24 := by rw [pnums_len]; rfl
  simp only [List.length_append] at h2
  omega
theorem part_sum {α : Type} (g : α → Nat) (xs : List α) (i : Nat) : ((xs.take i).map g).sum + ((xs.drop i).map g).sum = (xs.map g).sum := by
  rw [← List.sum_append, ← List.map_append, List.take_append_drop]
theorem fold_next {α : Type} {f : α → List UInt8 × Bool → List UInt8 × Bool} {xs : List α} {i : Nat} (h : i < xs.length) (q : List UInt8 × Bool) : foldW f (xs.drop i) q = if q.2 = true then q else foldW f (xs.drop (i + 1)) (f xs[i] q) := by
  rw [List.drop_eq_getElem_cons h]
  rfl
theorem drop_sum {α : Type} (g : α → Nat) {xs : List α} {i : Nat} (h : i < xs.length) : ((xs.drop i).map g).sum = g xs[i] + ((xs.drop (i + 1)).map g).sum := by
  rw [List.drop_eq_getElem_cons h, List.map_cons, List.sum_cons]
set_option maxHeartbeats 8000000 in
theorem plistW0 {base B : Nat} {w : World} {v : Value} {q0 : List UInt8 × Bool} (h : Wr base w B v q0.1 q0.2) (a : Option Addr) (c : Nat) (xs : List Int) (hq : Stays w B v a xs) (hn9 : xs.length ≤ 9223372036854775807) (hl : q0.2 = false → q0.1.length + (xs.map (fun _ => 8)).sum ≤ 290000000) : Calls Try.prog 75 #[.pointer (some ⟨B, 0, none⟩), .slice a xs.length c, .func (.func 25) #[.pointer (some ⟨B, 0, none⟩)] #[]] w (Put base w B v (foldW numW xs q0).1 (foldW numW xs q0).2) := by
  obtain ⟨n, hn⟩ : ∃ n, n = xs.length := ⟨_, rfl⟩
  obtain ⟨QF, hQF⟩ : ∃ QF, QF = foldW numW xs q0 := ⟨_, rfl⟩
  have HF : Hid (QF = foldW numW xs q0) := hQF
  have HL : Hid ((q0.2 = false → q0.1.length + (xs.map (fun _ => 8)).sum ≤ 290000000) ∧ n = xs.length) := ⟨hl, hn⟩
  rw [← hQF]
  rw [← hn] at hn9 ⊢
  have HQ := Lib.hid hq
  have HK1 := Lib.hid h
  have HS1 : Hid (Stp w B v w v) := Stp.refl _ _ _
  clear h hl hq hn hQF
  go_enter Try.func75, Try.ntmps75
  go_wp2_with fail
  go_loopg [10] n (fun gg i_ wr => ∃ (i : Nat) (u : Value) (q : List UInt8 × Bool), i ≤ n ∧ n - i ≤ gg ∧ i_ = .int .i64 (i : Nat) ∧ Hid (Wr base wr B u q.1 q.2) ∧ Hid (Stp w B v wr u) ∧ Hid (QF = foldW numW (xs.drop i) q) ∧ Hid (q.2 = false → q.1.length + ((xs.drop i).map (fun _ => 8)).sum ≤ 290000000))
  case atStart => exact ⟨0, v, q0, by omega, by omega, rfl, HK1, HS1, HF, HL.out.1⟩
  case round =>
    obtain ⟨i, u, ⟨ql, qb⟩, hi, hg, rfl, HR, HS, HT, HLL⟩ := hrel
    by_cases hin : i < n
    · have iw : ((i : Nat) : Int) < (n : Int) := by omega
      have n0 : (0 : Int) ≤ ((i : Nat) : Int) := by omega
      have hix : i < xs.length := by rw [← HL.out.2]; exact hin
      have HN : Hid (QF = if qb = true then (ql, qb) else foldW numW (xs.drop (i + 1)) (numW xs[i] (ql, qb))) := by show _ = _; rw [HT.out]; exact fold_next hix _
      have HLN : Hid (qb = false → ql.length + ((fun _ => 8) xs[i] + ((xs.drop (i + 1)).map (fun _ => 8)).sum) ≤ 290000000) := fun h9 => by rw [← drop_sum (fun _ => 8) hix]; exact HLL.out h9
      obtain ⟨b, off, rfl, hc⟩ := HQ.out _ _ HS.out i hix
      rw [List.getD_eq_getElem?_getD, List.getElem?_eq_getElem hix] at hc
      simp only [Option.getD_some] at hc
      generalize xs[i] = x at *
      have wa1 : wr.cell? ⟨B, 1, none⟩ = some (.bool qb) := HR.out.cells.2.1
      have KA := HR.out
      have HSA := HS
      cases qb with
      | true =>
        have FE : Hid (Put base w B v QF.1 QF.2 (.returned (.tuple #[])) wr) := by
          have e := HN.out
          rw [if_pos rfl] at e
          show Put _ _ _ _ _ _ _ _
          rw [e]
          exact ⟨rfl, u, KA, HSA.out⟩
        clear HN HT HR HS HLN HLL KA HSA
        go_wp2_with fail
        all_goals exact bodyPost_ret (v := .tuple #[]) (by simp [results, Try.results75, go_sem]) rfl FE.out
      | false =>
        have C2 := Lib.hid (pnum_any KA x (by have := HLN.out rfl; show ql.length ≤ _; omega))
        have HN2 : Hid (QF = foldW numW (xs.drop (i + 1)) (numW x (ql, false))) := HN.out
        have HLN2 : Hid ((numW x (ql, false)).2 = false → (numW x (ql, false)).1.length + ((xs.drop (i + 1)).map (fun _ => 8)).sum ≤ 290000000) := fun _ => by
          have h1 := numW_len x (ql, false)
          have h2 := HLN.out rfl
          simp only at h1 h2 ⊢
          omega
        obtain ⟨q2, hq2⟩ : ∃ q2, q2 = numW x (ql, false) := ⟨_, rfl⟩
        rw [← hq2] at HN2 HLN2
        have C3 : Hid (Calls Try.prog 25 #[.pointer (some ⟨B, 0, none⟩), .int .i64 x] wr (Put base wr B u q2.1 q2.2)) := by rw [hq2]; exact C2.out
        clear HN HT HR HS HLN HLL KA C2 hq2
        go_wp2_with fail
        refine C3.out.mono ?_
        rintro e w5 ⟨rfl, u5, K5, S5⟩
        have HK5 := Lib.hid K5
        have HS5 := Lib.hid (HSA.out.trans S5)
        clear K5 S5 C3 HSA
        go_wp2_with fail
        go_roundg (n - (i + 1))
        case measure => omega
        case rel => exact ⟨i + 1, u5, q2, by omega, Nat.le_refl _, by go_num, HK5, HS5, HN2, HLN2⟩
    · obtain rfl : i = n := by omega
      have iw : ¬ ((i : Nat) : Int) < ((i : Nat) : Int) := by omega
      have FE : Hid (Put base w B v QF.1 QF.2 (.returned (.tuple #[])) wr) := by
        have e := HT.out
        rw [List.drop_of_length_le (by rw [← HL.out.2]; exact Nat.le_refl _)] at e
        show Put _ _ _ _ _ _ _ _
        rw [e]
        exact ⟨rfl, u, HR.out, HS.out⟩
      clear HR HS HT HLL
      go_wp2_with fail
      all_goals exact bodyPost_ret (v := .tuple #[]) (by simp [results, Try.results75, go_sem]) rfl FE.out
set_option maxHeartbeats 8000000 in
theorem plistW {base B : Nat} {w : World} {v : Value} {l : List UInt8} {bad : Bool} (h : Wr base w B v l bad) (a : Option Addr) (c : Nat) (xs : List Int) (hq : Stays w B v a xs) (hn9 : xs.length ≤ 9223372036854775807) (hl : l.length ≤ 295000000) (hl2 : xs.length ≤ 255 → l.length + 1 + (xs.map (fun _ => 8)).sum ≤ 290000000) : Calls Try.prog 64 #[.pointer (some ⟨B, 0, none⟩), .slice a xs.length c, .func (.func 25) #[.pointer (some ⟨B, 0, none⟩)] #[]] w (Put base w B v (listW numW xs (l, bad)).1 (listW numW xs (l, bad)).2) := by
  obtain ⟨n, hn⟩ : ∃ n, n = xs.length := ⟨_, rfl⟩
  obtain ⟨q0, hq0⟩ : ∃ q0, q0 = byteW xs.length (l, bad) := ⟨_, rfl⟩
  have C0 := Lib.hid (pbyteW_any h (xs.length : Int) (by omega))
  have HL : q0.2 = false → q0.1.length + (xs.map (fun _ => 8)).sum ≤ 290000000 := fun h9 => by
    have h8 : xs.length ≤ 255 := by
      rw [hq0] at h9
      unfold byteW at h9
      split at h9
      · omega
      · cases h9
    have := byteW_len xs.length (l, bad)
    rw [← hq0] at this
    have := hl2 h8
    simp only at *
    omega
  have CI : Hid (∀ w1 v1, Wr base w1 B v1 q0.1 q0.2 → Stp w B v w1 v1 → Calls Try.prog 75 #[.pointer (some ⟨B, 0, none⟩), .slice a n c, .func (.func 25) #[.pointer (some ⟨B, 0, none⟩)] #[]] w1 (Put base w B v (listW numW xs (l, bad)).1 (listW numW xs (l, bad)).2)) := fun w1 v1 k s => by
    rw [hn]
    have e : listW numW xs (l, bad) = foldW numW xs q0 := by rw [hq0]; rfl
    rw [e]
    exact (plistW0 k a c xs (Stays.on hq s) hn9 HL).mono fun _ _ hh => Put.then s hh
  rw [← hq0] at C0
  generalize listW numW xs (l, bad) = QF at *
  rw [← hn] at C0 hn9 ⊢
  clear h hl hl2 hq hn hq0 HL
  go_enter Try.func64, Try.ntmps64
  go_wp2_with fail
  refine C0.out.mono ?_
  rintro e w1 ⟨rfl, v1, K1, S1⟩
  have C1 := Lib.hid (CI.out w1 v1 K1 S1)
  clear K1 S1 C0 CI
  go_wp2_with fail
  refine C1.out.mono ?_
  rintro e w2 ⟨rfl, H⟩
  have HH := Lib.hid H
  clear H C1
  go_wp2_with fail
  all_goals exact bodyPost_ret (v := .tuple #[]) (by simp [results, Try.results64, go_sem]) rfl ⟨rfl, HH.out⟩
end Go.Proofs.Ythegkookfpnbeaa.Wds
