/- Ledger: the bytes of the body plates behind a head. -/
import Derived.Test.YtffejfpbeimngaaDoorLd
set_option linter.unusedVariables false
set_option linter.unusedSimpArgs false
set_option maxRecDepth 100000
namespace Go.Proofs.YtffejfpbeimngaaDoor.Ldg
open Go.RowKit Go.Lib Go.Proofs.YtffejfpbeimngaaDoor.Bx Go.Proofs.YtffejfpbeimngaaDoor.Frm Go.Proofs.YtffejfpbeimngaaDoor.Wds Go.Proofs.YtffejfpbeimngaaDoor.Plt

theorem all_drop {p : UInt8 → Bool} : ∀ {L : List UInt8}, (∀ x ∈ L.dropWhile p, p x = true) → ∀ x ∈ L, p x = true
  | [], _, x, hx => by simp at hx
  | y :: L, h, x, hx => by
    cases e : p y with
    | false =>
      have := h y (by rw [List.dropWhile_cons_of_neg (by simp [e])]; exact List.mem_cons_self)
      rw [e] at this
      cases this
    | true =>
      rw [List.dropWhile_cons_of_pos e] at h
      rcases List.mem_cons.1 hx with rfl | hx
      · exact e
      · exact all_drop h x hx
theorem drop_none {p : UInt8 → Bool} : ∀ {L : List UInt8}, (∀ x ∈ L, p x = true) → L.dropWhile p = []
  | [], _ => rfl
  | y :: L, h => by
    rw [List.dropWhile_cons_of_pos (h y List.mem_cons_self)]
    exact drop_none fun x hx => h x (List.mem_cons_of_mem _ hx)
theorem trim_nil (l : List UInt8) : (trimB l 0 = []) ↔ zeros l = true := by
  unfold trimB trimLeftB trimRightB zeros
  rw [List.all_eq_true]
  constructor
  · intro h x hx
    have h1 : ∀ x ∈ (l.reverse.dropWhile (· == 0)).reverse, (x == 0) = true := all_drop (p := (· == 0)) (by rw [h]; intro x hx; simp at hx)
    have h2 : ∀ x ∈ l.reverse, (x == 0) = true := all_drop (p := (· == 0)) fun x hx => h1 x (List.mem_reverse.2 hx)
    have := h2 x (List.mem_reverse.2 hx)
    simpa using this
  · intro h
    have h1 : l.reverse.dropWhile (· == 0) = [] := drop_none fun x hx => by have := h x (List.mem_reverse.1 hx); simpa using this
    rw [h1]
    rfl
theorem pre_at {s : List UInt8} (h : 0 < s.length) : hasPrefix s [66] = decide (s.getD 0 0 = 66) := by
  match s, h with
  | x :: s, _ =>
    show (([66] : List UInt8).isPrefixOf (x :: s)) = decide (x = 66)
    simp only [List.isPrefixOf, Bool.and_true]
    by_cases e : x = 66
    · subst e
      rfl
    · rw [decide_eq_false e]
      simpa using fun h => e h.symm
/-- What a text, or none, is told as. -/
def OptE (o : Option (List UInt8)) : Ending → Prop := fun e => e = .returned (.tuple #[.string (mkB (o.getD [])), .bool o.isSome])
theorem builder_below {B b : Nat} {bs : List Value} {w w' : World} (h : Lib.IsBuilder 68 5 B b bs w) (hb : w'.heap = w.heap) : Lib.IsBuilder 68 5 B b bs w' := by
  unfold Lib.IsBuilder Lib.BuilderAt World.ownsRow at *
  rw [hb]
  exact h
set_option maxHeartbeats 8000000 in
theorem text_any {base : Nat} {w : World} {X B : Nat} {F : Nat → Prop} {D : DK} {l : LS} (hl : Led w X B l) (ok : l.Ok) (hd : Disk base w B F D) (r : Rg D l) (m : Nat) (hm0 : 0 < m) (hm : m ≤ 65535) : Calls Tryd.prog 33 #[.pointer (some ⟨X, 0, none⟩), .int .i64 (m : Nat)] w fun e w' => OptE (textOf (ring D l.first) l.n l.p m) e ∧ Below w.heap.size w w' := by
  obtain ⟨c, hc⟩ : ∃ c, c = ring D l.first := ⟨_, rfl⟩
  obtain ⟨k, hk⟩ : ∃ k, k = bodN m := ⟨_, rfl⟩
  have hk1 : k ≤ 600 := by rw [hk]; unfold bodN; omega
  have hmk : m ≤ 127 * k := by rw [hk]; exact bod_le m
  have hn : 0 < l.n := by have := ok.n1; omega
  have CC : Hid (∀ i, i < l.n → (c i).length = 128) := by show ∀ i, _ → _; rw [hc]; exact r.full
  have CP : Hid (∀ w', Below w.heap.size w w' → ∀ i m, i < k → Calls Tryd.prog 34 #[.pointer (some ⟨X, 0, none⟩), .int .i64 (1 + (i : Int))] (w'.drewN m) fun e w2 => e = .returned (.int .i64 ((l.first + plc l.n l.p i : Nat) : Int)) ∧ ∃ q, w2 = (w'.drewN m).drewN q) := fun w' hb i m hi => by
    have h := plate_any (w := w'.drewN m) (B := B) ((hl.below hb hl.lt).below (Wds.d_drews (Below.refl w'.heap.size _) m) (Nat.lt_of_lt_of_le hl.lt hb.size)) ok (1 + i) (by omega)
    have e1 : ((1 + i : Nat) : Int) = 1 + (i : Int) := by omega
    have e2 : l.p + (1 + i) = l.p + 1 + i := by omega
    rw [e1, e2] at h
    exact h
  have CG : Hid (∀ w', Below w.heap.size w w' → ∀ i m, Calls Tryd.prog 8 #[.pointer (some ⟨B, 0, none⟩), .int .i64 ((l.first + plc l.n l.p i : Nat) : Int)] (w'.drewN m) fun e w2 => e = .returned (.tuple #[.string (mkB (c (plc l.n l.p i))), .bool true]) ∧ w2 = w'.drewN m) := fun w' hb i m => by
    rw [hc]
    exact get_ring (hd.below hb) r _ (Nat.mod_lt _ hn) m
  have CB : Hid (∀ w, Calls Tryd.prog 32 #[.int .i64 (m : Nat)] w fun e w' => e = .returned (.int .i64 (k : Nat)) ∧ w' = w) := fun w => by rw [hk]; exact bodies_any m (by omega) w
  have LE : Hid (∀ w', Below w.heap.size w w' → w'.cell? ⟨X, 0, none⟩ = some (.pointer (some ⟨B, 0, none⟩))) := fun w' hb => (hl.below hb hl.lt).cells.1
  rw [← hc]
  obtain ⟨n, hn2⟩ : ∃ n, n = l.n := ⟨_, rfl⟩
  obtain ⟨p, hp⟩ : ∃ p, p = l.p := ⟨_, rfl⟩
  rw [← hn2, ← hp] at CP CG ⊢
  rw [← hn2] at CC hn
  generalize l.first = first at *
  have TB : Hid (∀ i, i < k → (c (plc n p i)).getD 0 0 ≠ 66 → textOf c n p m = none) := fun i hi h => text_bod (by rw [← hk]; exact bods_at hi h)
  have TT : Hid (zeros ((cat c n p k).drop m) = false → textOf c n p m = none) := fun h => text_tail (by rw [← hk]; exact h)
  have TY : Hid (bods c n p k = true → zeros ((cat c n p k).drop m) = true → textOf c n p m = some ((cat c n p k).take m)) := fun h1 h2 => by
    rw [hk] at h1 h2 ⊢
    exact text_yes h1 h2
  generalize textOf c n p m = o at *
  clear hk hc hn2 hp hl ok hd r
  have B0 := Lib.hid (box1 w #[.pointer none, .slice none 0 0] 68).1
  have IB := Lib.hid (Lib.fresh_isBuilder 68 5 w)
  go_enter Tryd.func33, Tryd.ntmps33
  go_wp2_with fail
  refine (CB.out _).mono ?_
  rintro e w1 ⟨rfl, rfl⟩
  go_wp2_with fail
  go_loopg [15] k (fun g s_ wr => ∃ i : Nat, i ≤ k ∧ k - i ≤ g ∧ s_ = .int .i64 (i : Nat) ∧ Hid (Below w.heap.size w wr) ∧ Hid (Lib.IsBuilder 68 5 w.heap.size w.heap.size (Lib.byteCells (cat c n p i)) wr) ∧ Hid (bods c n p i = true))
  case atStart => exact ⟨0, by omega, by omega, rfl, B0, IB, rfl⟩
  case round =>
    obtain ⟨i, hi, hg, rfl, HB, HI, HD⟩ := hrel
    by_cases hik : i < k
    · have g1 : decide ((i : Int) < (k : Int)) = true := decide_eq_true (by omega)
      have c0 := LE.out wr HB.out
      have P1 := Lib.hid (fun m => CP.out wr HB.out i m hik)
      have G1 := Lib.hid (fun m => CG.out wr HB.out i m)
      obtain ⟨s, hs⟩ : ∃ s, s = c (plc n p i) := ⟨_, rfl⟩
      have hs128 : s.length = 128 := by rw [hs]; exact CC.out _ (Nat.mod_lt _ hn)
      obtain ⟨a0, ha0⟩ : ∃ a : Nat, a = first + plc n p i := ⟨_, rfl⟩
      have HN : Hid (cat c n p (i + 1) = cat c n p i ++ s.drop 1) := by rw [hs]; exact cat_next c n p i
      have HBN : Hid (s.getD 0 0 = 66 → bods c n p (i + 1) = true) := fun h => by rw [bods_next, HD.out, ← hs, h]; rfl
      have TB1 : Hid (s.getD 0 0 ≠ 66 → o = none) := fun h => TB.out i hik (by rw [← hs]; exact h)
      have HCL : Hid ((cat c n p i).length = 127 * i) := cat_len hn CC.out i
      have CX : Hid (∀ w, Calls Tryd.prog 39 #[.string (mkB s), .string ⟨#[66]⟩] w fun e w' => e = .returned (.tuple #[.string (if s.getD 0 0 = 66 then mkB (s.drop 1) else mkB s), .bool (decide (s.getD 0 0 = 66))]) ∧ w' = w) := fun w => by
        have h := Tryd.strings_CutPrefix (mkB s) (mkB [66]) w
        have e1 : hasPrefix (mkB s).data.toList (mkB [66]).data.toList = decide (s.getD 0 0 = 66) := pre_at (s := s) (by omega)
        have e2 : (⟨(Lib.trimPrefix (mkB s).data.toList (mkB [66]).data.toList).toArray⟩ : ByteArray) = if s.getD 0 0 = 66 then mkB (s.drop 1) else mkB s := by
          unfold Lib.trimPrefix
          rw [e1]
          by_cases q : s.getD 0 0 = 66
          · rw [decide_eq_true q, if_pos rfl, if_pos q]
            rfl
          · rw [decide_eq_false q, if_neg (by simp), if_neg q]
            try rfl
        rw [e1, e2] at h
        exact h
      rw [← ha0] at P1 G1
      rw [← hs] at G1
      clear hs ha0
      go_wp2_with fail
      go_quiet (first | (go_at_call 34; with_reducible exact Calls.quiet_of (P1.out _)) | (go_at_call 8; with_reducible exact Calls.quiet_of_same (G1.out _)))
      have HB2 := Lib.hid (below_on HB.out (Wds.d_drews (Below.refl wr.heap.size wr) nq))
      have HI2 := Lib.hid (builder_below (w' := wr.drewN nq) HI.out rfl)
      generalize wr.drewN nq = w2 at HB2 HI2 ⊢
      clear c0 P1 G1 HB HI
      go_wp2_with fail
      refine (CX.out _).mono ?_
      rintro e w3 ⟨rfl, rfl⟩
      clear CX
      by_cases hq : s.getD 0 0 = 66
      · rw [if_pos hq, decide_eq_true hq]
        have HBM := Lib.hid (HBN.out hq)
        have hdl : (s.drop 1).length = 127 := by rw [List.length_drop]; omega
        obtain ⟨d, hd⟩ : ∃ d, d = s.drop 1 := ⟨_, rfl⟩
        rw [← hd] at hdl HN ⊢
        clear hd TB1 HBN hq hs128
        have CW : Hid (Calls Tryd.prog 40 #[.pointer (some ⟨w.heap.size, 0, none⟩), .string (mkB d)] w3 fun e w' => e = .returned (.tuple #[.int .i64 (mkB d).size, .nilIface]) ∧ Hid (Lib.IsBuilder 68 5 w.heap.size w.heap.size (Lib.byteCells (cat c n p (i + 1))) w') ∧ Below w.heap.size w3 w') := by
          have hb : (Lib.byteCells (cat c n p i)).length = 127 * i := by rw [← HCL.out]; simp [Lib.byteCells]
          refine (Tryd.Builder_WriteString w.heap.size w.heap.size _ (mkB d) w3 HI2.out (by rw [hb, mkB_size]; omega) HB2.out.size).mono ?_
          rintro e w' ⟨rfl, h1, h2⟩
          refine ⟨rfl, .inr ?_, h2⟩
          have : Lib.byteCells (cat c n p (i + 1)) = Lib.byteCells (cat c n p i) ++ Lib.strCells (mkB d) := by rw [HN.out]; simp [Lib.byteCells, Lib.strCells, mkB]
          rw [this]
          exact h1
        generalize mkB d = ds at *
        go_wp2_with fail
        refine CW.out.mono ?_
        rintro e w4 ⟨rfl, HI4, hb4⟩
        have HB4 := Lib.hid (HB2.out.trans hb4)
        clear hb4 CW HB2 HI2
        go_wp2_with fail
        go_roundg (k - (i + 1))
        case measure => omega
        case rel => exact ⟨i + 1, by omega, Nat.le_refl _, by go_num, HB4, HI4, HBM⟩
      · rw [if_neg hq, decide_eq_false hq]
        obtain rfl := TB1.out hq
        clear TB1 HBN HN HCL
        go_wp2_with fail
        all_goals exact bodyPost_ret (v := .tuple #[.string ⟨#[]⟩, .bool false]) (by simp [results, Tryd.results33, go_sem]) rfl ⟨rfl, HB2.out⟩
    · obtain rfl : i = k := by omega
      have g1 : decide ((i : Int) < (i : Int)) = false := decide_eq_false (by omega)
      have CS : Hid (Calls Tryd.prog 41 #[.pointer (some ⟨w.heap.size, 0, none⟩)] wr fun e w' => e = .returned (.string (mkB (cat c n p i))) ∧ Below w.heap.size wr w') := Tryd.Builder_String_any w.heap.size w.heap.size _ wr HI.out HB.out.size
      have HL : Hid ((cat c n p i).length = 127 * i) := cat_len hn CC.out i
      have TTo := Lib.hid TT.out
      have TYo := Lib.hid (TY.out HD.out)
      generalize cat c n p i = L at *
      clear TT TY TB HI CP CG HD CB LE IB B0
      have XS1 : ∀ w, (Instr.slice 9 (.string (mkB L)) (some (.int .i64 (m : Nat))) none none).run Tryd.prog w = .ok (.string (mkB (L.drop m))) w := fun w => slice_from w L (by rw [HL.out]; exact hmk)
      have XS2 : ∀ w, (Instr.slice 9 (.string (mkB L)) none (some (.int .i64 (m : Nat))) none).run Tryd.prog w = .ok (.string (mkB (L.take m))) w := fun w => slice_to w L (by rw [HL.out]; exact hmk)
      have CT : Hid (∀ w, Calls Tryd.prog 42 #[.string (mkB (L.drop m)), .string ⟨#[0]⟩] w fun e w' => e = .returned (.string (mkB (trimB (L.drop m) 0))) ∧ Below w.heap.size w w') := fun w => by
        refine (Tryd.strings_Trim_one (mkB (L.drop m)) 0 (by decide) w (by rw [mkB_size, List.length_drop, HL.out]; omega)).mono ?_
        rintro e w' ⟨rfl, rfl | rfl⟩
        · exact ⟨rfl, Below.refl _ _⟩
        · exact ⟨rfl, (Below.refl _ _).drew⟩
      have SQ : (mkB (trimB (L.drop m) 0)).toList.isEmpty = zeros (L.drop m) := by
        rw [Lib.toList_data, mkB_data]
        cases e : zeros (L.drop m) with
        | true => rw [(trim_nil _).2 e]; rfl
        | false =>
          cases e2 : trimB (L.drop m) 0 with
          | nil =>
            rw [(trim_nil _).1 e2] at e
            cases e
          | cons x y => rfl
      clear HL
      generalize zeros (L.drop m) = z at *
      generalize mkB (trimB (L.drop m) 0) = tz at *
      generalize mkB (L.drop m) = ld at *
      obtain ⟨lt, hlt⟩ : ∃ lt, lt = mkB (L.take m) := ⟨_, rfl⟩
      rw [← hlt] at XS2
      have HLT := Lib.hid hlt
      clear hlt
      generalize mkB L = ls at *
      go_wp2_with fail
      refine CS.out.mono ?_
      rintro e w2 ⟨rfl, b2⟩
      have HB2 := Lib.hid (HB.out.trans b2)
      clear b2 CS HB
      go_wp2_with fail
      refine (CT.out _).mono ?_
      rintro e w3 ⟨rfl, b3⟩
      have HB3 := Lib.hid (below_on HB2.out b3)
      clear b3 HB2 CT
      cases z with
      | true =>
        obtain rfl := TYo.out rfl
        clear TTo TYo
        go_wp2_with fail
        all_goals exact bodyPost_ret (v := .tuple #[.string lt, .bool true]) (by simp [results, Tryd.results33, go_sem]) rfl ⟨by unfold OptE; rw [HLT.out]; rfl, HB3.out⟩
      | false =>
        obtain rfl := TTo.out rfl
        clear TTo TYo
        go_wp2_with fail
        all_goals exact bodyPost_ret (v := .tuple #[.string ⟨#[]⟩, .bool false]) (by simp [results, Tryd.results33, go_sem]) rfl ⟨rfl, HB3.out⟩
end Go.Proofs.YtffejfpbeimngaaDoor.Ldg
