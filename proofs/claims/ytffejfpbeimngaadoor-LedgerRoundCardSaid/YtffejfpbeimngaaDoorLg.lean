/- Ledger: Open. -/
import Derived.Test.YtffejfpbeimngaaDoorLf
import Derived.Test.YtffejfpbeimngaaDoorFd
set_option linter.unusedVariables false
set_option linter.unusedSimpArgs false
set_option maxRecDepth 100000
namespace Go.Proofs.YtffejfpbeimngaaDoor.Ldg
open Go.RowKit Go.Lib Go.Proofs.YtffejfpbeimngaaDoor.Bx Go.Proofs.YtffejfpbeimngaaDoor.Frm Go.Proofs.YtffejfpbeimngaaDoor.Wds Go.Proofs.YtffejfpbeimngaaDoor.Plt

theorem infoT : (Tryd.prog.info? 9).map (fun i => (i.zero, i.size, i.bytes)) = some (some (.string ⟨#[]⟩), 1, 16) := by kernel_rfl
theorem cT_app (X Y : List (List UInt8)) : Frm.cellsT (X ++ Y) = Frm.cellsT X ++ Frm.cellsT Y := List.map_append
/-- The ledger behind records. -/
def LS.after (l : LS) (R : List (List UInt8)) : LS := R.foldl (fun l s => l.past (platesN s.length)) l
theorem LS.after_snoc (l : LS) (R : List (List UInt8)) (s : List UInt8) : l.after (R ++ [s]) = (l.after R).past (platesN s.length) := by
  unfold LS.after
  rw [List.foldl_append]
  rfl
theorem LS.after_frame : ∀ (R : List (List UInt8)) (l : LS), (l.after R).first = l.first ∧ (l.after R).n = l.n
  | [], _ => ⟨rfl, rfl⟩
  | s :: R, l => LS.after_frame R (l.past (platesN s.length))
theorem LS.Ok.past {l : LS} (h : l.Ok) {k : Nat} (h1 : l.number < 1099511627776) (h2 : k ≤ l.n - l.taken) : (l.past k).Ok :=
  ⟨h.f, h.n1, h.n2, Nat.mod_lt _ (by have := h.n1; omega), h1, by show l.taken + k ≤ l.n; have := h.tk; omega⟩
theorem row_not {base X B : Nat} {w : World} {v : Value} {R : List (List UInt8)} {l : LS} (h : Frm.OStrs base w v R) (hl : Led w X B l) : v.ownBlock ≠ some X := fun e => absurd (own_apart h e hl) (by decide)
theorem row_past {base X : Nat} {w w' : World} {v : Value} {R : List (List UInt8)} (h : Frm.OStrs base w v R) (hc : Chg (fun g => g = X) w w') (hne : v.ownBlock ≠ some X) : Frm.OStrs base w' v R :=
  own_same h fun g e => hc.block g (Rk.OwnK.block h g e).2 (fun q => hne (by rw [e, q]))
/-- What Open leaves. -/
def Opened (w : World) (B : Nat) (l : LS) (R : List (List UInt8)) : Ending → World → Prop := fun e w' => ∃ X a c, e = .returned (.tuple #[.pointer (some ⟨X, 0, none⟩), .slice a R.length c, .bool true]) ∧ w.heap.size ≤ X ∧ Led w' X B (l.after R) ∧ (l.after R).Ok ∧ Frm.OStrs w.heap.size w' (.slice a R.length c) R ∧ Below w.heap.size w w'
set_option maxHeartbeats 16000000 in
theorem open_any {base : Nat} {w : World} {B : Nat} {F : Nat → Prop} {D : DK} (l : LS) (ok : l.Ok) (ht : l.taken = 0) (hd : Disk base w B F D) (r : Rg D l) : Calls Tryd.prog 9 #[.pointer (some ⟨B, 0, none⟩), .int .i64 (l.first : Nat), .int .i64 (l.n : Nat), .int .i64 (l.p : Nat), .int .i64 (l.number : Nat)] w (Opened w B l (recsR (ring D l.first) l.n l.p l.number l.n)) := by
  have C1 : Hid (Calls Tryd.prog 18 #[.pointer (some ⟨B, 0, none⟩)] w fun e w' => e = .returned (.bool true) ∧ w' = w) := (onX hd).mono fun e w' h => by
    rw [r.on] at h
    exact ⟨h.1, h.2.symm⟩
  have C2 : Hid (Calls Tryd.prog 23 #[.pointer (some ⟨B, 0, none⟩)] w fun e w' => e = .returned (.int .i64 (D.n : Nat)) ∧ w' = w) := (sizeX hd).mono fun e w' h => ⟨h.1, h.2.symm⟩
  have hDn : D.n ≤ 16384 := by obtain ⟨G, v, u, L, h, _⟩ := hd; exact h.n2
  have C3 : Hid (Calls Tryd.prog 22 #[.int .i64 (l.first : Nat), .int .i64 (l.n : Nat), .int .i64 (D.n : Nat)] w fun e w' => e = .returned (.bool true) ∧ w' = w) := ring_any _ _ _ ok.f ok.n1 r.fit hDn w
  have HR : Hid (∀ (l' : LS) (X : Nat) (w' : World), Below w.heap.size w w' → l'.first = l.first → l'.n = l.n → l'.Ok → Led w' X B l' → Calls Tryd.prog 24 #[.pointer (some ⟨X, 0, none⟩)] w' fun e w2 => OptE (recOf (ring D l.first) l.n l'.p l'.number (l.n - l'.taken)) e ∧ Below w'.heap.size w' w2) := fun l' X w' hb e1 e2 ok' hl => by
    have h := read_any hl ok' (hd.below hb) (D := D) ⟨r.on, by rw [e1, e2]; exact r.fit, by rw [e1, e2]; exact r.full⟩
    rw [e1, e2] at h
    exact h
  have HS : Hid (∀ (l' : LS) (s : List UInt8), recOf (ring D l.first) l.n l'.p l'.number (l.n - l'.taken) = some s → l'.number < 1099511627776 ∧ 0 < s.length ∧ s.length ≤ 65535 ∧ 2 ≤ platesN s.length ∧ platesN s.length ≤ l.n - l'.taken ∧ recsR (ring D l.first) l.n l'.p l'.number (l.n - l'.taken) = s :: recsR (ring D l.first) l.n ((l'.p + platesN s.length) % l.n) (l'.number + 1) (l.n - l'.taken - platesN s.length)) := fun l' s h => by
    have hn : 0 < l.n := by have := ok.n1; omega
    obtain ⟨q1, q2, q3, q4, q5, q6⟩ := rec_some hn r.full h
    have := bod_pos (m := lenOf (ring D l.first l'.p)) (by omega)
    exact ⟨q1, q3, q4, by omega, q6, recsR_some hn r.full h⟩
  have HN : Hid (∀ (l' : LS), recOf (ring D l.first) l.n l'.p l'.number (l.n - l'.taken) = none → recsR (ring D l.first) l.n l'.p l'.number (l.n - l'.taken) = []) := fun l' h => recsR_none h
  obtain ⟨c, hc⟩ : ∃ c, c = ring D l.first := ⟨_, rfl⟩
  rw [← hc] at HR HS HN ⊢
  obtain ⟨R, hR⟩ : ∃ R, R = recsR c l.n l.p l.number l.n := ⟨_, rfl⟩
  rw [← hR]
  have HR0 : Hid (R = [] ++ recsR c l.n l.p l.number (l.n - l.taken)) := by show _ = _; rw [hR, ht]; rfl
  have OK := Lib.hid ok
  have BX := Lib.hid (box1 w (ledV B l) 53)
  obtain ⟨first, n, p, number, taken⟩ := l
  simp only at ht
  subst ht
  obtain ⟨o1, o2, o3, o4, o5, o6⟩ := ok
  simp only at o1 o2 o3 o4 o5 C3 HR HS HN HR0 ⊢
  have g1 : decide ((p : Int) < 0) = false := decide_eq_false (by omega)
  have g2 : decide ((n : Int) ≤ (p : Int)) = false := decide_eq_false (by omega)
  have g2n : decide (n ≤ p) = false := decide_eq_false (by omega)
  have g3 : decide ((number : Int) < 0) = false := decide_eq_false (by omega)
  have g4 : decide ((1099511627776 : Int) < (number : Int)) = false := decide_eq_false (by omega)
  clear hc hR r hd
  go_enter Tryd.func9, Tryd.ntmps9
  go_wp2_with fail
  refine C1.out.mono ?_
  rintro e w1 ⟨rfl, rfl⟩
  go_wp2_with fail
  refine C2.out.mono ?_
  rintro e w2 ⟨rfl, rfl⟩
  go_wp2_with fail
  refine C3.out.mono ?_
  rintro e w3 ⟨rfl, rfl⟩
  go_wp2_with fail
  go_loopg [14] n (fun g s_ wr => ∃ (l' : LS) (R1 : List (List UInt8)) (a : Option Addr) (cp : Nat), n - l'.taken ≤ g ∧ 2 * R1.length ≤ l'.taken ∧ s_ = .slice a R1.length cp ∧ Hid (l' = LS.after ⟨first, n, p, number, 0⟩ R1) ∧ Hid l'.Ok ∧ Hid (R = R1 ++ recsR c n l'.p l'.number (n - l'.taken)) ∧ Hid (Led wr w3.heap.size B l') ∧ Hid (Frm.OStrs w3.heap.size wr (.slice a R1.length cp) R1) ∧ Hid (Below w3.heap.size w3 wr))
  case atStart => exact ⟨⟨first, n, p, number, 0⟩, [], none, 0, by show n - 0 ≤ n; omega, by show 2 * 0 ≤ 0; omega, rfl, rfl, OK.out, HR0.out, BX.out.2.1, Frm.OStrs.nil_ _ _, BX.out.1⟩
  case round =>
    obtain ⟨l', R1, a, cp, hg, hR1, rfl, HL, HO, HRR, HLD, HST, HB⟩ := hrel
    have fr := LS.after_frame R1 ⟨first, n, p, number, 0⟩
    rw [← HL.out] at fr
    have CR := Lib.hid (HR.out l' w3.heap.size wr HB.out fr.1 fr.2 HO.out HLD.out)
    have HS1 := Lib.hid (fun s => HS.out l' s)
    have HN1 := Lib.hid (HN.out l')
    generalize recOf c n l'.p l'.number (n - l'.taken) = o at *
    have FR := Lib.hid fr
    clear fr
    go_wp2_with fail
    refine CR.out.mono ?_
    rintro e w4 ⟨he, b4⟩
    unfold OptE at he
    subst he
    have HB4 := Lib.hid (below_on HB.out b4)
    have HLD4 : Hid (Led w4 w3.heap.size B l') := HLD.out.below b4 HLD.out.lt
    have HST4 : Hid (Frm.OStrs w3.heap.size w4 (.slice a R1.length cp) R1) := HST.out.below b4
    clear b4 HB HLD HST CR
    cases o with
    | none =>
      have e0 : R = R1 := by rw [HRR.out, HN1.out rfl, List.append_nil]
      subst e0
      clear HRR HS1 HN1
      go_wp2_with fail
      all_goals exact bodyPost_ret (v := .tuple #[.pointer (some ⟨w3.heap.size, 0, none⟩), .slice a R.length cp, .bool true]) (by simp [results, Tryd.results9, go_sem]) rfl ⟨w3.heap.size, a, cp, rfl, Nat.le_refl _, by rw [← HL.out]; exact HLD4.out, by rw [← HL.out]; exact HO.out, HST4.out, HB4.out⟩
    | some s =>
      obtain ⟨q1, q3, q4, q5, q6, q7⟩ := HS1.out s rfl
      have HRN : Hid (R = (R1 ++ [s]) ++ recsR c n (l'.past (platesN s.length)).p (l'.past (platesN s.length)).number (n - (l'.past (platesN s.length)).taken)) := by
        show _ = _
        rw [HRR.out, q7, List.append_assoc]
        have e1 : (l'.past (platesN s.length)).p = (l'.p + platesN s.length) % n := by show (l'.p + platesN s.length) % l'.n = _; rw [FR.out.2]
        have e2 : n - (l'.past (platesN s.length)).taken = n - l'.taken - platesN s.length := by show n - (l'.taken + platesN s.length) = _; omega
        rw [e1, e2]
        rfl
      have HON : Hid ((l'.past (platesN s.length)).Ok) := HO.out.past q1 (by rw [FR.out.2]; exact q6)
      have HLN : Hid (l'.past (platesN s.length) = LS.after ⟨first, n, p, number, 0⟩ (R1 ++ [s])) := by
        show _ = _
        rw [LS.after_snoc, ← HL.out]
      have HT2 : Hid (2 * (R1.length + 1) ≤ (l'.past (platesN s.length)).taken ∧ n - (l'.past (platesN s.length)).taken < n - l'.taken) := by
        refine ⟨?_, ?_⟩
        · show _ ≤ l'.taken + platesN s.length
          omega
        · show n - (l'.taken + platesN s.length) < _
          omega
      have hRl : R1.length ≤ 16384 := by have := HO.out.tk; have := HO.out.n2; omega
      have CPS : Hid (Calls Tryd.prog 25 #[.pointer (some ⟨w3.heap.size, 0, none⟩), .string (mkB s)] w4 (Wrote w4 w3.heap.size B (l'.past (platesN s.length)))) := by
        have h := pass_any HLD4.out HO.out (mkB s) (by rw [mkB_size]; omega)
        rw [mkB_size] at h
        exact h
      have HNR := Lib.hid (row_not HST4.out HLD4.out)
      generalize l'.past (platesN s.length) = l2 at *
      clear HRR HS1 HN1 q1 q3 q4 q5 q6 q7 HO HL
      go_wp2_with fail
      refine CPS.out.mono ?_
      rintro e w5 ⟨rfl, hl5, hc5⟩
      have HST5 := Lib.hid (row_past HST4.out hc5 HNR.out)
      have HB5 := Lib.hid (HB4.out.trans (hc5.below (fun g (hg : g = w3.heap.size) => Nat.le_of_eq hg.symm) HB4.out.size))
      have HLD5 := Lib.hid hl5
      clear hl5 hc5 HST4 HLD4 HB4 CPS
      have HBY : Hid (Below w3.heap.size w3 (w5.alloc (.cells #[.string (mkB s)] 9))) := below_al HB5.out _ |> fun (q : Below w3.heap.size w3 _) => q
      have A1 : Hid (Rk.OwnK 9 1 w3.heap.size (w5.alloc (.cells #[.string (mkB s)] 9)) (.slice a R1.length cp) (Frm.cellsT R1)) := HST5.out.below (box1 w5 _ _).1
      have A2 : Hid (Rk.RowK 1 (w5.alloc (.cells #[.string (mkB s)] 9)) (.slice (some ⟨w5.heap.size, 0, none⟩) 1 1) [[Value.string (mkB s)]]) := Rk.row_one (e := 9) (heap_alloc_new _ _) rfl
      have A3 : Hid ((Frm.cellsT R1).length + 1 ≤ 100000) := by show _ ≤ _; rw [Frm.cellsT_len]; omega
      have A4 : Hid (w3.heap.size ≤ (w5.alloc (.cells #[.string (mkB s)] 9)).heap.size) := HBY.out.size
      have HLY : Hid (Led (w5.alloc (.cells #[.string (mkB s)] 9)) w3.heap.size B l2) := HLD5.out.below (box1 w5 _ _).1 HLD5.out.lt
      have HYO : Hid (∀ z ∈ [[Value.string (mkB s)]], ∀ q ∈ z, q.oneCell' = true) := fun z hz q hq => by
        simp only [List.mem_singleton] at hz
        subst hz
        simp only [List.mem_singleton] at hq
        subst hq
        rfl
      have HCE : Hid (Frm.cellsT (R1 ++ [s]) = Frm.cellsT R1 ++ [[Value.string (mkB s)]]) := cT_app _ _
      have HLE : Hid ((R1 ++ [s]).length = R1.length + 1) := List.length_append
      clear HST5 HLD5 HB5
      generalize mkB s = sb at *
      generalize R1 ++ [s] = R2 at *
      go_wp2_with (at_builtin; refine Rk.wpList_append_rowk rfl _ _ 22 9 1 16 _ Tryd.underlying22 infoT rfl (by decide) (by decide) rfl w3.heap.size _ _ (Frm.cellsT R1) _ rfl rfl A1.out A2.out HYO.out A3.out A4.out ?_)
      intro v6 w9 h5 g5 k5
      have K9 : Hid (Frm.OStrs w3.heap.size w9 v6 R2) := by
        show Rk.OwnK _ _ _ _ _ _
        rw [HCE.out]
        exact h5
      have HL9 : Hid (Led w9 w3.heap.size B l2) := HLY.out.same (g5.block _ HLY.out.lt (fun e => HNR.out e.symm))
      have HB6 := Lib.hid (A1.out.belowOf HBY.out (Nat.le_refl _) A4.out g5)
      clear h5 g5 k5 A1 A2 A3 A4 HBY HYO HLY HNR
      obtain ⟨a6, c6, rfl, _, _⟩ := K9.out.read.is_slice
      go_wp2_with fail
      go_roundg (n - l2.taken)
      case measure => have := HT2.out; omega
      case rel => exact ⟨l2, R2, a6, c6, Nat.le_refl _, by rw [HLE.out]; exact HT2.out.1, rfl, HLN.out, HON.out, HRN.out, HL9.out, K9.out, HB6.out⟩
end Go.Proofs.YtffejfpbeimngaaDoor.Ldg
