/- Contract: takeSites of the program. -/
import Derived.Test.YtkbadhkjhkmlfaaPcmpw
import Derived.Test.YtkbadhkjhkmlfaaPjk
set_option linter.unusedVariables false
namespace Go.Proofs.Ytkbadhkjhkmlfaa.Rig
open Go.RowKit Go.Lib Go.Proofs.Ytkbadhkjhkmlfaa.Rt

def cutL (T : List St) (a b : Int) : List St := T.map (cutS a b)
theorem cutL_take {T : List St} {k : Nat} (a b : Int) (h : k < T.length) : cutL (T.take (k + 1)) a b = cutL (T.take k) a b ++ [cutS a b (st T k)] := by
  unfold cutL
  rw [List.take_succ_eq_append_getElem h, List.map_append, st_get h]
  rfl
theorem cutL_len (T : List St) (a b : Int) : (cutL T a b).length = T.length := List.length_map _
def endL (T : List St) (a b mk : Int) : List St := cutL T a b ++ (if 0 < mk then [⟨mk, a⟩] else [])
theorem take_is {T L' : List St} {a b mk : Int} (hm : ∀ x, x ∈ L' ↔ x ∈ endL T a b mk) (hs : ∀ i j, i < j → j < L'.length → ¬ ltS (st L' j) (st L' i)) : cmpL L' = pTakeT T a b mk := by
  obtain ⟨u1, u2⟩ := cmpL_ok hs
  obtain ⟨p1, p2⟩ := pTakeT_ok T a b mk
  refine up_uniq u1 p1 fun x => ?_
  rw [u2, hm, p2]
  unfold endL cutL
  rw [List.mem_append, List.mem_map]
  constructor
  · rintro (⟨y, hy, rfl⟩ | h)
    · exact .inl ⟨y, hy, rfl⟩
    · by_cases q : 0 < mk
      · rw [if_pos q] at h
        exact .inr ⟨q, by simpa using h⟩
      · rw [if_neg q] at h
        simp at h
  · rintro (⟨y, hy, rfl⟩ | ⟨q, rfl⟩)
    · exact .inl ⟨y, hy, rfl⟩
    · rw [if_pos q]
      exact .inr (by simp)

set_option maxRecDepth 100000 in
set_option maxHeartbeats 16000000 in
theorem takeSites_any {tv : Value} {T : List St} (a b mk : Int) (w : World) (hT : Sites w tv T) (ha : 0 ≤ a ∧ a ≤ 100000) (hb : 0 ≤ b ∧ b ≤ 100000) (hab : a ≤ b) (hmk : i64 mk) (hn : T.length ≤ 10000) (htt : ∀ j, j < T.length → 0 ≤ (st T j).a ∧ (st T j).a ≤ 100000) :
    Calls Try.prog 34 #[tv, .int .i64 a, .int .i64 b, .int .i64 mk] w (GivesSt w (pTakeT T a b mk)) := by
  obtain ⟨ta, tc, rfl, hlt, hct, hT1⟩ := hT.open_
  have HT := Lib.hid hT1
  have HTT := Lib.hid htt
  obtain ⟨nt, hnt⟩ : ∃ nt, nt = T.length := ⟨_, rfl⟩
  have ET : Hid (cutL (T.take nt) a b = cutL T a b) := by show _ = _; rw [hnt, List.take_length]
  have HL : Hid ((cutL T a b).length ≤ 10000) := by show _ ≤ _; rw [cutL_len]; exact hn
  rw [← hnt] at hlt hn ⊢
  replace hnt := Lib.hid hnt
  have TI : Hid (∀ L', (∀ x, x ∈ L' ↔ x ∈ endL T a b mk) → (∀ i j, i < j → j < L'.length → ¬ ltS (st L' j) (st L' i)) → cmpL L' = pTakeT T a b mk) := fun L' h1 h2 => take_is h1 h2
  have EE : Hid (endL T a b mk = cutL T a b ++ (if 0 < mk then [⟨mk, a⟩] else [])) := rfl
  obtain ⟨m1, m2⟩ := hmk
  obtain ⟨a1, a2⟩ := ha
  obtain ⟨b1, b2⟩ := hb
  clear hT1 hT htt
  generalize endL T a b mk = EL at *
  generalize pTakeT T a b mk = PT at *
  go_enter Try.func34, Try.ntmps34
  go_wp2_with fail
  go_loopg [9, 14] nt (fun g x i wr => ∃ (k : Nat) (s : Value), s = x ∧ k ≤ nt ∧ nt - k ≤ g ∧ i = .int .i64 k ∧ Hid (OwnSt w.heap.size wr s (cutL (T.take k) a b)) ∧ Below w.heap.size w wr)
  case atStart => exact ⟨0, _, rfl, Nat.zero_le _, by omega, rfl, OwnF.nil_ _ _ _ _, Below.refl _ _⟩
  case round =>
    obtain ⟨k, s, rfl, hk, hg, rfl, HK, hbel⟩ := hrel
    obtain ⟨R, hR⟩ : ∃ R, R = cutL (T.take k) a b := ⟨_, rfl⟩
    have hrl : R.length ≤ k := by rw [hR, cutL_len]; exact List.length_take_le _ _
    rw [← hR] at HK
    by_cases hltk : k < nt
    · have hkl : k < T.length := by rw [← hnt.out]; exact hltk
      obtain ⟨bb, off, rfl, hb, ⟨⟨m3, m4⟩, ⟨f1, f2⟩⟩, c0, c1⟩ := HT.out k hkl
      obtain ⟨g1, g2⟩ := HTT.out k hkl
      have EQ := Lib.hid (cutL_take a b hkl)
      rw [← hR] at EQ
      obtain ⟨e, he⟩ : ∃ e, e = st T k := ⟨_, rfl⟩
      rw [← he] at m3 m4 f1 f2 c0 c1 g1 g2 EQ
      obtain ⟨m, f⟩ := e
      simp only at m3 m4 f1 f2 c0 c1 g1 g2
      replace c0 := below_cell hbel hb c0
      replace c1 := below_cell hbel hb c1
      obtain ⟨so, sc, rfl⟩ := HK.out.is_slice
      have HB := Lib.hid hbel
      clear hbel HT HTT he hR
      by_cases q1 : b < f
      · have EC : Hid (cutS a b ⟨m, f⟩ = ⟨m, f - (b - a)⟩) := by show _ = _; unfold cutS; exact if_pos q1
        have XB : Hid (Below w.heap.size w ((wr.alloc (.cells #[.int .i64 m, .int .i64 (f - (b - a))] 41)).alloc (.cells #[.int .i64 m, .int .i64 (f - (b - a))] 41))) := (HB.out.alloc HB.out.size _).alloc (by have := HB.out.size; simp; omega) _
        have A1 : Hid (OwnSt w.heap.size ((wr.alloc (.cells #[.int .i64 m, .int .i64 (f - (b - a))] 41)).alloc (.cells #[.int .i64 m, .int .i64 (f - (b - a))] 41)) (.slice so R.length sc) R) := OwnF.below HK.out (((Below.refl _ wr).alloc (Nat.le_refl _) _).alloc (by simp) _)
        have A2 : Hid (((wr.alloc (.cells #[.int .i64 m, .int .i64 (f - (b - a))] 41)).alloc (.cells #[.int .i64 m, .int .i64 (f - (b - a))] 41)).heap[wr.heap.size + 1]? = some (.cells #[.int .i64 m, .int .i64 (f - (b - a))] 41)) := by have := heap_alloc_new (wr.alloc (.cells #[.int .i64 m, .int .i64 (f - (b - a))] 41)) (.cells #[.int .i64 m, .int .i64 (f - (b - a))] 41); rw [World.size_alloc] at this; exact this
        have A3 : Hid (R.length ≤ 100000) := by show _ ≤ _; omega
        have A4 : Hid (w.heap.size ≤ ((wr.alloc (.cells #[.int .i64 m, .int .i64 (f - (b - a))] 41)).alloc (.cells #[.int .i64 m, .int .i64 (f - (b - a))] 41)).heap.size) := XB.out.size
        have A5 : Hid (∀ q ∈ [m, f - (b - a)], i64 q) := good2 ⟨m3, m4⟩ ⟨by omega, by omega⟩
        go_wp2_with (at_builtin; refine wpList_append_at rfl _ _ 23 41 2 16 _ Try.underlying23 infoSite rfl (by decide) (by decide) rfl w.heap.size _ R.length _ rfl A1.out (wr.heap.size + 1) [m, f - (b - a)] rfl A2.out rfl A5.out A3.out A4.out ?_)
        intro v6 w6 h5 g5 hat
        have K6 : Hid (OwnSt w.heap.size w6 v6 (cutL (T.take (k + 1)) a b)) := by
          show OwnF _ _ _ _ _ _ _
          rw [EQ.out, EC.out, fl2_app, List.length_append]
          exact h5
        have B6 : Hid (Below w.heap.size w w6) := XB.out.grown g5 A4.out (fun q e => (OwnF.block A1.out q e).1)
        obtain ⟨a6, c6, rfl⟩ := K6.out.is_slice
        clear h5 g5 hat A1 A2 A3 A4 A5 XB EQ EC HK HB
        go_wp2_with fail
        go_roundg (nt - (k + 1))
        case measure => omega
        case rel => exact ⟨k + 1, _, rfl, by omega, Nat.le_refl _, by go_num, K6.out, B6.out⟩
      · by_cases q2 : a < f
        · have EC : Hid (cutS a b ⟨m, f⟩ = ⟨m, a⟩) := by show _ = _; unfold cutS; exact (if_neg q1).trans (if_pos q2)
          have XB : Hid (Below w.heap.size w ((wr.alloc (.cells #[.int .i64 m, .int .i64 a] 41)).alloc (.cells #[.int .i64 m, .int .i64 a] 41))) := (HB.out.alloc HB.out.size _).alloc (by have := HB.out.size; simp; omega) _
          have A1 : Hid (OwnSt w.heap.size ((wr.alloc (.cells #[.int .i64 m, .int .i64 a] 41)).alloc (.cells #[.int .i64 m, .int .i64 a] 41)) (.slice so R.length sc) R) := OwnF.below HK.out (((Below.refl _ wr).alloc (Nat.le_refl _) _).alloc (by simp) _)
          have A2 : Hid (((wr.alloc (.cells #[.int .i64 m, .int .i64 a] 41)).alloc (.cells #[.int .i64 m, .int .i64 a] 41)).heap[wr.heap.size + 1]? = some (.cells #[.int .i64 m, .int .i64 a] 41)) := by have := heap_alloc_new (wr.alloc (.cells #[.int .i64 m, .int .i64 a] 41)) (.cells #[.int .i64 m, .int .i64 a] 41); rw [World.size_alloc] at this; exact this
          have A3 : Hid (R.length ≤ 100000) := by show _ ≤ _; omega
          have A4 : Hid (w.heap.size ≤ ((wr.alloc (.cells #[.int .i64 m, .int .i64 a] 41)).alloc (.cells #[.int .i64 m, .int .i64 a] 41)).heap.size) := XB.out.size
          have A5 : Hid (∀ q ∈ [m, a], i64 q) := good2 ⟨m3, m4⟩ ⟨by omega, by omega⟩
          go_wp2_with (at_builtin; refine wpList_append_at rfl _ _ 23 41 2 16 _ Try.underlying23 infoSite rfl (by decide) (by decide) rfl w.heap.size _ R.length _ rfl A1.out (wr.heap.size + 1) [m, a] rfl A2.out rfl A5.out A3.out A4.out ?_)
          intro v6 w6 h5 g5 hat
          have K6 : Hid (OwnSt w.heap.size w6 v6 (cutL (T.take (k + 1)) a b)) := by
            show OwnF _ _ _ _ _ _ _
            rw [EQ.out, EC.out, fl2_app, List.length_append]
            exact h5
          have B6 : Hid (Below w.heap.size w w6) := XB.out.grown g5 A4.out (fun q e => (OwnF.block A1.out q e).1)
          obtain ⟨a6, c6, rfl⟩ := K6.out.is_slice
          clear h5 g5 hat A1 A2 A3 A4 A5 XB EQ EC HK HB
          go_wp2_with fail
          go_roundg (nt - (k + 1))
          case measure => omega
          case rel => exact ⟨k + 1, _, rfl, by omega, Nat.le_refl _, by go_num, K6.out, B6.out⟩
        · have EC : Hid (cutS a b ⟨m, f⟩ = ⟨m, f⟩) := by show _ = _; unfold cutS; exact (if_neg q1).trans (if_neg q2)
          have XB : Hid (Below w.heap.size w ((wr.alloc (.cells #[.int .i64 m, .int .i64 f] 41)).alloc (.cells #[.int .i64 m, .int .i64 f] 41))) := (HB.out.alloc HB.out.size _).alloc (by have := HB.out.size; simp; omega) _
          have A1 : Hid (OwnSt w.heap.size ((wr.alloc (.cells #[.int .i64 m, .int .i64 f] 41)).alloc (.cells #[.int .i64 m, .int .i64 f] 41)) (.slice so R.length sc) R) := OwnF.below HK.out (((Below.refl _ wr).alloc (Nat.le_refl _) _).alloc (by simp) _)
          have A2 : Hid (((wr.alloc (.cells #[.int .i64 m, .int .i64 f] 41)).alloc (.cells #[.int .i64 m, .int .i64 f] 41)).heap[wr.heap.size + 1]? = some (.cells #[.int .i64 m, .int .i64 f] 41)) := by have := heap_alloc_new (wr.alloc (.cells #[.int .i64 m, .int .i64 f] 41)) (.cells #[.int .i64 m, .int .i64 f] 41); rw [World.size_alloc] at this; exact this
          have A3 : Hid (R.length ≤ 100000) := by show _ ≤ _; omega
          have A4 : Hid (w.heap.size ≤ ((wr.alloc (.cells #[.int .i64 m, .int .i64 f] 41)).alloc (.cells #[.int .i64 m, .int .i64 f] 41)).heap.size) := XB.out.size
          have A5 : Hid (∀ q ∈ [m, f], i64 q) := good2 ⟨m3, m4⟩ ⟨by omega, by omega⟩
          go_wp2_with (at_builtin; refine wpList_append_at rfl _ _ 23 41 2 16 _ Try.underlying23 infoSite rfl (by decide) (by decide) rfl w.heap.size _ R.length _ rfl A1.out (wr.heap.size + 1) [m, f] rfl A2.out rfl A5.out A3.out A4.out ?_)
          intro v6 w6 h5 g5 hat
          have K6 : Hid (OwnSt w.heap.size w6 v6 (cutL (T.take (k + 1)) a b)) := by
            show OwnF _ _ _ _ _ _ _
            rw [EQ.out, EC.out, fl2_app, List.length_append]
            exact h5
          have B6 : Hid (Below w.heap.size w w6) := XB.out.grown g5 A4.out (fun q e => (OwnF.block A1.out q e).1)
          obtain ⟨a6, c6, rfl⟩ := K6.out.is_slice
          clear h5 g5 hat A1 A2 A3 A4 A5 XB EQ EC HK HB
          go_wp2_with fail
          go_roundg (nt - (k + 1))
          case measure => omega
          case rel => exact ⟨k + 1, _, rfl, by omega, Nat.le_refl _, by go_num, K6.out, B6.out⟩
    · obtain rfl : k = nt := by omega
      have HC : Hid (OwnSt w.heap.size wr s (cutL T a b)) := by
        show OwnSt _ _ _ _
        rw [← ET.out, ← hR]
        exact HK.out
      have HB := Lib.hid hbel
      clear HK hR hrl hbel ET
      obtain ⟨C, hC⟩ : ∃ C, C = cutL T a b := ⟨_, rfl⟩
      rw [← hC] at HC HL EE
      clear hC
      obtain ⟨so, sc, rfl⟩ := HC.out.is_slice
      go_upto_if 43 with fail
      go_cut [9] from 42 to 49 (fun u wx => ∃ uv, Hid (uv = u ∧ OwnSt w.heap.size wx uv EL ∧ Below w.heap.size w wx ∧ EL.length ≤ 100000))
      case first =>
        by_cases q : 0 < mk
        · have E : Hid (EL = C ++ [⟨mk, a⟩]) := EE.out.trans (by rw [if_pos q])
          have A1 : Hid (OwnSt w.heap.size (wr.alloc (.cells #[.int .i64 mk, .int .i64 a] 41)) (.slice so C.length sc) C) := OwnF.below HC.out ((Below.refl _ wr).alloc (Nat.le_refl _) _)
          have A2 := Lib.hid (heap_alloc_new wr (.cells #[.int .i64 mk, .int .i64 a] 41))
          have A3 : Hid (C.length ≤ 100000) := by have := HL.out; show _ ≤ _; omega
          have A4 : Hid (w.heap.size ≤ (wr.alloc (.cells #[.int .i64 mk, .int .i64 a] 41)).heap.size) := by have := HB.out.size; show _ ≤ _; simp; omega
          have A5 : Hid (∀ q ∈ [mk, a], i64 q) := good2 ⟨m1, m2⟩ ⟨by omega, by omega⟩
          go_wp2_with (at_builtin; refine wpList_append_at rfl _ _ 23 41 2 16 _ Try.underlying23 infoSite rfl (by decide) (by decide) rfl w.heap.size _ C.length _ rfl A1.out wr.heap.size [mk, a] rfl A2.out rfl A5.out A3.out A4.out ?_)
          intro v6 w6 h5 g5 hat
          have K6 : Hid (OwnSt w.heap.size w6 v6 EL) := by
            show OwnF _ _ _ _ _ _ _
            rw [E.out, fl2_app, List.length_append]
            exact h5
          have B6 : Hid (Below w.heap.size w w6) := (HB.out.alloc HB.out.size _).grown g5 A4.out (fun q e => (OwnF.block A1.out q e).1)
          have L6 : Hid (EL.length ≤ 100000) := by
            show _ ≤ _
            rw [E.out, List.length_append]
            have := HL.out
            simp
            omega
          obtain ⟨a6, c6, rfl⟩ := K6.out.is_slice
          clear h5 g5 hat A1 A2 A3 A4 A5
          go_wp2_with fail
          go_meet
          case rel => exact ⟨_, rfl, K6.out, B6.out, L6.out⟩
        · have E : Hid (EL = C) := EE.out.trans (by rw [if_neg q, List.append_nil])
          go_wp2_with fail
          go_meet
          case rel => exact ⟨_, rfl, by rw [E.out]; exact HC.out, HB.out, by rw [E.out]; have := HL.out; omega⟩
      case rest =>
        obtain ⟨u, HU⟩ := hcut
        obtain rfl := HU.out.1
        have CS := Lib.hid (sort_any wc HU.out.2.1 HU.out.2.2.2)
        have HBc := Lib.hid HU.out.2.2.1
        have HLc := Lib.hid HU.out.2.2.2
        have HUB : Hid (∀ q, u.ownBlock = some q → w.heap.size ≤ q) := fun q e => (OwnF.block HU.out.2.1 q e).1
        obtain ⟨u1, u2, hu⟩ := HU.out.2.1.is_slice
        clear HC HB HL EE HU hu
        go_wp2_with fail
        refine CS.out.mono ?_
        rintro e w2 ⟨rfl, L', hl, hm, hs, ho, hgr⟩
        have CC := Lib.hid (compact_any w2 ho (by rw [hl]; exact HLc.out))
        have EPT := Lib.hid (TI.out L' hm hs)
        have HB2 : Hid (Below w.heap.size w w2) := HBc.out.grown hgr HBc.out.size HUB.out
        clear hl hm hs ho hgr CS TI HLc
        go_wp2_with fail
        refine CC.out.mono ?_
        rintro e w3 ⟨v', rfl, hsi, hgr⟩
        have HB3 : Hid (Below w.heap.size w w3) := HB2.out.grown hgr HB2.out.size HUB.out
        have HS3 := Lib.hid hsi
        clear hsi hgr CC
        go_wp2_with fail
        go_ret
        exact ⟨v', rfl, by rw [← EPT.out]; exact HS3.out, HB3.out⟩
end Go.Proofs.Ytkbadhkjhkmlfaa.Rig
