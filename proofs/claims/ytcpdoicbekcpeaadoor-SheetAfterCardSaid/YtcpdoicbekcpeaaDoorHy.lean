/- Sheets: segments behind one: mathematics; the plain text's After. -/
import Derived.Test.YtcpdoicbekcpeaaDoorHv
import Derived.Test.YtcpdoicbekcpeaaDoorHs
set_option linter.unusedVariables false
set_option linter.unusedSimpArgs false
set_option maxRecDepth 100000
namespace Go.Proofs.YtcpdoicbekcpeaaDoor.She
open Go.RowKit Go.Lib Go.Shelf Go.Proofs.YtcpdoicbekcpeaaDoor.Rk Go.Proofs.YtcpdoicbekcpeaaDoor.Rt Go.Proofs.YtcpdoicbekcpeaaDoor.Rig Go.Proofs.YtcpdoicbekcpeaaDoor.Seg

def newM (G M : List G5) : Prop := ∀ j (hj : j < M.length), placeN G M[j].i = none ∧ placeI M M[j].i = j
def putAt (G M : List G5) (k : Nat) : List G5 := G.take (k + 1) ++ M ++ G.drop (k + 1)
theorem place_mem {G : List G5} {id : Int} : placeN G id = none ↔ id ∉ G.map G5.i := by
  unfold placeN
  rw [List.findIdx?_eq_none_iff]
  constructor
  · intro h hm
    obtain ⟨g, hg, rfl⟩ := List.mem_map.1 hm
    have := h g hg
    simp at this
  · intro h g hg
    simp only [beq_eq_false_iff_ne, ne_eq]
    intro e
    exact h (List.mem_map.2 ⟨g, hg, e⟩)
theorem put_perm (G M : List G5) (k : Nat) : (putAt G M k).Perm (G ++ M) := by
  unfold putAt
  have h1 : (G.take (k + 1) ++ M ++ G.drop (k + 1)).Perm (G.take (k + 1) ++ (G.drop (k + 1) ++ M)) := by
    rw [List.append_assoc]
    exact List.Perm.append_left _ List.perm_append_comm
  rw [← List.append_assoc, List.take_append_drop] at h1
  exact h1
theorem put_nodup {G M : List G5} (k : Nat) (h : (G.map G5.i).Nodup) : ((putAt G M k).map G5.i).Nodup ↔ newM G M := by
  rw [((put_perm G M k).map G5.i).nodup_iff, List.map_append, List.nodup_append]
  constructor
  · intro ⟨_, h2, h3⟩ j hj
    refine ⟨place_mem.2 fun hm => h3 _ hm _ (List.mem_map.2 ⟨_, List.getElem_mem hj, rfl⟩) rfl, nodup_place.2 h2 j hj⟩
  · intro hn
    refine ⟨h, nodup_place.1 fun j hj => (hn j hj).2, fun a ha b hb e => ?_⟩
    subst e
    obtain ⟨g, hg, rfl⟩ := List.mem_map.1 hb
    obtain ⟨j, hj, rfl⟩ := List.getElem_of_mem hg
    exact place_mem.1 (hn j hj).1 ha
theorem put_len {G M : List G5} {k : Nat} : (putAt G M k).length = G.length + M.length := by
  rw [(put_perm G M k).length_eq, List.length_append]
open Classical in
/-- What comes of it. -/
noncomputable def aftB (G M : List G5) (id : Int) : Bool := (placeN G id).isSome && decide (newM G M)
open Classical in
noncomputable def aftG (G M : List G5) (id : Int) : List G5 := match placeN G id with
  | some k => if newM G M then putAt G M k else G
  | none => G
theorem aft_yes {G M : List G5} {id : Int} {k : Nat} (h : placeN G id = some k) (hn : newM G M) : aftB G M id = true ∧ aftG G M id = putAt G M k := by
  unfold aftB aftG
  rw [h]
  simp [hn]
theorem aft_no {G M : List G5} {id : Int} (h : placeN G id = none ∨ ¬ newM G M) : aftB G M id = false ∧ aftG G M id = G := by
  unfold aftB aftG
  rcases h with h | h
  · rw [h]; simp
  · cases placeN G id with
    | none => simp
    | some k => simp [h]
theorem rowk_first {k : Nat} {w : World} {a : Option Addr} {n cap : Nat} {xs : List (List Value)} (m : Nat) (h : Rk.RowK k w (.slice a n cap) xs) (hm : m ≤ n) : Rk.RowK k w (.slice a m cap) (xs.take m) := by
  obtain ⟨h0, a', c, e, h1, h2, h3⟩ := h
  injection e with e1 e2 e3
  subst e1 e3
  have hl : (xs.take m).length = m := by rw [List.length_take]; omega
  refine ⟨fun x hx => h0 x (List.mem_of_mem_take hx), _, _, by rw [hl], by omega, h2, ?_⟩
  rcases h3 with h3 | ⟨b, off, rfl, hb, hc⟩
  · exact .inl (by rw [h3]; simp)
  · exact .inr ⟨b, off, rfl, hb, fun j hj i u hu => hc j (by omega) i u (by rw [List.getElem_take] at hu; exact hu)⟩
theorem rowk_drop {k : Nat} {w : World} {b off n cap : Nat} {xs : List (List Value)} (m : Nat) (h : Rk.RowK k w (.slice (some ⟨b, off, none⟩) n cap) xs) (hm : m ≤ n) : Rk.RowK k w (.slice (some ⟨b, off + m * k, none⟩) (n - m) (cap - m)) (xs.drop m) := by
  obtain ⟨h0, a', c, e, h1, h2, h3⟩ := h
  injection e with e1 e2 e3
  subst e1 e3
  have hl : (xs.drop m).length = n - m := by rw [List.length_drop]; omega
  refine ⟨fun x hx => h0 x (List.mem_of_mem_drop hx), _, _, by rw [hl], by omega, by omega, ?_⟩
  rcases h3 with h3 | ⟨b', off', e', hb, hc⟩
  · exact .inl (by rw [h3]; simp)
  · injection e' with e'
    injection e' with e1 e2 _
    subst e1 e2
    refine .inr ⟨b, off + m * k, rfl, hb, fun j hj i u hu => ?_⟩
    have := hc (m + j) (by omega) i u (by rw [List.getElem_drop] at hu; exact hu)
    rw [← this, show off + m * k + j * k + i = off + (m + j) * k + i by rw [Nat.add_mul]; omega]
/-- The cells of three lists, one behind the other. -/
theorem pls_put {w : World} {v u : Value} {G M : List G5} (h : Pls w v G) (h' : Pls w u M) : ∃ xs ys : List (List Value), xs.length = G.length ∧ ys.length = M.length ∧ Rk.RowK 5 w v xs ∧ Rk.RowK 5 w u ys ∧ (∀ x ∈ xs, Five x) ∧ (∀ x ∈ ys, Five x) ∧
    ∀ (s : Value) (w2 : World) (k : Nat), Below w.heap.size w w2 → Rk.RowK 5 w2 s (xs.take (k + 1) ++ ys ++ xs.drop (k + 1)) → Pls w2 s (putAt G M k) := by
  obtain ⟨p, hp, h1, h2⟩ := h
  obtain ⟨q, hq, h3, h4⟩ := h'
  refine ⟨p.map Prod.fst, q.map Prod.fst, by rw [← hp, List.length_map, List.length_map], by rw [← hq, List.length_map, List.length_map], h1, h3, fun x hx => by obtain ⟨t, ht, rfl⟩ := List.mem_map.1 hx; exact PlC.five (h2 t ht), fun x hx => by obtain ⟨t, ht, rfl⟩ := List.mem_map.1 hx; exact PlC.five (h4 t ht), fun s w2 k hb hr => ?_⟩
  refine ⟨p.take (k + 1) ++ q ++ p.drop (k + 1), by rw [List.map_append, List.map_append, List.map_take, List.map_drop, hp, hq]; rfl, by rw [List.map_append, List.map_append, List.map_take, List.map_drop]; exact hr, fun t ht => ?_⟩
  rcases List.mem_append.1 ht with ht | ht
  · rcases List.mem_append.1 ht with ht | ht
    · exact (h2 t (List.mem_of_mem_take ht)).below hb
    · exact (h4 t ht).below hb
  · exact (h2 t (List.mem_of_mem_drop ht)).below hb
def GiveAf (G M : List G5) (id : Int) (w : World) (e : Ending) (w' : World) : Prop := ∃ s, e = .returned (.tuple #[s, .bool (aftB G M id)]) ∧ Pls w' s (aftG G M id) ∧ Below w.heap.size w w'
set_option maxHeartbeats 16000000 in
theorem rafter_any {v u : Value} {G M : List G5} (id : Int) (w : World) (h : Pls w v G) (h' : Pls w u M) (hn : G.length ≤ 10000) (hm : M.length ≤ 10000) : Calls Tryd.prog 42 #[v, .int .i64 id, u] w (GiveAf G M id w) := by
  obtain ⟨la, lc, rfl⟩ := Rk.Rows.is_slice h
  obtain ⟨ma, mc, rfl⟩ := Rk.Rows.is_slice h'
  obtain ⟨_, hcap, hmax⟩ := Rk.Rows.len h
  obtain ⟨_, hcap', hmax'⟩ := Rk.Rows.len h'
  obtain ⟨xs, ys, hxl, hyl, hx1, hy1, hx5, hy5, hput⟩ := pls_put h h'
  have HLa : Hid (G ≠ [] → ∃ b off, la = some ⟨b, off, none⟩) := fun hne => by
    obtain ⟨b, off, _, _, _, _, e, _⟩ := h.get (List.length_pos_iff.2 hne)
    exact ⟨b, off, e⟩
  obtain ⟨n, hnG⟩ : ∃ n, n = G.length := ⟨_, rfl⟩
  obtain ⟨m, hmM⟩ : ∃ m, m = M.length := ⟨_, rfl⟩
  have HR : Hid (∀ w', Below w.heap.size w w' → Pls w' (.slice la n lc) G) := fun w' hb => by rw [hnG]; exact h.below hb
  have HR' : Hid (∀ w', Below w.heap.size w w' → Pls w' (.slice ma m mc) M) := fun w' hb => by rw [hmM]; exact h'.below hb
  rw [← hnG] at hcap hn hxl hx1 ⊢
  rw [← hmM] at hcap' hm hyl hy1 ⊢
  have HX1 := Lib.hid hx1
  have HY1 := Lib.hid hy1
  have HXO : Hid (∀ x ∈ xs, ∀ u ∈ x, u.oneCell' = true) := fun x hx => (hx5 x hx).2.2
  have HYO : Hid (∀ x ∈ ys, ∀ u ∈ x, u.oneCell' = true) := fun x hx => (hy5 x hx).2.2
  have HPUT := Lib.hid hput
  unfold maxLen at hmax hmax'
  have HN := Lib.hid hnG
  have HM := Lib.hid hmM
  have CP : Hid (∀ i' w', Below w.heap.size w w' → Calls Tryd.prog 34 #[.slice la n lc, .int .i64 i'] w' fun e w'' => e = .returned (.int .i64 (placeI G i')) ∧ w'' = w') := fun i' w' hb => place_any _ w' (HR.out w' hb)
  have CQ : Hid (∀ i' w', Below w.heap.size w w' → Calls Tryd.prog 34 #[.slice ma m mc, .int .i64 i'] w' fun e w'' => e = .returned (.int .i64 (placeI M i')) ∧ w'' = w') := fun i' w' hb => place_any _ w' (HR'.out w' hb)
  clear h h' hnG hmM hx1 hy1 hx5 hy5 hput
  go_enter Tryd.func42, Tryd.ntmps42
  go_wp2_with fail
  refine (CP.out id _ (Below.refl _ _)).mono ?_
  rintro e w1 ⟨rfl, hw1⟩
  rw [hw1]
  clear hw1
  obtain ⟨pi, hpi⟩ : ∃ pi, pi = placeI G id := ⟨_, rfl⟩
  rw [← hpi]
  have HPI := Lib.hid hpi
  clear hpi
  go_wp2_with fail
  go_loopg [9] m (fun g i wr => ∃ k : Nat, k ≤ m ∧ m - k ≤ g ∧ i = .int .i64 k ∧ Hid (∀ j (hj : j < M.length), j < k → placeN G M[j].i = none ∧ placeI M M[j].i = j) ∧ Below w.heap.size w wr)
  case atStart => exact ⟨0, Nat.zero_le _, by omega, rfl, fun j hj h => by omega, Below.refl _ _⟩
  case round =>
    obtain ⟨k, hk, hg, rfl, HA, hbel⟩ := hrel
    have HB := Lib.hid hbel
    by_cases hlt : k < m
    · have hkl : k < M.length := by rw [← HM.out]; exact hlt
      obtain ⟨b, off, q1, e1, q2, e2, rfl, hb, _, c0, _, _, _, _⟩ := (HR'.out _ hbel).get hkl
      have NO : Hid (¬ (placeN G M[k].i = none ∧ placeI M M[k].i = k) → aftB G M id = false ∧ aftG G M id = G) := fun e => aft_no (.inr fun hnw => e (hnw k hkl))
      have HZ : Hid (placeN G M[k].i = none ∧ placeI M M[k].i = k → ∀ j (hj : j < M.length), j < k + 1 → placeN G M[j].i = none ∧ placeI M M[j].i = j) := fun e j hj hjk => by
        by_cases q : j = k
        · subst q; exact e
        · exact HA.out j hj (by omega)
      have CP1 := fun w' hb => CP.out M[k].i w' hb
      have CQ1 := fun w' hb => CQ.out M[k].i w' hb
      have HPN : Hid (∀ x, placeN G M[k].i = x → placeI G M[k].i = (match x with | some t => (t : Int) | none => -1)) := fun x e => by unfold placeI; rw [e]; cases x <;> rfl
      obtain ⟨pn, hpn⟩ : ∃ pn, pn = placeN G M[k].i := ⟨_, rfl⟩
      obtain ⟨pm, hpm⟩ : ∃ pm, pm = placeI M M[k].i := ⟨_, rfl⟩
      have hpv := HPN.out pn hpn.symm
      rw [hpv] at CP1
      rw [← hpm] at CQ1
      rw [← hpn, ← hpm] at NO HZ
      generalize M[k].i = yi at *
      have i0 : (0 : Int) ≤ (k : Int) := by omega
      have i1 : (k : Int) < (m : Int) := by omega
      clear hbel HA hpn hpm HPN hpv
      replace CP1 := Lib.hid CP1
      replace CQ1 := Lib.hid CQ1
      cases pn with
      | some t =>
        have E := Lib.hid (NO.out (fun h => by cases h.1))
        have j1 : decide ((0 : Int) ≤ (t : Int)) = true := decide_eq_true (by omega)
        clear NO HZ
        go_wp2_with fail
        refine (CP1.out _ HB.out).mono ?_
        rintro e w2 ⟨rfl, hw2⟩
        rw [hw2]
        clear hw2
        go_wp2_with fail
        exact bodyPost_ret (v := .tuple #[.slice la n lc, .bool false]) (by simp [results, Tryd.results42, go_sem]) rfl ⟨_, by rw [E.out.1], by rw [E.out.2]; exact HR.out _ HB.out, HB.out⟩
      | none =>
        have j1 : decide ((0 : Int) ≤ (-1 : Int)) = false := by decide
        by_cases hpk : pm = k
        · have HZ2 := Lib.hid (HZ.out ⟨rfl, hpk⟩)
          have j2 : (pm != (k : Int)) = false := by simp [hpk]
          have j3 : (pm == (k : Int)) = true := by simp [hpk]
          clear NO HZ hpk
          go_wp2_with fail
          refine (CP1.out _ HB.out).mono ?_
          rintro e w2 ⟨rfl, hw2⟩
          rw [hw2]
          clear hw2
          go_wp2_with fail
          refine (CQ1.out _ HB.out).mono ?_
          rintro e w3 ⟨rfl, hw3⟩
          rw [hw3]
          clear hw3
          go_wp2_with fail
          go_roundg (m - (k + 1))
          case measure => omega
          case rel => exact ⟨k + 1, by omega, Nat.le_refl _, by go_num, HZ2, HB.out⟩
        · have E := Lib.hid (NO.out (fun h => hpk h.2))
          have j2 : (pm != (k : Int)) = true := by simp [hpk]
          have j3 : (pm == (k : Int)) = false := by simp [hpk]
          clear NO HZ hpk
          go_wp2_with fail
          refine (CP1.out _ HB.out).mono ?_
          rintro e w2 ⟨rfl, hw2⟩
          rw [hw2]
          clear hw2
          go_wp2_with fail
          refine (CQ1.out _ HB.out).mono ?_
          rintro e w3 ⟨rfl, hw3⟩
          rw [hw3]
          clear hw3
          go_wp2_with fail
          exact bodyPost_ret (v := .tuple #[.slice la n lc, .bool false]) (by simp [results, Tryd.results42, go_sem]) rfl ⟨_, by rw [E.out.1], by rw [E.out.2]; exact HR.out _ HB.out, HB.out⟩
    · obtain rfl : k = m := by omega
      have i1 : ¬ ((k : Int) < (k : Int)) := by omega
      have HNEW : Hid (newM G M) := fun j hj => HA.out j hj (by rw [HM.out]; exact hj)
      clear hbel HA CQ CP
      cases hp : placeN G id with
      | none =>
        have E := Lib.hid (aft_no (M := M) (.inl hp))
        have hpi2 := HPI.out.trans (placeI_no hp)
        rw [hpi2]
        clear hp hpi2
        go_wp2_with fail
        exact bodyPost_ret (v := .tuple #[.slice la n lc, .bool false]) (by simp [results, Tryd.results42, go_sem]) rfl ⟨_, by rw [E.out.1], by rw [E.out.2]; exact HR.out _ HB.out, HB.out⟩
      | some t =>
        have E := Lib.hid (aft_yes hp HNEW.out)
        have hpi2 := HPI.out.trans (placeI_yes hp)
        obtain ⟨ht, _, _⟩ := place_lt hp
        obtain ⟨b, off, rfl⟩ := HLa.out (fun q => by rw [q] at ht; simp at ht)
        rw [← HN.out] at ht
        rw [hpi2]
        have z1 : IntKind.i64.wrap ((t : Int) + 1) = (t : Int) + 1 := IntWalk.i64_in _ (by omega)
        have j0 : ¬ ((t : Int) < 0) := by omega
        have i2 : (0 : Int) ≤ (t : Int) + 1 := by omega
        have i3 : (t : Int) + 1 ≤ (lc : Int) := by omega
        have i4 : (t : Int) + 1 ≤ (n : Int) := by omega
        clear hp hpi2
        have j5 : ¬ (lc = 0) := by omega
        have j6 : ¬ (0 = lc) := by omega
        have A2 : Hid (∀ w', Below w.heap.size w w' → Rk.RowK 5 w' (.slice (some ⟨b, off, none⟩) (t + 1) lc) (xs.take (t + 1))) := fun w' hb => rowk_first (t + 1) (HX1.out.below hb (Nat.le_refl _)) (by omega)
        have hx1' : Hid (∀ x ∈ xs.take (t + 1), ∀ u ∈ x, u.oneCell' = true) := fun x hx => HXO.out x (List.mem_of_mem_take hx)
        have hx2' : Hid (∀ x ∈ xs.drop (t + 1), ∀ u ∈ x, u.oneCell' = true) := fun x hx => HXO.out x (List.mem_of_mem_drop hx)
        have L1 : Hid ((0 : Nat) + (xs.take (t + 1)).length ≤ 100000) := by show _ ≤ _; rw [List.length_take]; omega
        have L2 : Hid ((xs.take (t + 1)).length + ys.length ≤ 100000) := by show _ ≤ _; rw [List.length_take]; omega
        have L3 : Hid ((xs.take (t + 1) ++ ys).length + (xs.drop (t + 1)).length ≤ 100000) := by show _ ≤ _; rw [List.length_append, List.length_take, List.length_drop]; omega
        have HBS : Hid (w.heap.size ≤ wr.heap.size) := HB.out.size
        have N0 : Hid (OwnK 25 5 w.heap.size wr (.slice none 0 0) []) := OwnK.nil_ _ _ _ _
        by_cases hlc : t + 1 = lc
        · skip
          have hdr : Hid (xs.drop (t + 1) = []) := List.eq_nil_of_length_eq_zero (by rw [List.length_drop]; omega)
          have hn1 : n = t + 1 := by omega
          subst hlc
          subst hn1
          go_upto_region 10 with fail
          go_wp2_with (at_builtin; refine wpList_append_rowk rfl _ _ 47 25 5 80 _ Tryd.underlying47 infoPl rfl (by decide) (by decide) rfl w.heap.size _ _ [] (xs.take (t + 1)) rfl rfl N0.out (A2.out _ HB.out) hx1'.out L1.out HBS.out ?_)
          intro v6 w6 h6 g6 _
          try rw [List.nil_append] at h6
          have HB6 := Lib.hid (N0.out.belowOf HB.out (Nat.le_refl _) HBS.out g6)
          have K6 := Lib.hid h6
          have HS6 : Hid (w.heap.size ≤ w6.heap.size) := HB6.out.size
          obtain ⟨a6, c6, rfl⟩ := h6.is_slice
          obtain ⟨m6, hm6⟩ : ∃ m6, m6 = (xs.take (t + 1)).length := ⟨_, rfl⟩
          rw [← hm6] at K6 ⊢
          have HY6 := Lib.hid (Rk.RowK.below HY1.out HB6.out (Nat.le_refl _))
          clear h6 g6 hm6
          go_wp2_with (at_builtin; refine wpList_append_rowk rfl _ _ 47 25 5 80 _ Tryd.underlying47 infoPl rfl (by decide) (by decide) rfl w.heap.size _ _ (xs.take (t + 1)) ys rfl rfl K6.out HY6.out HYO.out L2.out HS6.out ?_)
          intro v7 w7 h7 g7 _
          have HB7 := Lib.hid (K6.out.belowOf HB6.out (Nat.le_refl _) HS6.out g7)
          have K7 := Lib.hid h7
          have HS7 : Hid (w.heap.size ≤ w7.heap.size) := HB7.out.size
          obtain ⟨gb7, c7, _, rfl, -, -, hle7, -, -, -⟩ := own_open h7 (by rw [List.length_append, List.length_take]; omega)
          obtain ⟨m7, hm7⟩ : ∃ m7, m7 = ((xs.take (t + 1)) ++ ys).length := ⟨_, rfl⟩
          rw [← hm7] at K7 hle7 ⊢
          clear h7 g7 hm7
          have K8 : Hid (Pls w7 (.slice (some ⟨gb7, 0, none⟩) m7 c7) (putAt G M t)) := HPUT.out _ _ t HB7.out (by rw [hdr.out, List.append_nil]; exact K7.out.row)
          have i9 : ((t : Int) + 1 - ((t : Int) + 1)) = 0 := by omega
          go_wp2_with fail
          exact bodyPost_ret (v := .tuple #[.slice (some ⟨gb7, 0, none⟩) m7 c7, .bool true]) (by simp [results, Tryd.results42, go_sem]) rfl ⟨_, by rw [E.out.1], by rw [E.out.2]; exact K8.out, HB7.out⟩
        · have A4 : Hid (∀ w', Below w.heap.size w w' → Rk.RowK 5 w' (.slice (some ⟨b, off + (t + 1) * 5, none⟩) (n - (t + 1)) (lc - (t + 1))) (xs.drop (t + 1))) := fun w' hb => rowk_drop (t + 1) (HX1.out.below hb (Nat.le_refl _)) (by omega)
          go_upto_region 10 with fail
          go_wp2_with (at_builtin; refine wpList_append_rowk rfl _ _ 47 25 5 80 _ Tryd.underlying47 infoPl rfl (by decide) (by decide) rfl w.heap.size _ _ [] (xs.take (t + 1)) rfl rfl N0.out (A2.out _ HB.out) hx1'.out L1.out HBS.out ?_)
          intro v6 w6 h6 g6 _
          try rw [List.nil_append] at h6
          have HB6 := Lib.hid (N0.out.belowOf HB.out (Nat.le_refl _) HBS.out g6)
          have K6 := Lib.hid h6
          have HS6 : Hid (w.heap.size ≤ w6.heap.size) := HB6.out.size
          obtain ⟨a6, c6, rfl⟩ := h6.is_slice
          obtain ⟨m6, hm6⟩ : ∃ m6, m6 = (xs.take (t + 1)).length := ⟨_, rfl⟩
          rw [← hm6] at K6 ⊢
          have HY6 := Lib.hid (Rk.RowK.below HY1.out HB6.out (Nat.le_refl _))
          clear h6 g6 hm6
          go_wp2_with (at_builtin; refine wpList_append_rowk rfl _ _ 47 25 5 80 _ Tryd.underlying47 infoPl rfl (by decide) (by decide) rfl w.heap.size _ _ (xs.take (t + 1)) ys rfl rfl K6.out HY6.out HYO.out L2.out HS6.out ?_)
          intro v7 w7 h7 g7 _
          have HB7 := Lib.hid (K6.out.belowOf HB6.out (Nat.le_refl _) HS6.out g7)
          have K7 := Lib.hid h7
          have HS7 : Hid (w.heap.size ≤ w7.heap.size) := HB7.out.size
          obtain ⟨a7, c7, rfl⟩ := h7.is_slice
          obtain ⟨m7, hm7⟩ : ∃ m7, m7 = ((xs.take (t + 1)) ++ ys).length := ⟨_, rfl⟩
          rw [← hm7] at K7 ⊢
          clear h7 g7 hm7
          have A5 := Lib.hid (A4.out w7 HB7.out)
          go_wp2_with (at_builtin; refine wpList_append_rowk rfl _ _ 47 25 5 80 _ Tryd.underlying47 infoPl rfl (by decide) (by decide) rfl w.heap.size _ _ ((xs.take (t + 1)) ++ ys) (xs.drop (t + 1)) rfl rfl K7.out A5.out hx2'.out L3.out HS7.out ?_)
          intro v8 w8 h8 g8 _
          have HB8 := Lib.hid (K7.out.belowOf HB7.out (Nat.le_refl _) HS7.out g8)
          have K8 : Hid (Pls w8 v8 (putAt G M t)) := HPUT.out _ _ t HB8.out (by rw [List.append_assoc]; exact h8.row)
          obtain ⟨a8, c8, rfl⟩ := h8.is_slice
          obtain ⟨m8, hm8⟩ : ∃ m8, m8 = (xs.take (t + 1) ++ (ys ++ xs.drop (t + 1))).length := ⟨_, rfl⟩
          rw [← hm8] at K8 ⊢
          clear h8 g8 hm8
          go_wp2_with fail
          exact bodyPost_ret (v := .tuple #[.slice a8 m8 c8, .bool true]) (by simp [results, Tryd.results42, go_sem]) rfl ⟨_, by rw [E.out.1], by rw [E.out.2]; exact K8.out, HB8.out⟩
end Go.Proofs.YtcpdoicbekcpeaaDoor.She
