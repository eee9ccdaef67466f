/- Contracts of Join, split, Cut, Put, Drop. -/
import Derived.Test.YtengmiolcfgdiaaDoorWalkU
set_option linter.unusedVariables false
namespace Go.Proofs.YtengmiolcfgdiaaDoor.Con
open Go.RowKit Go.Lib Go.Proofs.YtengmiolcfgdiaaDoor.Let Go.Proofs.YtengmiolcfgdiaaDoor.Tree

def join (a b : T) : T :=
  if a.by = 0 then b else if b.by = 0 then a
  else if 64 < (lstP a).length + (fstP b).length then link a b
  else link (link (cutL a).1 (.leaf ((cutL a).2 ++ (cutF b).1))) (cutF b).2

theorem by_zero {a : T} (h : a.okn) (h0 : a.by = 0) : a = .nil := by
  rcases h with rfl | h
  · rfl
  · have := T.ok_by h
    omega
theorem by_pos {a : T} (h : a.okn) (h0 : ¬ a.by = 0) : a.ok := by
  rcases h with rfl | h
  · exact absurd rfl h0
  · exact h
theorem glue {x y : List UInt8} (hx : okp x) (hy : okp y) (h : ¬ 64 < x.length + y.length) : okp (x ++ y) :=
  ⟨fun e => hx.1 (List.append_eq_nil_iff.1 e).1, by rw [List.length_append]; omega, (right_app _ _ hx.2.2).2 hy.2.2⟩

theorem join_okn {a b : T} (ha : a.okn) (hb : b.okn) : (join a b).okn ∧ (join a b).txt = a.txt ++ b.txt := by
  unfold join
  by_cases h1 : a.by = 0
  · obtain rfl := by_zero ha h1
    rw [if_pos h1]
    exact ⟨hb, rfl⟩
  by_cases h2 : b.by = 0
  · obtain rfl := by_zero hb h2
    rw [if_neg h1, if_pos h2]
    exact ⟨ha, by simp [T.txt]⟩
  rw [if_neg h1, if_neg h2]
  by_cases h3 : 64 < (lstP a).length + (fstP b).length
  · rw [if_pos h3]
    exact link_okn ha hb
  · rw [if_neg h3]
    obtain ⟨p1, p2, p3, p4⟩ := cutL_ok (by_pos ha h1)
    obtain ⟨q1, q2, q3, q4⟩ := cutF_ok (by_pos hb h2)
    have hg : okp ((cutL a).2 ++ (cutF b).1) := glue p1 q1 (by rw [p4, q4]; exact h3)
    obtain ⟨l1, l2⟩ := link_okn p2 (b := .leaf ((cutL a).2 ++ (cutF b).1)) (.inr hg)
    obtain ⟨m1, m2⟩ := link_okn l1 q2
    refine ⟨m1, ?_⟩
    rw [m2, l2, ← p3, ← q3]
    simp [T.txt, List.append_assoc]
theorem join_by {a b : T} (ha : a.okn) (hb : b.okn) : (join a b).by = a.by + b.by := by
  rw [T.by_txt, (join_okn ha hb).2, List.length_append, ← T.by_txt, ← T.by_txt]
theorem link_byn {a b : T} (ha : a.okn) (hb : b.okn) : (link a b).by = a.by + b.by := by
  rw [T.by_txt, (link_okn ha hb).2, List.length_append, ← T.by_txt, ← T.by_txt]

theorem leaf_mk (l : List UInt8) (w : World) (h : l.length ≤ maxLen) : Calls Tryd.prog 85 #[.string (mk l)] w (Made w (.leaf l)) := by
  have := leaf_any (mk l) w (by rw [mk_size]; exact h)
  rw [Let.mk_data] at this
  exact this
theorem mk_app (x y : List UInt8) : mk x ++ mk y = mk (x ++ y) := by rw [mk_append, Let.mk_data, Let.mk_data]

set_option maxRecDepth 100000 in
set_option maxHeartbeats 1000000 in
theorem join_any {a b : T} {va vb : Value} (w : World) (ha : Rp w a va) (hb : Rp w b vb) (na : a.okn) (nb : b.okn) (hby : a.by + b.by ≤ 1073741824) :
    Calls Tryd.prog 90 #[va, vb] w (Made w (join a b)) := by
  have HA := Lib.hid ha
  have HB := Lib.hid hb
  clear ha hb
  by_cases h1 : a.by = 0
  · have hj : join a b = b := by unfold join; rw [if_pos h1]
    rw [hj]
    have z1 : ((a.by : Int) == 0) = true := by simp [h1]
    clear hj h1
    go_enter Tryd.func90, Tryd.ntmps90
    go_wp2_with fail
    refine (bytes_any _ HA.out).mono ?_
    rintro e w1 ⟨rfl, rfl⟩
    go_wp2_with fail
    go_ret
    exact ⟨_, rfl, HB.out, Below.refl _ _⟩
  have oka := by_pos na h1
  have z1 : ((a.by : Int) == 0) = false := by rw [beq_eq_false_iff_ne]; omega
  by_cases h2 : b.by = 0
  · have hj : join a b = a := by unfold join; rw [if_neg h1, if_pos h2]
    rw [hj]
    have z2 : ((b.by : Int) == 0) = true := by simp [h2]
    clear hj h1 h2
    go_enter Tryd.func90, Tryd.ntmps90
    go_wp2_with fail
    refine (bytes_any _ HA.out).mono ?_
    rintro e w1 ⟨rfl, rfl⟩
    go_wp2_with fail
    refine (bytes_any _ HB.out).mono ?_
    rintro e w1 ⟨rfl, rfl⟩
    go_wp2_with fail
    go_ret
    exact ⟨_, rfl, HA.out, Below.refl _ _⟩
  have okb := by_pos nb h2
  have z2 : ((b.by : Int) == 0) = false := by rw [beq_eq_false_iff_ne]; omega
  have la : (mk (lstP a)).size = (lstP a).length := mk_size _
  have lb : (mk (fstP b)).size = (fstP b).length := mk_size _
  obtain ⟨p1, p2, p3, p4⟩ := cutL_ok oka
  obtain ⟨q1, q2, q3, q4⟩ := cutF_ok okb
  have s1 : (lstP a).length ≤ 64 := by rw [← p4]; exact p1.2.1
  have s2 : (fstP b).length ≤ 64 := by rw [← q4]; exact q1.2.1
  by_cases h3 : 64 < (lstP a).length + (fstP b).length
  · have hj : join a b = link a b := by unfold join; rw [if_neg h1, if_neg h2, if_pos h3]
    rw [hj]
    have z3 : (64 : Int) < ((lstP a).length : Int) + ((fstP b).length : Int) := by omega
    clear hj h1 h2 h3 p1 p2 p3 p4 q1 q2 q3 q4
    go_enter Tryd.func90, Tryd.ntmps90
    go_wp2_with fail
    refine (bytes_any _ HA.out).mono ?_
    rintro e w1 ⟨rfl, rfl⟩
    go_wp2_with fail
    refine (bytes_any _ HB.out).mono ?_
    rintro e w1 ⟨rfl, rfl⟩
    go_wp2_with fail
    refine (last_any _ HA.out oka).mono ?_
    rintro e w1 ⟨rfl, rfl⟩
    go_wp2_with fail
    refine (first_any _ HB.out okb).mono ?_
    rintro e w1 ⟨rfl, rfl⟩
    go_wp2_with fail
    refine (link_any _ _ (Nat.lt_succ_self _) HA.out HB.out na nb hby).mono ?_
    rintro e w1 ⟨v, rfl, hr, hb⟩
    go_wp2_with fail
    go_ret
    exact ⟨_, rfl, hr, hb⟩
  · have hj : join a b = link (link (cutL a).1 (.leaf ((cutL a).2 ++ (cutF b).1))) (cutF b).2 := by unfold join; rw [if_neg h1, if_neg h2, if_neg h3]
    rw [hj]
    have z3 : ¬ (64 : Int) < ((lstP a).length : Int) + ((fstP b).length : Int) := by omega
    have hg : okp ((cutL a).2 ++ (cutF b).1) := glue p1 q1 (by rw [p4, q4]; exact h3)
    have y1 := cutL_by oka
    have y2 := cutF_by okb
    have y3 := link_byn p2 (b := .leaf ((cutL a).2 ++ (cutF b).1)) (.inr hg)
    have y4 : (T.leaf ((cutL a).2 ++ (cutF b).1)).by = (cutL a).2.length + (cutF b).1.length := by simp [T.by]
    have B1 : Hid ((cutL a).1.by + (T.leaf ((cutL a).2 ++ (cutF b).1)).by ≤ 1073741824) := by show _ ≤ _; omega
    have B2 : Hid ((link (cutL a).1 (.leaf ((cutL a).2 ++ (cutF b).1))).by + (cutF b).2.by ≤ 1073741824) := by show _ ≤ _; omega
    have B3 : Hid (((cutL a).2 ++ (cutF b).1).length ≤ maxLen) := by show _ ≤ _; have := hg.2.1; unfold maxLen; omega
    obtain ⟨l1, -⟩ := link_okn p2 (b := .leaf ((cutL a).2 ++ (cutF b).1)) (.inr hg)
    have r1 : ∀ w : World, (Op.stringOp .add (mk (cutL a).2) (mk (cutF b).1)).run Tryd.prog w = .ok (.string (mk ((cutL a).2 ++ (cutF b).1))) w := fun w => by
      rw [← mk_app]
      exact run_string_add_sum w _ _ (by rw [mk_size, mk_size]; have := p1.2.1; have := q1.2.1; omega)
    have ba : a.by ≤ 1073741824 := by omega
    have bb : b.by ≤ 1073741824 := by omega
    clear hj h1 h2 h3 p3 p4 q3 q4 y1 y2 y3 y4 p1 q1
    go_enter Tryd.func90, Tryd.ntmps90
    go_wp2_with fail
    refine (bytes_any _ HA.out).mono ?_
    rintro e w1 ⟨rfl, rfl⟩
    go_wp2_with fail
    refine (bytes_any _ HB.out).mono ?_
    rintro e w1 ⟨rfl, rfl⟩
    go_wp2_with fail
    refine (last_any _ HA.out oka).mono ?_
    rintro e w1 ⟨rfl, rfl⟩
    go_wp2_with fail
    refine (first_any _ HB.out okb).mono ?_
    rintro e w1 ⟨rfl, rfl⟩
    go_wp2_with fail
    refine (cutL_any _ HA.out oka ba).mono ?_
    rintro e w1 ⟨v, rfl, hr, hb⟩
    go_wp2_with fail
    refine (cutF_any _ (Rp.below hb (Nat.le_refl _) HB.out) okb bb).mono ?_
    rintro e w2 ⟨v2, rfl, hr2, hb2⟩
    go_wp2_with fail
    refine (leaf_mk _ _ B3.out).mono ?_
    rintro e w3 ⟨v3, rfl, hr3, hb3⟩
    go_wp2_with fail
    refine (link_any _ _ (Nat.lt_succ_self _) (Rp.below hb3 (Nat.le_refl _) (Rp.below hb2 (Nat.le_refl _) hr)) hr3 p2 (.inr hg) B1.out).mono ?_
    rintro e w4 ⟨v4, rfl, hr4, hb4⟩
    go_wp2_with fail
    refine (link_any _ _ (Nat.lt_succ_self _) hr4 (Rp.below hb4 (Nat.le_refl _) (Rp.below hb3 (Nat.le_refl _) hr2)) l1 q2 B2.out).mono ?_
    rintro e w5 ⟨v5, rfl, hr5, hb5⟩
    go_wp2_with fail
    go_ret
    exact ⟨_, rfl, hr5, below_more (below_more (below_more (below_more hb hb2) hb3) hb4) hb5⟩

/-- The letters ahead of a place, and the others. -/
def split : T → Int → T × T
  | .nil, _ => (.nil, .nil)
  | .leaf s, at' => if at' ≤ 0 then (.nil, .leaf s) else if (cnt s : Int) ≤ at' then (.leaf s, .nil) else (.leaf (s.take (byt at'.toNat s)), .leaf (s.drop (byt at'.toNat s)))
  | .node l r, at' => if at' ≤ 0 then (.nil, .node l r) else if ((l.cn + r.cn : Nat) : Int) ≤ at' then (.node l r, .nil)
    else if at' ≤ l.cn then ((split l at').1, join (split l at').2 r) else (join l (split r (at' - l.cn)).1, (split r (at' - l.cn)).2)

structure SplitOk (t : T) (a : Int) : Prop where
  ok1 : (split t a).1.okn
  ok2 : (split t a).2.okn
  t1 : (split t a).1.txt = t.txt.take (byt a.toNat t.txt)
  t2 : (split t a).2.txt = t.txt.drop (byt a.toNat t.txt)

theorem split_ok : ∀ {t : T} (a : Int), t.okn → SplitOk t a := by
  intro t
  induction t with
  | nil => intro a _; exact ⟨.inl rfl, .inl rfl, by simp [split, T.txt], by simp [split, T.txt]⟩
  | leaf s =>
    intro a h
    have hs : okp s := by
      rcases h with h | h
      · cases h
      · exact h
    by_cases h0 : a ≤ 0
    · have e : split (.leaf s) a = (.nil, .leaf s) := by simp only [split]; rw [if_pos h0]
      have z : a.toNat = 0 := by omega
      refine ⟨by rw [e]; exact .inl rfl, by rw [e]; exact h, ?_, ?_⟩ <;> rw [e, z, byt_zero] <;> rfl
    · by_cases h1 : (cnt s : Int) ≤ a
      · have e : split (.leaf s) a = (.leaf s, .nil) := by simp only [split]; rw [if_neg h0, if_pos h1]
        have z : byt a.toNat s = s.length := byt_all (by omega)
        refine ⟨by rw [e]; exact h, by rw [e]; exact .inl rfl, ?_, ?_⟩ <;> rw [e] <;> simp [T.txt, z]
      · have e : split (.leaf s) a = (.leaf (s.take (byt a.toNat s)), .leaf (s.drop (byt a.toNat s))) := by simp only [split]; rw [if_neg h0, if_neg h1]
        have hl := byt_lt (k := a.toNat) (l := s) (by omega)
        have hg := byt_ge a.toNat s hl
        obtain ⟨h2, h3, h4⟩ := hs
        refine ⟨?_, ?_, by rw [e]; rfl, by rw [e]; rfl⟩ <;> rw [e] <;> refine .inr ⟨?_, ?_, ?_⟩
        · intro e2
          have := congrArg List.length e2
          rw [List.length_take, List.length_nil] at this
          omega
        · rw [List.length_take]
          omega
        · exact (right_take _ s h4).1
        · intro e2
          have := congrArg List.length e2
          rw [List.length_drop, List.length_nil] at this
          omega
        · rw [List.length_drop]
          omega
        · exact right_drop _ s h4
  | node l r il ir =>
    intro a h
    have hs : (T.node l r).ok := by
      rcases h with h | h
      · cases h
      · exact h
    have hc := T.cn_txt hs
    have hcl := T.cn_txt hs.1
    have hrl := T.ok_right hs.1
    have hn : (T.node l r).cn = l.cn + r.cn := rfl
    have ht : (T.node l r).txt = l.txt ++ r.txt := rfl
    by_cases h0 : a ≤ 0
    · have e : split (.node l r) a = (.nil, .node l r) := by simp only [split]; rw [if_pos h0]
      have z : a.toNat = 0 := by omega
      refine ⟨by rw [e]; exact .inl rfl, by rw [e]; exact h, ?_, ?_⟩ <;> rw [e, z, byt_zero] <;> rfl
    by_cases h1 : ((l.cn + r.cn : Nat) : Int) ≤ a
    · have e : split (.node l r) a = (.node l r, .nil) := by simp only [split]; rw [if_neg h0, if_pos h1]
      have z : byt a.toNat (T.node l r).txt = (T.node l r).txt.length := byt_all (by omega)
      refine ⟨by rw [e]; exact h, by rw [e]; exact .inl rfl, ?_, ?_⟩ <;> rw [e, z]
      · rw [List.take_length]
      · rw [List.drop_length]; rfl
    by_cases h2 : a ≤ l.cn
    · have e : split (.node l r) a = ((split l a).1, join (split l a).2 r) := by simp only [split]; rw [if_neg h0, if_neg h1, if_pos h2]
      obtain ⟨o1, o2, t1, t2⟩ := il a (.inr hs.1)
      obtain ⟨j1, j2⟩ := join_okn o2 (b := r) (.inr hs.2.1)
      have hb : byt a.toNat (l.txt ++ r.txt) = byt a.toNat l.txt := byt_app_left _ _ hrl _ (by omega)
      have hle := byt_le a.toNat l.txt
      refine ⟨by rw [e]; exact o1, by rw [e]; exact j1, ?_, ?_⟩ <;> rw [e]
      · show (split l a).1.txt = _
        rw [t1, ht, hb, List.take_append_of_le_length hle]
      · show (join (split l a).2 r).txt = _
        rw [j2, t2, ht, hb, List.drop_append_of_le_length hle]
    · have e : split (.node l r) a = (join l (split r (a - l.cn)).1, (split r (a - l.cn)).2) := by simp only [split]; rw [if_neg h0, if_neg h1, if_neg h2]
      obtain ⟨o1, o2, t1, t2⟩ := ir (a - l.cn) (.inr hs.2.1)
      obtain ⟨j1, j2⟩ := join_okn (a := l) (.inr hs.1) o1
      have hb : byt a.toNat (l.txt ++ r.txt) = l.txt.length + byt (a - l.cn).toNat r.txt := by
        have := byt_app_right r.txt _ hrl (a - l.cn).toNat
        rw [← this]
        congr 1
        omega
      refine ⟨by rw [e]; exact j1, by rw [e]; exact o2, ?_, ?_⟩ <;> rw [e]
      · show (join l (split r (a - l.cn)).1).txt = _
        rw [j2, t1, ht, hb, List.take_length_add_append]
      · show (split r (a - l.cn)).2.txt = _
        rw [t2, ht, hb, List.drop_length_add_append]
theorem split_by {t : T} (a : Int) (h : t.okn) : (split t a).1.by + (split t a).2.by = t.by := by
  obtain ⟨-, -, t1, t2⟩ := split_ok a h
  rw [T.by_txt, T.by_txt, T.by_txt, t1, t2, ← List.length_append, List.take_append_drop]

def Made2 (w : World) (t u : T) (e : Ending) (w' : World) : Prop := ∃ v v2, e = .returned (.tuple #[v, v2]) ∧ Rp w' t v ∧ Rp w' u v2 ∧ Below w.heap.size w w'

theorem split_low {t : T} {a : Int} (h : a ≤ 0) (n : t.okn) : split t a = (.nil, t) := by
  cases t with
  | nil => rfl
  | leaf s => simp only [split]; rw [if_pos h]
  | node l r => simp only [split]; rw [if_pos h]
theorem split_high {t : T} {a : Int} (h0 : ¬ a ≤ 0) (h : (t.cn : Int) ≤ a) (n : t.okn) : split t a = (t, .nil) := by
  cases t with
  | nil => rfl
  | leaf s =>
    have h' : (cnt s : Int) ≤ a := h
    simp only [split]; rw [if_neg h0, if_pos h']
  | node l r =>
    have h' : ((l.cn + r.cn : Nat) : Int) ≤ a := h
    simp only [split]; rw [if_neg h0, if_pos h']

set_option maxRecDepth 100000 in
set_option maxHeartbeats 1000000 in
theorem split_low_any {t : T} {v : Value} (w : World) (a : Int) (h : Rp w t v) (h0 : a ≤ 0) (n : t.okn) (ha : -9223372036854775808 ≤ a) :
    Calls Tryd.prog 79 #[v, .int .i64 a] w (Made2 w (split t a).1 (split t a).2) := by
  rw [split_low h0 n]
  have H := Lib.hid h
  clear h
  go_enter Tryd.func79, Tryd.ntmps79
  go_wp2_with fail
  go_ret2
  exact ⟨_, _, rfl, rfl, H.out, Below.refl _ _⟩

set_option maxRecDepth 100000 in
set_option maxHeartbeats 1000000 in
theorem split_high_any {t : T} {v : Value} (w : World) (a : Int) (h : Rp w t v) (h0 : ¬ a ≤ 0) (h1 : (t.cn : Int) ≤ a) (n : t.okn) :
    Calls Tryd.prog 79 #[v, .int .i64 a] w (Made2 w (split t a).1 (split t a).2) := by
  rw [split_high h0 h1 n]
  have H := Lib.hid h
  clear h
  go_enter Tryd.func79, Tryd.ntmps79
  go_wp2_with fail
  refine (len_any _ H.out).mono ?_
  rintro e w1 ⟨rfl, rfl⟩
  go_wp2_with fail
  go_ret2
  exact ⟨_, _, rfl, H.out, rfl, Below.refl _ _⟩

set_option maxRecDepth 100000 in
set_option maxHeartbeats 1000000 in
theorem split_leaf_any {s : List UInt8} {v : Value} (w : World) (a : Int) (h : Rp w (.leaf s) v) (ok : okp s) (h0 : ¬ a ≤ 0) (h1 : ¬ (cnt s : Int) ≤ a) :
    Calls Tryd.prog 79 #[v, .int .i64 a] w (Made2 w (split (.leaf s) a).1 (split (.leaf s) a).2) := by
  have e : split (.leaf s) a = (.leaf (s.take (byt a.toNat s)), .leaf (s.drop (byt a.toNat s))) := by simp only [split]; rw [if_neg h0, if_neg h1]
  rw [e]
  clear e
  have hl := byt_lt (k := a.toNat) (l := s) (by omega)
  have hsz := ok.2.1
  have ms : (mk s).size = s.length := mk_size s
  have HN : Hid (Rp w (.leaf s) v) := h
  obtain ⟨b, vl, vr, rfl, ⟨g0, g1, g2, g3, g4, g5, g6⟩, -, -⟩ := h.unfold (t := .leaf s) (by intro e; cases e)
  change w.cell? ⟨b, 0, none⟩ = some (.string (mk s)) at g1
  change w.cell? ⟨b, 5, none⟩ = some (.int .i64 (0 : Nat)) at g6
  have hcn : (T.leaf s).cn = cnt s := rfl
  have CB : Hid (∀ w, Calls Tryd.prog 95 #[.string (mk s), .int .i64 a] w fun e w' => e = .returned (.int .i64 (byt a.toNat s)) ∧ Below w.heap.size w w') := fun w => by
    have hc := cnt_len s
    have := byte_any (mk s) a w (by rw [mk_size]; unfold maxLen; omega) (by omega) (by omega)
    rw [Let.mk_data] at this
    exact this
  have x1 : (mk s).extract 0 (byt a.toNat s) = mk (s.take (byt a.toNat s)) := by rw [mk_extract, Let.mk_data, List.drop_zero]
  have x2 : (mk s).extract (byt a.toNat s) s.length = mk (s.drop (byt a.toNat s)) := by rw [mk_extract, Let.mk_data, List.take_length]
  have C1 : Hid ((s.take (byt a.toNat s)).length ≤ maxLen) := by show _ ≤ _; rw [List.length_take]; unfold maxLen; omega
  have C2 : Hid ((s.drop (byt a.toNat s)).length ≤ maxLen) := by show _ ≤ _; rw [List.length_drop]; unfold maxLen; omega
  have hD : Hid (∀ n, Below w.heap.size w (w.drewN n)) := fun n => below_drews (Below.refl _ _) n
  clear h g2 g3 g4 g5 ok
  generalize byt a.toNat s = k at *
  generalize cnt s = cs at *
  go_enter Tryd.func79, Tryd.ntmps79
  go_wp2_with fail
  refine (len_any _ HN.out).mono ?_
  rintro e w1 ⟨rfl, rfl⟩
  go_wp2_with fail
  refine (CB.out _).mono ?_
  rintro e w1 ⟨rfl, hb⟩
  have g1' := below_cell hb g0 g1
  have KP : Hid (∀ w', Below w.heap.size w w' → Below w.heap.size w w' ∧ w'.cell? ⟨b, 0, none⟩ = some (.string (mk s))) :=
    fun w' h => ⟨h, below_cell h g0 g1⟩
  have k0 : (0 : Int) ≤ (k : Int) := by omega
  have k1 : (k : Int) ≤ (s.length : Int) := by omega
  go_wp2_with fail
  go_region_held3 (fun w' => Below w.heap.size w w' ∧ w'.cell? ⟨b, 0, none⟩ = some (.string (mk s)))
    ((refine KP.out _ ?_; focus ((repeat first | assumption | exact hD.out _ | exact Below.refl _ _ | apply Below.drew | apply below_drews); done)))
    (first
      | (go_at_call 85; go_split_ands; (with_reducible refine (leaf_mk (s.take k) _ C1.out).mono ?_); rintro e w2 ⟨v, rfl, hr, hb2⟩; have hb1 := below_more (w := w) (by (repeat first | assumption | exact hD.out _ | exact Below.refl _ _ | apply Below.drew | apply below_drews)) hb2)
      | (go_at_call 85; go_split_ands; (with_reducible refine (leaf_mk (s.drop k) _ C2.out).mono ?_); rintro e w3 ⟨v3, rfl, hr3, hb3⟩; have hb4 := below_more (w := w) (by (repeat first | assumption | exact hD.out _ | exact Below.refl _ _ | apply Below.drew | apply below_drews)) hb3))
  go_wp2_with fail
  go_ret2
  exact ⟨_, _, rfl, Rp.below hb3 (Nat.le_refl _) hr, hr3, hb4⟩

set_option maxRecDepth 100000 in
set_option maxHeartbeats 1000000 in
theorem split_any : ∀ {t : T} {v : Value} (w : World) (a : Int), Rp w t v → t.okn → t.by ≤ 1073741824 → -9223372036854775808 ≤ a → a ≤ 9223372036854775807 →
    Calls Tryd.prog 79 #[v, .int .i64 a] w (Made2 w (split t a).1 (split t a).2) := by
  intro t
  induction t with
  | nil =>
    intro v w a h n hby a1 a2
    by_cases h0 : a ≤ 0
    · exact split_low_any w a h h0 n a1
    · exact split_high_any w a h h0 (by simp only [T.cn]; omega) n
  | leaf s =>
    intro v w a h n hby a1 a2
    have hs : okp s := by
      rcases n with h | h
      · cases h
      · exact h
    by_cases h0 : a ≤ 0
    · exact split_low_any w a h h0 n a1
    by_cases h1 : (cnt s : Int) ≤ a
    · exact split_high_any w a h h0 h1 n
    · exact split_leaf_any w a h hs h0 h1
  | node l r il ir =>
    intro v w a h n hby a1 a2
    by_cases h0 : a ≤ 0
    · exact split_low_any w a h h0 n a1
    by_cases h1 : ((T.node l r).cn : Int) ≤ a
    · exact split_high_any w a h h0 h1 n
    have hs : (T.node l r).ok := by
      rcases n with h | h
      · cases h
      · exact h
    have hn : (T.node l r).cn = l.cn + r.cn := rfl
    have ey : (T.node l r).by = l.by + r.by := rfl
    have cl := T.cn_by l
    have cr := T.cn_by r
    have hht : (T.node l r).ht = max l.ht r.ht + 1 := rfl
    have h1' : ¬ ((l.cn + r.cn : Nat) : Int) ≤ a := h1
    have HN : Hid (Rp w (.node l r) v) := h
    have hD : Hid (∀ n, Below w.heap.size w (w.drewN n)) := fun n => below_drews (Below.refl _ _) n
    obtain ⟨b, vl, vr, rfl, ⟨g0, g1, g2, g3, g4, g5, g6⟩, hl, hr⟩ := h.unfold (ok_not_nil hs)
    change Rp w l vl at hl
    change Rp w r vr at hr
    have HL := Lib.hid hl
    have HR := Lib.hid hr
    obtain ⟨bl, vll, vlr, rfl, ⟨k0, k1, k2, k3, k4, k5, k6⟩, -, -⟩ := hl.unfold (ok_not_nil hs.1)
    have hne : (((T.node l r).ht : Int) == 0) = false := by rw [beq_eq_false_iff_ne]; omega
    by_cases h2 : a ≤ l.cn
    · have e : split (.node l r) a = ((split l a).1, join (split l a).2 r) := by simp only [split]; rw [if_neg h0, if_neg h1', if_pos h2]
      rw [e]
      have S := split_ok a (t := l) (.inr hs.1)
      have sb := split_by a (t := l) (.inr hs.1)
      have IH : Hid (∀ w, Rp w l (.pointer (some ⟨bl, 0, none⟩)) → Calls Tryd.prog 79 #[.pointer (some ⟨bl, 0, none⟩), .int .i64 a] w (Made2 w (split l a).1 (split l a).2)) := fun w r1 => il w a r1 (.inr hs.1) (by omega) a1 a2
      have B1 : Hid ((split l a).2.by + r.by ≤ 1073741824) := by show _ ≤ _; omega
      have okr : r.okn := .inr hs.2.1
      have O2 := S.ok2
      have KP : Hid (∀ w', Below w.heap.size w w' → w'.cell? ⟨b, 2, none⟩ = some vr) := fun w' h => below_cell h g0 g3
      have h1z : ¬ ((T.node l r).cn : Int) ≤ a := h1
      clear il ir h hl hr g1 g4 g5 k1 k2 k3 k5 k6 e sb S h1 hs ey hn hht
      generalize (T.node l r).ht = H at *
      go_enter Tryd.func79, Tryd.ntmps79
      go_wp2_with fail
      refine (len_any _ HN.out).mono ?_
      rintro e w1 ⟨rfl, rfl⟩
      go_wp2_with fail
      refine (IH.out _ HL.out).mono ?_
      rintro e w1 ⟨v1, v2, rfl, hr1, hr2, hb⟩
      have g3' := KP.out _ hb
      clear g2 g3 k4 g6
      go_wp2_with fail
      refine (join_any _ hr2 (Rp.below hb (Nat.le_refl _) HR.out) O2 okr B1.out).mono ?_
      rintro e w2 ⟨v3, rfl, hr3, hb2⟩
      go_wp2_with fail
      go_ret2
      exact ⟨_, _, rfl, Rp.below hb2 (Nat.le_refl _) hr1, hr3, below_more hb hb2⟩
    · have e : split (.node l r) a = (join l (split r (a - l.cn)).1, (split r (a - l.cn)).2) := by simp only [split]; rw [if_neg h0, if_neg h1', if_neg h2]
      rw [e]
      have S := split_ok (a - l.cn) (t := r) (.inr hs.2.1)
      have sb := split_by (a - l.cn) (t := r) (.inr hs.2.1)
      have IH : Hid (∀ w, Rp w r vr → Calls Tryd.prog 79 #[vr, .int .i64 (a - l.cn)] w (Made2 w (split r (a - l.cn)).1 (split r (a - l.cn)).2)) := fun w r1 => ir w (a - l.cn) r1 (.inr hs.2.1) (by omega) (by omega) (by omega)
      have B1 : Hid (l.by + (split r (a - l.cn)).1.by ≤ 1073741824) := by show _ ≤ _; omega
      have okl : l.okn := .inr hs.1
      have O2 := S.ok1
      have KP : Hid (∀ w', Below w.heap.size w w' → Below w.heap.size w w' ∧ w'.cell? ⟨b, 1, none⟩ = some (.pointer (some ⟨bl, 0, none⟩)) ∧ w'.cell? ⟨b, 2, none⟩ = some vr ∧ w'.cell? ⟨bl, 3, none⟩ = some (.int .i64 l.cn)) := fun w' h => ⟨h, below_cell h g0 g2, below_cell h g0 g3, below_cell h k0 k4⟩
      have h1z : ¬ ((T.node l r).cn : Int) ≤ a := h1
      have e1 : IntKind.i64.wrap (a - (l.cn : Int)) = a - l.cn := IntWalk.i64_in _ (by omega)
      have e2 : decide (a ≤ (l.cn : Int)) = false := by simp; omega
      clear il ir h hl hr g1 g4 g5 k1 k2 k3 k5 k6 e sb S h1 hs ey hn hht
      generalize (T.node l r).ht = H at *
      go_enter Tryd.func79, Tryd.ntmps79
      go_wp2_with fail
      refine (len_any _ HN.out).mono ?_
      rintro e w1 ⟨rfl, rfl⟩
      go_wp2_with fail
      go_region_held3 (fun w' => Below w.heap.size w w' ∧ w'.cell? ⟨b, 1, none⟩ = some (.pointer (some ⟨bl, 0, none⟩)) ∧ w'.cell? ⟨b, 2, none⟩ = some vr ∧ w'.cell? ⟨bl, 3, none⟩ = some (.int .i64 l.cn))
        ((refine KP.out _ ?_; focus ((repeat first | assumption | exact hD.out _ | exact Below.refl _ _ | apply Below.drew | apply below_drews); done)))
        (first
          | (go_at_call 79; go_split_ands; (with_reducible refine (IH.out _ ?_).mono ?_); (focus (refine Rp.below (w := w) ?_ (Nat.le_refl _) HR.out; (repeat first | assumption | exact hD.out _ | exact Below.refl _ _ | apply Below.drew | apply below_drews); done)); rintro e w1 ⟨v1, v2, rfl, hr1, hr2, hb⟩; have hb1 := below_more (w := w) (by (repeat first | assumption | exact hD.out _ | exact Below.refl _ _ | apply Below.drew | apply below_drews)) hb))
      have g2' := (KP.out _ hb1).2.1
      clear g2 g3 k4 g6
      go_wp2_with fail
      refine (join_any _ (Rp.below hb1 (Nat.le_refl _) HL.out) hr1 okl O2 B1.out).mono ?_
      rintro e w2 ⟨v3, rfl, hr3, hb2⟩
      go_wp2_with fail
      go_ret2
      exact ⟨_, _, rfl, hr3, Rp.below hb2 (Nat.le_refl _) hr2, below_more hb1 hb2⟩

/-- Put, Drop, Cut. -/
def putT (t : T) (a : Int) (u : T) : T := join (join (split t a).1 u) (split t a).2
def cutT (t : T) (a b : Int) : T := (split (split t b).1 a).2
def dropT (t : T) (a b : Int) : T := if b ≤ a then t else join (split t a).1 (split t b).2

theorem putT_ok {t u : T} (a : Int) (ht : t.okn) (hu : u.okn) : (putT t a u).okn ∧ (putT t a u).txt = put t.txt a u.txt := by
  obtain ⟨o1, o2, t1, t2⟩ := split_ok a ht
  obtain ⟨j1, j2⟩ := join_okn o1 hu
  obtain ⟨k1, k2⟩ := join_okn j1 o2
  refine ⟨k1, ?_⟩
  unfold putT put
  rw [k2, j2, t1, t2]
theorem cutT_ok {t : T} (a b : Int) (ht : t.okn) : (cutT t a b).okn ∧ (cutT t a b).txt = cut t.txt a b := by
  obtain ⟨o1, o2, t1, t2⟩ := split_ok b ht
  obtain ⟨p1, p2, u1, u2⟩ := split_ok a o1
  refine ⟨p2, ?_⟩
  unfold cutT cut
  rw [u2, t1]
  have hr := T.okn_right ht
  obtain ⟨r1, c1⟩ := right_take b.toNat t.txt hr
  by_cases h : a.toNat ≤ b.toNat
  · by_cases h3 : a.toNat ≤ cnt t.txt
    · have := byt_app_left (t.txt.drop (byt b.toNat t.txt)) _ r1 a.toNat (by omega)
      rw [List.take_append_drop] at this
      rw [this]
    · have e1 : byt a.toNat t.txt = t.txt.length := byt_all (by omega)
      have e2 : byt a.toNat (t.txt.take (byt b.toNat t.txt)) = (t.txt.take (byt b.toNat t.txt)).length := byt_all (by omega)
      rw [e2, List.drop_length, e1]
      symm
      apply List.drop_eq_nil_of_le
      rw [List.length_take]
      omega
  · have e2 : byt a.toNat (t.txt.take (byt b.toNat t.txt)) = (t.txt.take (byt b.toNat t.txt)).length := byt_all (by omega)
    rw [e2, List.drop_length]
    symm
    apply List.drop_eq_nil_of_le
    have := byt_mono (show b.toNat ≤ a.toNat by omega) t.txt
    rw [List.length_take]
    omega
def dropL (s : List UInt8) (a b : Int) : List UInt8 := if byt b.toNat s ≤ byt a.toNat s then s else s.take (byt a.toNat s) ++ s.drop (byt b.toNat s)
theorem dropT_ok {t : T} (a b : Int) (ht : t.okn) : (dropT t a b).okn ∧ (dropT t a b).txt = dropL t.txt a b := by
  unfold dropT dropL
  by_cases h : b ≤ a
  · rw [if_pos h, if_pos (byt_mono (by omega) _)]
    exact ⟨ht, rfl⟩
  · rw [if_neg h]
    obtain ⟨o1, o2, t1, t2⟩ := split_ok a ht
    obtain ⟨p1, p2, u1, u2⟩ := split_ok b ht
    obtain ⟨j1, j2⟩ := join_okn o1 p2
    refine ⟨j1, ?_⟩
    rw [j2, t1, u2]
    by_cases h2 : byt b.toNat t.txt ≤ byt a.toNat t.txt
    · rw [if_pos h2]
      have h3 := byt_mono (show a.toNat ≤ b.toNat by omega) t.txt
      rw [show byt b.toNat t.txt = byt a.toNat t.txt by omega, List.take_append_drop]
    · rw [if_neg h2]

set_option maxRecDepth 100000 in
set_option maxHeartbeats 1000000 in
theorem put_rope {t u : T} {v x : Value} (w : World) (a : Int) (h : Rp w t v) (hu : Rp w u x) (n : t.okn) (m : u.okn) (hby : t.by + u.by ≤ 1073741824) (a1 : -9223372036854775808 ≤ a) (a2 : a ≤ 9223372036854775807) :
    Calls Tryd.prog 71 #[v, .int .i64 a, x] w (Made w (putT t a u)) := by
  obtain ⟨o1, o2, -, -⟩ := split_ok a n
  have sb := split_by a n
  have jb := join_by o1 m
  obtain ⟨j1, -⟩ := join_okn o1 m
  have HU := Lib.hid hu
  have H := Lib.hid h
  have B1 : Hid ((split t a).1.by + u.by ≤ 1073741824) := by show _ ≤ _; omega
  have B2 : Hid ((join (split t a).1 u).by + (split t a).2.by ≤ 1073741824) := by show _ ≤ _; omega
  clear h hu sb jb
  have hby2 : t.by ≤ 1073741824 := by omega
  go_enter Tryd.func71, Tryd.ntmps71
  go_wp2_with fail
  refine (split_any _ a H.out n hby2 a1 a2).mono ?_
  rintro e w1 ⟨v1, v2, rfl, h1, h2, hb⟩
  go_wp2_with fail
  refine (join_any _ h1 (Rp.below hb (Nat.le_refl _) HU.out) o1 m B1.out).mono ?_
  rintro e w2 ⟨v3, rfl, h3, hb2⟩
  go_wp2_with fail
  refine (join_any _ h3 (Rp.below hb2 (Nat.le_refl _) h2) j1 o2 B2.out).mono ?_
  rintro e w3 ⟨v4, rfl, h4, hb3⟩
  go_wp2_with fail
  go_ret
  exact ⟨_, rfl, h4, below_more (below_more hb hb2) hb3⟩

set_option maxRecDepth 100000 in
set_option maxHeartbeats 1000000 in
theorem cut_rope {t : T} {v : Value} (w : World) (a b : Int) (h : Rp w t v) (n : t.okn) (hby : t.by ≤ 1073741824) (a1 : -9223372036854775808 ≤ a) (a2 : a ≤ 9223372036854775807) (b1 : -9223372036854775808 ≤ b) (b2 : b ≤ 9223372036854775807) :
    Calls Tryd.prog 54 #[v, .int .i64 a, .int .i64 b] w (Made w (cutT t a b)) := by
  obtain ⟨o1, o2, -, -⟩ := split_ok b n
  have sb := split_by b n
  have H := Lib.hid h
  have B1 : Hid ((split t b).1.by ≤ 1073741824) := by show _ ≤ _; omega
  clear h sb
  go_enter Tryd.func54, Tryd.ntmps54
  go_wp2_with fail
  refine (split_any _ b H.out n hby b1 b2).mono ?_
  rintro e w1 ⟨v1, v2, rfl, h1, h2, hb⟩
  go_wp2_with fail
  refine (split_any _ a h1 o1 B1.out a1 a2).mono ?_
  rintro e w2 ⟨v3, v4, rfl, h3, h4, hb2⟩
  go_wp2_with fail
  go_ret
  exact ⟨_, rfl, h4, below_more hb hb2⟩

set_option maxRecDepth 100000 in
set_option maxHeartbeats 1000000 in
theorem drop_rope {t : T} {v : Value} (w : World) (a b : Int) (h : Rp w t v) (n : t.okn) (hby : t.by ≤ 1073741824) (a1 : -9223372036854775808 ≤ a) (a2 : a ≤ 9223372036854775807) (b1 : -9223372036854775808 ≤ b) (b2 : b ≤ 9223372036854775807) :
    Calls Tryd.prog 81 #[v, .int .i64 a, .int .i64 b] w (Made w (dropT t a b)) := by
  have H := Lib.hid h
  clear h
  by_cases c : b ≤ a
  · have e : dropT t a b = t := by unfold dropT; rw [if_pos c]
    rw [e]
    clear e
    go_enter Tryd.func81, Tryd.ntmps81
    go_wp2_with fail
    go_ret
    exact ⟨_, rfl, H.out, Below.refl _ _⟩
  · have e : dropT t a b = join (split t a).1 (split t b).2 := by unfold dropT; rw [if_neg c]
    rw [e]
    clear e
    obtain ⟨o1, o2, t1, t2⟩ := split_ok b n
    obtain ⟨p1, p2, u1, u2⟩ := split_ok a n
    have B1 : Hid ((split t a).1.by + (split t b).2.by ≤ 1073741824) := by
      show _ ≤ _
      have h1 := split_by a n
      have h2 := split_by b n
      have e1 : (split t a).1.by = min (byt a.toNat t.txt) t.txt.length := by rw [T.by_txt, u1, List.length_take]
      have e2 : (split t b).2.by = t.txt.length - byt b.toNat t.txt := by rw [T.by_txt, t2, List.length_drop]
      have h3 := byt_mono (show a.toNat ≤ b.toNat by omega) t.txt
      have h4 := byt_le b.toNat t.txt
      have h5 := T.by_txt t
      omega
    clear t1 t2 u1 u2
    go_enter Tryd.func81, Tryd.ntmps81
    go_wp2_with fail
    refine (split_any _ a H.out n hby a1 a2).mono ?_
    rintro e w1 ⟨v1, v2, rfl, h1, h2, hb⟩
    go_wp2_with fail
    refine (split_any _ b (Rp.below hb (Nat.le_refl _) H.out) n hby b1 b2).mono ?_
    rintro e w2 ⟨v3, v4, rfl, h3, h4, hb2⟩
    go_wp2_with fail
    refine (join_any _ (Rp.below hb2 (Nat.le_refl _) h1) h4 p1 o2 B1.out).mono ?_
    rintro e w3 ⟨v5, rfl, h5, hb3⟩
    go_wp2_with fail
    go_ret
    exact ⟨_, rfl, h5, below_more (below_more hb hb2) hb3⟩
end Go.Proofs.YtengmiolcfgdiaaDoor.Con
