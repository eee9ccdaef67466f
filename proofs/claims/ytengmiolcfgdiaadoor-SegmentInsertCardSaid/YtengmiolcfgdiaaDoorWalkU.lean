/- Contracts of link, firstPart, lastPart, cutFirst, cutLast. -/
import Derived.Test.YtengmiolcfgdiaaDoorWalkS
set_option linter.unusedVariables false
namespace Go.Proofs.YtengmiolcfgdiaaDoor.Con
open Go.RowKit Go.Lib Go.Proofs.YtengmiolcfgdiaaDoor.Let Go.Proofs.YtengmiolcfgdiaaDoor.Tree

theorem link_by {a b : T} (ha : a.ok) (hb : b.ok) : (link a b).by = a.by + b.by := by
  rw [T.by_txt, (link_of _ (Nat.le_refl _) ha hb).txt, List.length_append, ← T.by_txt, ← T.by_txt]

theorem link_nil (b : T) : link .nil b = b := by rw [link, if_pos rfl]
theorem link_nil2 {a : T} (h : a ≠ .nil) : link a .nil = a := by rw [link, if_neg h, if_pos rfl]
theorem link_hi {a b : T} (ha : a.ok) (hb : b.ok) (c : b.ht + 1 < a.ht) : link a b = bal a.L (link a.R b) := by
  rw [link, if_neg (ok_not_nil ha), if_neg (ok_not_nil hb), dif_pos c]
theorem link_lo {a b : T} (ha : a.ok) (hb : b.ok) (c : a.ht + 1 < b.ht) : link a b = bal (link a b.L) b.R := by
  rw [link, if_neg (ok_not_nil ha), if_neg (ok_not_nil hb), dif_neg (by omega), dif_pos c]
theorem link_eq {a b : T} (ha : a.ok) (hb : b.ok) (c1 : ¬ b.ht + 1 < a.ht) (c2 : ¬ a.ht + 1 < b.ht) : link a b = .node a b := by
  rw [link, if_neg (ok_not_nil ha), if_neg (ok_not_nil hb), dif_neg c1, dif_neg c2]

/-- The heights ahead of a balance in link. -/
theorem link_hts {a b : T} (ha : a.ok) (hb : b.ok) (c : b.ht + 1 < a.ht) : a.L.ht ≤ (link a.R b).ht + 2 ∧ (link a.R b).ht ≤ a.L.ht + 2 ∧ (link a.R b).ok := by
  obtain ⟨o1, o2, o3, o4, o5, o6⟩ := T.ok_L ha (by omega)
  have i := link_of _ (Nat.le_refl _) o2 hb
  have := i.lo
  have := i.hi
  exact ⟨by omega, by omega, i.ok⟩
theorem link_hts2 {a b : T} (ha : a.ok) (hb : b.ok) (c : a.ht + 1 < b.ht) : (link a b.L).ht ≤ b.R.ht + 2 ∧ b.R.ht ≤ (link a b.L).ht + 2 ∧ (link a b.L).ok := by
  obtain ⟨o1, o2, o3, o4, o5, o6⟩ := T.ok_L hb (by omega)
  have i := link_of _ (Nat.le_refl _) ha o1
  have := i.lo
  have := i.hi
  exact ⟨by omega, by omega, i.ok⟩

set_option maxRecDepth 100000 in
set_option maxHeartbeats 1000000 in
theorem link_any : ∀ (n : Nat) {a b : T} {va vb : Value} (w : World), a.ht + b.ht < n → Rp w a va → Rp w b vb → a.okn → b.okn → a.by + b.by ≤ 1073741824 →
    Calls Tryd.prog 104 #[va, vb] w (Made w (link a b)) := by
  intro n
  induction n with
  | zero => intro a b va vb w hn; omega
  | succ n ih =>
    intro a b va vb w hn ha hb na nb hby
    rcases na with rfl | oka
    · rw [link_nil]
      have HB := Lib.hid hb
      have : va = .pointer none := ha
      subst this
      clear ha hb
      go_enter Tryd.func104, Tryd.ntmps104
      go_wp2_with fail
      go_ret
      exact ⟨_, rfl, HB.out, Below.refl _ _⟩
    rcases nb with rfl | okb
    · rw [link_nil2 (ok_not_nil oka)]
      have HA := Lib.hid ha
      have : vb = .pointer none := hb
      subst this
      obtain ⟨x, xl, xr, rfl, ⟨h0, h1, h2, h3, h4, h5, h6⟩, hl, hr⟩ := ha.unfold (ok_not_nil oka)
      clear ha hb hl hr h1 h2 h3 h4 h5 h6
      go_enter Tryd.func104, Tryd.ntmps104
      go_wp2_with fail
      go_ret
      exact ⟨_, rfl, HA.out, Below.refl _ _⟩
    have ga := T.ht_by oka
    have gb := T.ht_by okb
    have HA := Lib.hid ha
    have HB := Lib.hid hb
    have e1 : IntKind.i64.wrap ((a.ht : Int) + 1) = (a.ht : Int) + 1 := IntWalk.i64_in _ (by omega)
    have e2 : IntKind.i64.wrap ((b.ht : Int) + 1) = (b.ht : Int) + 1 := IntWalk.i64_in _ (by omega)
    have hD : Hid (∀ n, Below w.heap.size w (w.drewN n)) := fun n => below_drews (Below.refl _ _) n
    obtain ⟨x, xl, xr, rfl, ⟨h0, h1, h2, h3, h4, h5, h6⟩, hl, hr⟩ := ha.unfold (ok_not_nil oka)
    obtain ⟨y, yl, yr, rfl, ⟨k0, k1, k2, k3, k4, k5, k6⟩, kl, kr⟩ := hb.unfold (ok_not_nil okb)
    clear ha hb
    by_cases c1 : b.ht + 1 < a.ht
    · rw [link_hi oka okb c1]
      obtain ⟨q1, q2, q3⟩ := link_hts oka okb c1
      obtain ⟨ol, or, -, -, -, p6⟩ := T.ok_L oka (by omega)
      have y1 := by_LR (t := a) (by omega)
      have y2 := link_by or okb
      have HL := Lib.hid hl
      have HR := Lib.hid hr
      have IH : Hid (∀ w, Rp w a.R xr → Rp w b (.pointer (some ⟨y, 0, none⟩)) → Calls Tryd.prog 104 #[xr, .pointer (some ⟨y, 0, none⟩)] w (Made w (link a.R b))) := fun w r1 r2 => ih w (by omega) r1 r2 (.inr or) (.inr okb) (by omega)
      clear ih hl hr kl kr h1 h4 h5 k1 k2 k3 k4 k5
      have g1 : decide ((b.ht : Int) + 1 < (a.ht : Int)) = true := by simp; omega
      have KP : Hid (∀ w', Below w.heap.size w w' → Below w.heap.size w w' ∧ w'.cell? ⟨x, 1, none⟩ = some xl ∧ w'.cell? ⟨x, 2, none⟩ = some xr) :=
        fun w' h => ⟨h, below_cell h h0 h2, below_cell h h0 h3⟩
      go_enter Tryd.func104, Tryd.ntmps104
      go_wp2_with fail
      go_quiet (fail)
      go_wp2_with fail
      go_region_held3 (fun w' => Below w.heap.size w w' ∧ w'.cell? ⟨x, 1, none⟩ = some xl ∧ w'.cell? ⟨x, 2, none⟩ = some xr)
        ((refine KP.out _ ?_; focus ((repeat first | assumption | exact hD.out _ | exact Below.refl _ _ | apply Below.drew | apply below_drews); done)))
        (first
          | (go_at_call 104; go_split_ands; (with_reducible refine (IH.out _ ?_ ?_).mono ?_); (focus (refine Rp.below (w := w) ?_ (Nat.le_refl _) HR.out; (repeat first | assumption | exact hD.out _ | exact Below.refl _ _ | apply Below.drew | apply below_drews); done)); (focus (refine Rp.below (w := w) ?_ (Nat.le_refl _) HB.out; (repeat first | assumption | exact hD.out _ | exact Below.refl _ _ | apply Below.drew | apply below_drews); done)); rintro e w1 ⟨v, rfl, hr, hb⟩; have hb1 := below_more (w := w) (by (repeat first | assumption | exact hD.out _ | exact Below.refl _ _ | apply Below.drew | apply below_drews)) hb)
          | (go_at_call 110; go_split_ands; (with_reducible refine (balance_any (a := a.L) (b := link a.R b) _ ?_ hr ol q3 (by omega) q1 q2).mono ?_); (focus (refine Rp.below (w := w) ?_ (Nat.le_refl _) HL.out; (repeat first | assumption | exact hD.out _ | exact Below.refl _ _ | apply Below.drew | apply below_drews); done)); rintro e w1 ⟨v, rfl, hr, hb⟩; have hb1 := below_more (w := w) (by (repeat first | assumption | exact hD.out _ | exact Below.refl _ _ | apply Below.drew | apply below_drews)) hb))
      go_wp2_with fail
      go_ret
      exact ⟨_, rfl, hr, hb1⟩
    by_cases c2 : a.ht + 1 < b.ht
    · rw [link_lo oka okb c2]
      obtain ⟨q1, q2, q3⟩ := link_hts2 oka okb c2
      obtain ⟨ol, or, -, -, -, p6⟩ := T.ok_L okb (by omega)
      have y1 := by_LR (t := b) (by omega)
      have y2 := link_by oka ol
      have HL := Lib.hid kl
      have HR := Lib.hid kr
      have IH : Hid (∀ w, Rp w a (.pointer (some ⟨x, 0, none⟩)) → Rp w b.L yl → Calls Tryd.prog 104 #[.pointer (some ⟨x, 0, none⟩), yl] w (Made w (link a b.L))) := fun w r1 r2 => ih w (by omega) r1 r2 (.inr oka) (.inr ol) (by omega)
      clear ih hl hr kl kr h1 h2 h3 h4 h5 k1 k4 k5
      have g1 : decide ((b.ht : Int) + 1 < (a.ht : Int)) = false := by simp; omega
      have g2 : decide ((a.ht : Int) + 1 < (b.ht : Int)) = true := by simp; omega
      have KP : Hid (∀ w', Below w.heap.size w w' → Below w.heap.size w w' ∧ w'.cell? ⟨y, 1, none⟩ = some yl ∧ w'.cell? ⟨y, 2, none⟩ = some yr) :=
        fun w' h => ⟨h, below_cell h k0 k2, below_cell h k0 k3⟩
      go_enter Tryd.func104, Tryd.ntmps104
      go_wp2_with fail
      go_quiet (fail)
      go_wp2_with fail
      go_quiet (fail)
      go_wp2_with fail
      go_region_held3 (fun w' => Below w.heap.size w w' ∧ w'.cell? ⟨y, 1, none⟩ = some yl ∧ w'.cell? ⟨y, 2, none⟩ = some yr)
        ((refine KP.out _ ?_; focus ((repeat first | assumption | exact hD.out _ | exact Below.refl _ _ | apply Below.drew | apply below_drews); done)))
        (first
          | (go_at_call 104; go_split_ands; (with_reducible refine (IH.out _ ?_ ?_).mono ?_); (focus (refine Rp.below (w := w) ?_ (Nat.le_refl _) HA.out; (repeat first | assumption | exact hD.out _ | exact Below.refl _ _ | apply Below.drew | apply below_drews); done)); (focus (refine Rp.below (w := w) ?_ (Nat.le_refl _) HL.out; (repeat first | assumption | exact hD.out _ | exact Below.refl _ _ | apply Below.drew | apply below_drews); done)); rintro e w1 ⟨v, rfl, hr, hb⟩; have hb1 := below_more (w := w) (by (repeat first | assumption | exact hD.out _ | exact Below.refl _ _ | apply Below.drew | apply below_drews)) hb)
          | (go_at_call 110; go_split_ands; (with_reducible refine (balance_any (a := link a b.L) (b := b.R) _ hr ?_ q3 or (by omega) q1 q2).mono ?_); (focus (refine Rp.below (w := w) ?_ (Nat.le_refl _) HR.out; (repeat first | assumption | exact hD.out _ | exact Below.refl _ _ | apply Below.drew | apply below_drews); done)); rintro e w1 ⟨v, rfl, hr, hb⟩; have hb1 := below_more (w := w) (by (repeat first | assumption | exact hD.out _ | exact Below.refl _ _ | apply Below.drew | apply below_drews)) hb))
      go_wp2_with fail
      go_ret
      exact ⟨_, rfl, hr, hb1⟩
    · rw [link_eq oka okb c1 c2]
      clear ih hl hr kl kr h1 h2 h3 h4 h5 k1 k2 k3 k4 k5
      have g1 : decide ((b.ht : Int) + 1 < (a.ht : Int)) = false := by simp; omega
      have g2 : decide ((a.ht : Int) + 1 < (b.ht : Int)) = false := by simp; omega
      go_enter Tryd.func104, Tryd.ntmps104
      go_wp2_with fail
      go_quiet (fail)
      go_wp2_with fail
      go_quiet (fail)
      go_wp2_with fail
      refine (node_any _ (Rp.below (w := w) (by (repeat first | assumption | exact hD.out _ | exact Below.refl _ _ | apply Below.drew | apply below_drews)) (Nat.le_refl _) HA.out) (Rp.below (w := w) (by (repeat first | assumption | exact hD.out _ | exact Below.refl _ _ | apply Below.drew | apply below_drews)) (Nat.le_refl _) HB.out) oka okb hby).mono ?_
      rintro e w1 ⟨v, rfl, hr, hb⟩
      go_wp2_with fail
      go_ret
      exact ⟨_, rfl, hr, below_more (by (repeat first | assumption | exact hD.out _ | exact Below.refl _ _ | apply Below.drew | apply below_drews)) hb⟩

/-- The first and the last part. -/
def fstP : T → List UInt8
  | .nil => []
  | .leaf s => s
  | .node l _ => fstP l
def lstP : T → List UInt8
  | .nil => []
  | .leaf s => s
  | .node _ r => lstP r

/-- The height that stands in a node. -/
def htIn (w : World) : Value → Nat
  | .pointer (some a) => match w.cell? ⟨a.block, 5, none⟩ with
    | some (.int _ n) => n.toNat
    | _ => 0
  | _ => 0
theorem htIn_of {w : World} {t : T} {v : Value} (h : Rp w t v) (ok : t.ok) : htIn w v = t.ht := by
  obtain ⟨b, vl, vr, rfl, ⟨h0, h1, h2, h3, h4, h5, h6⟩, -, -⟩ := h.unfold (ok_not_nil ok)
  simp [htIn, h6]
theorem leaf_of {t : T} (ok : t.ok) (h : t.ht = 0) : t = .leaf (T.P t) := by
  cases t with
  | nil => exact absurd ok id
  | leaf s => rfl
  | node l r => simp [T.ht] at h

def relF (w : World) (t : T) (v : Value) : Prop := ∃ u : T, Rp w u v ∧ u.ok ∧ fstP t = fstP u
def relL (w : World) (t : T) (v : Value) : Prop := ∃ u : T, Rp w u v ∧ u.ok ∧ lstP t = lstP u

set_option maxRecDepth 100000 in
set_option maxHeartbeats 400000 in
theorem first_any {t : T} {v : Value} (w : World) (h : Rp w t v) (ok : t.ok) : Calls Tryd.prog 103 #[v] w fun e w' => e = .returned (.string (mk (fstP t))) ∧ w = w' := by
  go_enter Tryd.func103, Tryd.ntmps103
  go_wp2
  go_loop [0] (fun v => relF w t v) (fun v => htIn w v)
  case atStart => exact ⟨t, h, ok, rfl⟩
  case round =>
    obtain ⟨u, hr, oku, e⟩ := hrel
    clear h
    have HE := Lib.hid e
    have HM := Lib.hid (htIn_of hr oku)
    clear e
    by_cases hz : u.ht = 0
    · obtain ⟨s, rfl⟩ : ∃ s, u = .leaf s := ⟨_, leaf_of oku hz⟩
      obtain ⟨b, vl, vr, rfl, ⟨h0, h1, h2, h3, h4, h5, h6⟩, -, -⟩ := hr.unfold (ok_not_nil oku)
      change w.cell? ⟨b, 0, none⟩ = some (.string (mk s)) at h1
      rw [hz] at h6
      clear hr h2 h3 h4 h5 hz
      go_wp2
      go_ret
      exact ⟨by rw [HE.out]; rfl, rfl⟩
    · obtain ⟨l, r, rfl⟩ : ∃ l r, u = .node l r := ⟨_, _, T.node_of_ht (by omega)⟩
      obtain ⟨b, vl, vr, rfl, ⟨h0, h1, h2, h3, h4, h5, h6⟩, hl, -⟩ := hr.unfold (ok_not_nil oku)
      have HR : Hid (relF w t vl) := ⟨l, hl, oku.1, HE.out⟩
      have HL := Lib.hid (htIn_of hl oku.1)
      have hlt := T.L_lt (t := .node l r) (by omega)
      have HX : Hid (l.ht < (T.node l r).ht) := hlt
      have hpos : (0 : Int) < ((T.node l r).ht : Int) := by omega
      clear hr h1 h3 h4 h5 hz hl hlt
      generalize (T.node l r).ht = H at *
      go_wp2
      go_round
      case rel => exact HR.out
      case measure => rw [HM.out, HL.out]; exact HX.out

set_option maxRecDepth 100000 in
set_option maxHeartbeats 400000 in
theorem last_any {t : T} {v : Value} (w : World) (h : Rp w t v) (ok : t.ok) : Calls Tryd.prog 102 #[v] w fun e w' => e = .returned (.string (mk (lstP t))) ∧ w = w' := by
  go_enter Tryd.func102, Tryd.ntmps102
  go_wp2
  go_loop [0] (fun v => relL w t v) (fun v => htIn w v)
  case atStart => exact ⟨t, h, ok, rfl⟩
  case round =>
    obtain ⟨u, hr, oku, e⟩ := hrel
    clear h
    have HE := Lib.hid e
    have HM := Lib.hid (htIn_of hr oku)
    clear e
    by_cases hz : u.ht = 0
    · obtain ⟨s, rfl⟩ : ∃ s, u = .leaf s := ⟨_, leaf_of oku hz⟩
      obtain ⟨b, vl, vr, rfl, ⟨h0, h1, h2, h3, h4, h5, h6⟩, -, -⟩ := hr.unfold (ok_not_nil oku)
      change w.cell? ⟨b, 0, none⟩ = some (.string (mk s)) at h1
      rw [hz] at h6
      clear hr h2 h3 h4 h5 hz
      go_wp2
      go_ret
      exact ⟨by rw [HE.out]; rfl, rfl⟩
    · obtain ⟨l, r, rfl⟩ : ∃ l r, u = .node l r := ⟨_, _, T.node_of_ht (by omega)⟩
      obtain ⟨b, vl, vr, rfl, ⟨h0, h1, h2, h3, h4, h5, h6⟩, -, hl⟩ := hr.unfold (ok_not_nil oku)
      have HR : Hid (relL w t vr) := ⟨r, hl, oku.2.1, HE.out⟩
      have HL := Lib.hid (htIn_of hl oku.2.1)
      have hlt := T.R_lt (t := .node l r) (by omega)
      have HX : Hid (r.ht < (T.node l r).ht) := hlt
      have hpos : (0 : Int) < ((T.node l r).ht : Int) := by omega
      clear hr h1 h2 h4 h5 hz hl hlt
      generalize (T.node l r).ht = H at *
      go_wp2
      go_round
      case rel => exact HR.out
      case measure => rw [HM.out, HL.out]; exact HX.out

/-- The first part and the rest; the rest and the last part. -/
def cutF : T → List UInt8 × T
  | .nil => ([], .nil)
  | .leaf s => (s, .nil)
  | .node l r => ((cutF l).1, link (cutF l).2 r)
def cutL : T → T × List UInt8
  | .nil => (.nil, [])
  | .leaf s => (.nil, s)
  | .node l r => (link l (cutL r).1, (cutL r).2)

theorem link_okn {a b : T} (ha : a.okn) (hb : b.okn) : (link a b).okn ∧ (link a b).txt = a.txt ++ b.txt := by
  rcases ha with rfl | ha
  · rw [link_nil]
    exact ⟨hb, rfl⟩
  rcases hb with rfl | hb
  · rw [link_nil2 (ok_not_nil ha)]
    exact ⟨.inr ha, by simp [T.txt]⟩
  have i := link_of _ (Nat.le_refl _) ha hb
  exact ⟨.inr i.ok, i.txt⟩
theorem okn_by {a : T} : a.by = a.txt.length := T.by_txt a

theorem cutF_ok : ∀ {t : T}, t.ok → okp (cutF t).1 ∧ (cutF t).2.okn ∧ (cutF t).1 ++ (cutF t).2.txt = t.txt ∧ (cutF t).1 = fstP t
  | .leaf s, h => ⟨h, .inl rfl, by simp [cutF, T.txt], rfl⟩
  | .node l r, h => by
    obtain ⟨h1, h2, h3, h4⟩ := cutF_ok h.1
    obtain ⟨k1, k2⟩ := link_okn h2 (b := r) (.inr h.2.1)
    refine ⟨h1, k1, ?_, h4⟩
    show (cutF l).1 ++ (link (cutF l).2 r).txt = l.txt ++ r.txt
    rw [k2, ← h3, List.append_assoc]
theorem cutL_ok : ∀ {t : T}, t.ok → okp (cutL t).2 ∧ (cutL t).1.okn ∧ (cutL t).1.txt ++ (cutL t).2 = t.txt ∧ (cutL t).2 = lstP t
  | .leaf s, h => ⟨h, .inl rfl, by simp [cutL, T.txt], rfl⟩
  | .node l r, h => by
    obtain ⟨h1, h2, h3, h4⟩ := cutL_ok h.2.1
    obtain ⟨k1, k2⟩ := link_okn (a := l) (.inr h.1) h2
    refine ⟨h1, k1, ?_, h4⟩
    show (link l (cutL r).1).txt ++ (cutL r).2 = l.txt ++ r.txt
    rw [k2, ← h3, List.append_assoc]
theorem cutF_by {t : T} (h : t.ok) : (cutF t).1.length + (cutF t).2.by = t.by := by
  obtain ⟨h1, h2, h3, h4⟩ := cutF_ok h
  rw [T.by_txt, T.by_txt, ← h3, List.length_append]
theorem cutL_by {t : T} (h : t.ok) : (cutL t).1.by + (cutL t).2.length = t.by := by
  obtain ⟨h1, h2, h3, h4⟩ := cutL_ok h
  rw [T.by_txt, T.by_txt, ← h3, List.length_append]

def MadeF (w : World) (t : T) (e : Ending) (w' : World) : Prop := ∃ v, e = .returned (.tuple #[.string (mk (cutF t).1), v]) ∧ Rp w' (cutF t).2 v ∧ Below w.heap.size w w'
def MadeL (w : World) (t : T) (e : Ending) (w' : World) : Prop := ∃ v, e = .returned (.tuple #[v, .string (mk (cutL t).2)]) ∧ Rp w' (cutL t).1 v ∧ Below w.heap.size w w'

set_option maxRecDepth 100000 in
set_option maxHeartbeats 400000 in
theorem cutF_any : ∀ {t : T} {v : Value} (w : World), Rp w t v → t.ok → t.by ≤ 1073741824 → Calls Tryd.prog 106 #[v] w (MadeF w t) := by
  intro t
  induction t with
  | nil => intro v w h ok; exact absurd ok id
  | leaf s =>
    intro v w h ok hby
    obtain ⟨b, vl, vr, rfl, ⟨h0, h1, h2, h3, h4, h5, h6⟩, -, -⟩ := h.unfold (ok_not_nil ok)
    change w.cell? ⟨b, 0, none⟩ = some (.string (mk s)) at h1
    change w.cell? ⟨b, 5, none⟩ = some (.int .i64 (0 : Nat)) at h6
    clear h h2 h3 h4 h5
    go_enter Tryd.func106, Tryd.ntmps106
    go_wp2
    go_ret2
    exact ⟨_, rfl, rfl, Below.refl _ _⟩
  | node l r ihl ihr =>
    intro v w h ok hby
    obtain ⟨b, vl, vr, rfl, ⟨h0, h1, h2, h3, h4, h5, h6⟩, hl, hr⟩ := h.unfold (ok_not_nil ok)
    obtain ⟨c1, c2, c3, c4⟩ := cutF_ok ok.1
    have cb := cutF_by ok.1
    have okr := ok.2.1
    have HL := Lib.hid hl
    have HR := Lib.hid hr
    have hne : (((T.node l r).ht : Int) == 0) = false := by
      have : (T.node l r).ht = max l.ht r.ht + 1 := rfl
      rw [beq_eq_false_iff_ne]
      omega
    have e2 : (T.node l r).by = l.by + r.by := rfl
    have IH : Hid (∀ w, Rp w l vl → Calls Tryd.prog 106 #[vl] w (MadeF w l)) := fun w r1 => ihl w r1 ok.1 (by omega)
    have B1 : Hid ((cutF l).2.by + r.by ≤ 1073741824) := by show _ ≤ _; omega
    have h2' := Lib.hid h2
    have h3' := Lib.hid h3
    clear ihl ihr h hl hr h1 h4 h5 c3 c4 cb e2 ok
    generalize (T.node l r).ht = H at *
    go_enter Tryd.func106, Tryd.ntmps106
    go_wp2_with fail
    refine (IH.out _ HL.out).mono ?_
    rintro e w1 ⟨v, rfl, hrp, hb⟩
    have h3n := below_cell hb h0 h3
    clear h2 h3
    go_wp2_with fail
    refine (link_any _ _ (Nat.lt_succ_self _) hrp (Rp.below hb (Nat.le_refl _) HR.out) c2 (.inr okr) B1.out).mono ?_
    rintro e w2 ⟨v2, rfl, hrp2, hb2⟩
    go_wp2_with fail
    go_ret2
    exact ⟨_, rfl, hrp2, below_more hb hb2⟩

set_option maxRecDepth 100000 in
set_option maxHeartbeats 400000 in
theorem cutL_any : ∀ {t : T} {v : Value} (w : World), Rp w t v → t.ok → t.by ≤ 1073741824 → Calls Tryd.prog 105 #[v] w (MadeL w t) := by
  intro t
  induction t with
  | nil => intro v w h ok; exact absurd ok id
  | leaf s =>
    intro v w h ok hby
    obtain ⟨b, vl, vr, rfl, ⟨h0, h1, h2, h3, h4, h5, h6⟩, -, -⟩ := h.unfold (ok_not_nil ok)
    change w.cell? ⟨b, 0, none⟩ = some (.string (mk s)) at h1
    change w.cell? ⟨b, 5, none⟩ = some (.int .i64 (0 : Nat)) at h6
    clear h h2 h3 h4 h5
    go_enter Tryd.func105, Tryd.ntmps105
    go_wp2_with fail
    go_quiet (fail)
    go_wp2_with fail
    go_ret2
    exact ⟨_, rfl, rfl, below_drews (Below.refl _ _) _⟩
  | node l r ihl ihr =>
    intro v w h ok hby
    obtain ⟨b, vl, vr, rfl, ⟨h0, h1, h2, h3, h4, h5, h6⟩, hl, hr⟩ := h.unfold (ok_not_nil ok)
    obtain ⟨c1, c2, c3, c4⟩ := cutL_ok ok.2.1
    have cb := cutL_by ok.2.1
    have okl := ok.1
    have HL := Lib.hid hl
    have HR := Lib.hid hr
    have hne : (((T.node l r).ht : Int) == 0) = false := by
      have : (T.node l r).ht = max l.ht r.ht + 1 := rfl
      rw [beq_eq_false_iff_ne]
      omega
    have e2 : (T.node l r).by = l.by + r.by := rfl
    have IH : Hid (∀ w, Rp w r vr → Calls Tryd.prog 105 #[vr] w (MadeL w r)) := fun w r1 => ihr w r1 ok.2.1 (by omega)
    have B1 : Hid (l.by + (cutL r).1.by ≤ 1073741824) := by show _ ≤ _; omega
    clear ihl ihr h hl hr h1 h4 h5 c3 c4 cb e2 ok
    generalize (T.node l r).ht = H at *
    go_enter Tryd.func105, Tryd.ntmps105
    go_wp2_with fail
    refine (IH.out _ HR.out).mono ?_
    rintro e w1 ⟨v, rfl, hrp, hb⟩
    have h2n := below_cell hb h0 h2
    clear h2 h3
    go_wp2_with fail
    refine (link_any _ _ (Nat.lt_succ_self _) (Rp.below hb (Nat.le_refl _) HL.out) hrp (.inr okl) c2 B1.out).mono ?_
    rintro e w2 ⟨v2, rfl, hrp2, hb2⟩
    go_wp2_with fail
    go_ret2
    exact ⟨_, rfl, hrp2, below_more hb hb2⟩
end Go.Proofs.YtengmiolcfgdiaaDoor.Con
