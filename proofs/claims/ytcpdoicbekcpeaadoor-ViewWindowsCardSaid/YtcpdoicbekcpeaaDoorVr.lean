/- View: what runs are, taken together: their texts; two ranges that meet. No program is spoken of here. -/
import Derived.Test.YtcpdoicbekcpeaaDoorVq
import Derived.Test.YtcpdoicbekcpeaaDoorQL4
import Derived.Lib.MapLaws
import Derived.Stop.FmtQuoteTie
set_option linter.unusedVariables false
set_option linter.unusedSimpArgs false
set_option maxRecDepth 100000
namespace Go.Proofs.YtcpdoicbekcpeaaDoor.Vi
open Go.RowKit Go.Lib Go.Proofs.YtcpdoicbekcpeaaDoor.Rk Go.Proofs.YtcpdoicbekcpeaaDoor.Rig Go.Proofs.YtcpdoicbekcpeaaDoor.She

/-- The texts of runs, one behind the other. -/
def cat (R : List Rn) : List UInt8 := (R.map Rn.t).flatten
/-- How many runs aren't open. -/
def shut (R : List Rn) : Nat := (R.filter fun x => !x.o).length
def flat (V : List Vw) : List UInt8 := (V.map fun x => if x.o = true then x.L else []).flatten
def shutV (V : List Vw) : Nat := (V.filter fun x => !x.o).length
theorem cat_app (A B : List Rn) : cat (A ++ B) = cat A ++ cat B := by simp [cat]
theorem shut_app (A B : List Rn) : shut (A ++ B) = shut A + shut B := by simp [shut]
theorem cat_take (R : List Rn) {k : Nat} (hk : k < R.length) : cat (R.take (k + 1)) = cat (R.take k) ++ R[k].t := by
  rw [List.take_succ_eq_append_getElem hk, cat_app]
  simp [cat]
theorem shut_take (R : List Rn) {k : Nat} (hk : k < R.length) : shut (R.take (k + 1)) = shut (R.take k) + (if R[k].o = true then 0 else 1) := by
  rw [List.take_succ_eq_append_getElem hk, shut_app]
  congr 1
  unfold shut
  cases h : R[k].o <;> simp [h]
theorem flat_app (A B : List Vw) : flat (A ++ B) = flat A ++ flat B := by simp [flat]
theorem flat_cons (x : Vw) (r : List Vw) : flat (x :: r) = (if x.o = true then x.L else []) ++ flat r := rfl
theorem flat_take (V : List Vw) {k : Nat} (hk : k < V.length) : flat (V.take (k + 1)) = flat (V.take k) ++ (if V[k].o = true then V[k].L else []) := by
  rw [List.take_succ_eq_append_getElem hk, flat_app, flat_cons]
  congr 1
  exact List.append_nil _
theorem shutV_take (V : List Vw) {k : Nat} (hk : k < V.length) : shutV (V.take (k + 1)) = shutV (V.take k) + (if V[k].o = true then 0 else 1) := by
  rw [List.take_succ_eq_append_getElem hk]
  unfold shutV
  rw [List.filter_append, List.length_append]
  congr 1
  cases h : V[k].o <;> simp [h]
theorem cat_take_le (R : List Rn) (k : Nat) : (cat (R.take k)).length ≤ (cat R).length := by
  have h : (cat R).length = (cat (R.take k)).length + (cat (R.drop k)).length := by rw [← List.length_append, ← cat_app, List.take_append_drop]
  omega
theorem flat_take_le (V : List Vw) (k : Nat) : (flat (V.take k)).length ≤ (flat V).length := by
  have h : (flat V).length = (flat (V.take k)).length + (flat (V.drop k)).length := by rw [← List.length_append, ← flat_app, List.take_append_drop]
  omega
theorem shut_len (R : List Rn) : shut R ≤ R.length := List.length_filter_le _ _
theorem shutV_take_le (V : List Vw) (k : Nat) : shutV (V.take k) ≤ shutV V := by
  have h : shutV V = shutV (V.take k) + shutV (V.drop k) := by
    unfold shutV
    rw [← List.length_append, ← List.filter_append, List.take_append_drop]
  omega
theorem cut_all (L : List UInt8) : Let.cut L 0 (Let.cnt L : Int) = L := by
  unfold Let.cut
  rw [Int.toNat_natCast, Let.byt_cnt, List.take_length]
  rfl
theorem cut_none (L : List UInt8) (a : Int) : Let.cut L a a = [] := by
  unfold Let.cut
  apply List.drop_eq_nil_of_le
  rw [List.length_take]
  omega
theorem cut_join (l : List UInt8) {a b c : Int} (h1 : a ≤ b) (h2 : b ≤ c) : Let.cut l a b ++ Let.cut l b c = Let.cut l a c := by
  have m1 := Let.byt_mono (show a.toNat ≤ b.toNat by omega) l
  have m2 := Let.byt_mono (show b.toNat ≤ c.toNat by omega) l
  unfold Let.cut
  generalize Let.byt a.toNat l = x at *
  generalize Let.byt b.toNat l = y at *
  generalize Let.byt c.toNat l = z at *
  have e : (l.take y).drop x = ((l.take z).drop x).take (y - x) := by
    rw [← List.drop_take, List.take_take, Nat.min_eq_left m2]
  have e2 : (l.take z).drop y = ((l.take z).drop x).drop (y - x) := by
    rw [List.drop_drop]
    congr 1
    omega
  rw [e, e2, List.take_append_drop]
theorem cut_short (l : List UInt8) (a b : Int) : (Let.cut l a b).length ≤ l.length := by
  unfold Let.cut
  rw [List.length_drop, List.length_take]
  omega
theorem wide_open {x : Vw} (h : x.o = true) : x.pc.wide = (Let.cnt x.L : Int) := by simp [Vw.pc, Pc.wide, h]
theorem wide_shut {x : Vw} (h : x.o = false) : x.pc.wide = 1 := by simp [Vw.pc, Pc.wide, h]
theorem wide_pos (x : Vw) : 0 ≤ x.pc.wide := by
  cases h : x.o with
  | true => rw [wide_open h]; omega
  | false => rw [wide_shut h]; omega
theorem wid_pos : ∀ V : List Vw, 0 ≤ wid (V.map Vw.pc)
  | [] => by simp [wid]
  | x :: r => by
    have := wid_pos r
    have := wide_pos x
    rw [List.map_cons, widc]
    omega
theorem cat_runOf (x : Vw) (s f t : Int) : cat (runOf x s f t) = if x.o = true then Let.cut x.L (clampI (f - s) x.pc.wide) (clampI (t - s) x.pc.wide) else [] := by
  unfold runOf
  split
  · rename_i h
    rw [h, cut_none]
    simp [cat]
  · simp [cat]
theorem run_before : ∀ (V : List Vw) (s f t : Int), f ≤ s → t ≤ s → runL V s f t = []
  | [], _, _, _, _, _ => rfl
  | x :: r, s, f, t, h1, h2 => by
    have wp := wide_pos x
    rw [runL, run_before r _ f t (by omega) (by omega), List.append_nil]
    unfold runOf
    rw [if_pos]
    unfold clampI
    omega
theorem run_meet : ∀ (V : List Vw) (s f m t : Int), f ≤ m → m ≤ t → cat (runL V s f m) ++ cat (runL V s m t) = cat (runL V s f t)
  | [], _, _, _, _, _, _ => rfl
  | x :: r, s, f, m, t, h1, h2 => by
    have ih := run_meet r (s + x.pc.wide) f m t h1 h2
    have wp := wide_pos x
    by_cases hm : m ≤ s + x.pc.wide
    · by_cases hf : f ≤ s + x.pc.wide
      · have e := run_before r (s + x.pc.wide) f m hf hm
        rw [e] at ih
        simp only [runL, cat_app, cat_runOf, e, ← ih]
        have hn : cat [] = [] := rfl
        rw [hn, List.append_nil, List.nil_append, ← List.append_assoc]
        congr 1
        cases x.o with
        | false => rfl
        | true =>
          simp only [if_true]
          exact cut_join _ (by unfold clampI; omega) (by unfold clampI; omega)
      · omega
    · have e1 : clampI (m - s) x.pc.wide = clampI (t - s) x.pc.wide := by unfold clampI; omega
      simp only [runL, cat_app, cat_runOf, ← ih, e1, cut_none]
      cases x.o <;> simp
theorem run_whole : ∀ (V : List Vw) (s f t : Int), f ≤ s → s + wid (V.map Vw.pc) ≤ t → cat (runL V s f t) = flat V ∧ shut (runL V s f t) = shutV V
  | [], _, _, _, _, _ => ⟨rfl, rfl⟩
  | x :: r, s, f, t, h1, h2 => by
    have wp := wide_pos x
    have wr := wid_pos r
    rw [List.map_cons, widc] at h2
    obtain ⟨i1, i2⟩ := run_whole r (s + x.pc.wide) f t (by omega) (by omega)
    have c1 : clampI (f - s) x.pc.wide = 0 := by unfold clampI; omega
    have c2 : clampI (t - s) x.pc.wide = x.pc.wide := by unfold clampI; omega
    refine ⟨?_, ?_⟩
    · rw [runL, cat_app, cat_runOf, i1, c1, c2, flat_cons]
      congr 1
      cases h : x.o with
      | true => rw [wide_open h, if_pos rfl, if_pos rfl, cut_all]
      | false => rfl
    · rw [runL, shut_app, i2]
      unfold runOf
      rw [c1, c2]
      show _ = shutV ([x] ++ r)
      unfold shutV
      rw [List.filter_append, List.length_append]
      congr 1
      cases h : x.o with
      | true =>
        split <;> simp [shut, h]
      | false =>
        rw [wide_shut h]
        simp [shut, h]
theorem runs_all (V : List Vw) (h : wid (V.map Vw.pc) ≤ 200) : cat (runs V 0 (wid (V.map Vw.pc))) = flat V ∧ shut (runs V 0 (wid (V.map Vw.pc))) = shutV V := by
  have wp := wid_pos V
  unfold runs
  have e1 : clampI 0 (wid (V.map Vw.pc)) = 0 := by unfold clampI; omega
  have e2 : clampI (wid (V.map Vw.pc)) 200 = wid (V.map Vw.pc) := by unfold clampI; omega
  rw [e1, e2]
  exact run_whole V 0 0 _ (Int.le_refl _) (Int.le_refl _)
theorem runs_two (V : List Vw) (h : wid (V.map Vw.pc) ≤ 200) {a : Int} (h1 : 0 ≤ a) (h2 : a ≤ wid (V.map Vw.pc)) : cat (runs V 0 a) ++ cat (runs V a (wid (V.map Vw.pc) - a)) = flat V := by
  unfold runs
  have e1 : clampI 0 (wid (V.map Vw.pc)) = 0 := by unfold clampI; omega
  have e2 : clampI a 200 = a := by unfold clampI; omega
  have e3 : clampI a (wid (V.map Vw.pc)) = a := by unfold clampI; omega
  have e4 : clampI (wid (V.map Vw.pc) - a) 200 = wid (V.map Vw.pc) - a := by unfold clampI; omega
  rw [e1, e2, e3, e4, Int.zero_add, run_meet V 0 0 a _ h1 (by omega)]
  exact (run_whole V 0 0 _ (Int.le_refl _) (by omega)).1
theorem run_short : ∀ (V : List Vw) (s f t : Int), (cat (runL V s f t)).length ≤ (flat V).length
  | [], _, _, _ => Nat.le_refl _
  | x :: r, s, f, t => by
    have ih := run_short r (s + x.pc.wide) f t
    rw [runL, cat_app, cat_runOf, flat_cons, List.length_append, List.length_append]
    have : (if x.o = true then Let.cut x.L (clampI (f - s) x.pc.wide) (clampI (t - s) x.pc.wide) else []).length ≤ (if x.o = true then x.L else []).length := by
      cases x.o with
      | true => exact cut_short _ _ _
      | false => exact Nat.le_refl _
    omega
theorem runs_short (V : List Vw) (a n : Int) : (cat (runs V a n)).length ≤ (flat V).length := run_short V _ _ _
theorem runs_few (V : List Vw) (a n : Int) : (runs V a n).length ≤ V.length := run_len V _ _ _
theorem flat_len (o : Int → Bool) {N : Nat} : ∀ {G : List G5}, (∀ g ∈ G, g.L.length ≤ N) → (flat (G.map (vw o))).length ≤ G.length * N
  | [], _ => by simp [flat]
  | g :: r, h => by
    have ih := flat_len o (G := r) fun g hg => h g (List.mem_cons_of_mem _ hg)
    have h0 := h g List.mem_cons_self
    rw [List.map_cons, flat_cons, List.length_append, List.length_cons, Nat.succ_mul]
    have : (if (vw o g).o = true then (vw o g).L else []).length ≤ g.L.length := by
      unfold vw
      cases o g.l <;> simp
    omega

/-! letter by letter -/
theorem seen_iff {j a n W : Int} (h0 : 0 ≤ j) (h1 : j < W) : (max a 0 ≤ j ∧ j - max a 0 < min n 200) ↔ (clampI a W ≤ j ∧ j < clampI a W + clampI n 200) := by
  unfold clampI
  omega
/-- What was seen of the first k letters of a piece. -/
def part (o : Bool) (L : List UInt8) (lo hi : Int) (k : Nat) : List UInt8 := if o = true then Let.cut L (min lo k) (min hi k) else []
def some_ (lo hi : Int) (k : Nat) : Bool := decide (min lo (k : Int) < min hi (k : Int))
theorem part_zero (o : Bool) (L : List UInt8) {lo hi : Int} (h1 : 0 ≤ lo) (h2 : lo ≤ hi) : part o L lo hi 0 = [] := by
  unfold part
  rw [show min lo ((0 : Nat) : Int) = min hi ((0 : Nat) : Int) by omega, cut_none]
  cases o <;> rfl
theorem some_zero {lo hi : Int} (h1 : 0 ≤ lo) (h2 : lo ≤ hi) : some_ lo hi 0 = false := decide_eq_false (by omega)
theorem part_in (L : List UInt8) {lo hi : Int} {k : Nat} (h1 : lo ≤ k) (h2 : (k : Int) < hi) : part true L lo hi (k + 1) = part true L lo hi k ++ Let.cut L k (k + 1) := by
  unfold part
  simp only [if_true]
  rw [show min lo ((k + 1 : Nat) : Int) = lo by omega, show min hi ((k + 1 : Nat) : Int) = (k : Int) + 1 by omega, show min lo (k : Int) = lo by omega, show min hi (k : Int) = k by omega, cut_join _ h1 (by omega)]
theorem some_in {lo hi : Int} {k : Nat} (h1 : lo ≤ k) (h2 : (k : Int) < hi) : some_ lo hi (k + 1) = true := decide_eq_true (by omega)
theorem part_out (o : Bool) (L : List UInt8) {lo hi : Int} {k : Nat} (h0 : lo ≤ hi) (h : ¬ (lo ≤ k ∧ (k : Int) < hi)) : part o L lo hi (k + 1) = part o L lo hi k ∧ some_ lo hi (k + 1) = some_ lo hi k := by
  unfold part some_
  by_cases h1 : lo ≤ k
  · rw [show min lo ((k + 1 : Nat) : Int) = min lo (k : Int) by omega, show min hi ((k + 1 : Nat) : Int) = min hi (k : Int) by omega]
    exact ⟨rfl, rfl⟩
  · rw [show min lo ((k + 1 : Nat) : Int) = min hi ((k + 1 : Nat) : Int) by omega, show min lo (k : Int) = min hi (k : Int) by omega, cut_none, cut_none]
    refine ⟨rfl, ?_⟩
    rw [decide_eq_false (by omega), decide_eq_false (by omega)]
theorem part_end (x : Vw) (s f t : Int) (h : f ≤ t) {n : Nat} (hn : x.pc.wide = n) :
    runOf x s f t = if some_ (clampI (f - s) x.pc.wide) (clampI (t - s) x.pc.wide) n = true then [⟨x.i, x.l, x.o, part x.o x.L (clampI (f - s) x.pc.wide) (clampI (t - s) x.pc.wide) n⟩] else [] := by
  have a1 : clampI (f - s) (n : Int) ≤ n := by unfold clampI; omega
  have a2 : clampI (t - s) (n : Int) ≤ n := by unfold clampI; omega
  have a3 : clampI (f - s) (n : Int) ≤ clampI (t - s) n := by unfold clampI; omega
  unfold runOf part some_
  rw [hn]
  generalize clampI (f - s) (n : Int) = p at *
  generalize clampI (t - s) (n : Int) = q at *
  rw [show min p (n : Int) = p by omega, show min q (n : Int) = q by omega]
  by_cases e : p = q
  · rw [if_pos e, decide_eq_false (by omega)]
    rfl
  · rw [if_neg e, decide_eq_true (by omega)]
    rfl
/-- One letter, as a text. -/
theorem enc_eq (r : Nat) : (Utf8.encode (r : Int)).data.toList = encodeRune (r : Int) := by
  unfold encodeRune
  rw [← Go.Extern.FmtText.encode_eq r]
  unfold Go.Extern.FmtText.nums
  rw [List.map_map]
  conv => lhs; rw [← List.map_id (Utf8.encode (r : Int)).data.toList]
  apply List.map_congr_left
  intro x _
  simp
theorem letter_cut {L : List UInt8} (hr : Let.right L = true) {k : Nat} (hk : k < Let.cnt L) : encodeRune (((Let.lets L)[k]'hk : Nat) : Int) = Let.cut L k (k + 1) := by
  have hb := Let.byt_lt hk
  have hne : L.drop (Let.byt k L) ≠ [] := by
    intro e
    have h3 := congrArg List.length e
    rw [List.length_drop, List.length_nil] at h3
    omega
  have hg := ((Let.right_step _ hne).1 (Let.right_drop k L hr)).1
  rw [Con.letter_at L k hk, encode_decode _ hne hg]
  unfold Let.cut
  rw [show ((k : Int) + 1).toNat = k + 1 by omega, Int.toNat_natCast, Let.byt_succ k L hb, List.drop_take]
  congr 1
  omega
end Go.Proofs.YtcpdoicbekcpeaaDoor.Vi
