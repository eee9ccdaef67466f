/- Contract: slices.SortFunc over sites by order, for a row of the call's own. Contract: slices.Compact over sites, for a row of the call's own. Contract: slices.Compact over sites, for a row of the call's own: the walk. Contract: takeSites of the program. Contract: Take of the program. -/
import Derived.Test.YtcpdoicbekcpeaaDoorQb
import Derived.Lib.SlicesCompact
import Derived.Deep.LoopGhost
import Derived.Lib.SliceRun
import Derived.IntWalk
import Derived.Test.YtcpdoicbekcpeaaDoorQP2
set_option linter.unusedVariables false
set_option maxRecDepth 100000
namespace Go.Proofs.YtcpdoicbekcpeaaDoor.Rig
open Go.RowKit Go.Lib Go.Proofs.YtcpdoicbekcpeaaDoor.Rt
open Go.Sort (HoldsK putRowK flatK SWO PermIn SortedIn grow onCells mapBlock putRow)

theorem own_mk {T : TypeId} {base g cap n k : Nat} {w : World} {cur : Array Value} {zs : List Int} (hb : base ≤ g) (hblk : w.heap[g]? = some (.cells cur T (0, 0))) (hsz : cur.size = cap * k) (hle : n ≤ cap) (hm : cap ≤ maxLen) (hl : zs.length = n * k) (hi : ∀ x ∈ zs, i64 x)
    (hc : ∀ j, j < n * k → w.cell? ⟨g, j, none⟩ = some (.int .i64 (at_ zs j))) : OwnF T base w (.slice (some ⟨g, 0, none⟩) n cap) n k zs := by
  refine ⟨⟨by rw [ints_len, hl], .inr ⟨g, cap, cur, rfl, hb, hblk, hle, hm, hsz, ?_⟩⟩, hi⟩
  have h1 : n * k ≤ cap * k := Nat.mul_le_mul_right k hle
  apply List.ext_getElem?
  intro j
  by_cases h : j < n * k
  · have := hc j h
    rw [cell_of_row _ _ _ _ _ _ hblk] at this
    rw [List.getElem?_take_of_lt h, Array.getElem?_toList, this, ints_get (by omega)]
  · rw [List.getElem?_eq_none (by rw [List.length_take, Array.length_toList]; omega), List.getElem?_eq_none (by rw [ints_len]; omega)]

def encS (x : St) : List Value := [.int .i64 x.m, .int .i64 x.a]
instance : Inhabited St := ⟨St.z⟩
theorem arr_get (L : List St) {i : Nat} (h : i < L.length) : L.toArray[i]! = st L i := by
  rw [st_get h, getElem!_pos _ i (by simpa using h)]
  simp
theorem flat_get (L : List St) {t : Nat} (h : t < L.length * 2) : (flatK encS 2 L.toArray)[t]! = .int .i64 (at_ (fl2 L) t) := by
  rw [Go.Sort.get_flatK _ _ _ _ (by simpa using h)]
  obtain ⟨i, r, hi, hr, rfl, e⟩ := at_fl2 L h
  rw [e, show (i * 2 + r) / 2 = i by omega, show (i * 2 + r) % 2 = r by omega, arr_get L hi]
  rcases (show r = 0 ∨ r = 1 by omega) with rfl | rfl <;> rfl
theorem own_holds {base g cap : Nat} {w : World} {L : List St} (h : OwnSt base w (.slice (some ⟨g, 0, none⟩) L.length cap) L) : HoldsK encS 2 w g 0 L.toArray := by
  intro j hj
  rw [Go.Sort.size_flatK] at hj
  have hj' : j < L.length * 2 := by simpa using hj
  rw [flat_get L hj', Nat.zero_add]
  refine ⟨?_, World.ownsRow.frozenAt h.1 _⟩
  exact World.ownsRow.cells h.1 (g := g) rfl j (.int .i64 (at_ (fl2 L) j)) (ints_get (by rw [fl2_len]; exact hj')) |> fun h => by
    have hadd : (⟨g, 0, none⟩ : Addr).add j = ⟨g, j, none⟩ := by unfold Addr.add; split <;> simp_all
    rwa [hadd] at h
theorem sort_block {w : World} {g m : Nat} {d : Array St} {os : Array Obj} {cur : Array Value} {e : TypeId} (h : w.heap[g]? = some (.cells cur e (0, 0))) : ∃ cur', (sortWorldK encS 2 w g 0 m d os).heap[g]? = some (.cells cur' e (0, 0)) ∧ cur'.size = cur.size := by
  have hlt : g < w.heap.size := (Array.getElem?_eq_some_iff.1 h).1
  refine ⟨Go.Sort.putCells id 0 (flatK encS 2 d) cur, ?_, by simp [Go.Sort.putCells]⟩
  show (w.heap.modify g (onCells _) ++ os)[g]? = _
  rw [Array.getElem?_append_left (by simpa using hlt), Array.getElem?_modify, if_pos rfl, h]
  rfl
theorem sort_grown (w : World) (g m : Nat) (d : Array St) (os : Array Obj) : w.grownBy (sortWorldK encS 2 w g 0 m d os) (some g) := by
  refine ⟨rfl, rfl, rfl, ?_, fun k hk hne => ?_⟩
  · show _ ≤ (w.heap.modify g (onCells _) ++ os).size
    simp
  · show (w.heap.modify g (onCells _) ++ os)[k]? = _
    rw [Array.getElem?_append_left (by simpa using hk), Array.getElem?_modify, if_neg (fun e => hne (by rw [e]))]

instance (x y : St) : Decidable (ltS x y) := by unfold ltS; infer_instance
theorem lt_ord (x y : St) : ltOf ordI x y = decide (ltS x y) := by
  unfold ltOf
  have := ordI_neg x y
  by_cases h : ltS x y
  · rw [decide_eq_true h, decide_eq_true (this.2 h)]
  · rw [decide_eq_false h, decide_eq_false (fun hc => h (this.1 hc))]
theorem swoS : SWO (ltOf ordI) where
  irrefl x := by rw [lt_ord]; exact decide_eq_false ltS_irrefl
  trans x y z h1 h2 := by
    rw [lt_ord, decide_eq_true_iff] at *
    exact ltS_trans h1 h2
  ntrans x y z h1 h2 := by
    rw [lt_ord, decide_eq_false_iff_not] at *
    unfold ltS gtS at *
    omega
/-- The row is sorted: the same sites, none ahead of one that stands ahead of it. -/
def Sorted (base : Nat) (w : World) (v : Value) (L : List St) (e : Ending) (w' : World) : Prop := e = .returned (.tuple #[]) ∧ ∃ L' : List St, L'.length = L.length ∧ (∀ x, x ∈ L' ↔ x ∈ L) ∧ (∀ i j, i < j → j < L'.length → ¬ ltS (st L' j) (st L' i)) ∧ OwnSt base w' v L' ∧ w.grownBy w' v.ownBlock
theorem sort_any {base : Nat} {v : Value} {L : List St} (w : World) (h : OwnSt base w v L) (hn : L.length ≤ 100000) :
    Calls Tryd.prog 141 #[v, .func (.func 131) #[] #[]] w (Sorted base w v L) := by
  rcases h.1.2 with ⟨rfl, h0⟩ | ⟨g, cap, cur, rfl, hb, hg, hle, hm, hsz, htake⟩
  · refine (AnyF.slices_SortFunc_none Tryd.sortSt none 0 _ w).mono ?_
    rintro e w' ⟨rfl, rfl⟩
    exact ⟨rfl, L, rfl, fun _ => Iff.rfl, fun i j _ hj => absurd hj (by omega), h, grown_below (Below.refl _ _) _⟩
  · have eg : ∀ args w, (callFunc 131 args).run Tryd.prog w = .ok (.enter 131 args) w := enters_of Tryd.func131 (by kernel_rfl) rfl
    have hcon := AnyQ.slices_SortFunc Tryd.sortSt 2 Tryd.isAgg148 Tryd.sizeOf148 encS (fun _ => rfl) (fun x u hu => by simp [encS] at hu; rcases hu with rfl | rfl <;> rfl) ordI swoS 131 #[] g 0 cap L.toArray w eg
      (fun _ _ _ _ x y => order_any x y _) (own_holds h) ((Array.getElem?_eq_some_iff.1 hg).1) (by simp; omega)
    rw [List.size_toArray] at hcon
    refine hcon.mono ?_
    rintro e w' ⟨rfl, d', n, os, ⟨hp1, _, hp3⟩, hs, rfl⟩
    have hsd : d'.toList.length = L.length := by rw [Array.length_toList, hp1, List.size_toArray]
    have hH := Go.Proofs.holdsK_sortWorldK_c encS 2 w g 0 L.toArray d' n os (own_holds h) ((Array.getElem?_eq_some_iff.1 hg).1) hp1
    have hperm : d'.toList.Perm L := by
      rw [Array.extract_eq_self_of_le (by rw [hp1, List.size_toArray]; exact Nat.le_refl _), Array.extract_eq_self_of_le (by rw [List.size_toArray]; exact Nat.le_refl _)] at hp3
      simpa using hp3
    obtain ⟨cur', hg', hs'⟩ := sort_block (m := n) (d := d') (os := os) hg
    have hmem : ∀ x, x ∈ d'.toList ↔ x ∈ L := fun x => hperm.mem_iff
    refine ⟨rfl, d'.toList, hsd, hmem, fun i j hij hj => ?_, ?_, sort_grown _ _ _ _ _⟩
    · have := hs i j (Nat.zero_le _) hij (by omega)
      rw [lt_ord, decide_eq_false_iff_not] at this
      rw [st_get hj, st_get (by omega)]
      rwa [getElem!_pos d' j (by rw [Array.length_toList] at hj; exact hj), getElem!_pos d' i (by rw [Array.length_toList] at hj; omega)] at this
    · have hgood : ∀ x ∈ fl2 d'.toList, i64 x := fun x hx => by
        unfold fl2 at hx
        rw [List.mem_flatMap] at hx
        obtain ⟨y, hy, hx⟩ := hx
        refine h.2 x ?_
        unfold fl2
        exact List.mem_flatMap.2 ⟨y, (hmem y).1 hy, hx⟩
      have hk : OwnF 148 base (sortWorldK encS 2 w g 0 n d' os) (.slice (some ⟨g, 0, none⟩) L.length cap) L.length 2 (fl2 d'.toList) := by
        refine own_mk hb hg' (by rw [hs', hsz]) hle hm (by rw [fl2_len, hsd]) hgood fun j hj => ?_
        have := (hH j (by rw [Go.Sort.size_flatK, hp1, List.size_toArray]; exact hj)).1
        rw [Nat.zero_add] at this
        rw [this]
        have e := flat_get d'.toList (t := j) (by rw [hsd]; exact hj)
        rw [Array.toArray_toList] at e
        rw [e]
        rfl
      show OwnF _ _ _ _ _ _ _
      rw [hsd]
      exact hk
end Go.Proofs.YtcpdoicbekcpeaaDoor.Rig

namespace Go.Proofs.YtcpdoicbekcpeaaDoor.Rig
open Go.RowKit Go.Lib Go.Proofs.YtcpdoicbekcpeaaDoor.Rt

theorem fl2_set : ∀ (S : List St) (j : Nat) (x : St), j < S.length → ((fl2 S).set (j * 2) x.m).set (j * 2 + 1) x.a = fl2 (S.set j x)
  | [], j, x, h => by simp at h
  | s :: S, 0, x, h => rfl
  | s :: S, j + 1, x, h => by
    have ih := fl2_set S j x (by simpa using h)
    have e : fl2 (s :: S) = s.m :: s.a :: fl2 S := rfl
    rw [e, show (j + 1) * 2 = j * 2 + 1 + 1 by omega, List.set_cons_succ, List.set_cons_succ, List.set_cons_succ, List.set_cons_succ, ih]
    rfl
theorem OwnSt.set_ {base g cap n : Nat} {w : World} {S : List St} (hn : n = S.length) (h : OwnSt base w (.slice (some ⟨g, 0, none⟩) n cap) S) {j : Nat} (hj : j < S.length) {x : St} (hx : St.good x) :
    OwnSt base ((w.setCell ⟨g, j * 2, none⟩ (.int .i64 x.m)).setCell ⟨g, j * 2 + 1, none⟩ (.int .i64 x.a)) (.slice (some ⟨g, 0, none⟩) n cap) (S.set j x) := by
  subst hn
  obtain ⟨h1, h2⟩ := h
  have q := (World.ownsRow.stored (World.ownsRow.stored h1 (j * 2) (.int .i64 x.m)).1 (j * 2 + 1) (.int .i64 x.a)).1
  rw [ints_set, ints_set, fl2_set S j x hj] at q
  refine ⟨by rw [List.length_set]; exact q, fun y hy => ?_⟩
  rw [← fl2_set S j x hj] at hy
  rcases List.mem_or_eq_of_mem_set hy with hy | rfl
  · rcases List.mem_or_eq_of_mem_set hy with hy | rfl
    · exact h2 y hy
    · exact hx.1
  · exact hx.2
def cmpL (L : List St) : List St := compactUpTo L.toArray L.length
theorem cmpL_ok {L : List St} (hs : ∀ i j, i < j → j < L.length → ¬ ltS (st L j) (st L i)) : Up (cmpL L) ∧ ∀ x, x ∈ cmpL L ↔ x ∈ L := by
  have hk : ∀ j, j < L.length → keeps L.toArray j = true → 0 < j → ltS (st L (j - 1)) (st L j) := fun j hj h h0 => by
    unfold keeps at h
    rw [decide_eq_true_iff, arr_get L hj, arr_get L (show j - 1 < L.length by omega)] at h
    rcases h with h | h
    · omega
    · by_cases q : ltS (st L (j - 1)) (st L j)
      · exact q
      · exact absurd (ltS_or (hs (j - 1) j (by omega) hj) q) h
  constructor
  · unfold cmpL compactUpTo Up
    rw [List.pairwise_map, List.pairwise_filter]
    have hr : (List.range L.length).Pairwise fun a b => a < b ∧ b < L.length := by
      rw [List.pairwise_iff_getElem]
      intro i j hi hj hij
      rw [List.getElem_range, List.getElem_range]
      exact ⟨hij, by simpa using hj⟩
    refine hr.imp ?_
    rintro i j ⟨hij, hj⟩ _ hkj
    rw [arr_get L hj, arr_get L (by omega)]
    have h1 := hk j hj hkj (by omega)
    by_cases e : i = j - 1
    · rw [e]; exact h1
    · have h2 := hs i (j - 1) (by omega) (by omega)
      unfold ltS gtS at *
      omega
  · intro x
    have key : ∀ j, j < L.length → st L j ∈ cmpL L := by
      intro j
      induction j with
      | zero =>
        intro h
        unfold cmpL compactUpTo
        refine List.mem_map.2 ⟨0, List.mem_filter.2 ⟨List.mem_range.2 h, rfl⟩, arr_get L h⟩
      | succ j ih =>
        intro h
        by_cases q : keeps L.toArray (j + 1) = true
        · unfold cmpL compactUpTo
          exact List.mem_map.2 ⟨j + 1, List.mem_filter.2 ⟨List.mem_range.2 h, q⟩, arr_get L h⟩
        · unfold keeps at q
          rw [decide_eq_true_iff, arr_get L h, show j + 1 - 1 = j by omega, arr_get L (show j < L.length by omega)] at q
          have e : st L (j + 1) = st L j := by
            by_cases e : st L (j + 1) = st L j
            · exact e
            · exact absurd (.inr e) q
          rw [e]
          exact ih (by omega)
    constructor
    · intro h
      unfold cmpL compactUpTo at h
      obtain ⟨j, hj, rfl⟩ := List.mem_map.1 h
      have hj' := List.mem_range.1 (List.mem_filter.1 hj).1
      rw [arr_get L hj', st_get hj']
      exact List.getElem_mem hj'
    · intro h
      obtain ⟨j, hj, rfl⟩ := mem_st.1 h
      exact key j hj
end Go.Proofs.YtcpdoicbekcpeaaDoor.Rig

namespace Go.Proofs.YtcpdoicbekcpeaaDoor.Rig
open Go.RowKit Go.Lib Go.Proofs.YtcpdoicbekcpeaaDoor.Rt

theorem run_clear_sites (w : World) (ty : TypeId) (b o n c : Nat) (hn : 0 < n) (hc : ∀ j, j < n * 2 → (w.cell? ⟨b, o + j, none⟩).isSome = true) (hf : ∀ j, j < n * 2 → w.frozen? ⟨b, o + j, none⟩ = false) :
    (Builtin.clear_ #[23] ty #[.slice (some ⟨b, o, none⟩) n c]).run Tryd.prog w = .ok (.tuple #[]) (w.setCells b o (List.replicate (n * 2) (.int .i64 0))) := by
  have hzc : (Builtin.zeroCells (Value.agg #[.int .i64 0, .int .i64 0]).cells n).toList = List.replicate (n * 2) (.int .i64 0) := by
    have e : (Value.agg #[.int .i64 0, .int .i64 0]).cells = #[.int .i64 0, .int .i64 0] := rfl
    rw [e]
    simp only [Builtin.zeroCells]
    apply List.ext_getElem
    · simp
    · intro i h1 h2
      simp only [Array.toList_map, Array.toList_range, List.getElem_map, List.getElem_range, List.getElem_replicate]
      rcases (show i % 2 = 0 ∨ i % 2 = 1 by omega) with h | h
      · show (#[Value.int .i64 0, Value.int .i64 0] : Array Value)[i % 2]! = _
        rw [h]; rfl
      · show (#[Value.int .i64 0, Value.int .i64 0] : Array Value)[i % 2]! = _
        rw [h]; rfl
  have hv : ∀ w, (zeroValue 148).run Tryd.prog w = .ok (.agg #[.int .i64 0, .int .i64 0]) w := Tryd.zeroValue148
  have hst := run_storeCells_cells (P := Tryd.prog) b o (List.replicate (n * 2) (.int .i64 0)) 0 w (by simpa using hc) (by simpa using hf) (by intro v hv'; rw [List.eq_of_mem_replicate hv']; rfl)
  simp only [Nat.add_zero] at hst
  obtain ⟨m, rfl⟩ : ∃ m, n = m + 1 := ⟨n - 1, by omega⟩
  simp [Builtin.clear_, run_underlying Tryd.underlying23, hv, hzc, hst]

/-- It hands sites back, in the row that came in. -/
def Compacted (w : World) (v : Value) (U : List St) (e : Ending) (w' : World) : Prop := ∃ v', e = .returned v' ∧ Sites w' v' U ∧ w.grownBy w' v.ownBlock
theorem cmpL_all {L : List St} (h : ∀ j, j < L.length → keeps L.toArray j = true) : cmpL L = L := by
  unfold cmpL
  have e := range_map_get L.toArray
  rw [List.size_toArray] at e
  rw [compactUpTo_all _ _ h, e]
theorem st_arr {d : Array St} {i : Nat} (h : i < d.size) : st d.toList i = d[i]! := by
  rw [st_get (by simpa using h), getElem!_pos d i h]
  simp
theorem low_take {L : List St} {d : Array St} {kk : Nat} (h : CompInv L.toArray L.length kk d) : d.toList.take kk = cmpL L := by
  have hs : d.size = L.length := by rw [h.size, List.size_toArray]
  have hl := h.len
  have hlt := h.lt
  apply List.ext_getElem?
  intro j
  by_cases hj : j < kk
  · rw [List.getElem?_take_of_lt hj]
    show _ = (compactUpTo L.toArray L.length)[j]?
    rw [h.low j hj, List.getElem?_eq_getElem (by rw [Array.length_toList]; omega), Array.getElem_toList, getElem!_pos d j (by omega)]
  · rw [List.getElem?_eq_none (by rw [List.length_take]; omega), List.getElem?_eq_none (by show (compactUpTo L.toArray L.length).length ≤ j; omega)]
theorem cmp_done {w W : World} {base g cap kk n : Nat} {L : List St} {d : Array St} (hn : n = L.length) (h : OwnSt base W (.slice (some ⟨g, 0, none⟩) n cap) d.toList) (hI : CompInv L.toArray L.length kk d) (hg : w.grownBy W (some g)) (m : Nat) :
    Compacted w (.slice (some ⟨g, 0, none⟩) n cap) (cmpL L) (.returned (.slice (some ⟨g, 0, none⟩) kk cap)) (W.setCells g (kk * 2) (List.replicate m (.int .i64 0))) := by
  subst hn
  have hs : d.size = L.length := by rw [hI.size, List.size_toArray]
  have hlt := hI.lt
  have hkk : kk < L.length := hlt
  have hcap : L.length ≤ cap ∧ cap ≤ maxLen ∧ g < W.heap.size := by
    rcases h.1.2 with ⟨hc, _⟩ | ⟨g', cap', cur, hv, _, hgg, hle, hm, _⟩
    · cases hc
    · injection hv with h1 _ h3
      subst h3
      injection h1 with h1
      injection h1 with h1 _
      subst h1
      exact ⟨by omega, hm, (Array.getElem?_eq_some_iff.1 hgg).1⟩
  refine ⟨_, rfl, ?_, grown_trans hg (setCells_grown _ _ _)⟩
  rw [← low_take hI]
  obtain ⟨a, c, hv, hle, hm, hq⟩ := h.sites.open_
  injection hv with e1 e2 e3
  subst e1 e3
  refine sites_mk (by rw [List.length_take, Array.length_toList]; omega) (by omega) hcap.2.1 (fun i hi => ?_) (fun _ => ?_)
  · obtain ⟨b, off, e, hb, hgood, c0, c1⟩ := hq i (by rw [Array.length_toList]; omega)
    injection e with e
    injection e with e1 e2
    subst e1 e2
    have e4 : st (d.toList.take kk) i = st d.toList i := by
      unfold st
      rw [List.getD_eq_getElem?_getD, List.getD_eq_getElem?_getD, List.getElem?_take_of_lt hi]
    rw [e4]
    refine ⟨hgood, ?_, ?_⟩
    · rw [World.cell?_setCells_out _ _ _ _ _ (fun _ _ => .inl (by show 0 + i * 2 < kk * 2; omega))]
      exact c0
    · rw [World.cell?_setCells_out _ _ _ _ _ (fun _ _ => .inl (by show 0 + i * 2 + 1 < kk * 2; omega))]
      exact c1
  · have := (setCells_grown (g := g) (List.replicate m (.int .i64 0)) (kk * 2) W).size
    omega

set_option maxRecDepth 100000 in
set_option maxHeartbeats 16000000 in
theorem compact_any {base : Nat} {v : Value} {L : List St} (w : World) (h : OwnSt base w v L) (hn : L.length ≤ 100000) :
    Calls Tryd.prog 142 #[v] w (Compacted w v (cmpL L)) := by
  obtain ⟨ao, co, rfl⟩ := h.is_slice
  by_cases h2 : L.length < 2
  · have HF : Hid (Compacted w (.slice ao L.length co) (cmpL L) (.returned (.slice ao L.length co)) w) := by
      refine ⟨_, rfl, ?_, grown_below (Below.refl _ _) _⟩
      rw [cmpL_all (fun j hj => keeps_lt_one _ j (by omega))]
      exact h.sites
    generalize cmpL L = U at *
    clear h
    generalize L.length = n at *
    go_enter Tryd.func142, Tryd.ntmps142
    go_wp2
    go_ret
    exact HF.out
  · obtain ⟨g, rfl⟩ : ∃ g, ao = some ⟨g, 0, none⟩ := by
      rcases h.1.2 with ⟨_, h0⟩ | ⟨g, cap', cur, hv, _⟩
      · omega
      · injection hv with hv
        exact ⟨g, hv⟩
    obtain ⟨a, c, hv, hle, hm, hq⟩ := h.sites.open_
    injection hv with e1 _ e3
    subst e1 e3
    have HQ : Hid (∀ j, j < L.length → ∃ m a, st L j = ⟨m, a⟩ ∧ i64 m ∧ i64 a ∧ g < w.heap.size ∧ w.cell? ⟨g, j * 2, none⟩ = some (.int .i64 m) ∧ w.cell? ⟨g, j * 2 + 1, none⟩ = some (.int .i64 a)) := fun j hj => by
      obtain ⟨b, off, e, hb, ⟨g1, g2⟩, c0, c1⟩ := hq j hj
      injection e with e
      injection e with e1 e2
      subst e1 e2
      rw [Nat.zero_add] at c0 c1
      exact ⟨_, _, rfl, g1, g2, hb, c0, c1⟩
    have HO := Lib.hid h
    have ALL : Hid ((∀ j, j < L.length → keeps L.toArray j = true) → cmpL L = L) := cmpL_all
    have AG := Lib.hid (fun j (hj : j < L.length) => arr_get L hj)
    obtain ⟨n, hnn⟩ : ∃ n, n = L.length := ⟨_, rfl⟩
    have HN := Lib.hid hnn
    rw [← hnn] at h2 hle HO hn ⊢
    have GT := guard_site
    clear h hq hnn
    go_enter Tryd.func142, Tryd.ntmps142
    go_wp2
    go_loopg [3] n (fun gh s3 wr => ∃ k q : Nat, 1 ≤ k ∧ k ≤ n ∧ n - k ≤ gh ∧ s3 = .int .i64 k ∧ wr = w.drewN q ∧ Hid (∀ j, j < k → keeps L.toArray j = true))
    case atStart => exact ⟨1, 0, Nat.le_refl _, by omega, by omega, rfl, rfl, keeps_lt_one _⟩
    case round =>
      obtain ⟨k, q, hk1, hk, hgh, rfl, rfl, hall⟩ := hrel
      by_cases hlt : k < n
      · have hkl : k < L.length := by rw [← HN.out]; exact hlt
        obtain ⟨xm, xa, ex, ⟨x1, x2⟩, ⟨x3, x4⟩, gl, c0, c1⟩ := HQ.out k hkl
        obtain ⟨ym, ya, ey, ⟨y1, y2⟩, ⟨y3, y4⟩, _, c2, c3⟩ := HQ.out (k - 1) (by omega)
        have bq : Below w.heap.size w (w.drewN q) := below_drews (Below.refl _ _) q
        have EX := Lib.hid ((AG.out k hkl).trans ex)
        have EY := Lib.hid ((AG.out (k - 1) (by omega)).trans ey)
        have BQ := Lib.hid bq
        have z1 : IntKind.i64.wrap ((k : Int) - 1) = (k : Int) - 1 := IntWalk.i64_in _ (by omega)
        have z2 : (0 : Int) ≤ (k : Int) := by omega
        have z3 : (k : Int) < (n : Int) := by omega
        have z4 : (0 : Int) ≤ (k : Int) - 1 := by omega
        have z5 : (k : Int) - 1 < (n : Int) := by omega
        have z6 : ((k : Int) - 1).toNat = k - 1 := by omega
        clear ex ey bq
        by_cases hdup : xm = ym ∧ xa = ya
        · obtain ⟨rfl, rfl⟩ := hdup
          have EQL : ∀ w, (binOp .eql 148 (.agg #[.int .i64 xm, .int .i64 xa]) (.agg #[.int .i64 xm, .int .i64 xa])).run Tryd.prog w = .ok (.bool true) w := fun w => by rw [eql_site]; simp
          have HI : Hid (CompInv L.toArray (k + 1) k L.toArray) := CompInv.start hall.out (keeps_neg (by omega) (by rw [EX.out, EY.out]))
          go_wp2_with fail
          go_quiet (fail)
          go_wp2
          clear c0 c1 c2 c3 EQL z1 z2 z3 z4 z5 z6 EX EY x1 x2 x3 x4 y1 y2 y3 y4
          go_loopg [3, 5] n (fun gh s3 s5 wr => ∃ (kk k2 : Nat) (dk : Array St), s3 = .int .i64 kk ∧ s5 = .int .i64 k2 ∧ 1 ≤ k2 ∧ k + k2 ≤ n ∧ n - (k + k2) ≤ gh ∧ Hid (OwnSt base wr (.slice (some ⟨g, 0, none⟩) n co) dk.toList) ∧ Hid (w.grownBy wr (some g)) ∧ Hid (CompInv L.toArray (k + k2) kk dk))
          case atStart => exact ⟨k, 1, L.toArray, rfl, rfl, Nat.le_refl _, by omega, by omega, OwnF.below HO.out (below_drews (Below.refl _ _) _), grown_below (below_drews (Below.refl _ _) _) _, HI.out⟩
          case round =>
            clear HI BQ hall ALL
            obtain ⟨kk, k2, dk, rfl, rfl, h1, hle2, hg2, HK, HG, HC⟩ := hrel
            have hds : dk.size = n := by rw [HC.out.size, List.size_toArray]; exact HN.out.symm
            have hkk : kk < k + k2 := HC.out.lt
            have HKn : Hid (OwnF 148 base wr (.slice (some ⟨g, 0, none⟩) n co) n 2 (fl2 dk.toList)) := by
              have h9 : OwnF 148 base wr (.slice (some ⟨g, 0, none⟩) n co) dk.toList.length 2 (fl2 dk.toList) := HK.out
              rw [Array.length_toList, hds] at h9
              exact h9
            obtain ⟨a', c', hv', _, _, hq'⟩ := HK.out.sites.open_
            injection hv' with e1 e2 e3
            subst e1 e3
            clear e2
            have HQ2 : Hid (∀ j, j < n → ∃ m a, dk[j]! = ⟨m, a⟩ ∧ i64 m ∧ i64 a ∧ wr.cell? ⟨g, j * 2, none⟩ = some (.int .i64 m) ∧ wr.cell? ⟨g, j * 2 + 1, none⟩ = some (.int .i64 a) ∧ wr.frozen? ⟨g, j * 2, none⟩ = false ∧ wr.frozen? ⟨g, j * 2 + 1, none⟩ = false ∧ g < wr.heap.size) := fun j hj => by
              obtain ⟨b, off, e, hb, ⟨g1, g2⟩, c0, c1⟩ := hq' j (by rw [Array.length_toList]; omega)
              injection e with e
              injection e with e1 e2
              subst e1 e2
              rw [Nat.zero_add] at c0 c1
              exact ⟨_, _, (st_arr (d := dk) (by omega)).symm, g1, g2, c0, c1, World.ownsRow.frozenAt HKn.out.1 _, World.ownsRow.frozenAt HKn.out.1 _, hb⟩
            have hm2 : co ≤ 9223372036854775807 := hm
            clear hq'
            by_cases hlt2 : k + k2 < n
            · obtain ⟨um, ua, eu, ⟨u1, u2⟩, ⟨u3, u4⟩, c0, c1, _, _, gw⟩ := HQ2.out (k + k2) hlt2
              obtain ⟨vm, va, ev, ⟨v1, v2⟩, ⟨v3, v4⟩, c2, c3, _, _, _⟩ := HQ2.out (k + k2 - 1) (by omega)
              obtain ⟨om, oa, eo, _, _, c4, c5, f4, f5, _⟩ := HQ2.out kk (by omega)
              clear eo
              have EU := Lib.hid ((HC.out.high (k + k2) (by omega)).symm.trans eu)
              have EV := Lib.hid ((HC.out.high (k + k2 - 1) (by omega)).symm.trans ev)
              rw [show (k + k2) * 2 = k * 2 + k2 * 2 by omega] at c0 c1
              rw [show (k + k2 - 1) * 2 = k * 2 + (k2 - 1) * 2 by omega] at c2 c3
              have z7 : k2 < n - k := by omega
              clear eu ev
              by_cases huv : um = vm ∧ ua = va
              · obtain ⟨rfl, rfl⟩ := huv
                have NEQ : ∀ w, (binOp .neq 148 (.agg #[.int .i64 um, .int .i64 ua]) (.agg #[.int .i64 um, .int .i64 ua])).run Tryd.prog w = .ok (.bool false) w := fun w => by rw [neq_site]; simp
                have HI := Lib.hid (HC.out.skip (keeps_neg (by omega) (by rw [EU.out, EV.out])))
                clear HC EU EV
                go_wp2_with fail
                have z1 : IntKind.i64.wrap ((k2 : Int) - 1) = (k2 : Int) - 1 := IntWalk.i64_in _ (by omega)
                have z2 : (0 : Int) ≤ (k2 : Int) := by omega
                have z3 : (k2 : Int) < ((n - k : Nat) : Int) := by omega
                have z4 : (0 : Int) ≤ (k2 : Int) - 1 := by omega
                have z5 : (k2 : Int) - 1 < ((n - k : Nat) : Int) := by omega
                have z6 : ((k2 : Int) - 1).toNat = k2 - 1 := by omega
                have z10 : n - k ≤ 9223372036854775807 := by omega
                have z11 : k ≤ n := hk
                have z12 : n ≤ co := hle
                have z8 : (0 : Int) ≤ (kk : Int) := by omega
                have z9 : (kk : Int) < (n : Int) := by omega
                go_quiet (fail)
                clear z1 z2 z3 z4 z5 z6 z8 z9 z10 z11 z12
                have z8 : (0 : Int) ≤ (kk : Int) := by omega
                have z9 : (kk : Int) < (n : Int) := by omega
                go_wp2
                go_roundg (n - (k + (k2 + 1)))
                case measure => omega
                case rel => exact ⟨kk, k2 + 1, dk, rfl, by go_num, by omega, by omega, Nat.le_refl _, OwnF.below HK.out (below_drews (Below.refl _ _) _), grown_drews HG.out _, by rw [show k + (k2 + 1) = k + k2 + 1 by omega]; exact HI.out⟩
              · have NEQ : ∀ w, (binOp .neq 148 (.agg #[.int .i64 um, .int .i64 ua]) (.agg #[.int .i64 vm, .int .i64 va])).run Tryd.prog w = .ok (.bool true) w := fun w => by
                  rw [neq_site]
                  have : (um == vm && ua == va) = false := by
                    simp
                    intro h1 h2
                    exact huv ⟨h1, h2⟩
                  rw [this]
                  rfl
                have HI := Lib.hid (HC.out.keep (by rw [List.size_toArray, ← HN.out]; exact hlt2) (keeps_pos (by
                  rw [EU.out, EV.out]
                  intro hc
                  injection hc with h1 h2
                  exact huv ⟨h1, h2⟩)))
                have HS : Hid (∀ q, OwnSt base (((wr.drewN q).setCell ⟨g, kk * 2, none⟩ (.int .i64 um)).setCell ⟨g, kk * 2 + 1, none⟩ (.int .i64 ua)) (.slice (some ⟨g, 0, none⟩) n co) (dk.setIfInBounds kk ⟨um, ua⟩).toList) := fun q => by
                  have h9 : OwnSt base (wr.drewN q) (.slice (some ⟨g, 0, none⟩) n co) dk.toList := OwnF.below HK.out (below_drews (Below.refl _ _) _)
                  have := OwnSt.set_ (x := ⟨um, ua⟩) (by rw [Array.length_toList]; exact hds.symm) h9 (j := kk) (by rw [Array.length_toList]; omega) ⟨⟨u1, u2⟩, ⟨u3, u4⟩⟩
                  rwa [← Array.toList_setIfInBounds] at this
                rw [EU.out] at HI
                clear HC EU EV huv
                go_wp2_with fail
                have z1 : IntKind.i64.wrap ((k2 : Int) - 1) = (k2 : Int) - 1 := IntWalk.i64_in _ (by omega)
                have z2 : (0 : Int) ≤ (k2 : Int) := by omega
                have z3 : (k2 : Int) < ((n - k : Nat) : Int) := by omega
                have z4 : (0 : Int) ≤ (k2 : Int) - 1 := by omega
                have z5 : (k2 : Int) - 1 < ((n - k : Nat) : Int) := by omega
                have z6 : ((k2 : Int) - 1).toNat = k2 - 1 := by omega
                have z10 : n - k ≤ 9223372036854775807 := by omega
                have z11 : k ≤ n := hk
                have z12 : n ≤ co := hle
                have z8 : (0 : Int) ≤ (kk : Int) := by omega
                have z9 : (kk : Int) < (n : Int) := by omega
                go_quiet (fail)
                clear z1 z2 z3 z4 z5 z6 z8 z9 z10 z11 z12
                have z8 : (0 : Int) ≤ (kk : Int) := by omega
                have z9 : (kk : Int) < (n : Int) := by omega
                go_wp2
                go_roundg (n - (k + (k2 + 1)))
                case measure => omega
                case rel => exact ⟨kk + 1, k2 + 1, _, by go_num, by go_num, by omega, by omega, Nat.le_refl _, HS.out _, grown_trans (grown_trans (grown_drews HG.out _) (grown_setCell _ _ _)) (grown_setCell _ _ _), by rw [show k + (k2 + 1) = k + k2 + 1 by omega]; exact HI.out⟩
            · have hend : k + k2 = n := by omega
              have CL : ∀ ty, (Builtin.clear_ #[23] ty #[.slice (some ⟨g, kk * 2, none⟩) (n - kk) (co - kk)]).run Tryd.prog wr = .ok (.tuple #[]) (wr.setCells g (kk * 2) (List.replicate ((n - kk) * 2) (.int .i64 0))) := fun ty => by
                refine run_clear_sites wr ty g (kk * 2) (n - kk) (co - kk) (by omega) (fun j hj => ?_) (fun j hj => ?_)
                · obtain ⟨m, a, _, _, _, c0, c1, _⟩ := HQ2.out (kk + j / 2) (by omega)
                  rcases (show j % 2 = 0 ∨ j % 2 = 1 by omega) with e | e
                  · rw [show kk * 2 + j = (kk + j / 2) * 2 by omega, c0]; rfl
                  · rw [show kk * 2 + j = (kk + j / 2) * 2 + 1 by omega, c1]; rfl
                · exact World.ownsRow.frozenAt HKn.out.1 _
              have FIN := Lib.hid (cmp_done HN.out HK.out (by rw [← HN.out, ← hend]; exact HC.out) HG.out ((n - kk) * 2))
              have z8 : (0 : Int) ≤ (kk : Int) := by omega
              have z9 : (kk : Int) ≤ (n : Int) := by omega
              have y1 : kk ≤ n := by omega
              have y4 : n - k ≤ k2 := by omega
              have y5 : n - k ≤ 9223372036854775807 := by omega
              have y6 : n - kk ≤ 9223372036854775807 := by omega
              have y2 : kk ≤ co := by omega
              have y3 : n ≤ co := hle
              clear HK HG HC HQ2 hend hds
              go_wp2
              go_ret
              exact FIN.out
        · have EQL : ∀ w, (binOp .eql 148 (.agg #[.int .i64 xm, .int .i64 xa]) (.agg #[.int .i64 ym, .int .i64 ya])).run Tryd.prog w = .ok (.bool false) w := fun w => by
            rw [eql_site]
            have : (xm == ym && xa == ya) = false := by
              simp
              intro h1 h2
              exact hdup ⟨h1, h2⟩
            rw [this]
          have HA2 : Hid (∀ j, j < k + 1 → keeps L.toArray j = true) := fun j hj => by
            by_cases e : j = k
            · subst e
              refine keeps_pos ?_
              rw [EX.out, EY.out]
              intro hc
              injection hc with h1 h2
              exact hdup ⟨h1, h2⟩
            · exact hall.out j (by omega)
          clear hdup hall EX EY
          go_wp2_with fail
          go_quiet (fail)
          go_wp2
          go_roundg (n - (k + 1))
          case measure => omega
          case rel => exact ⟨k + 1, _, by omega, by omega, Nat.le_refl _, by go_num, rfl, HA2.out⟩
      · have hk' : k = n := by omega
        have FIN : Hid (Compacted w (.slice (some ⟨g, 0, none⟩) n co) (cmpL L) (.returned (.slice (some ⟨g, 0, none⟩) n co)) (w.drewN q)) := by
          refine ⟨_, rfl, ?_, grown_below (below_drews (Below.refl _ _) _) _⟩
          rw [ALL.out (by rw [← HN.out, ← hk']; exact hall.out)]
          exact (OwnSt.sites HO.out).below (below_drews (Below.refl _ _) q) (Nat.le_refl _)
        clear hk' hall ALL
        go_wp2
        go_ret
        exact FIN.out
end Go.Proofs.YtcpdoicbekcpeaaDoor.Rig

namespace Go.Proofs.YtcpdoicbekcpeaaDoor.Rig
open Go.RowKit Go.Lib Go.Proofs.YtcpdoicbekcpeaaDoor.Rt

def cutL (T : List St) (a b : Int) : List St := T.map (cutS a b)
theorem cutL_take {T : List St} {k : Nat} (a b : Int) (h : k < T.length) : cutL (T.take (k + 1)) a b = cutL (T.take k) a b ++ [cutS a b (st T k)] := by
  unfold cutL
  rw [List.take_succ_eq_append_getElem h, List.map_append, st_get h]
  rfl
theorem cutL_len (T : List St) (a b : Int) : (cutL T a b).length = T.length := List.length_map _
def endL (T : List St) (a b mk : Int) : List St := cutL T a b ++ (if 0 < mk then [⟨mk, a⟩] else [])
theorem take_is {T L' : List St} {a b mk : Int} (hm : ∀ x, x ∈ L' ↔ x ∈ endL T a b mk) (hs : ∀ i j, i < j → j < L'.length → ¬ ltS (st L' j) (st L' i)) : cmpL L' = pTakeT T a b mk := by
  obtain ⟨u1, u2⟩ := cmpL_ok hs
  obtain ⟨p1, p2⟩ := pTakeT_ok T a b mk
  refine up_uniq u1 p1 fun x => ?_
  rw [u2, hm, p2]
  unfold endL cutL
  rw [List.mem_append, List.mem_map]
  constructor
  · rintro (⟨y, hy, rfl⟩ | h)
    · exact .inl ⟨y, hy, rfl⟩
    · by_cases q : 0 < mk
      · rw [if_pos q] at h
        exact .inr ⟨q, by simpa using h⟩
      · rw [if_neg q] at h
        simp at h
  · rintro (⟨y, hy, rfl⟩ | ⟨q, rfl⟩)
    · exact .inl ⟨y, hy, rfl⟩
    · rw [if_pos q]
      exact .inr (by simp)

set_option maxRecDepth 100000 in
set_option maxHeartbeats 16000000 in
theorem takeSites_any {tv : Value} {T : List St} (a b mk : Int) (w : World) (hT : Sites w tv T) (ha : 0 ≤ a ∧ a ≤ 100000) (hb : 0 ≤ b ∧ b ≤ 100000) (hab : a ≤ b) (hmk : i64 mk) (hn : T.length ≤ 10000) (htt : ∀ j, j < T.length → 0 ≤ (st T j).a ∧ (st T j).a ≤ 100000) :
    Calls Tryd.prog 126 #[tv, .int .i64 a, .int .i64 b, .int .i64 mk] w (GivesSt w (pTakeT T a b mk)) := by
  obtain ⟨ta, tc, rfl, hlt, hct, hT1⟩ := hT.open_
  have HT := Lib.hid hT1
  have HTT := Lib.hid htt
  obtain ⟨nt, hnt⟩ : ∃ nt, nt = T.length := ⟨_, rfl⟩
  have ET : Hid (cutL (T.take nt) a b = cutL T a b) := by show _ = _; rw [hnt, List.take_length]
  have HL : Hid ((cutL T a b).length ≤ 10000) := by show _ ≤ _; rw [cutL_len]; exact hn
  rw [← hnt] at hlt hn ⊢
  replace hnt := Lib.hid hnt
  have TI : Hid (∀ L', (∀ x, x ∈ L' ↔ x ∈ endL T a b mk) → (∀ i j, i < j → j < L'.length → ¬ ltS (st L' j) (st L' i)) → cmpL L' = pTakeT T a b mk) := fun L' h1 h2 => take_is h1 h2
  have EE : Hid (endL T a b mk = cutL T a b ++ (if 0 < mk then [⟨mk, a⟩] else [])) := rfl
  obtain ⟨m1, m2⟩ := hmk
  obtain ⟨a1, a2⟩ := ha
  obtain ⟨b1, b2⟩ := hb
  clear hT1 hT htt
  generalize endL T a b mk = EL at *
  generalize pTakeT T a b mk = PT at *
  go_enter Tryd.func126, Tryd.ntmps126
  go_wp2_with fail
  go_loopg [9, 14] nt (fun g x i wr => ∃ (k : Nat) (s : Value), s = x ∧ k ≤ nt ∧ nt - k ≤ g ∧ i = .int .i64 k ∧ Hid (OwnSt w.heap.size wr s (cutL (T.take k) a b)) ∧ Below w.heap.size w wr)
  case atStart => exact ⟨0, _, rfl, Nat.zero_le _, by omega, rfl, OwnF.nil_ _ _ _ _, Below.refl _ _⟩
  case round =>
    obtain ⟨k, s, rfl, hk, hg, rfl, HK, hbel⟩ := hrel
    obtain ⟨R, hR⟩ : ∃ R, R = cutL (T.take k) a b := ⟨_, rfl⟩
    have hrl : R.length ≤ k := by rw [hR, cutL_len]; exact List.length_take_le _ _
    rw [← hR] at HK
    by_cases hltk : k < nt
    · have hkl : k < T.length := by rw [← hnt.out]; exact hltk
      obtain ⟨bb, off, rfl, hb, ⟨⟨m3, m4⟩, ⟨f1, f2⟩⟩, c0, c1⟩ := HT.out k hkl
      obtain ⟨g1, g2⟩ := HTT.out k hkl
      have EQ := Lib.hid (cutL_take a b hkl)
      rw [← hR] at EQ
      obtain ⟨e, he⟩ : ∃ e, e = st T k := ⟨_, rfl⟩
      rw [← he] at m3 m4 f1 f2 c0 c1 g1 g2 EQ
      obtain ⟨m, f⟩ := e
      simp only at m3 m4 f1 f2 c0 c1 g1 g2
      replace c0 := below_cell hbel hb c0
      replace c1 := below_cell hbel hb c1
      obtain ⟨so, sc, rfl⟩ := HK.out.is_slice
      have HB := Lib.hid hbel
      clear hbel HT HTT he hR
      by_cases q1 : b < f
      · have EC : Hid (cutS a b ⟨m, f⟩ = ⟨m, f - (b - a)⟩) := by show _ = _; unfold cutS; exact if_pos q1
        have XB : Hid (Below w.heap.size w ((wr.alloc (.cells #[.int .i64 m, .int .i64 (f - (b - a))] 148)).alloc (.cells #[.int .i64 m, .int .i64 (f - (b - a))] 148))) := (HB.out.alloc HB.out.size _).alloc (by have := HB.out.size; simp; omega) _
        have A1 : Hid (OwnSt w.heap.size ((wr.alloc (.cells #[.int .i64 m, .int .i64 (f - (b - a))] 148)).alloc (.cells #[.int .i64 m, .int .i64 (f - (b - a))] 148)) (.slice so R.length sc) R) := OwnF.below HK.out (((Below.refl _ wr).alloc (Nat.le_refl _) _).alloc (by simp) _)
        have A2 : Hid (((wr.alloc (.cells #[.int .i64 m, .int .i64 (f - (b - a))] 148)).alloc (.cells #[.int .i64 m, .int .i64 (f - (b - a))] 148)).heap[wr.heap.size + 1]? = some (.cells #[.int .i64 m, .int .i64 (f - (b - a))] 148)) := by have := heap_alloc_new (wr.alloc (.cells #[.int .i64 m, .int .i64 (f - (b - a))] 148)) (.cells #[.int .i64 m, .int .i64 (f - (b - a))] 148); rw [World.size_alloc] at this; exact this
        have A3 : Hid (R.length ≤ 100000) := by show _ ≤ _; omega
        have A4 : Hid (w.heap.size ≤ ((wr.alloc (.cells #[.int .i64 m, .int .i64 (f - (b - a))] 148)).alloc (.cells #[.int .i64 m, .int .i64 (f - (b - a))] 148)).heap.size) := XB.out.size
        have A5 : Hid (∀ q ∈ [m, f - (b - a)], i64 q) := good2 ⟨m3, m4⟩ ⟨by omega, by omega⟩
        go_wp2_with (at_builtin; refine wpList_append_at rfl _ _ 23 148 2 16 _ Tryd.underlying23 infoSite rfl (by decide) (by decide) rfl w.heap.size _ R.length _ rfl A1.out (wr.heap.size + 1) [m, f - (b - a)] rfl A2.out rfl A5.out A3.out A4.out ?_)
        intro v6 w6 h5 g5 hat
        have K6 : Hid (OwnSt w.heap.size w6 v6 (cutL (T.take (k + 1)) a b)) := by
          show OwnF _ _ _ _ _ _ _
          rw [EQ.out, EC.out, fl2_app, List.length_append]
          exact h5
        have B6 : Hid (Below w.heap.size w w6) := XB.out.grown g5 A4.out (fun q e => (OwnF.block A1.out q e).1)
        obtain ⟨a6, c6, rfl⟩ := K6.out.is_slice
        clear h5 g5 hat A1 A2 A3 A4 A5 XB EQ EC HK HB
        go_wp2_with fail
        go_roundg (nt - (k + 1))
        case measure => omega
        case rel => exact ⟨k + 1, _, rfl, by omega, Nat.le_refl _, by go_num, K6.out, B6.out⟩
      · by_cases q2 : a < f
        · have EC : Hid (cutS a b ⟨m, f⟩ = ⟨m, a⟩) := by show _ = _; unfold cutS; exact (if_neg q1).trans (if_pos q2)
          have XB : Hid (Below w.heap.size w ((wr.alloc (.cells #[.int .i64 m, .int .i64 a] 148)).alloc (.cells #[.int .i64 m, .int .i64 a] 148))) := (HB.out.alloc HB.out.size _).alloc (by have := HB.out.size; simp; omega) _
          have A1 : Hid (OwnSt w.heap.size ((wr.alloc (.cells #[.int .i64 m, .int .i64 a] 148)).alloc (.cells #[.int .i64 m, .int .i64 a] 148)) (.slice so R.length sc) R) := OwnF.below HK.out (((Below.refl _ wr).alloc (Nat.le_refl _) _).alloc (by simp) _)
          have A2 : Hid (((wr.alloc (.cells #[.int .i64 m, .int .i64 a] 148)).alloc (.cells #[.int .i64 m, .int .i64 a] 148)).heap[wr.heap.size + 1]? = some (.cells #[.int .i64 m, .int .i64 a] 148)) := by have := heap_alloc_new (wr.alloc (.cells #[.int .i64 m, .int .i64 a] 148)) (.cells #[.int .i64 m, .int .i64 a] 148); rw [World.size_alloc] at this; exact this
          have A3 : Hid (R.length ≤ 100000) := by show _ ≤ _; omega
          have A4 : Hid (w.heap.size ≤ ((wr.alloc (.cells #[.int .i64 m, .int .i64 a] 148)).alloc (.cells #[.int .i64 m, .int .i64 a] 148)).heap.size) := XB.out.size
          have A5 : Hid (∀ q ∈ [m, a], i64 q) := good2 ⟨m3, m4⟩ ⟨by omega, by omega⟩
          go_wp2_with (at_builtin; refine wpList_append_at rfl _ _ 23 148 2 16 _ Tryd.underlying23 infoSite rfl (by decide) (by decide) rfl w.heap.size _ R.length _ rfl A1.out (wr.heap.size + 1) [m, a] rfl A2.out rfl A5.out A3.out A4.out ?_)
          intro v6 w6 h5 g5 hat
          have K6 : Hid (OwnSt w.heap.size w6 v6 (cutL (T.take (k + 1)) a b)) := by
            show OwnF _ _ _ _ _ _ _
            rw [EQ.out, EC.out, fl2_app, List.length_append]
            exact h5
          have B6 : Hid (Below w.heap.size w w6) := XB.out.grown g5 A4.out (fun q e => (OwnF.block A1.out q e).1)
          obtain ⟨a6, c6, rfl⟩ := K6.out.is_slice
          clear h5 g5 hat A1 A2 A3 A4 A5 XB EQ EC HK HB
          go_wp2_with fail
          go_roundg (nt - (k + 1))
          case measure => omega
          case rel => exact ⟨k + 1, _, rfl, by omega, Nat.le_refl _, by go_num, K6.out, B6.out⟩
        · have EC : Hid (cutS a b ⟨m, f⟩ = ⟨m, f⟩) := by show _ = _; unfold cutS; exact (if_neg q1).trans (if_neg q2)
          have XB : Hid (Below w.heap.size w ((wr.alloc (.cells #[.int .i64 m, .int .i64 f] 148)).alloc (.cells #[.int .i64 m, .int .i64 f] 148))) := (HB.out.alloc HB.out.size _).alloc (by have := HB.out.size; simp; omega) _
          have A1 : Hid (OwnSt w.heap.size ((wr.alloc (.cells #[.int .i64 m, .int .i64 f] 148)).alloc (.cells #[.int .i64 m, .int .i64 f] 148)) (.slice so R.length sc) R) := OwnF.below HK.out (((Below.refl _ wr).alloc (Nat.le_refl _) _).alloc (by simp) _)
          have A2 : Hid (((wr.alloc (.cells #[.int .i64 m, .int .i64 f] 148)).alloc (.cells #[.int .i64 m, .int .i64 f] 148)).heap[wr.heap.size + 1]? = some (.cells #[.int .i64 m, .int .i64 f] 148)) := by have := heap_alloc_new (wr.alloc (.cells #[.int .i64 m, .int .i64 f] 148)) (.cells #[.int .i64 m, .int .i64 f] 148); rw [World.size_alloc] at this; exact this
          have A3 : Hid (R.length ≤ 100000) := by show _ ≤ _; omega
          have A4 : Hid (w.heap.size ≤ ((wr.alloc (.cells #[.int .i64 m, .int .i64 f] 148)).alloc (.cells #[.int .i64 m, .int .i64 f] 148)).heap.size) := XB.out.size
          have A5 : Hid (∀ q ∈ [m, f], i64 q) := good2 ⟨m3, m4⟩ ⟨by omega, by omega⟩
          go_wp2_with (at_builtin; refine wpList_append_at rfl _ _ 23 148 2 16 _ Tryd.underlying23 infoSite rfl (by decide) (by decide) rfl w.heap.size _ R.length _ rfl A1.out (wr.heap.size + 1) [m, f] rfl A2.out rfl A5.out A3.out A4.out ?_)
          intro v6 w6 h5 g5 hat
          have K6 : Hid (OwnSt w.heap.size w6 v6 (cutL (T.take (k + 1)) a b)) := by
            show OwnF _ _ _ _ _ _ _
            rw [EQ.out, EC.out, fl2_app, List.length_append]
            exact h5
          have B6 : Hid (Below w.heap.size w w6) := XB.out.grown g5 A4.out (fun q e => (OwnF.block A1.out q e).1)
          obtain ⟨a6, c6, rfl⟩ := K6.out.is_slice
          clear h5 g5 hat A1 A2 A3 A4 A5 XB EQ EC HK HB
          go_wp2_with fail
          go_roundg (nt - (k + 1))
          case measure => omega
          case rel => exact ⟨k + 1, _, rfl, by omega, Nat.le_refl _, by go_num, K6.out, B6.out⟩
    · obtain rfl : k = nt := by omega
      have HC : Hid (OwnSt w.heap.size wr s (cutL T a b)) := by
        show OwnSt _ _ _ _
        rw [← ET.out, ← hR]
        exact HK.out
      have HB := Lib.hid hbel
      clear HK hR hrl hbel ET
      obtain ⟨C, hC⟩ : ∃ C, C = cutL T a b := ⟨_, rfl⟩
      rw [← hC] at HC HL EE
      clear hC
      obtain ⟨so, sc, rfl⟩ := HC.out.is_slice
      go_upto_if 43 with fail
      go_cut [9] from 42 to 49 (fun u wx => ∃ uv, Hid (uv = u ∧ OwnSt w.heap.size wx uv EL ∧ Below w.heap.size w wx ∧ EL.length ≤ 100000))
      case first =>
        by_cases q : 0 < mk
        · have E : Hid (EL = C ++ [⟨mk, a⟩]) := EE.out.trans (by rw [if_pos q])
          have A1 : Hid (OwnSt w.heap.size (wr.alloc (.cells #[.int .i64 mk, .int .i64 a] 148)) (.slice so C.length sc) C) := OwnF.below HC.out ((Below.refl _ wr).alloc (Nat.le_refl _) _)
          have A2 := Lib.hid (heap_alloc_new wr (.cells #[.int .i64 mk, .int .i64 a] 148))
          have A3 : Hid (C.length ≤ 100000) := by have := HL.out; show _ ≤ _; omega
          have A4 : Hid (w.heap.size ≤ (wr.alloc (.cells #[.int .i64 mk, .int .i64 a] 148)).heap.size) := by have := HB.out.size; show _ ≤ _; simp; omega
          have A5 : Hid (∀ q ∈ [mk, a], i64 q) := good2 ⟨m1, m2⟩ ⟨by omega, by omega⟩
          go_wp2_with (at_builtin; refine wpList_append_at rfl _ _ 23 148 2 16 _ Tryd.underlying23 infoSite rfl (by decide) (by decide) rfl w.heap.size _ C.length _ rfl A1.out wr.heap.size [mk, a] rfl A2.out rfl A5.out A3.out A4.out ?_)
          intro v6 w6 h5 g5 hat
          have K6 : Hid (OwnSt w.heap.size w6 v6 EL) := by
            show OwnF _ _ _ _ _ _ _
            rw [E.out, fl2_app, List.length_append]
            exact h5
          have B6 : Hid (Below w.heap.size w w6) := (HB.out.alloc HB.out.size _).grown g5 A4.out (fun q e => (OwnF.block A1.out q e).1)
          have L6 : Hid (EL.length ≤ 100000) := by
            show _ ≤ _
            rw [E.out, List.length_append]
            have := HL.out
            simp
            omega
          obtain ⟨a6, c6, rfl⟩ := K6.out.is_slice
          clear h5 g5 hat A1 A2 A3 A4 A5
          go_wp2_with fail
          go_meet
          case rel => exact ⟨_, rfl, K6.out, B6.out, L6.out⟩
        · have E : Hid (EL = C) := EE.out.trans (by rw [if_neg q, List.append_nil])
          go_wp2_with fail
          go_meet
          case rel => exact ⟨_, rfl, by rw [E.out]; exact HC.out, HB.out, by rw [E.out]; have := HL.out; omega⟩
      case rest =>
        obtain ⟨u, HU⟩ := hcut
        obtain rfl := HU.out.1
        have CS := Lib.hid (sort_any wc HU.out.2.1 HU.out.2.2.2)
        have HBc := Lib.hid HU.out.2.2.1
        have HLc := Lib.hid HU.out.2.2.2
        have HUB : Hid (∀ q, u.ownBlock = some q → w.heap.size ≤ q) := fun q e => (OwnF.block HU.out.2.1 q e).1
        obtain ⟨u1, u2, hu⟩ := HU.out.2.1.is_slice
        clear HC HB HL EE HU hu
        go_wp2_with fail
        refine CS.out.mono ?_
        rintro e w2 ⟨rfl, L', hl, hm, hs, ho, hgr⟩
        have CC := Lib.hid (compact_any w2 ho (by rw [hl]; exact HLc.out))
        have EPT := Lib.hid (TI.out L' hm hs)
        have HB2 : Hid (Below w.heap.size w w2) := HBc.out.grown hgr HBc.out.size HUB.out
        clear hl hm hs ho hgr CS TI HLc
        go_wp2_with fail
        refine CC.out.mono ?_
        rintro e w3 ⟨v', rfl, hsi, hgr⟩
        have HB3 : Hid (Below w.heap.size w w3) := HB2.out.grown hgr HB2.out.size HUB.out
        have HS3 := Lib.hid hsi
        clear hsi hgr CC
        go_wp2_with fail
        go_ret
        exact ⟨v', rfl, by rw [← EPT.out]; exact HS3.out, HB3.out⟩
end Go.Proofs.YtcpdoicbekcpeaaDoor.Rig

namespace Go.Proofs.YtcpdoicbekcpeaaDoor.Rig
open Go.RowKit Go.Lib Go.Proofs.YtcpdoicbekcpeaaDoor.Rt

theorem Aprt.new {T T' : TypeId} {b b' n k n' k' : Nat} {w w' : World} {v v' : Value} {zs zs' : List Int} (h1 : OwnF T b w v n k zs) (h2 : OwnF T' b' w' v' n' k' zs') (hlt : w.heap.size ≤ b') : Aprt v v' := fun g e1 e2 => by
  have a := (OwnF.block h1 g e1).2
  have c := (OwnF.block h2 g e2).1
  omega
set_option maxRecDepth 100000 in
set_option maxHeartbeats 16000000 in
theorem take_any {sv tv : Value} {S : List Sp} {T : List St} (n a b mk : Int) (w : World) (hS : Spans w sv S) (hT : Sites w tv T) (hRS : RS 0 0 n S) (hRT : RT n T) (ha : 0 ≤ a) (hab : a ≤ b) (hbn : b ≤ n) (hn : n ≤ 10000) (hmk : i64 mk) (hls : S.length ≤ 10000) (hlt : T.length ≤ 10000) :
    Calls Tryd.prog 101 #[.agg #[sv, tv], .int .i64 a, .int .i64 b, .int .i64 mk] w (GivesM w (pTake S a b) (pTakeT T a b mk)) := by
  have hat : ∀ j, j < S.length → 0 ≤ (sp S j).f ∧ (sp S j).f ≤ (sp S j).t ∧ (sp S j).t ≤ 100000 := fun j hj => by
    obtain ⟨_, b, c, d⟩ := hRS.ord.mem (sp S j) (by rw [sp_get hj]; exact List.getElem_mem hj)
    exact ⟨b, by omega, by omega⟩
  have htt : ∀ j, j < T.length → 0 ≤ (st T j).a ∧ (st T j).a ≤ 100000 := fun j hj => by
    obtain ⟨_, b, c⟩ := hRT.2 (st T j) (mem_st.2 ⟨j, hj, rfl⟩)
    exact ⟨b, by omega⟩
  obtain ⟨W0, hW0⟩ : ∃ W0, W0 = (w.alloc (.cells #[sv, tv] 31)).alloc (.cells #[.slice none 0 0, .slice none 0 0] 31) := ⟨_, rfl⟩
  have b0 : Below w.heap.size w W0 := by rw [hW0]; exact ((Below.refl _ _).alloc (Nat.le_refl _) _).alloc (by simp) _
  have r0 : W0.heap[w.heap.size]? = some (.cells #[sv, tv] 31 (0, 0)) := by rw [hW0]; simp only [alloc_at, World.size_alloc]; repeat (first | rw [if_pos (by first | trivial | omega)] | rw [if_neg (by omega)])
  have r1 : W0.heap[w.heap.size + 1]? = some (.cells #[.slice none 0 0, .slice none 0 0] 31 (0, 0)) := by rw [hW0]; simp only [alloc_at, World.size_alloc]; repeat (first | rw [if_pos (by first | trivial | omega)] | rw [if_neg (by omega)])
  have l0 : W0.heap.size = w.heap.size + 1 + 1 := by rw [hW0]; simp
  have CP := Lib.hid (part_any a W0 (hS.below b0 (Nat.le_refl _)) (hT.below b0 (Nat.le_refl _)) ha (by omega) hls hlt hat htt)
  have CQ : Hid (∀ w', Below W0.heap.size W0 w' → Calls Tryd.prog 118 #[.agg #[sv, tv], .int .i64 b] w' (GivesPt w' (pA b S) (sA b T) (pB b S) (sB b T))) := fun w' hb => part_any b w' ((hS.below b0 (Nat.le_refl _)).below hb (Nat.le_refl _)) ((hT.below b0 (Nat.le_refl _)).below hb (Nat.le_refl _)) (by omega) (by omega) hls hlt hat htt
  have CT : Hid (∀ w', Below W0.heap.size W0 w' → Calls Tryd.prog 126 #[tv, .int .i64 a, .int .i64 b, .int .i64 mk] w' (GivesSt w' (pTakeT T a b mk))) := fun w' hb => takeSites_any a b mk w' ((hT.below b0 (Nat.le_refl _)).below hb (Nat.le_refl _)) ⟨ha, by omega⟩ ⟨by omega, by omega⟩ hab hmk hlt htt
  have lA : (pA a S).length ≤ 10000 := Nat.le_trans (pA_len a S) hls
  have lB : (pB b S).length ≤ 10000 := Nat.le_trans (pB_len b S) hls
  have oB : ∀ j, j < (pB b S).length → 0 ≤ (sp (pB b S) j).f ∧ (sp (pB b S) j).f ≤ (sp (pB b S) j).t ∧ (sp (pB b S) j).t ≤ 10000 := fun j hj => by
    obtain ⟨_, b, c, d⟩ := (RS_pB (p := b) hRS).ord.mem (sp (pB b S) j) (by rw [sp_get hj]; exact List.getElem_mem hj)
    exact ⟨b, by omega, by omega⟩
  have EP : Hid (pTake S a b = joins (pA a S) (mvS a (pB b S))) := rfl
  generalize pTake S a b = RP at *
  generalize pTakeT T a b mk = RQ at *
  generalize pA a S = SA at *
  generalize pB b S = SB at *
  generalize pA b S = SX at *
  generalize pB a S = SY at *
  generalize sA a T = TA at *
  generalize sB a T = TY at *
  generalize sA b T = TX at *
  generalize sB b T = TB at *
  obtain ⟨sa, sc, rfl⟩ := hS.is_slice
  obtain ⟨ta, tc, rfl⟩ := hT.is_slice
  generalize S.length = ls at *
  generalize T.length = lt at *
  have HOB := Lib.hid oB
  obtain ⟨m1, m2⟩ := hmk
  have BX : Hid (∀ w', Below W0.heap.size W0 w' → (w'.cell? ⟨w.heap.size, 0, none⟩ = some (.slice sa ls sc) ∧ w'.cell? ⟨w.heap.size, 1, none⟩ = some (.slice ta lt tc)) ∧ w.heap.size + 1 < w'.heap.size ∧ Hid (w'.heap[w.heap.size + 1]? = some (.cells #[.slice none 0 0, .slice none 0 0] 31 (0, 0)))) := fun w' hb => by
    have q0 : w'.heap[w.heap.size]? = _ := (hb.block _ (by omega)).trans r0
    exact ⟨⟨by rw [cell_of_row _ _ _ _ _ _ q0]; rfl, by rw [cell_of_row _ _ _ _ _ _ q0]; rfl⟩, by have := hb.size; omega, (hb.block _ (by omega)).trans r1⟩
  have HW0 := Lib.hid hW0
  have B0 := Lib.hid b0
  clear hS hT hRS hRT hat htt oB b0 r0 r1 hW0 l0
  obtain ⟨⟨c0, c1⟩, _, _⟩ := BX.out W0 (Below.refl _ _)
  go_enter Tryd.func101, Tryd.ntmps101
  go_wp2_with fail
  rw [← HW0.out]
  go_wp2_with fail
  refine CP.out.mono ?_
  rintro e w1 ⟨v1, v2, v3, v4, rfl, o1, o2, o3, o4, p1, p2, b1⟩
  obtain ⟨WA, hWA⟩ : ∃ WA, WA = (w1.alloc (.cells #[v1, v2] 31)).alloc (.cells #[v3, v4] 31) := ⟨_, rfl⟩
  have bA : Below w1.heap.size w1 WA := by rw [hWA]; exact ((Below.refl _ _).alloc (Nat.le_refl _) _).alloc (by simp) _
  have z0 : WA.heap[w1.heap.size]? = some (.cells #[v1, v2] 31 (0, 0)) := by rw [hWA]; simp only [alloc_at, World.size_alloc]; repeat (first | rw [if_pos (by first | trivial | omega)] | rw [if_neg (by omega)])
  have lA2 : w1.heap.size + 1 < WA.heap.size := by rw [hWA]; simp
  have O1 : Hid (OwnSp W0.heap.size WA v1 SA) := OwnF.below o1 bA
  have BA : Hid (Below W0.heap.size W0 WA) := below_more b1 bA
  obtain ⟨a1, d1, rfl⟩ := o1.is_slice
  obtain ⟨a2, d2, rfl⟩ := o2.is_slice
  obtain ⟨a3, d3, rfl⟩ := o3.is_slice
  obtain ⟨a4, d4, rfl⟩ := o4.is_slice
  generalize TA.length = k2 at *
  generalize SY.length = k3 at *
  generalize TY.length = k4 at *
  have HWA := Lib.hid hWA
  clear o1 o2 o3 o4 p1 p2 b1 bA CP c0 c1 hWA
  obtain ⟨⟨c0, c1⟩, l1, _⟩ := BX.out WA BA.out
  go_upto_region 2 with fail
  rw [← HWA.out]
  go_wp2_with fail
  refine (CQ.out WA BA.out).mono ?_
  rintro e w2 ⟨x1, x2, x3, x4, rfl, o1, o2, o3, o4, p1, p2, b2⟩
  obtain ⟨WC, hWC⟩ : ∃ WC, WC = (w2.alloc (.cells #[x1, x2] 31)).alloc (.cells #[x3, x4] 31) := ⟨_, rfl⟩
  have bC : Below w2.heap.size w2 WC := by rw [hWC]; exact ((Below.refl _ _).alloc (Nat.le_refl _) _).alloc (by simp) _
  have z1 : WC.heap[w2.heap.size + 1]? = some (.cells #[x3, x4] 31 (0, 0)) := by rw [hWC]; simp only [alloc_at, World.size_alloc]; repeat (first | rw [if_pos (by first | trivial | omega)] | rw [if_neg (by omega)])
  have b2C := below_more b2 bC
  have z0' : WC.heap[w1.heap.size]? = some (.cells #[.slice a1 SA.length d1, .slice a2 k2 d2] 31 (0, 0)) := by rw [b2C.block _ (by omega)]; exact z0
  have J0 : Hid (PJ W0 w1.heap.size (w2.heap.size + 1) (.slice a1 SA.length d1) (.slice a2 k2 d2) x3 x4 SB TB WC (.slice a1 SA.length d1) SA (.slice none 0 0) []) :=
    ⟨z0', z1, OwnF.below O1.out b2C, OwnF.nil_ _ _ _ _, (OwnF.below o3 bC).mono BA.out.size, (OwnF.below o4 bC).mono BA.out.size, Aprt.new O1.out o3 (Nat.le_refl _), Aprt.nil_ _, below_more BA.out b2C⟩
  obtain ⟨y1, f1, rfl⟩ := o1.is_slice
  obtain ⟨y2, f2, rfl⟩ := o2.is_slice
  obtain ⟨y3, f3, rfl⟩ := o3.is_slice
  obtain ⟨y4, f4, rfl⟩ := o4.is_slice
  generalize SX.length = k5 at *
  generalize TX.length = k6 at *
  have HWC := Lib.hid hWC
  have j0 : WC.cell? ⟨w1.heap.size, 0, none⟩ = some (.slice a1 SA.length d1) := by rw [cell_of_row _ _ _ _ _ _ z0']; rfl
  have j1 : WC.cell? ⟨w2.heap.size + 1, 0, none⟩ = some (.slice y3 SB.length f3) := by rw [cell_of_row _ _ _ _ _ _ z1]; rfl
  have j2 : WC.cell? ⟨w1.heap.size, 1, none⟩ = some (.slice a2 k2 d2) := by rw [cell_of_row _ _ _ _ _ _ z0']; rfl
  have j3 : WC.cell? ⟨w2.heap.size + 1, 1, none⟩ = some (.slice y4 TB.length f4) := by rw [cell_of_row _ _ _ _ _ _ z1]; rfl
  clear o1 o2 o3 o4 p1 p2 b2 bC z0 z0' z1 b2C CQ c0 c1 hWC lA2 O1
  go_upto_region 3 with fail
  rw [← HWC.out]
  obtain ⟨_, _, hv3, hl3, hc3, _⟩ := J0.out.fst.spans.open_
  injection hv3 with e1 e2 e3
  subst e1 e3
  try clear e2
  obtain ⟨nb, hnb⟩ : ∃ nb, nb = SB.length := ⟨_, rfl⟩
  have HNB := Lib.hid hnb
  rw [← hnb] at J0 j1 hl3 lB
  have EB : Hid (joins SA (mvS a (SB.take nb)) = joins SA (mvS a SB)) := by show _ = _; rw [hnb, List.take_length]
  clear hnb
  go_wp2_with fail
  go_loopg [13, 33] nb (fun g x i wr => ∃ (j : Nat) (u : Value), u = x ∧ j ≤ nb ∧ nb - j ≤ g ∧ i = .int .i64 j ∧ Hid (PJ W0 w1.heap.size (w2.heap.size + 1) (.slice a1 SA.length d1) (.slice a2 k2 d2) (.slice y3 nb f3) (.slice y4 TB.length f4) SB TB wr u (joins SA (mvS a (SB.take j))) (.slice none 0 0) []))
  case atStart => exact ⟨0, _, rfl, Nat.zero_le _, by omega, rfl, J0.out⟩
  case round =>
    clear J0 j0 j1 j2 j3
    obtain ⟨j, u, rfl, hj, hg, rfl, HJ⟩ := hrel
    have HJL : Hid ((joins SA (mvS a (SB.take j))).length ≤ 90000) := by
      show _ ≤ _
      have h1 := joins_len (mvS a (SB.take j)) SA
      rw [mvS_len] at h1
      have h2 := List.length_take_le j SB
      omega
    obtain ⟨RJ, hRJ⟩ : ∃ RJ, RJ = joins SA (mvS a (SB.take j)) := ⟨_, rfl⟩
    by_cases hltk : j < nb
    · have hkl : j < SB.length := by rw [← HNB.out]; exact hltk
      obtain ⟨_, _, hv3, _, _, hq3⟩ := HJ.out.fst.spans.open_
      obtain ⟨bb, off, hah, hb, ⟨⟨m3, m4⟩, ⟨f5, f6⟩, ⟨t1, t2⟩⟩, e0, e1, e2⟩ := hq3 j hkl
      injection hv3 with e3 e5 e4
      obtain rfl := e3.trans hah
      obtain ⟨g1, g2, g3⟩ := HOB.out j hkl
      have EJ := Lib.hid ((congrArg (joins SA) (mvS_take a hkl)).trans (joins_snoc _ _ _))
      rw [← hRJ] at EJ HJ HJL
      obtain ⟨e, he⟩ : ∃ e, e = sp SB j := ⟨_, rfl⟩
      rw [← he] at m3 m4 f5 f6 t1 t2 e0 e1 e2 g1 g2 g3 EJ
      obtain ⟨m, f, t⟩ := e
      simp only at m3 m4 f5 f6 t1 t2 e0 e1 e2 g1 g2 g3
      have HX := Lib.hid (HJ.out.alloc (.cells #[.int .i64 m, .int .i64 f, .int .i64 t] 110))
      have CM := Lib.hid (moved_any m f t a (wr.alloc (.cells #[.int .i64 m, .int .i64 f, .int .i64 t] 110)) ⟨m3, m4⟩ ⟨g1, by omega⟩ ⟨by omega, by omega⟩ ⟨by omega, by omega⟩)
      have CJ : Hid (∀ w', Below (wr.alloc (.cells #[.int .i64 m, .int .i64 f, .int .i64 t] 110)).heap.size (wr.alloc (.cells #[.int .i64 m, .int .i64 f, .int .i64 t] 110)) w' → Calls Tryd.prog 119 #[u, .agg #[.int .i64 m, .int .i64 (f + a), .int .i64 (t + a)]] w' (Joined W0.heap.size w' u (joinL RJ ⟨m, f + a, t + a⟩))) := fun w' hb => join_any m (f + a) (t + a) w' (HX.out.below hb).row (HX.out.below hb).old.size HJL.out ⟨m3, m4⟩ ⟨by omega, by omega⟩ ⟨by omega, by omega⟩
      clear hq3 he HJL hRJ
      try clear e4
      try clear e5
      try clear e3
      try clear hah
      go_wp2_with fail
      refine CM.out.mono ?_
      rintro e w3 ⟨rfl, b3⟩
      have J2 := Lib.hid (HX.out.below b3)
      have CJ2 := Lib.hid (CJ.out w3 b3)
      clear b3 CJ CM HX
      go_wp2_with fail
      refine CJ2.out.mono ?_
      rintro e w4 ⟨u3, rfl, K, g, hat⟩
      have J3 := Lib.hid (J2.out.join K g hat)
      clear K g hat CJ2 J2
      go_wp2_with fail
      go_roundg (nb - (j + 1))
      case measure => omega
      case rel => exact ⟨j + 1, u3, rfl, by omega, Nat.le_refl _, by go_num, by rw [EJ.out]; exact J3.out⟩
    · obtain rfl : j = nb := by omega
      have HRW : Hid (OwnSp W0.heap.size wr u RP ∧ Below W0.heap.size W0 wr) := by
        refine ⟨?_, HJ.out.old⟩
        rw [EP.out, ← EB.out]
        exact HJ.out.row
      obtain ⟨⟨c0, c1⟩, l2, _⟩ := BX.out wr HRW.out.2
      have CT2 := Lib.hid (CT.out wr HRW.out.2)
      clear HJ HJL hRJ EB CT
      go_wp2_with fail
      refine CT2.out.mono ?_
      rintro e w5 ⟨q5, rfl, hs5, b5⟩
      have HS5 := Lib.hid hs5
      have H5 : Hid (Below W0.heap.size W0 w5) := below_more HRW.out.2 b5
      have HR5 : Hid (Spans w5 u RP) := OwnSp.spans (OwnF.below HRW.out.1 b5)
      obtain ⟨_, l3, Q0⟩ := BX.out w5 H5.out
      have u0 : w5.cell? ⟨w.heap.size + 1, 0, none⟩ = some (.slice none 0 0) := by rw [cell_of_row _ _ _ _ _ _ Q0.out]; rfl
      have u1 : w5.cell? ⟨w.heap.size + 1, 1, none⟩ = some (.slice none 0 0) := by rw [cell_of_row _ _ _ _ _ _ Q0.out]; rfl
      have h0 : w5.frozen? ⟨w.heap.size + 1, 0, none⟩ = false := block_frozen Q0.out
      have h1 : w5.frozen? ⟨w.heap.size + 1, 1, none⟩ = false := block_frozen Q0.out
      obtain ⟨x1, x2, rfl⟩ := HR5.out.is_slice
      obtain ⟨x3, x4, rfl⟩ := HS5.out.is_slice
      have FIN := Lib.hid (give_end (w := w) (B := w.heap.size + 1) (Nat.le_add_right _ 1) Q0.out HR5.out HS5.out (below_more B0.out H5.out))
      obtain ⟨z0, z1⟩ := res_cells (a1 := x1) (n1 := RP.length) (c1 := x2) (a2 := x3) (n2 := RQ.length) (c2 := x4) Q0.out
      clear hs5 b5 HS5 HR5 HRW CT2 BX c0 c1
      generalize RP.length = lp at *
      generalize RQ.length = lq at *
      go_wp2_with fail
      exact bodyPost_ret (v := .agg #[.slice x1 lp x2, .slice x3 lq x4]) (by simp [results, Tryd.results101, go_sem, z0, z1]) rfl FIN.out
end Go.Proofs.YtcpdoicbekcpeaaDoor.Rig
