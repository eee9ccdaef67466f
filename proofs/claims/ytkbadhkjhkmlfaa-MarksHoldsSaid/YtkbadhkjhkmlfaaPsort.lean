/- Contract: slices.SortFunc over sites by order, for a row of the call's own. -/
import Derived.Test.YtkbadhkjhkmlfaaMl
set_option linter.unusedVariables false
namespace Go.Proofs.Ytkbadhkjhkmlfaa.Rig
open Go.RowKit Go.Lib Go.Proofs.Ytkbadhkjhkmlfaa.Rt
open Go.Sort (HoldsK putRowK flatK SWO PermIn SortedIn grow onCells mapBlock putRow)

theorem own_mk {T : TypeId} {base g cap n k : Nat} {w : World} {cur : Array Value} {zs : List Int} (hb : base ≤ g) (hblk : w.heap[g]? = some (.cells cur T (0, 0))) (hsz : cur.size = cap * k) (hle : n ≤ cap) (hm : cap ≤ maxLen) (hl : zs.length = n * k) (hi : ∀ x ∈ zs, i64 x)
    (hc : ∀ j, j < n * k → w.cell? ⟨g, j, none⟩ = some (.int .i64 (at_ zs j))) : OwnF T base w (.slice (some ⟨g, 0, none⟩) n cap) n k zs := by
  refine ⟨⟨by rw [ints_len, hl], .inr ⟨g, cap, cur, rfl, hb, hblk, hle, hm, hsz, ?_⟩⟩, hi⟩
  have h1 : n * k ≤ cap * k := Nat.mul_le_mul_right k hle
  apply List.ext_getElem?
  intro j
  by_cases h : j < n * k
  · have := hc j h
    rw [cell_of_row _ _ _ _ _ _ hblk] at this
    rw [List.getElem?_take_of_lt h, Array.getElem?_toList, this, ints_get (by omega)]
  · rw [List.getElem?_eq_none (by rw [List.length_take, Array.length_toList]; omega), List.getElem?_eq_none (by rw [ints_len]; omega)]

def encS (x : St) : List Value := [.int .i64 x.m, .int .i64 x.a]
instance : Inhabited St := ⟨St.z⟩
theorem arr_get (L : List St) {i : Nat} (h : i < L.length) : L.toArray[i]! = st L i := by
  rw [st_get h, getElem!_pos _ i (by simpa using h)]
  simp
theorem flat_get (L : List St) {t : Nat} (h : t < L.length * 2) : (flatK encS 2 L.toArray)[t]! = .int .i64 (at_ (fl2 L) t) := by
  rw [Go.Sort.get_flatK _ _ _ _ (by simpa using h)]
  obtain ⟨i, r, hi, hr, rfl, e⟩ := at_fl2 L h
  rw [e, show (i * 2 + r) / 2 = i by omega, show (i * 2 + r) % 2 = r by omega, arr_get L hi]
  rcases (show r = 0 ∨ r = 1 by omega) with rfl | rfl <;> rfl
theorem own_holds {base g cap : Nat} {w : World} {L : List St} (h : OwnSt base w (.slice (some ⟨g, 0, none⟩) L.length cap) L) : HoldsK encS 2 w g 0 L.toArray := by
  intro j hj
  rw [Go.Sort.size_flatK] at hj
  have hj' : j < L.length * 2 := by simpa using hj
  rw [flat_get L hj', Nat.zero_add]
  refine ⟨?_, World.ownsRow.frozenAt h.1 _⟩
  exact World.ownsRow.cells h.1 (g := g) rfl j (.int .i64 (at_ (fl2 L) j)) (ints_get (by rw [fl2_len]; exact hj')) |> fun h => by
    have hadd : (⟨g, 0, none⟩ : Addr).add j = ⟨g, j, none⟩ := by unfold Addr.add; split <;> simp_all
    rwa [hadd] at h
theorem sort_block {w : World} {g m : Nat} {d : Array St} {os : Array Obj} {cur : Array Value} {e : TypeId} (h : w.heap[g]? = some (.cells cur e (0, 0))) : ∃ cur', (sortWorldK encS 2 w g 0 m d os).heap[g]? = some (.cells cur' e (0, 0)) ∧ cur'.size = cur.size := by
  have hlt : g < w.heap.size := (Array.getElem?_eq_some_iff.1 h).1
  refine ⟨Go.Sort.putCells id 0 (flatK encS 2 d) cur, ?_, by simp [Go.Sort.putCells]⟩
  show (w.heap.modify g (onCells _) ++ os)[g]? = _
  rw [Array.getElem?_append_left (by simpa using hlt), Array.getElem?_modify, if_pos rfl, h]
  rfl
theorem sort_grown (w : World) (g m : Nat) (d : Array St) (os : Array Obj) : w.grownBy (sortWorldK encS 2 w g 0 m d os) (some g) := by
  refine ⟨rfl, rfl, rfl, ?_, fun k hk hne => ?_⟩
  · show _ ≤ (w.heap.modify g (onCells _) ++ os).size
    simp
  · show (w.heap.modify g (onCells _) ++ os)[k]? = _
    rw [Array.getElem?_append_left (by simpa using hk), Array.getElem?_modify, if_neg (fun e => hne (by rw [e]))]

instance (x y : St) : Decidable (ltS x y) := by unfold ltS; infer_instance
theorem lt_ord (x y : St) : ltOf ordI x y = decide (ltS x y) := by
  unfold ltOf
  have := ordI_neg x y
  by_cases h : ltS x y
  · rw [decide_eq_true h, decide_eq_true (this.2 h)]
  · rw [decide_eq_false h, decide_eq_false (fun hc => h (this.1 hc))]
theorem swoS : SWO (ltOf ordI) where
  irrefl x := by rw [lt_ord]; exact decide_eq_false ltS_irrefl
  trans x y z h1 h2 := by
    rw [lt_ord, decide_eq_true_iff] at *
    exact ltS_trans h1 h2
  ntrans x y z h1 h2 := by
    rw [lt_ord, decide_eq_false_iff_not] at *
    unfold ltS gtS at *
    omega
/-- The row is sorted: the same sites, none ahead of one that stands ahead of it. -/
def Sorted (base : Nat) (w : World) (v : Value) (L : List St) (e : Ending) (w' : World) : Prop := e = .returned (.tuple #[]) ∧ ∃ L' : List St, L'.length = L.length ∧ (∀ x, x ∈ L' ↔ x ∈ L) ∧ (∀ i j, i < j → j < L'.length → ¬ ltS (st L' j) (st L' i)) ∧ OwnSt base w' v L' ∧ w.grownBy w' v.ownBlock
theorem sort_any {base : Nat} {v : Value} {L : List St} (w : World) (h : OwnSt base w v L) (hn : L.length ≤ 100000) :
    Calls Try.prog 36 #[v, .func (.func 35) #[] #[]] w (Sorted base w v L) := by
  rcases h.1.2 with ⟨rfl, h0⟩ | ⟨g, cap, cur, rfl, hb, hg, hle, hm, hsz, htake⟩
  · refine (AnyF.slices_SortFunc_none Try.sortSt none 0 _ w).mono ?_
    rintro e w' ⟨rfl, rfl⟩
    exact ⟨rfl, L, rfl, fun _ => Iff.rfl, fun i j _ hj => absurd hj (by omega), h, grown_below (Below.refl _ _) _⟩
  · have eg : ∀ args w, (callFunc 35 args).run Try.prog w = .ok (.enter 35 args) w := enters_of Try.func35 (by kernel_rfl) rfl
    have hcon := AnyQ.slices_SortFunc Try.sortSt 2 Try.isAgg41 Try.sizeOf41 encS (fun _ => rfl) (fun x u hu => by simp [encS] at hu; rcases hu with rfl | rfl <;> rfl) ordI swoS 35 #[] g 0 cap L.toArray w eg
      (fun _ _ _ _ x y => order_any x y _) (own_holds h) ((Array.getElem?_eq_some_iff.1 hg).1) (by simp; omega)
    rw [List.size_toArray] at hcon
    refine hcon.mono ?_
    rintro e w' ⟨rfl, d', n, os, ⟨hp1, _, hp3⟩, hs, rfl⟩
    have hsd : d'.toList.length = L.length := by rw [Array.length_toList, hp1, List.size_toArray]
    have hH := Go.Proofs.holdsK_sortWorldK_c encS 2 w g 0 L.toArray d' n os (own_holds h) ((Array.getElem?_eq_some_iff.1 hg).1) hp1
    have hperm : d'.toList.Perm L := by
      rw [Array.extract_eq_self_of_le (by rw [hp1, List.size_toArray]; exact Nat.le_refl _), Array.extract_eq_self_of_le (by rw [List.size_toArray]; exact Nat.le_refl _)] at hp3
      simpa using hp3
    obtain ⟨cur', hg', hs'⟩ := sort_block (m := n) (d := d') (os := os) hg
    have hmem : ∀ x, x ∈ d'.toList ↔ x ∈ L := fun x => hperm.mem_iff
    refine ⟨rfl, d'.toList, hsd, hmem, fun i j hij hj => ?_, ?_, sort_grown _ _ _ _ _⟩
    · have := hs i j (Nat.zero_le _) hij (by omega)
      rw [lt_ord, decide_eq_false_iff_not] at this
      rw [st_get hj, st_get (by omega)]
      rwa [getElem!_pos d' j (by rw [Array.length_toList] at hj; exact hj), getElem!_pos d' i (by rw [Array.length_toList] at hj; omega)] at this
    · have hgood : ∀ x ∈ fl2 d'.toList, i64 x := fun x hx => by
        unfold fl2 at hx
        rw [List.mem_flatMap] at hx
        obtain ⟨y, hy, hx⟩ := hx
        refine h.2 x ?_
        unfold fl2
        exact List.mem_flatMap.2 ⟨y, (hmem y).1 hy, hx⟩
      have hk : OwnF 41 base (sortWorldK encS 2 w g 0 n d' os) (.slice (some ⟨g, 0, none⟩) L.length cap) L.length 2 (fl2 d'.toList) := by
        refine own_mk hb hg' (by rw [hs', hsz]) hle hm (by rw [fl2_len, hsd]) hgood fun j hj => ?_
        have := (hH j (by rw [Go.Sort.size_flatK, hp1, List.size_toArray]; exact hj)).1
        rw [Nat.zero_add] at this
        rw [this]
        have e := flat_get d'.toList (t := j) (by rw [hsd]; exact hj)
        rw [Array.toArray_toList] at e
        rw [e]
        rfl
      show OwnF _ _ _ _ _ _ _
      rw [hsd]
      exact hk
end Go.Proofs.Ytkbadhkjhkmlfaa.Rig
