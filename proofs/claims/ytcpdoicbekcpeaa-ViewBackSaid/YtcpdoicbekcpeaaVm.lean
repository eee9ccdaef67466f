/- View: there and back: mathematics; the law's map of Ids; an array of two numbers that came in. -/
import Derived.Test.YtcpdoicbekcpeaaVg
import Derived.Maps.OwnSet
import Derived.Maps.Views
import Derived.Maps.OwnOps
import Derived.WideKeyArr2
set_option linter.unusedVariables false
set_option linter.unusedSimpArgs false
set_option maxRecDepth 100000
namespace Go.Proofs.Ytcpdoicbekcpeaa.Vi
open Go.RowKit Go.Lib Go.Proofs.Ytcpdoicbekcpeaa.Rk
open Go.Maps (Keyed)

section
open Go.ChangeShapes Go.WideShapes Go.ChangeAt
variable {H : Type} {enc : TypeId × Value → H} {P : Program} {w : World} {base : Nat} {spare : Nat → Bool} {held : Bool}
theorem open_int2 {t e : TypeId} (ht : P.underlying t = some (.array 2 e)) (he : P.underlying e = some (.int .i64)) (hce : P.cellsOf e = 1) (hct : P.cellsOf t = 2) {r : Reach} {b0 : Nat} {v : Value} {d : DataW H} {p : List MemPlace}
    (hv : Value.okWide P w r b0 t v) (h : DataW.Trod enc P w base spare held t v d p) :
    ∃ a b : Int, v = .agg #[.int .i64 a, .int .i64 b] ∧ (-9223372036854775808 ≤ a ∧ a ≤ 9223372036854775807) ∧ (-9223372036854775808 ≤ b ∧ b ≤ 9223372036854775807) := by
  simp only [Value.okWide, ht] at hv
  obtain ⟨cs, rfl, hsz, _⟩ := hv
  rw [hct] at hsz
  obtain ⟨c0, c1, rfl⟩ : ∃ c0 c1, cs = #[c0, c1] := by
    obtain ⟨l⟩ := cs
    match l, hsz with
    | [a, b], _ => exact ⟨a, b, rfl⟩
  obtain ⟨fuel, hf⟩ := h
  obtain ⟨ys, m, _, hx, _, hl, hg⟩ := DataW.trod_array ht hf
  have g0 := hg 0 (by omega)
  have g1 := hg 1 (by omega)
  simp only [hce, Value.cells] at g0 g1
  match ys, hl with
  | [y0, y1], _ =>
    obtain ⟨a, e0, _, wa⟩ := DataW.trod_int he g0
    obtain ⟨b, e1, _, wb⟩ := DataW.trod_int he g1
    simp at e0 e1
    subst e0 e1
    exact ⟨a, b, rfl, by simpa [Lit.wf, IntKind.min, IntKind.max, IntKind.signed, IntKind.bits] using wa, by simpa [Lit.wf, IntKind.min, IntKind.max, IntKind.signed, IntKind.bits] using wb⟩
end

/-! there and back -/
def hasId (A : List Pc) (x : Int) : Bool := A.any fun y => y.i == x
theorem wid_cons (y : Pc) (r : List Pc) : wid (y :: r) = y.wide + wid r := by simp [wid]
theorem ofs_has : ∀ (A : List Pc) (id t s : Int), (∀ y ∈ A, 0 ≤ y.wide) → (ofs A id t s).2 = hasId A id ∧ ((ofs A id t s).2 = true → s ≤ (ofs A id t s).1 ∧ (ofs A id t s).1 ≤ s + wid A)
  | [], _, _, _, _ => ⟨rfl, fun h => by cases h⟩
  | y :: r, id, t, s, hw => by
    have hy := hw y List.mem_cons_self
    have ih := ofs_has r id t (s + y.wide) (fun z hz => hw z (List.mem_cons_of_mem _ hz))
    have hr : 0 ≤ wid r := by
      have : ∀ (r : List Pc), (∀ y ∈ r, 0 ≤ y.wide) → 0 ≤ wid r := fun r => by
        induction r with
        | nil => intro _; simp [wid]
        | cons z r ih => intro h; rw [wid_cons]; have := h z List.mem_cons_self; have := ih (fun q hq => h q (List.mem_cons_of_mem _ hq)); omega
      exact this r (fun z hz => hw z (List.mem_cons_of_mem _ hz))
    unfold ofs
    by_cases h : y.i = id
    · rw [if_pos h]
      have := clamp_in (n := t) hy
      refine ⟨by simp [hasId, h], fun _ => ?_⟩
      rw [wid_cons]
      simp only
      omega
    · rw [if_neg h]
      refine ⟨by rw [ih.1]; simp [hasId, h], fun q => ?_⟩
      have := ih.2 q
      rw [wid_cons]
      omega
theorem there_back : ∀ (A : List Pc) (t s : Int), (∀ y ∈ A, 0 ≤ y.wide) → (A.map Pc.i).Nodup → A ≠ [] → 0 ≤ t → t ≤ wid A →
    ∃ id u, adr A t = (id, u, true) ∧ id ∈ A.map Pc.i ∧ ofs A id u s = (s + t, true)
  | [], _, _, _, _, h, _, _ => absurd rfl h
  | y :: r, t, s, hw, hn, _, h0, h1 => by
    have hy := hw y List.mem_cons_self
    unfold adr
    by_cases h : t ≤ y.wide
    · rw [if_pos h]
      refine ⟨y.i, t, rfl, by simp, ?_⟩
      unfold ofs
      rw [if_pos rfl]
      have : clampI t y.wide = t := by unfold clampI; omega
      rw [this]
    · rw [if_neg h]
      rw [wid_cons] at h1
      have hr : r ≠ [] := fun e => by subst e; simp [wid] at h1; omega
      rw [List.map_cons, List.nodup_cons] at hn
      obtain ⟨id, u, e1, e2, e3⟩ := there_back r (t - y.wide) (s + y.wide) (fun z hz => hw z (List.mem_cons_of_mem _ hz)) hn.2 hr (by omega) (by omega)
      refine ⟨id, u, e1, by rw [List.map_cons]; exact List.mem_cons_of_mem _ e2, ?_⟩
      unfold ofs
      rw [if_neg (fun (e : y.i = id) => hn.1 (by rw [e]; exact e2)), e3]
      congr 1
      omega
theorem wide_pos {A : List Pc} (h : rightPc A) : ∀ y ∈ A, 0 ≤ y.wide := fun y hy => by
  have := h.1 y hy
  unfold Pc.wide
  split <;> omega

/-! the map -/
theorem klaw : Keyed Try.prog 3 := Maps.int_keyed Try.underlying3
/-- The Ids that were seen. -/
def SeenM (w : World) (b n : Nat) (A : List Pc) : Prop := ∃ D : DataW Unit, w.ownsMap Try.prog 3 (plainElem Try.prog 4) b n D ∧ Maps.IsMap D ∧ ∀ x, in64 x → D.atKey (.int .i64 x) (.lit (.bool false)) = .lit (.bool (hasId A x))
theorem wf64 {x : Int} (h : in64 x) : (Lit.int .i64 x).wf = true := by
  unfold in64 at h
  simp [Lit.wf, IntKind.min, IntKind.max, IntKind.signed, IntKind.bits]
  omega
theorem keyI {x : Int} (h : in64 x) : keyOf Try.prog 3 (.int .i64 x) = some (.int .i64 x) := Maps.keyOf_int_mk Try.underlying3 (wf64 h)
theorem zeroB (w : World) : (zeroValue 4).run Try.prog w = .ok (.bool false) w := by kernel_rfl
theorem plainElem_bool_inv {v : Value} {z : DataW Unit × List MemPlace} (h : plainElem Try.prog 4 v = some z) : ∃ a, v = .bool a ∧ z = (.lit (.bool a), []) := by
  unfold plainElem at h
  rw [Try.underlying4] at h
  cases v <;> simp at h
  exact ⟨_, rfl, h.symm⟩
theorem seen_look {w : World} {b n : Nat} {A : List Pc} (h : SeenM w b n A) {x : Int} (hx : in64 x) : (Instr.lookup 33 (.map (some b)) (.int .i64 x) false).run Try.prog w = .ok (.bool (hasId A x)) w := by
  obtain ⟨D, h1, h2, h3⟩ := h
  obtain ⟨v, ps, hrun, hv⟩ := h1.lookup klaw Try.underlying33 (zeroB w) (plainElem_bool Try.underlying4 false) (keyI hx)
  obtain ⟨a, rfl, ha⟩ := plainElem_bool_inv hv
  simp only [Prod.mk.injEq] at ha
  have := ha.1
  rw [h3 x hx] at this
  injection this with this
  injection this with this
  rw [hrun, this]
theorem seen_made (w : World) : SeenM (w.alloc (.map #[] 0)) w.heap.size 0 [] := ⟨.map [], World.ownsMap_made _ _ _ _, ⟨[], rfl⟩, fun x _ => rfl⟩
theorem seen_below {w w' : World} {b n : Nat} {A : List Pc} (h : SeenM w b n A) (hb : Below w.heap.size w w') : SeenM w' b n A := by
  obtain ⟨D, h1, h2, h3⟩ := h
  exact ⟨D, h1.kept (grown_of_below hb none) (by simp), h2, h3⟩
theorem seen_put {w' : World} {b n : Nat} {A : List Pc} {D : DataW Unit} {y : Pc} (h2 : Maps.IsMap D) (h3 : ∀ x, in64 x → D.atKey (.int .i64 x) (.lit (.bool false)) = .lit (.bool (hasId A x))) (hy : in64 y.i)
    (h1 : w'.ownsMap Try.prog 3 (plainElem Try.prog 4) b n (D.put (.int .i64 y.i) (.lit (.bool true)))) : SeenM w' b n (A ++ [y]) := by
  refine ⟨_, h1, h1.isMap, fun x hx => ?_⟩
  by_cases e : x = y.i
  · subst e
    rw [Maps.atKey_put_same h2 (by first | trivial | (unfold WideAt.IsKeyLit; trivial) | decide)]
    simp [hasId]
  · rw [Maps.atKey_put_other (fun q => e (by injection q)), h3 x hx]
    have : ¬ y.i = x := fun q => e q.symm
    simp [hasId, this]
end Go.Proofs.Ytcpdoicbekcpeaa.Vi
