/- A region that draws its order: what needs no world goes first, the rest in the one order that is left. -/
import Derived.Test.YtmdgjcikekojdaaGreatDoorProg
import Derived.Orders
import Derived.Tactics
set_option linter.unusedVariables false
set_option linter.unusedSimpArgs false
namespace Go.Proofs.YtmdgjcikekojdaaGreatDoor.Zo
open Go

section
variable {P : Program} {ops : Array Oper} {Q : Exit → Act → World → Prop} {md : Region.Mode}
/-- Operations that yield their values in whatever world, one behind the other. -/
def wpPure (P : Program) (ops : Array Oper) (Lq : Act → Prop) : List Oper → Act → Prop
  | [], a => Lq a
  | o :: rest, a => if Region.wanted o (yielded ops a.tmps) = true then ∃ v, (∀ w, (execOp a.eval o).run P w = .ok (.value v) w) ∧ wpPure P ops Lq rest (a.put o.dst v) else wpPure P ops Lq rest (a.put o.dst undef)
theorem wpPure_nil {Lq : Act → Prop} {a : Act} (h : Lq a) : wpPure P ops Lq [] a := h
theorem wpPure_step {Lq : Act → Prop} {a : Act} {o : Oper} {rest : List Oper}
    (h : ∀ K : Act → Prop, (∀ a, wpPure P ops Lq rest a → K a) → if Region.wanted o (yielded ops a.tmps) = true then ∃ v, (∀ w, (execOp a.eval o).run P w = .ok (.value v) w) ∧ K (a.put o.dst v) else K (a.put o.dst undef)) : wpPure P ops Lq (o :: rest) a :=
  h _ (fun _ h => h)
/-- May these come first, and is the rest's order forced? -/
def tailB (md : Region.Mode) (ops : Array Oper) : List Nat → Array Bool → Bool
  | i :: tl, listed => (Region.ready md ops listed == [i]) && tailB md ops tl (listed.setIfInBounds i true)
  | [], listed => (Region.ready md ops listed).isEmpty
def orderB (md : Region.Mode) (ops : Array Oper) (tl : List Nat) : List Nat → Array Bool → Bool
  | i :: hd, listed => (Region.ready md ops listed).contains i && (Region.free md ops listed i && orderB md ops tl hd (listed.setIfInBounds i true))
  | [], listed => tailB md ops tl listed
theorem any_tail : ∀ (tl : List Nat) (fuel : Nat) (listed : Array Bool) (a : Act) (w : World), tailB md ops tl listed = true → tl.length ≤ fuel → wpList P ops Q (tl.filterMap fun i => ops[i]?) a w → wpAny P md ops Q fuel listed a w
  | [], fuel, listed, a, w, hB, _, h => wpAny_done (by simpa [tailB] using hB) h fuel
  | i :: tl, 0, listed, a, w, _, hf, _ => by simp at hf
  | i :: tl, fuel + 1, listed, a, w, hB, hf, h => by
    simp only [tailB, Bool.and_eq_true, beq_iff_eq] at hB
    obtain ⟨hr, hB⟩ := hB
    have hi : i ∈ Region.ready md ops listed := by rw [hr]; exact List.mem_singleton.2 rfl
    obtain ⟨_, o, ho, _⟩ := mem_ready.1 hi
    refine wpAny_all hr (by simp) fun j hj => ?_
    obtain rfl := List.mem_singleton.1 hj
    refine wpOp_mono (K := wpList P ops Q (tl.filterMap fun i => ops[i]?)) (fun a' w' h' => any_tail tl fuel _ a' w' hB (by simpa using hf) h') ?_
    unfold wpOp
    rw [ho]
    rw [List.filterMap_cons, ho] at h
    exact h
theorem any_order (hs : Region.noSelect ops = true) (hQ : ∀ d v c a w, Q (.panic c) (Act.put a d v) w → Q (.panic c) a w) : ∀ (hd tl : List Nat) (fuel : Nat) (listed : Array Bool) (a : Act) (w : World), orderB md ops tl hd listed = true → hd.length + tl.length ≤ fuel →
    wpPure P ops (fun a' => wpList P ops Q (tl.filterMap fun i => ops[i]?) a' w) (hd.filterMap fun i => ops[i]?) a → wpAny P md ops Q fuel listed a w
  | [], tl, fuel, listed, a, w, hB, hf, h => any_tail tl fuel listed a w hB (by simpa using hf) h
  | i :: hd, tl, 0, listed, a, w, _, hf, _ => by simp at hf
  | i :: hd, tl, fuel + 1, listed, a, w, hB, hf, h => by
    simp only [orderB, Bool.and_eq_true] at hB
    obtain ⟨hr, hfr, hB⟩ := hB
    have hi : i ∈ Region.ready md ops listed := by simpa using hr
    obtain ⟨_, o, ho, _⟩ := mem_ready.1 hi
    rw [List.filterMap_cons, ho] at h
    simp only [wpPure] at h
    have hl : hd.length + tl.length ≤ fuel := by simp only [List.length_cons] at hf; omega
    split at h
    · rename_i hw
      obtain ⟨v, hv, h⟩ := h
      exact wpAny_take ho hs hfr hr (fun c a w => hQ o.dst v c a w) (Or.inl ⟨hw, hv⟩) (any_order hs hQ hd tl fuel _ _ w hB hl h)
    · rename_i hw
      exact wpAny_take ho hs hfr hr (fun c a w => hQ o.dst undef c a w) (Or.inr ⟨by simpa using hw, rfl⟩) (any_order hs hQ hd tl fuel _ _ w hB hl h)
/-- The region's law. -/
theorem region_order {id : Nat} {a : Act} {w : World} {l : List Oper} (hd tl : List Nat) (hm : P.follows .mixedOrders = true) (hB : (Region.noSelect l.toArray && orderB .any l.toArray tl hd (Array.replicate l.length false) && decide (hd.length + tl.length ≤ l.length)) = true)
    (hQ : ∀ d v c a w, Q (.panic c) (Act.put a d v) w → Q (.panic c) a w)
    (h : wpPure P l.toArray (fun a' => wpList P l.toArray Q (tl.filterMap fun i => l[i]?) a' w.drew) (hd.filterMap fun i => l[i]?) a) : (Code.region id l.toArray true).wp P Q a w := by
  simp only [Bool.and_eq_true, decide_eq_true_eq] at hB
  obtain ⟨⟨hs, hB⟩, hl⟩ := hB
  refine wp_region_any hm ?_
  have e : ∀ k : List Nat, (k.filterMap fun i => l.toArray[i]?) = k.filterMap fun i => l[i]? := fun k => by simp
  refine any_order hs hQ hd tl l.toArray.size _ a w.drew (by simpa using hB) (by simpa using hl) ?_
  rw [e, e]
  exact h
end
end Go.Proofs.YtmdgjcikekojdaaGreatDoor.Zo
