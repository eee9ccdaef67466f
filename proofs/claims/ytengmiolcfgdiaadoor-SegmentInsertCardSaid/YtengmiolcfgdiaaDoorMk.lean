/- Slices of structs of ints in memory: read, owned; spans, sites, marks. -/
import Derived.Test.YtengmiolcfgdiaaDoorOwn
import Derived.Test.YtengmiolcfgdiaaDoorMp
set_option linter.unusedVariables false
namespace Go.Proofs.YtengmiolcfgdiaaDoor.Rig
open Go.RowKit Go.Lib Go.Proofs.YtengmiolcfgdiaaDoor.Rt

/-- The slice v has n elements of k ints each: zs, one behind the other. -/
def Fl (w : World) (v : Value) (n k : Nat) (zs : List Int) : Prop :=
  zs.length = n * k ∧ (∀ x ∈ zs, i64 x) ∧ ∃ a cap, v = .slice a n cap ∧ n ≤ cap ∧ cap ≤ maxLen ∧ (n = 0 ∨ ∃ b off, a = some ⟨b, off, none⟩ ∧ b < w.heap.size ∧ ∀ j, j < n * k → w.cell? ⟨b, off + j, none⟩ = some (.int .i64 (at_ zs j)))
theorem Fl.below {w w' : World} {v : Value} {n k : Nat} {zs : List Int} (h : Fl w v n k zs) {B : Nat} (hb : Below B w w') (hB : w.heap.size ≤ B) : Fl w' v n k zs := by
  obtain ⟨h0, h0', a, cap, rfl, h1, h2, h3⟩ := h
  refine ⟨h0, h0', a, cap, rfl, h1, h2, ?_⟩
  rcases h3 with h3 | ⟨b, off, rfl, hlt, hc⟩
  · exact .inl h3
  · refine .inr ⟨b, off, rfl, Nat.lt_of_lt_of_le hlt hb.size, fun j hj => ?_⟩
    rw [hb.cell (p := ⟨b, off + j, none⟩) (Nat.lt_of_lt_of_le hlt hB)]
    exact hc j hj
theorem Fl.is_slice {w : World} {v : Value} {n k : Nat} {zs : List Int} (h : Fl w v n k zs) : ∃ a cap, v = .slice a n cap := by
  obtain ⟨_, _, a, cap, rfl, _⟩ := h
  exact ⟨a, cap, rfl⟩
/-- The call's own. -/
def OwnF (T : TypeId) (base : Nat) (w : World) (v : Value) (n k : Nat) (zs : List Int) : Prop := w.ownsRow base T k v n (ints zs) ∧ ∀ x ∈ zs, i64 x
theorem OwnF.fl {T : TypeId} {base : Nat} {w : World} {v : Value} {n k : Nat} {zs : List Int} (h : OwnF T base w v n k zs) : Fl w v n k zs := by
  obtain ⟨h1, h2⟩ := h
  have hl : zs.length = n * k := by have := h1.1; rwa [ints_len] at this
  refine ⟨hl, h2, ?_⟩
  rcases h1.2 with ⟨rfl, h0⟩ | ⟨g, cap, cur, rfl, hb, hg, hle, hm, hsz, htake⟩
  · subst h0
    exact ⟨none, 0, rfl, Nat.le_refl _, Nat.zero_le _, .inl rfl⟩
  · refine ⟨some ⟨g, 0, none⟩, cap, rfl, hle, hm, .inr ⟨g, 0, rfl, (Array.getElem?_eq_some_iff.1 hg).1, fun j hj => ?_⟩⟩
    have hc := World.ownsRow.cells h1 (g := g) rfl j (.int .i64 (at_ zs j)) (ints_get (by omega))
    have hadd : (⟨g, 0, none⟩ : Addr).add j = ⟨g, j, none⟩ := by unfold Addr.add; split <;> simp_all
    rw [hadd] at hc
    rw [Nat.zero_add]
    exact hc
theorem OwnF.kept {T : TypeId} {base : Nat} {w w' : World} {v : Value} {n k : Nat} {zs : List Int} {row : Option Nat} (h : OwnF T base w v n k zs) (hg : w.grownBy w' row) (hne : v.ownBlock = none ∨ v.ownBlock ≠ row) : OwnF T base w' v n k zs :=
  ⟨h.1.kept hg hne, h.2⟩
theorem OwnF.below {T : TypeId} {base : Nat} {w w' : World} {v : Value} {n k : Nat} {zs : List Int} (h : OwnF T base w v n k zs) (hb : Below w.heap.size w w') : OwnF T base w' v n k zs :=
  h.kept (grown_below hb none) (by cases hv : v.ownBlock <;> simp)
theorem OwnF.nil_ (T : TypeId) (base : Nat) (w : World) (k : Nat) : OwnF T base w (.slice none 0 0) 0 k [] := ⟨World.ownsRow_nil _ _ _ _, fun _ h => by simp at h⟩
theorem OwnF.block {T : TypeId} {base : Nat} {w : World} {v : Value} {n k : Nat} {zs : List Int} (h : OwnF T base w v n k zs) : ∀ b, v.ownBlock = some b → base ≤ b ∧ b < w.heap.size := h.1.lt
theorem OwnF.is_slice {T : TypeId} {base : Nat} {w : World} {v : Value} {n k : Nat} {zs : List Int} (h : OwnF T base w v n k zs) : ∃ a cap, v = .slice a n cap := h.fl.is_slice

def Sp.good (s : Sp) : Prop := i64 s.m ∧ i64 s.f ∧ i64 s.t
def St.good (s : St) : Prop := i64 s.m ∧ i64 s.a
def Spans (w : World) (v : Value) (S : List Sp) : Prop := Fl w v S.length 3 (fl3 S)
def Sites (w : World) (v : Value) (T : List St) : Prop := Fl w v T.length 2 (fl2 T)
theorem Spans.below {w w' : World} {v : Value} {S : List Sp} (h : Spans w v S) {B : Nat} (hb : Below B w w') (hB : w.heap.size ≤ B) : Spans w' v S := Fl.below h hb hB
theorem Sites.below {w w' : World} {v : Value} {S : List St} (h : Sites w v S) {B : Nat} (hb : Below B w w') (hB : w.heap.size ≤ B) : Sites w' v S := Fl.below h hb hB
theorem Spans.is_slice {w : World} {v : Value} {S : List Sp} (h : Spans w v S) : ∃ a cap, v = .slice a S.length cap := Fl.is_slice h
theorem Sites.is_slice {w : World} {v : Value} {S : List St} (h : Sites w v S) : ∃ a cap, v = .slice a S.length cap := Fl.is_slice h
theorem at_i64 {zs : List Int} (h : ∀ x ∈ zs, i64 x) {j : Nat} (hj : j < zs.length) : i64 (at_ zs j) := h _ (at_mem hj)
theorem Spans.open_ {w : World} {v : Value} {S : List Sp} (h : Spans w v S) :
    ∃ a cap, v = .slice a S.length cap ∧ S.length ≤ cap ∧ cap ≤ 9223372036854775807 ∧ ∀ j, j < S.length → ∃ b off, a = some ⟨b, off, none⟩ ∧ b < w.heap.size ∧ Sp.good (sp S j) ∧
      w.cell? ⟨b, off + j * 3, none⟩ = some (.int .i64 (sp S j).m) ∧ w.cell? ⟨b, off + j * 3 + 1, none⟩ = some (.int .i64 (sp S j).f) ∧ w.cell? ⟨b, off + j * 3 + 2, none⟩ = some (.int .i64 (sp S j).t) := by
  obtain ⟨h0, hg, a, cap, rfl, h1, h2, h3⟩ := h
  unfold maxLen at h2
  refine ⟨a, cap, rfl, h1, h2, fun j hj => ?_⟩
  rcases h3 with h3 | ⟨b, off, rfl, hlt, hc⟩
  · omega
  · obtain ⟨e0, e1, e2⟩ := fl3_at S j hj
    refine ⟨b, off, rfl, hlt, ⟨?_, ?_, ?_⟩, ?_, ?_, ?_⟩
    · rw [← e0]; exact at_i64 hg (by omega)
    · rw [← e1]; exact at_i64 hg (by omega)
    · rw [← e2]; exact at_i64 hg (by omega)
    · rw [← e0]; exact hc _ (by omega)
    · rw [← e1, Nat.add_assoc]; exact hc _ (by omega)
    · rw [← e2, Nat.add_assoc]; exact hc _ (by omega)
theorem Sites.open_ {w : World} {v : Value} {S : List St} (h : Sites w v S) :
    ∃ a cap, v = .slice a S.length cap ∧ S.length ≤ cap ∧ cap ≤ 9223372036854775807 ∧ ∀ j, j < S.length → ∃ b off, a = some ⟨b, off, none⟩ ∧ b < w.heap.size ∧ St.good (st S j) ∧
      w.cell? ⟨b, off + j * 2, none⟩ = some (.int .i64 (st S j).m) ∧ w.cell? ⟨b, off + j * 2 + 1, none⟩ = some (.int .i64 (st S j).a) := by
  obtain ⟨h0, hg, a, cap, rfl, h1, h2, h3⟩ := h
  unfold maxLen at h2
  refine ⟨a, cap, rfl, h1, h2, fun j hj => ?_⟩
  rcases h3 with h3 | ⟨b, off, rfl, hlt, hc⟩
  · omega
  · obtain ⟨e0, e1⟩ := fl2_at S j hj
    refine ⟨b, off, rfl, hlt, ⟨?_, ?_⟩, ?_, ?_⟩
    · rw [← e0]; exact at_i64 hg (by omega)
    · rw [← e1]; exact at_i64 hg (by omega)
    · rw [← e0]; exact hc _ (by omega)
    · rw [← e1, Nat.add_assoc]; exact hc _ (by omega)
theorem Spans.nil_ (w : World) : Spans w (.slice none 0 0) [] := (OwnF.nil_ 0 0 w 3).fl
theorem Sites.nil_ (w : World) : Sites w (.slice none 0 0) [] := (OwnF.nil_ 0 0 w 2).fl
def OwnSp (base : Nat) (w : World) (v : Value) (S : List Sp) : Prop := OwnF 104 base w v S.length 3 (fl3 S)
def OwnSt (base : Nat) (w : World) (v : Value) (T : List St) : Prop := OwnF 120 base w v T.length 2 (fl2 T)
theorem OwnSp.spans {base : Nat} {w : World} {v : Value} {S : List Sp} (h : OwnSp base w v S) : Spans w v S := OwnF.fl h
theorem OwnSt.sites {base : Nat} {w : World} {v : Value} {S : List St} (h : OwnSt base w v S) : Sites w v S := OwnF.fl h
end Go.Proofs.YtengmiolcfgdiaaDoor.Rig
