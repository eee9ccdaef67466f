/- View: a function that tells labels; says. -/
import Derived.Test.YtcpdoicbekcpeaaDoorVd
import Derived.Defers
import Derived.Recover
import Derived.Shelf.Abstract
import Derived.Laws.Pointers
set_option linter.unusedVariables false
set_option linter.unusedSimpArgs false
set_option maxRecDepth 100000
namespace Go.Proofs.YtcpdoicbekcpeaaDoor.Vi
open Go.RowKit Go.Lib Go.Proofs.YtcpdoicbekcpeaaDoor.Rk

theorem idle (w : World) :
    CallsD Tryd.prog 116 #[] .returning w fun e u' w' => e = .returned (.tuple #[]) ∧ u' = .returning ∧ w' = w := by
  refine callsD_of_wpS Tryd.func116 rfl fun c₀ cs hu => ?_
  apply wpS_region
  simp [wpOpsS, go_sem, recoverD, hu, Tryd.ntmps116, Exit.thenS, bodyPostS, results, Tryd.results116]
  cases c₀
  simp_all
theorem neq_nil (f : FuncId) (cap : Array Value) (w : World) : (binOp .neq 42 (.func (.func f) #[] cap) .nilFunc).run Tryd.prog w = .ok (.bool true) w := by
  have h : ∀ d : Nat, (Op.equalIn (d + 1) 42 (.func (.func f) #[] cap) .nilFunc).run Tryd.prog w = .ok false w := fun d => by
    simp [Op.equalIn, run_underlying Tryd.underlying42]
  simp only [binOp]
  simp [Op.equal, Op.maxDepth, h 9999]
/-- A function that tells labels. -/
def Opens (w : World) (v : Value) (o : Int → Bool) : Prop := ∃ f cap, v = .func (.func f) #[] cap ∧ (∀ args w, Sem.run Tryd.prog (callFunc f args) w = .ok (.enter f args) w) ∧ ∀ n w', Below w.heap.size w w' → Calls Tryd.prog f (#[.int .i64 n] ++ cap) w' fun e w'' => e = .returned (.bool (o n)) ∧ w'' = w'
theorem Opens.below {w w' : World} {v : Value} {o : Int → Bool} (h : Opens w v o) (hb : Below w.heap.size w w') : Opens w' v o := by
  obtain ⟨f, cap, e, he, h⟩ := h
  exact ⟨f, cap, e, he, fun n w'' hb' => h n w'' (hb.trans (hb'.mono hb.size))⟩
set_option maxHeartbeats 4000000 in
theorem says_any {v : Value} {o : Int → Bool} (n : Int) (w : World) (h : Opens w v o) : Calls Tryd.prog 92 #[v, .int .i64 n] w fun e w' => e = .returned (.bool (o n)) ∧ w' = w := by
  obtain ⟨f, cap, rfl, he, h⟩ := h
  have C := Lib.hid (h n w (Below.refl _ _))
  have hn := neq_nil f cap
  clear h
  go_enter_defers Tryd.func92, Tryd.ntmps92
  go_wp2_with fail
  refine (C.out).mono ?_
  rintro e w1 ⟨rfl, rfl⟩
  generalize hbn : o n = b at *
  have HBN := Lib.hid hbn
  clear C hn he hbn
  go_wp2_with fail
  refine leaves_cons (f := 116) (args := #[]) (by simp) (by simp [go_sem]) ?_
  refine (idle _).mono ?_
  rintro e u' w'' ⟨rfl, rfl, rfl⟩
  simp [Leaves, settle, results, Tryd.results92, go_sem]
  exact HBN.out.symm
section
theorem clo_yes (f : FuncId) (w : World) (b : Bool) (he : ∀ args w, Sem.run Tryd.prog (callFunc f args) w = .ok (.enter f args) w) (h : ∀ n w', Calls Tryd.prog f #[.int .i64 n] w' fun e w'' => e = .returned (.bool b) ∧ w'' = w') : Opens w (.func (.func f) #[] #[]) (fun _ => b) :=
  ⟨f, #[], rfl, he, fun n w' _ => h n w'⟩
set_option maxHeartbeats 4000000 in
theorem yes49 (w : World) : Opens w (.func (.func 49) #[] #[]) (fun _ => true) := by
  refine clo_yes _ w _ (enters_of Tryd.func49 (by kernel_rfl) rfl) fun n w' => ?_
  go_enter Tryd.func49, Tryd.ntmps49
  go_wp2_with fail
  go_ret
  simp
set_option maxHeartbeats 4000000 in
theorem yes58 (w : World) : Opens w (.func (.func 58) #[] #[]) (fun _ => true) := by
  refine clo_yes _ w _ (enters_of Tryd.func58 (by kernel_rfl) rfl) fun n w' => ?_
  go_enter Tryd.func58, Tryd.ntmps58
  go_wp2_with fail
  go_ret
  simp
set_option maxHeartbeats 4000000 in
theorem no56 (w : World) : Opens w (.func (.func 56) #[] #[]) (fun _ => false) := by
  refine clo_yes _ w _ (enters_of Tryd.func56 (by kernel_rfl) rfl) fun n w' => ?_
  go_enter Tryd.func56, Tryd.ntmps56
  go_wp2_with fail
  go_ret
  simp
end
/-- A list of bools that is read. -/
def Bls (w : World) (v : Value) (B : List Bool) : Prop := RowK 1 w v (B.map fun b => [.bool b])
theorem Bls.below {w w' : World} {v : Value} {B : List Bool} (h : Bls w v B) (hb : Below w.heap.size w w') : Bls w' v B := RowK.below h hb (Nat.le_refl _)
theorem Bls.open_ {w : World} {v : Value} {B : List Bool} (h : Bls w v B) : ∃ a cap, v = .slice a B.length cap ∧ B.length ≤ cap ∧ cap ≤ maxLen ∧ ∀ j (hj : j < B.length), ∃ b off, a = some ⟨b, off, none⟩ ∧ b < w.heap.size ∧ w.cell? ⟨b, off + j, none⟩ = some (.bool B[j]) := by
  obtain ⟨_, a, cap, e, h1, h2, h3⟩ := h
  rw [List.length_map] at e h1
  refine ⟨a, cap, e, h1, h2, fun j hj => ?_⟩
  rcases h3 with h3 | ⟨b, off, rfl, hb, hc⟩
  · have : B.length = 0 := by rw [← List.length_map (f := fun b => [Value.bool b]), h3]; rfl
    omega
  · have hc' := hc j (by rw [List.length_map]; exact hj) 0
    simp only [List.getElem_map, Nat.mul_one, Nat.add_zero] at hc'
    exact ⟨b, off, rfl, hb, hc' _ rfl⟩
/-- The law's function. -/
def told (B : List Bool) (n : Int) : Bool := decide (0 ≤ n) && (B[n.toNat]?).getD false
theorem told_no {B : List Bool} {n : Int} (h : n < 0) : told B n = false := by
  unfold told
  rw [decide_eq_false (by omega)]; rfl
theorem told_out {B : List Bool} {n : Int} (h : (B.length : Int) ≤ n) : told B n = false := by
  unfold told
  rw [List.getElem?_eq_none (by omega)]; simp
theorem told_in {B : List Bool} {k : Nat} (h : k < B.length) : told B (k : Int) = B[k] := by
  unfold told
  rw [decide_eq_true (by omega)]
  simp [h]
set_option maxHeartbeats 4000000 in
theorem tells_ViewRuns {v : Value} {B : List Bool} {p : Nat} (w : World) (hp : p < w.heap.size) (hc : w.cell? ⟨p, 0, none⟩ = some v) (h : Bls w v B) : Opens w (.func (.func 50) #[] #[.pointer (some ⟨p, 0, none⟩)]) (told B) := by
  refine ⟨_, _, rfl, enters_of Tryd.func50 (by kernel_rfl) rfl, fun n w' hb => ?_⟩
  obtain ⟨a, cap, rfl, h1, h2, h3⟩ := (h.below hb).open_
  replace hc := (hb.cell (p := ⟨p, 0, none⟩) hp).trans hc
  have T0 := told_no (B := B) (n := n)
  have T1 := told_out (B := B) (n := n)
  have T2 := fun k => @told_in B k
  obtain ⟨m, hm⟩ : ∃ m, m = B.length := ⟨_, rfl⟩
  rw [← hm] at T1 h1 hc
  show Calls _ _ #[.int .i64 n, .pointer (some ⟨p, 0, none⟩)] _ _
  unfold maxLen at h2
  by_cases q0 : n < 0
  · have t := T0 q0
    rw [t]
    have j0 : ¬ (0 ≤ n) := by omega
    have j1 : decide (0 ≤ n) = false := decide_eq_false j0
    clear T0 T1 T2 h3 t
    go_enter Tryd.func50, Tryd.ntmps50
    go_wp2_with fail
    go_ret
    simp
  · obtain ⟨k, rfl⟩ : ∃ k : Nat, n = k := ⟨n.toNat, by omega⟩
    have j0 : (0 : Int) ≤ (k : Int) := by omega
    have j1 : decide ((0 : Int) ≤ (k : Int)) = true := decide_eq_true j0
    by_cases q1 : k < m
    · have hk : k < B.length := by rw [← hm]; exact q1
      obtain ⟨b, off, rfl, hbl, c0⟩ := h3 k hk
      rw [T2 k hk]
      generalize B[k] = y at *
      have j2 : (k : Int) < (m : Int) := by omega
      have j3 : decide ((k : Int) < (m : Int)) = true := decide_eq_true j2
      clear T0 T1 T2 h3 hm
      go_enter Tryd.func50, Tryd.ntmps50
      go_wp2_with fail
      go_ret
      simp
    · have t := T1 (by omega)
      rw [t]
      have j2 : ¬ ((k : Int) < (m : Int)) := by omega
      have j3 : decide ((k : Int) < (m : Int)) = false := decide_eq_false j2
      clear T0 T1 T2 h3 hm t
      go_enter Tryd.func50, Tryd.ntmps50
      go_wp2_with fail
      go_ret
      simp
set_option maxHeartbeats 4000000 in
theorem tells_ViewHides {v : Value} {B : List Bool} {p : Nat} (w : World) (hp : p < w.heap.size) (hc : w.cell? ⟨p, 0, none⟩ = some v) (h : Bls w v B) : Opens w (.func (.func 57) #[] #[.pointer (some ⟨p, 0, none⟩)]) (told B) := by
  refine ⟨_, _, rfl, enters_of Tryd.func57 (by kernel_rfl) rfl, fun n w' hb => ?_⟩
  obtain ⟨a, cap, rfl, h1, h2, h3⟩ := (h.below hb).open_
  replace hc := (hb.cell (p := ⟨p, 0, none⟩) hp).trans hc
  have T0 := told_no (B := B) (n := n)
  have T1 := told_out (B := B) (n := n)
  have T2 := fun k => @told_in B k
  obtain ⟨m, hm⟩ : ∃ m, m = B.length := ⟨_, rfl⟩
  rw [← hm] at T1 h1 hc
  show Calls _ _ #[.int .i64 n, .pointer (some ⟨p, 0, none⟩)] _ _
  unfold maxLen at h2
  by_cases q0 : n < 0
  · have t := T0 q0
    rw [t]
    have j0 : ¬ (0 ≤ n) := by omega
    have j1 : decide (0 ≤ n) = false := decide_eq_false j0
    clear T0 T1 T2 h3 t
    go_enter Tryd.func57, Tryd.ntmps57
    go_wp2_with fail
    go_ret
    simp
  · obtain ⟨k, rfl⟩ : ∃ k : Nat, n = k := ⟨n.toNat, by omega⟩
    have j0 : (0 : Int) ≤ (k : Int) := by omega
    have j1 : decide ((0 : Int) ≤ (k : Int)) = true := decide_eq_true j0
    by_cases q1 : k < m
    · have hk : k < B.length := by rw [← hm]; exact q1
      obtain ⟨b, off, rfl, hbl, c0⟩ := h3 k hk
      rw [T2 k hk]
      generalize B[k] = y at *
      have j2 : (k : Int) < (m : Int) := by omega
      have j3 : decide ((k : Int) < (m : Int)) = true := decide_eq_true j2
      clear T0 T1 T2 h3 hm
      go_enter Tryd.func57, Tryd.ntmps57
      go_wp2_with fail
      go_ret
      simp
    · have t := T1 (by omega)
      rw [t]
      have j2 : ¬ ((k : Int) < (m : Int)) := by omega
      have j3 : decide ((k : Int) < (m : Int)) = false := decide_eq_false j2
      clear T0 T1 T2 h3 hm t
      go_enter Tryd.func57, Tryd.ntmps57
      go_wp2_with fail
      go_ret
      simp
set_option maxHeartbeats 4000000 in
theorem tells_ViewWindows {v : Value} {B : List Bool} {p : Nat} (w : World) (hp : p < w.heap.size) (hc : w.cell? ⟨p, 0, none⟩ = some v) (h : Bls w v B) : Opens w (.func (.func 59) #[] #[.pointer (some ⟨p, 0, none⟩)]) (told B) := by
  refine ⟨_, _, rfl, enters_of Tryd.func59 (by kernel_rfl) rfl, fun n w' hb => ?_⟩
  obtain ⟨a, cap, rfl, h1, h2, h3⟩ := (h.below hb).open_
  replace hc := (hb.cell (p := ⟨p, 0, none⟩) hp).trans hc
  have T0 := told_no (B := B) (n := n)
  have T1 := told_out (B := B) (n := n)
  have T2 := fun k => @told_in B k
  obtain ⟨m, hm⟩ : ∃ m, m = B.length := ⟨_, rfl⟩
  rw [← hm] at T1 h1 hc
  show Calls _ _ #[.int .i64 n, .pointer (some ⟨p, 0, none⟩)] _ _
  unfold maxLen at h2
  by_cases q0 : n < 0
  · have t := T0 q0
    rw [t]
    have j0 : ¬ (0 ≤ n) := by omega
    have j1 : decide (0 ≤ n) = false := decide_eq_false j0
    clear T0 T1 T2 h3 t
    go_enter Tryd.func59, Tryd.ntmps59
    go_wp2_with fail
    go_ret
    simp
  · obtain ⟨k, rfl⟩ : ∃ k : Nat, n = k := ⟨n.toNat, by omega⟩
    have j0 : (0 : Int) ≤ (k : Int) := by omega
    have j1 : decide ((0 : Int) ≤ (k : Int)) = true := decide_eq_true j0
    by_cases q1 : k < m
    · have hk : k < B.length := by rw [← hm]; exact q1
      obtain ⟨b, off, rfl, hbl, c0⟩ := h3 k hk
      rw [T2 k hk]
      generalize B[k] = y at *
      have j2 : (k : Int) < (m : Int) := by omega
      have j3 : decide ((k : Int) < (m : Int)) = true := decide_eq_true j2
      clear T0 T1 T2 h3 hm
      go_enter Tryd.func59, Tryd.ntmps59
      go_wp2_with fail
      go_ret
      simp
    · have t := T1 (by omega)
      rw [t]
      have j2 : ¬ ((k : Int) < (m : Int)) := by omega
      have j3 : decide ((k : Int) < (m : Int)) = false := decide_eq_false j2
      clear T0 T1 T2 h3 hm t
      go_enter Tryd.func59, Tryd.ntmps59
      go_wp2_with fail
      go_ret
      simp
end Go.Proofs.YtcpdoicbekcpeaaDoor.Vi
