/- Frame: what the document asks, as plain lists; streams that are cut. No program is spoken of here. -/
import Derived.Test.YtffejfpbeimngaaDoorBx
set_option linter.unusedVariables false
set_option linter.unusedSimpArgs false
namespace Go.Proofs.YtffejfpbeimngaaDoor.Frm
open Go.Lib

def mkB (l : List UInt8) : ByteArray := ⟨l.toArray⟩
theorem mkB_data (l : List UInt8) : (mkB l).data.toList = l := rfl
theorem mkB_self (s : ByteArray) : mkB s.data.toList = s := rfl
theorem mkB_size (l : List UInt8) : (mkB l).size = l.length := by
  show l.toArray.size = _
  simp
theorem mkB_inj {l m : List UInt8} (h : mkB l = mkB m) : l = m := by
  have := congrArg (fun s : ByteArray => s.data.toList) h
  exact this
theorem mkB_app (l m : List UInt8) : mkB l ++ mkB m = mkB (l ++ m) := by
  have h : (mkB l ++ mkB m).data.toList = l ++ m := by
    rw [ByteArray.data_append, Array.toList_append]
    rfl
  rw [← mkB_self (mkB l ++ mkB m), h]
theorem mkB_extract (l : List UInt8) (a b : Nat) : (mkB l).extract a b = mkB ((l.take b).drop a) := by
  have h : ((mkB l).extract a b).data.toList = (l.take b).drop a := by
    rw [ByteArray.data_extract, Array.toList_extract, List.extract_eq_take_drop, List.drop_take]
    rfl
  rw [← mkB_self ((mkB l).extract a b), h]
def hd (l : List UInt8) : Nat := (l.getD 0 0).toNat * 256 + (l.getD 1 0).toNat
abbrev Res := List (List UInt8) × List UInt8 × Bool
def consR (x : List UInt8) (p : Res) : Res := (x :: p.1, p.2.1, p.2.2)
def appR (x : List (List UInt8)) (p : Res) : Res := (x ++ p.1, p.2.1, p.2.2)
def splitF (most : Int) : Nat → List UInt8 → Res
  | 0, l => ([], l, true)
  | k + 1, l => if l.length < 2 then ([], l, true) else if hd l = 0 ∨ most < hd l then ([], [], false) else if l.length < hd l + 2 then ([], l, true) else consR ((l.take (hd l + 2)).drop 2) (splitF most k (l.drop (hd l + 2)))
def sp (most : Int) (l : List UInt8) : Res := splitF most l.length l
theorem splitF_fuel (most : Int) : ∀ (k m : Nat) (l : List UInt8), l.length ≤ k → l.length ≤ m → splitF most k l = splitF most m l
  | 0, 0, l, _, _ => rfl
  | 0, m + 1, l, h, _ => by
    have : l.length = 0 := by omega
    rw [splitF, splitF, if_pos (by omega)]
  | k + 1, 0, l, _, h => by
    have : l.length = 0 := by omega
    rw [splitF, splitF, if_pos (by omega)]
  | k + 1, m + 1, l, h, h' => by
    rw [splitF, splitF]
    by_cases h1 : l.length < 2
    · rw [if_pos h1, if_pos h1]
    · rw [if_neg h1, if_neg h1, splitF_fuel most k m _ (by rw [List.length_drop]; omega) (by rw [List.length_drop]; omega)]
theorem sp_short {most : Int} {l : List UInt8} (h : l.length < 2) : sp most l = ([], l, true) := by
  unfold sp
  rw [splitF_fuel most _ (l.length + 1) l (Nat.le_refl _) (Nat.le_succ _), splitF, if_pos h]
theorem sp_bad {most : Int} {l : List UInt8} (h : 2 ≤ l.length) (h1 : hd l = 0 ∨ most < hd l) : sp most l = ([], [], false) := by
  unfold sp
  rw [splitF_fuel most _ (l.length + 1) l (Nat.le_refl _) (Nat.le_succ _), splitF, if_neg (by omega), if_pos h1]
theorem sp_part {most : Int} {l : List UInt8} (h : 2 ≤ l.length) (h1 : ¬ (hd l = 0 ∨ most < hd l)) (h2 : l.length < hd l + 2) : sp most l = ([], l, true) := by
  unfold sp
  rw [splitF_fuel most _ (l.length + 1) l (Nat.le_refl _) (Nat.le_succ _), splitF, if_neg (by omega), if_neg h1, if_pos h2]
theorem sp_step {most : Int} {l : List UInt8} (h1 : ¬ (hd l = 0 ∨ most < hd l)) (h2 : hd l + 2 ≤ l.length) : sp most l = consR ((l.take (hd l + 2)).drop 2) (sp most (l.drop (hd l + 2))) := by
  show splitF most l.length l = _
  rw [splitF_fuel most _ (l.length + 1) l (Nat.le_refl _) (Nat.le_succ _), splitF, if_neg (by omega), if_neg h1, if_neg (by omega)]
  unfold sp
  rw [splitF_fuel most l.length (l.drop (hd l + 2)).length _ (by rw [List.length_drop]; omega) (Nat.le_refl _)]
theorem appR_nil (p : Res) : appR [] p = p := rfl
theorem appR_cons (x : List UInt8) (X : List (List UInt8)) (p : Res) : appR X (consR x p) = appR (X ++ [x]) p := by
  unfold appR consR
  simp
theorem consR_app (x : List UInt8) (X : List (List UInt8)) (p : Res) : consR x (appR X p) = appR (x :: X) p := rfl
theorem hd_app {l b : List UInt8} (h : 2 ≤ l.length) : hd (l ++ b) = hd l := by
  unfold hd
  rw [List.getD_eq_getElem?_getD, List.getD_eq_getElem?_getD, List.getD_eq_getElem?_getD, List.getD_eq_getElem?_getD, List.getElem?_append_left (by omega), List.getElem?_append_left (by omega)]
/-- What goes on behind a stream whose beginning has been split. -/
def Goes (most : Int) (l b : List UInt8) (p : Res) : Prop := (p.2.2 = true → sp most (l ++ b) = appR p.1 (sp most (p.2.1 ++ b))) ∧ (p.2.2 = false → p.2.1 = [] ∧ sp most (l ++ b) = (p.1, [], false))
theorem sp_app (most : Int) : ∀ (k : Nat) (l b : List UInt8), l.length ≤ k → Goes most l b (sp most l)
  | k, l, b, hk => by
    by_cases h0 : l.length < 2
    · rw [sp_short h0]
      exact ⟨fun _ => rfl, fun h => by cases h⟩
    · by_cases h1 : hd l = 0 ∨ most < hd l
      · rw [sp_bad (by omega) h1]
        refine ⟨fun h => (by cases h), fun _ => ⟨rfl, ?_⟩⟩
        exact sp_bad (by rw [List.length_append]; omega) (by rw [hd_app (by omega)]; exact h1)
      · by_cases h2 : l.length < hd l + 2
        · rw [sp_part (by omega) h1 h2]
          exact ⟨fun _ => rfl, fun h => by cases h⟩
        · match k, hk with
          | 0, hk => omega
          | k + 1, hk =>
            have ih := sp_app most k (l.drop (hd l + 2)) b (by rw [List.length_drop]; omega)
            have e : sp most (l ++ b) = consR ((l.take (hd l + 2)).drop 2) (sp most (l.drop (hd l + 2) ++ b)) := by
              rw [sp_step (l := l ++ b) (by rw [hd_app (by omega)]; exact h1) (by rw [hd_app (by omega), List.length_append]; omega), hd_app (by omega), List.take_append_of_le_length (by omega), List.drop_append_of_le_length (by omega)]
            rw [sp_step h1 (by omega)]
            obtain ⟨i1, i2⟩ := ih
            generalize sp most (l.drop (hd l + 2)) = p at *
            refine ⟨fun h => ?_, fun h => ?_⟩
            · rw [e, i1 h]
              rfl
            · obtain ⟨j1, j2⟩ := i2 h
              refine ⟨j1, ?_⟩
              rw [e, j2]
              rfl
def wrapB (l : List UInt8) : List UInt8 := UInt8.ofNat (l.length / 256) :: UInt8.ofNat (l.length % 256) :: l
theorem hd_wrap {l r : List UInt8} (h : l.length ≤ 65535) : hd (wrapB l ++ r) = l.length := by
  show (UInt8.ofNat (l.length / 256)).toNat * 256 + (UInt8.ofNat (l.length % 256)).toNat = _
  rw [UInt8.toNat_ofNat', UInt8.toNat_ofNat', Nat.mod_eq_of_lt (show l.length / 256 < 2 ^ 8 by omega), Nat.mod_eq_of_lt (show l.length % 256 < 2 ^ 8 by omega)]
  omega
theorem wrap_len (l : List UInt8) : (wrapB l).length = l.length + 2 := rfl
theorem sp_wrap {most : Int} {l r : List UInt8} (h1 : 1 ≤ l.length) (h2 : l.length ≤ 65535) (h3 : (l.length : Int) ≤ most) : sp most (wrapB l ++ r) = consR l (sp most r) := by
  have e := hd_wrap (r := r) h2
  rw [sp_step (by rw [e]; omega) (by rw [e, List.length_append, wrap_len]; omega), e]
  have e1 : (wrapB l ++ r).drop (l.length + 2) = r := by
    rw [List.drop_append_of_le_length (by rw [wrap_len]; omega), List.drop_of_length_le (by rw [wrap_len]; omega)]
    rfl
  have e2 : ((wrapB l ++ r).take (l.length + 2)).drop 2 = l := by
    rw [List.take_append_of_le_length (by rw [wrap_len]; omega), List.take_of_length_le (by rw [wrap_len]; omega)]
    rfl
  rw [e1, e2]
theorem sp_many {most : Int} : ∀ (X : List (List UInt8)) (r : List UInt8), (∀ x ∈ X, 1 ≤ x.length ∧ x.length ≤ 65535 ∧ (x.length : Int) ≤ most) → r.length < 2 → sp most (X.flatMap wrapB ++ r) = (X, r, true)
  | [], r, _, hr => sp_short hr
  | x :: X, r, h, hr => by
    obtain ⟨a, b, c⟩ := h x List.mem_cons_self
    rw [List.flatMap_cons, List.append_assoc, sp_wrap a b c, sp_many X r (fun y hy => h y (List.mem_cons_of_mem _ hy)) hr]
    rfl
end Go.Proofs.YtffejfpbeimngaaDoor.Frm
