/- What is undone of a mark: the letters. -/
import Derived.Test.YtcpdoicbekcpeaaDoorUp
set_option linter.unusedVariables false
set_option maxRecDepth 100000
namespace Go.Proofs.YtcpdoicbekcpeaaDoor.Seg
open Go.RowKit Go.Lib Go.Proofs.YtcpdoicbekcpeaaDoor.Rt Go.Proofs.YtcpdoicbekcpeaaDoor.Rig

theorem byt_take {L : Bytes} (hr : Let.right L = true) {a c : Nat} (hac : a ≤ c) (hc : c ≤ Let.cnt L) : Let.byt a (L.take (Let.byt c L)) = Let.byt a L := by
  have h1 := Let.right_take c L hr
  have h2 := Let.byt_app_left (L.drop (Let.byt c L)) _ h1.1 a (by rw [h1.2]; omega)
  rw [List.take_append_drop] at h2
  exact h2.symm
theorem byt_drop {L : Bytes} (hr : Let.right L = true) {b : Nat} (hb : b ≤ Let.cnt L) (j : Nat) : Let.byt (b + j) L = Let.byt b L + Let.byt j (L.drop (Let.byt b L)) := by
  have h1 := Let.right_take b L hr
  have h2 := Let.byt_app_right (L.drop (Let.byt b L)) _ h1.1 j
  rw [h1.2, Nat.min_eq_left hb, List.take_append_drop, List.length_take, Nat.min_eq_left (Let.byt_le b L)] at h2
  exact h2
theorem dropL_comm {L : Bytes} (hr : Let.right L = true) {a b j k : Nat} (hab : a ≤ b) (hjk : j ≤ k) (hd : b + k ≤ Let.cnt L) :
    Con.dropL (Con.dropL L a b) (a + j : Nat) (a + k : Nat) = Con.dropL (Con.dropL L (b + j : Nat) (b + k : Nat)) a b := by
  have m1 := Let.byt_mono hab L
  have m2 := Let.byt_mono (show b ≤ b + j by omega) L
  have m3 := Let.byt_mono (show b + j ≤ b + k by omega) L
  have l3 := Let.byt_le (b + k) L
  have ha := Let.right_take a L hr
  have hc := Let.right_take (b + j) L hr
  have ea : (L.take (Let.byt a L)).length = Let.byt a L := by rw [List.length_take]; omega
  have ec : (L.take (Let.byt (b + j) L)).length = Let.byt (b + j) L := by rw [List.length_take]; omega
  have n1 : Let.byt (a + j) (L.take (Let.byt a L) ++ L.drop (Let.byt b L)) = Let.byt a L + (Let.byt (b + j) L - Let.byt b L) := by
    have h := Let.byt_app_right (L.drop (Let.byt b L)) _ ha.1 j
    rw [ha.2, Nat.min_eq_left (by omega), ea] at h
    rw [h, byt_drop hr (by omega) j]
    omega
  have n2 : Let.byt (a + k) (L.take (Let.byt a L) ++ L.drop (Let.byt b L)) = Let.byt a L + (Let.byt (b + k) L - Let.byt b L) := by
    have h := Let.byt_app_right (L.drop (Let.byt b L)) _ ha.1 k
    rw [ha.2, Nat.min_eq_left (by omega), ea] at h
    rw [h, byt_drop hr (by omega) k]
    omega
  have n3 : Let.byt a (L.take (Let.byt (b + j) L) ++ L.drop (Let.byt (b + k) L)) = Let.byt a L := by
    rw [Let.byt_app_left _ _ hc.1 a (by rw [hc.2]; omega), byt_take hr (by omega) (by omega)]
  have n4 : Let.byt b (L.take (Let.byt (b + j) L) ++ L.drop (Let.byt (b + k) L)) = Let.byt b L := by
    rw [Let.byt_app_left _ _ hc.1 b (by rw [hc.2]; omega), byt_take hr (by omega) (by omega)]
  rw [dropL_eq (Con.dropL L a b) (show a + j ≤ a + k by omega), dropL_eq (Con.dropL L (b + j : Nat) (b + k : Nat)) hab, dropL_eq L hab, dropL_eq L (show b + j ≤ b + k by omega), n1, n2, n3, n4]
  rw [List.take_append, List.drop_append, List.take_append, List.drop_append, ea, ec]
  rw [List.take_of_length_le (l := L.take (Let.byt a L)) (by rw [ea]; omega), List.drop_of_length_le (l := L.take (Let.byt a L)) (by rw [ea]; omega), List.take_take, Nat.min_eq_left (show Let.byt a L ≤ Let.byt (b + j) L by omega), show Let.byt a L - Let.byt (b + j) L = 0 by omega, show Let.byt b L - Let.byt (b + j) L = 0 by omega, List.take_zero, List.drop_zero, List.append_nil, List.nil_append]
  rw [show Let.byt a L + (Let.byt (b + j) L - Let.byt b L) - Let.byt a L = Let.byt (b + j) L - Let.byt b L by omega, show Let.byt a L + (Let.byt (b + k) L - Let.byt b L) - Let.byt a L = Let.byt (b + k) L - Let.byt b L by omega]
  rw [List.drop_drop, show Let.byt b L + (Let.byt (b + k) L - Let.byt b L) = Let.byt (b + k) L by omega, List.take_drop, show Let.byt b L + (Let.byt (b + j) L - Let.byt b L) = Let.byt (b + j) L by omega, List.append_assoc]
theorem unL_ok : ∀ {X : List Sp} {L : Bytes} {lo : Int}, Ord lo (Let.cnt L) X → 0 ≤ lo → lo ≤ Let.cnt L → Let.right L = true → Let.right (unL L X) = true ∧ (Let.cnt (unL L X) : Int) = Let.cnt L - Seg.tot X ∧ (unL L X).length ≤ L.length
  | [], L, lo, _, _, _, h => ⟨h, by show (Let.cnt L : Int) = Let.cnt L - 0; omega, Nat.le_refl _⟩
  | x :: X, L, lo, ⟨a, b, c, d, e⟩, h0, hl, h => by
    obtain ⟨i1, i2, i3⟩ := unL_ok (X := X) e (by omega) d h
    have ht := Ord.tot e d
    obtain ⟨p, hp⟩ := Int.eq_ofNat_of_zero_le (show 0 ≤ x.f by omega)
    obtain ⟨q, hq⟩ := Int.eq_ofNat_of_zero_le (show 0 ≤ x.t by omega)
    have hpq : p ≤ q := by omega
    have hqc : q ≤ Let.cnt (unL L X) := by omega
    show Let.right (Con.dropL (unL L X) x.f x.t) = true ∧ (Let.cnt (Con.dropL (unL L X) x.f x.t) : Int) = Let.cnt L - ((x.t - x.f) + Seg.tot X) ∧ (Con.dropL (unL L X) x.f x.t).length ≤ L.length
    rw [hp, hq]
    refine ⟨dropL_right hpq i1, ?_, Nat.le_trans (Con.dropL_len _ _ _) i3⟩
    rw [dropL_cnt hpq hqc i1]
    omega
theorem unL_comm : ∀ {X : List Sp} {L : Bytes} {a b : Nat}, Ord b (Let.cnt L) X → a ≤ b → b ≤ Let.cnt L → Let.right L = true → unL (Con.dropL L a b) (mvS ((a : Int) - b) X) = Con.dropL (unL L X) a b
  | [], _, _, _, _, _, _, _ => rfl
  | x :: X, L, a, b, ⟨p, q, r, s, t⟩, hab, hbn, h => by
    have ih := unL_comm (X := X) (t.lower (by omega)) hab hbn h
    obtain ⟨i1, i2, i3⟩ := unL_ok (X := X) t (by omega) s h
    have ht := Ord.tot t s
    obtain ⟨j, hj⟩ := Int.eq_ofNat_of_zero_le (show 0 ≤ x.f - b by omega)
    obtain ⟨k, hk⟩ := Int.eq_ofNat_of_zero_le (show 0 ≤ x.t - b by omega)
    show Con.dropL (unL (Con.dropL L a b) (mvS ((a : Int) - b) X)) (x.f + ((a : Int) - b)) (x.t + ((a : Int) - b)) = Con.dropL (Con.dropL (unL L X) x.f x.t) a b
    rw [ih, show x.f + ((a : Int) - b) = ((a + j : Nat) : Int) by omega, show x.t + ((a : Int) - b) = ((a + k : Nat) : Int) by omega, show x.f = ((b + j : Nat) : Int) by omega, show x.t = ((b + k : Nat) : Int) by omega]
    exact dropL_comm i1 hab (by omega) (by omega)
end Go.Proofs.YtcpdoicbekcpeaaDoor.Seg
