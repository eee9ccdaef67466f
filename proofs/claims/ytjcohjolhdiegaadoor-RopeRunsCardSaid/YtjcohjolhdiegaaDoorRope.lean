/- The ropes' contracts, said of texts. -/
import Derived.Test.YtjcohjolhdiegaaDoorWalkH
set_option linter.unusedVariables false
namespace Go.Proofs.YtjcohjolhdiegaaDoor.Con
open Go.RowKit Go.Lib Go.Proofs.YtjcohjolhdiegaaDoor.Let Go.Proofs.YtjcohjolhdiegaaDoor.Tree

theorem IsRope.by {w : World} {L : List UInt8} {v : Value} (h : IsRope w L v) : ∃ t, Rp w t v ∧ t.okn ∧ t.txt = L ∧ t.by = L.length := by
  obtain ⟨t, h1, h2, h3⟩ := h
  exact ⟨t, h1, h2, h3, by rw [T.by_txt, h3]⟩
theorem nil_is (w : World) : IsRope w [] (.pointer none) := ⟨.nil, rfl, .inl rfl, rfl⟩
theorem made_is {w : World} {t : T} {L : List UInt8} (o : t.okn) (e : t.txt = L) : ∀ x w', Made w t x w' → Roped w L x w' := by
  rintro x w' ⟨v, rfl, h, hb⟩
  exact ⟨v, rfl, ⟨t, h, o, e⟩, hb⟩

theorem join_is {x y : List UInt8} {va vb : Value} (w : World) (ha : IsRope w x va) (hb : IsRope w y vb) (hl : x.length + y.length ≤ 1073741824) :
    Calls Tryd.prog 23 #[va, vb] w (Roped w (x ++ y)) := by
  obtain ⟨t, h1, h2, h3, h4⟩ := ha.by
  obtain ⟨u, k1, k2, k3, k4⟩ := hb.by
  obtain ⟨j1, j2⟩ := join_okn h2 k2
  exact (join_any w h1 k1 h2 k2 (by omega)).mono (made_is j1 (by rw [j2, h3, k3]))
theorem put_is {x y : List UInt8} {va vb : Value} (w : World) (a : Int) (ha : IsRope w x va) (hb : IsRope w y vb) (hl : x.length + y.length ≤ 1073741824) (a1 : -9223372036854775808 ≤ a) (a2 : a ≤ 9223372036854775807) :
    Calls Tryd.prog 21 #[va, .int .i64 a, vb] w (Roped w (put x a y)) := by
  obtain ⟨t, h1, h2, h3, h4⟩ := ha.by
  obtain ⟨u, k1, k2, k3, k4⟩ := hb.by
  obtain ⟨j1, j2⟩ := putT_ok a h2 k2
  exact (put_rope w a h1 k1 h2 k2 (by omega) a1 a2).mono (made_is j1 (by rw [j2, h3, k3]))
theorem cut_is {x : List UInt8} {va : Value} (w : World) (a b : Int) (ha : IsRope w x va) (hl : x.length ≤ 1073741824) (a1 : -9223372036854775808 ≤ a) (a2 : a ≤ 9223372036854775807) (b1 : -9223372036854775808 ≤ b) (b2 : b ≤ 9223372036854775807) :
    Calls Tryd.prog 17 #[va, .int .i64 a, .int .i64 b] w (Roped w (cut x a b)) := by
  obtain ⟨t, h1, h2, h3, h4⟩ := ha.by
  obtain ⟨j1, j2⟩ := cutT_ok a b h2
  exact (cut_rope w a b h1 h2 (by omega) a1 a2 b1 b2).mono (made_is j1 (by rw [j2, h3]))
theorem drop_is {x : List UInt8} {va : Value} (w : World) (a b : Int) (ha : IsRope w x va) (hl : x.length ≤ 1073741824) (a1 : -9223372036854775808 ≤ a) (a2 : a ≤ 9223372036854775807) (b1 : -9223372036854775808 ≤ b) (b2 : b ≤ 9223372036854775807) :
    Calls Tryd.prog 19 #[va, .int .i64 a, .int .i64 b] w (Roped w (dropL x a b)) := by
  obtain ⟨t, h1, h2, h3, h4⟩ := ha.by
  obtain ⟨j1, j2⟩ := dropT_ok a b h2
  exact (drop_rope w a b h1 h2 (by omega) a1 a2 b1 b2).mono (made_is j1 (by rw [j2, h3]))
theorem text_is {x : List UInt8} {va : Value} (w : World) (ha : IsRope w x va) (hl : x.length ≤ 1073741824) :
    Calls Tryd.prog 14 #[va] w fun e w' => e = .returned (.string (mk x)) ∧ Below w.heap.size w w' := by
  obtain ⟨t, h1, h2, h3, h4⟩ := ha.by
  have := text_any w h1 h2 (by omega)
  rw [h3] at this
  exact this
theorem of_is (l : List UInt8) (w : World) (hs : l.length ≤ 1073741824) (hr : right l = true) (hT : Tabs w) : Calls Tryd.prog 16 #[.string (mk l)] w (Roped w l) := by
  have := of_any (mk l) w (by rw [mk_size]; exact hs) (by rw [Let.mk_data]; exact hr) hT
  rw [Let.mk_data] at this
  exact this
theorem has_is (l : List UInt8) {v : Value} (w : World) (h : IsRope w l v) (hs : l.length ≤ 100000) :
    Calls Tryd.prog 15 #[v, .string (mk l)] w fun e w' => e = .returned (.bool true) ∧ Below w.heap.size w w' :=
  has_any (mk l) w (by rw [Let.mk_data]; exact h) (by rw [mk_size]; exact hs)

theorem cut_len (x : List UInt8) (a b : Int) : (cut x a b).length ≤ x.length := by
  unfold cut
  rw [List.length_drop, List.length_take]
  omega
theorem dropL_len (x : List UInt8) (a b : Int) : (dropL x a b).length ≤ x.length := by
  unfold dropL
  by_cases h : byt b.toNat x ≤ byt a.toNat x
  · rw [if_pos h]
    exact Nat.le_refl _
  · rw [if_neg h, List.length_append, List.length_take, List.length_drop]
    omega
theorem put_len (x : List UInt8) (a : Int) (y : List UInt8) : (put x a y).length = x.length + y.length := by
  unfold put
  rw [List.length_append, List.length_append, List.length_take, List.length_drop]
  have := byt_le a.toNat x
  omega

/-- The witness at the head of a law: of(l1), something, Text: each law has its own. -/
theorem lit_ab : (ByteArray.mk #[97, 98]) = mk [97, 98] := rfl
end Go.Proofs.YtjcohjolhdiegaaDoor.Con
