/- Ledger: the laws' awake. -/
import Derived.Test.YtffejfpbeimngaaDoorLm
import Derived.Test.YtffejfpbeimngaaDoorLj
import Derived.Lib.SliceRun
set_option linter.unusedVariables false
set_option linter.unusedSimpArgs false
set_option maxRecDepth 100000
namespace Go.Proofs.YtffejfpbeimngaaDoor.Ldg
open Go.RowKit Go.Lib Go.Proofs.YtffejfpbeimngaaDoor.Bx Go.Proofs.YtffejfpbeimngaaDoor.Frm Go.Proofs.YtffejfpbeimngaaDoor.Wds Go.Proofs.YtffejfpbeimngaaDoor.Plt

/-- A disk that was made behind w0, below which nothing has turned. -/
def Wld (w0 : World) (B : Nat) (D : DK) (w : World) : Prop := (∃ F, Disk w0.heap.size w B F D) ∧ Below w0.heap.size w0 w
theorem Wld.below {w0 w w' : World} {B : Nat} {D : DK} (h : Wld w0 B D w) (hb : Below w.heap.size w w') : Wld w0 B D w' := ⟨h.1.imp fun F d => d.below hb, below_on h.2 hb⟩
theorem Wld.made {w0 w : World} {n : Nat} {e : Ending} (h : MadeX w0 n e w) : ∃ B, e = .returned (.tuple #[.pointer (some ⟨B, 0, none⟩), .bool true]) ∧ Wld w0 B (newD n) w := by
  obtain ⟨B, F, e, d, b⟩ := h
  exact ⟨B, e, ⟨F, d⟩, b⟩
theorem new_fine (n : Nat) : Fine (newD n) ∧ Clean (newD n) := ⟨⟨rfl, rfl⟩, fun _ => rfl⟩
theorem new_ring (n first : Nat) (q : Nat) : ring (newD n) first q = List.replicate 128 0 := rfl
theorem new_len (n first k : Nat) : ∀ q, q < k → (ring (newD n) first q).length = 128 := fun q _ => by rw [new_ring, List.length_replicate]
theorem new_noHead (n first k number : Nat) : NoHead (ring (newD n) first) k number := fun q _ m _ => by
  rw [new_ring]
  exact no_first (by decide)
theorem recs_none {c : Nat → List UInt8} {n p number : Nat} (hp : p < n) (h : NoHead c n number) : recsR c n p number n = [] := recsR_none (rec_no (h p hp number (Nat.le_refl _)))
theorem loose_clean {D : DK} (h : Clean D) : looseL D = [] := by
  unfold looseL
  rw [List.filter_eq_nil_iff]
  intro i _
  rw [h i]
  simp
theorem fall_clean {D : DK} (h : Clean D) (hF : Fine D) : fallD D [] = D := by
  unfold fallD
  rw [loose_clean h]
  obtain ⟨n, P, off, left⟩ := D
  obtain ⟨e1, e2⟩ := hF
  simp only at e1 e2
  subst e1 e2
  rfl
/-- The calls, at such a disk. -/
theorem Wld.open_ {w0 w : World} {B : Nat} {D : DK} (h : Wld w0 B D w) (l : LS) (ok : l.Ok) (ht : l.taken = 0) (r : Rg D l) : Calls Tryd.prog 9 #[.pointer (some ⟨B, 0, none⟩), .int .i64 (l.first : Nat), .int .i64 (l.n : Nat), .int .i64 (l.p : Nat), .int .i64 (l.number : Nat)] w (Opened w B l (recsR (ring D l.first) l.n l.p l.number l.n)) := by
  obtain ⟨⟨F, d⟩, _⟩ := h
  exact open_any l ok ht d r
theorem Wld.append {w0 w : World} {B X : Nat} {D : DK} {l : LS} (h : Wld w0 B D w) (hX : w0.heap.size ≤ X) (hl : Led w X B l) (ok : l.Ok) (hF : Fine D) (hC : Clean D) (hf : l.first + l.n ≤ D.n) (hnum : l.number < 1099511627776) (s : List UInt8) (h0 : 0 < s.length) (h1 : s.length ≤ 65535) (hr : platesN s.length ≤ l.n - l.taken) :
    Calls Tryd.prog 13 #[.pointer (some ⟨X, 0, none⟩), .string (mkB s)] w fun e w' => e = .returned (.int .i64 0) ∧ Wld w0 B (layAll D l.first l.n l.p l.number s) w' ∧ Led w' X B (l.past (platesN s.length)) := by
  obtain ⟨⟨F, d⟩, b⟩ := h
  refine (append_any hl ok d hF hC hf hnum s h0 h1 hr).mono ?_
  rintro e w' ⟨rfl, F', d', c', n', l'⟩
  exact ⟨rfl, ⟨⟨F', d'⟩, b.trans (c'.below (fun g hg => by rcases hg with hg | rfl; exact (d.lt g hg).1; exact hX) b.size)⟩, l'⟩
theorem Wld.fall {w0 w : World} {B : Nat} {D : DK} (h : Wld w0 B D w) (hF : Fine D) (hC : Clean D) : Calls Tryd.prog 16 #[.pointer (some ⟨B, 0, none⟩), .slice none 0 0] w fun e w' => e = .returned (.tuple #[]) ∧ Wld w0 B D w' := by
  obtain ⟨⟨F, d⟩, b⟩ := h
  have hS : Short D 90000 := fun j _ => by rw [hC j]; exact Nat.zero_le _
  refine (fallX [] (Rk.RowK.nil_ _ _) (fun x hx => by simp at hx) (fun e => absurd rfl e) d hS).mono ?_
  rintro e w' ⟨rfl, F', d', c', n'⟩
  rw [fall_clean hC hF] at d'
  exact ⟨rfl, ⟨F', d'⟩, b.trans (c'.below (fun g hg => (d.lt g hg).1) b.size)⟩
def sab : List UInt8 := [97, 98]
theorem sab_mk : mkB sab = ⟨#[97, 98]⟩ := rfl
set_option maxHeartbeats 8000000 in
theorem awake_any (w : World) : Calls Tryd.prog 5 #[] w fun e w' => e = .returned (.bool true) ∧ Below w.heap.size w w' := by
  have CN := Lib.hid (newX 20 w (by omega) (by omega))
  obtain ⟨l0, hl0⟩ : ∃ l0 : LS, l0 = ⟨2, 8, 3, 5, 0⟩ := ⟨_, rfl⟩
  have ok0 : l0.Ok := by rw [hl0]; exact ⟨by decide, by decide, by decide, by decide, by decide, by decide⟩
  obtain ⟨D0, hD0⟩ : ∃ D0, D0 = newD 20 := ⟨_, rfl⟩
  have hF0 : Fine D0 := by rw [hD0]; exact (new_fine 20).1
  have hC0 : Clean D0 := by rw [hD0]; exact (new_fine 20).2
  have hn0 : D0.n = 20 := by rw [hD0]; rfl
  have hr0 : Rg D0 l0 := ⟨hF0.on, by rw [hn0, hl0]; decide, by rw [hD0]; exact new_len _ _ _⟩
  have hNH : NoHead (ring D0 2) 8 5 := by rw [hD0]; exact new_noHead _ _ _ _
  have hlen : ∀ q, q < 8 → (ring D0 2 q).length = 128 := by rw [hD0]; exact new_len _ _ _
  obtain ⟨D1, hD1⟩ : ∃ D1, D1 = layAll D0 2 8 3 5 sab := ⟨_, rfl⟩
  obtain ⟨hF1, hn1, hr1, hC1⟩ := layAll_ok hF0 hC0 (first := 2) (n := 8) (p := 3) (number := 5) (by omega) (by rw [hn0]; omega) sab
  rw [← hD1] at hF1 hn1 hr1 hC1
  have hR1 : Rg D1 l0 := ⟨hF1.on, by rw [hn1, hn0, hl0]; decide, by rw [hl0, show (LS.mk 2 8 3 5 0).first = 2 from rfl, hr1]; exact putRec_len hlen⟩
  have hE0 : recsR (ring D0 2) 8 3 5 8 = [] := recs_none (by omega) hNH
  have hE1 : recsR (ring D1 2) 8 3 5 8 = [sab] := by
    rw [hr1]
    exact recs_put hlen (by omega) (by decide) (by decide) (by decide) (by decide) hNH
  have KO : Hid (∀ (w1 : World) B, Wld w B D0 w1 → Calls Tryd.prog 9 #[.pointer (some ⟨B, 0, none⟩), .int .i64 2, .int .i64 8, .int .i64 3, .int .i64 5] w1 (Opened w1 B l0 [])) := fun w1 B h => by
    have k := h.open_ l0 ok0 (by rw [hl0]) hr0
    rw [hl0] at k
    rw [show recsR (ring D0 (LS.mk 2 8 3 5 0).first) (LS.mk 2 8 3 5 0).n (LS.mk 2 8 3 5 0).p (LS.mk 2 8 3 5 0).number (LS.mk 2 8 3 5 0).n = [] from hE0] at k
    rw [hl0]
    exact k
  have KO1 : Hid (∀ (w1 : World) B, Wld w B D1 w1 → Calls Tryd.prog 9 #[.pointer (some ⟨B, 0, none⟩), .int .i64 2, .int .i64 8, .int .i64 3, .int .i64 5] w1 (Opened w1 B l0 [sab])) := fun w1 B h => by
    have k := h.open_ l0 ok0 (by rw [hl0]) hR1
    rw [hl0] at k
    rw [show recsR (ring D1 (LS.mk 2 8 3 5 0).first) (LS.mk 2 8 3 5 0).n (LS.mk 2 8 3 5 0).p (LS.mk 2 8 3 5 0).number (LS.mk 2 8 3 5 0).n = [sab] from hE1] at k
    rw [hl0]
    exact k
  have KA : Hid (∀ (w1 : World) B X, Wld w B D0 w1 → w.heap.size ≤ X → Led w1 X B l0 → Calls Tryd.prog 13 #[.pointer (some ⟨X, 0, none⟩), .string ⟨#[97, 98]⟩] w1 fun e w' => e = .returned (.int .i64 0) ∧ Wld w B D1 w') := fun w1 B X h hX hl => by
    have k := h.append hX hl ok0 hF0 hC0 (by rw [hn0, hl0]; decide) (by rw [hl0]; decide) sab (by decide) (by decide) (by rw [hl0]; decide)
    refine k.mono ?_
    rintro e w' ⟨rfl, h', _⟩
    rw [hl0] at h'
    rw [hD1]
    exact ⟨rfl, h'⟩
  have KF : Hid (∀ (w1 : World) B, Wld w B D1 w1 → Calls Tryd.prog 16 #[.pointer (some ⟨B, 0, none⟩), .slice none 0 0] w1 fun e w' => e = .returned (.tuple #[]) ∧ Wld w B D1 w') := fun w1 B h => h.fall hF1 hC1
  have KN : Hid (∀ (w1 : World) B X, Led w1 X B (l0.after [sab]) → Calls Tryd.prog 12 #[.pointer (some ⟨X, 0, none⟩)] w1 fun e w' => e = .returned (.tuple #[.int .i64 5, .int .i64 6]) ∧ Below w1.heap.size w1 w') := fun w1 B X h => by
    refine (next_any h).mono ?_
    rintro e w' ⟨rfl, q, rfl⟩
    refine ⟨?_, Wds.d_drews (Below.refl _ _) _⟩
    rw [hl0]
    rfl
  have KR : Hid (∀ (w1 : World) B X, Led w1 X B (l0.after [sab]) → (l0.after [sab]).Ok → Calls Tryd.prog 15 #[.pointer (some ⟨X, 0, none⟩)] w1 fun e w' => e = .returned (.int .i64 6) ∧ Below w1.heap.size w1 w') := fun w1 B X h ok => by
    refine (room_any h ok).mono ?_
    rintro e w' ⟨rfl, q, rfl⟩
    refine ⟨?_, Wds.d_drews (Below.refl _ _) _⟩
    rw [hl0]
    rfl
  have HD0 := Lib.hid hD0
  have HA0 : Hid (l0.after [] = l0) := rfl
  clear hD0 hD1 hF0 hC0 hn0 hr0 hNH hlen hF1 hn1 hr1 hC1 hR1 hE0 hE1 ok0 hl0
  go_enter Tryd.func5, Tryd.ntmps5
  go_wp2_with fail
  refine CN.out.mono ?_
  intro e w1 h
  obtain ⟨B, rfl, h1⟩ := Wld.made h
  rw [← HD0.out] at h1
  have C1 := Lib.hid (KO.out w1 B h1)
  have H1 := Lib.hid h1
  clear h h1 CN KO HD0
  go_wp2_with fail
  refine C1.out.mono ?_
  rintro e w2 ⟨X, a, c, rfl, hX, hl, _, _, hb⟩
  rw [HA0.out] at hl
  have C2 := Lib.hid (KA.out w2 B X (H1.out.below hb) (Nat.le_trans H1.out.2.size hX) hl)
  clear hl hb hX H1 C1 KA HA0
  go_wp2_with fail
  refine C2.out.mono ?_
  rintro e w3 ⟨rfl, h3⟩
  have C3 := Lib.hid (KF.out w3 B h3)
  clear h3 C2 KF
  go_wp2_with fail
  refine C3.out.mono ?_
  rintro e w4 ⟨rfl, h4⟩
  have C4 := Lib.hid (KO1.out w4 B h4)
  have H4 := Lib.hid h4.2
  clear h4 C3 KO1
  go_wp2_with fail
  refine C4.out.mono ?_
  rintro e w5 ⟨X5, a5, c5, rfl, hX5, hl5, ok5, hs5, hb5⟩
  have C5 := Lib.hid (KN.out w5 B X5 hl5)
  have C6 : Hid (∀ w', Below w5.heap.size w5 w' → Calls Tryd.prog 15 #[.pointer (some ⟨X5, 0, none⟩)] w' fun e w2 => e = .returned (.int .i64 6) ∧ Below w'.heap.size w' w2) := fun w' hb => KR.out w' B X5 (hl5.below hb hl5.lt) ok5
  have CE : Hid (∃ b off, a5 = some ⟨b, off, none⟩ ∧ ∀ w', Below w5.heap.size w5 w' → w'.cell? ⟨b, off, none⟩ = some (.string ⟨#[97, 98]⟩)) := by
    obtain ⟨b, off, e, h⟩ := rows_cells (n := 1) hs5.read rfl (by omega)
    exact ⟨b, off, e, fun w' hw => h w' hw 0 (by omega)⟩
  have B5 := Lib.hid (below_on H4.out hb5)
  clear hX5 hl5 ok5 hs5 hb5 KN KR H4 C4
  obtain ⟨b, off, rfl, hcell⟩ := CE.out
  have HC := Lib.hid hcell
  clear hcell CE
  go_wp2_with fail
  refine C5.out.mono ?_
  rintro e w6 ⟨rfl, hb6⟩
  have c0 := HC.out w6 hb6
  have C7 := Lib.hid (C6.out w6 hb6)
  have B6 := Lib.hid (below_on B5.out hb6)
  clear hb6 C5 C6 B5 HC
  go_wp2_with fail
  refine C7.out.mono ?_
  rintro e w7 ⟨rfl, hb7⟩
  have B7 := Lib.hid (below_on B6.out hb7)
  clear hb7 C7 B6
  go_wp2_with fail
  go_ret
  exact ⟨rfl, B7.out⟩
end Go.Proofs.YtffejfpbeimngaaDoor.Ldg
