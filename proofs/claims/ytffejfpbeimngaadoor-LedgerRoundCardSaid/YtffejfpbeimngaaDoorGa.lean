/- Words: numbers, texts and bools as bytes. No program is spoken of here. -/
import Derived.Test.YtffejfpbeimngaaDoorFa
set_option linter.unusedVariables false
set_option linter.unusedSimpArgs false
namespace Go.Proofs.YtffejfpbeimngaaDoor.Wds
open Go.Lib Go.Proofs.YtffejfpbeimngaaDoor.Frm

/-- A number as 64 bits. -/
def u64 (n : Int) : Nat := (n % 18446744073709551616).toNat
theorem u64_lt (n : Int) : u64 n < 18446744073709551616 := by
  unfold u64
  omega
theorem u64_int (n : Int) : (u64 n : Int) = n % 18446744073709551616 := by
  unfold u64
  omega
def byteN (n : Int) (j : Nat) : UInt8 := UInt8.ofNat (u64 n / 2 ^ (8 * (7 - j)))
def numL (n : Int) : List UInt8 := (List.range 8).map (byteN n)
theorem num_len (n : Int) : (numL n).length = 8 := by unfold numL; rw [List.length_map, List.length_range]
def valN (l : List UInt8) : Nat := l.foldl (fun a b => a * 256 + b.toNat) 0
def back (m : Nat) : Int := if m % 18446744073709551616 < 9223372036854775808 then (m % 18446744073709551616 : Nat) else (m % 18446744073709551616 : Nat) - 18446744073709551616
theorem back_u64 {n : Int} (h : -9223372036854775808 ≤ n ∧ n ≤ 9223372036854775807) : back (u64 n) = n := by
  unfold back
  rw [Nat.mod_eq_of_lt (u64_lt n)]
  have e := u64_int n
  split <;> omega
theorem byte_nat (n : Int) (j : Nat) : (byteN n j).toNat = u64 n / 2 ^ (8 * (7 - j)) % 256 := by
  unfold byteN
  rw [UInt8.toNat_ofNat']
theorem val_num (n : Int) : valN (numL n) = u64 n := by
  have h := u64_lt n
  show valN [byteN n 0, byteN n 1, byteN n 2, byteN n 3, byteN n 4, byteN n 5, byteN n 6, byteN n 7] = _
  unfold valN
  simp only [List.foldl_cons, List.foldl_nil, byte_nat]
  generalize u64 n = u at *
  omega
def textL (l : List UInt8) : List UInt8 := UInt8.ofNat (l.length / 256) :: UInt8.ofNat (l.length % 256) :: l
def flagL (b : Bool) : List UInt8 := [if b then 1 else 0]
def listL (xs : List Int) : List UInt8 := UInt8.ofNat xs.length :: xs.flatMap numL
def countN (op : Int) : Nat := if op = 3 ∨ op = 8 ∨ op = 9 ∨ op = 10 then 1 else if op = 12 ∨ op = 14 ∨ op = 15 then 2 else if op = 4 ∨ op = 11 ∨ op = 13 then 3 else if op = 5 then 4 else if op = 6 then 5 else if op = 7 then 6 else 0
/-! a reader: what is left, and whether it is spoilt -/
structure Rd where
  s : List UInt8
  bad : Bool
def takeR (r : Rd) (n : Nat) : List UInt8 × Rd := if r.bad = true ∨ r.s.length < n then (List.replicate n 0, ⟨r.s, true⟩) else (r.s.take n, ⟨r.s.drop n, false⟩)
theorem take_len (r : Rd) (n : Nat) : (takeR r n).1.length = n := by
  unfold takeR
  split
  · exact List.length_replicate
  · show (r.s.take n).length = n
    rw [List.length_take]
    omega
def numR (r : Rd) : Int × Rd := (back (valN (takeR r 8).1), (takeR r 8).2)
def lenR (r : Rd) : Nat × Rd := (((takeR r 1).1.getD 0 0).toNat, (takeR r 1).2)
def flagR (r : Rd) : Bool × Rd := (decide (((takeR r 1).1.getD 0 0).toNat = 1), if 1 < ((takeR r 1).1.getD 0 0).toNat then ⟨(takeR r 1).2.s, true⟩ else (takeR r 1).2)
def textR (r : Rd) : List UInt8 × Rd := if (takeR r 2).2.bad = true ∨ (takeR r 2).2.s.length < hd (takeR r 2).1 then ([], ⟨(takeR r 2).2.s, true⟩) else takeR (takeR r 2).2 (hd (takeR r 2).1)
/-! what is written is read again -/
theorem take_app {l b : List UInt8} {n : Nat} (h : l.length = n) : takeR ⟨l ++ b, false⟩ n = (l, ⟨b, false⟩) := by
  subst h
  unfold takeR
  rw [if_neg (by simp)]
  simp
theorem num_app {n : Int} (h : -9223372036854775808 ≤ n ∧ n ≤ 9223372036854775807) (b : List UInt8) : numR ⟨numL n ++ b, false⟩ = (n, ⟨b, false⟩) := by
  unfold numR
  rw [take_app (num_len n)]
  simp only [val_num, back_u64 h]
theorem flag_app (f : Bool) (b : List UInt8) : flagR ⟨flagL f ++ b, false⟩ = (f, ⟨b, false⟩) := by
  unfold flagR
  rw [take_app (show (flagL f).length = 1 from rfl)]
  cases f <;> rfl
theorem len_app {k : Nat} (h : k ≤ 255) (b : List UInt8) : lenR ⟨UInt8.ofNat k :: b, false⟩ = (k, ⟨b, false⟩) := by
  unfold lenR
  rw [show UInt8.ofNat k :: b = [UInt8.ofNat k] ++ b from rfl, take_app (show [UInt8.ofNat k].length = 1 from rfl)]
  show ((UInt8.ofNat k).toNat, _) = _
  rw [UInt8.toNat_ofNat', Nat.mod_eq_of_lt (by omega)]
theorem text_app {l : List UInt8} (h : l.length ≤ 65535) (b : List UInt8) : textR ⟨textL l ++ b, false⟩ = (l, ⟨b, false⟩) := by
  unfold textR
  rw [show textL l ++ b = [UInt8.ofNat (l.length / 256), UInt8.ofNat (l.length % 256)] ++ (l ++ b) from rfl, take_app (show [UInt8.ofNat (l.length / 256), UInt8.ofNat (l.length % 256)].length = 2 from rfl)]
  have e : hd [UInt8.ofNat (l.length / 256), UInt8.ofNat (l.length % 256)] = l.length := by
    have := hd_wrap (l := l) (r := []) h
    exact this
  simp only [e]
  rw [if_neg (by simp), take_app rfl]
/-! and what is read is written as just these bytes -/
def Took (r : Rd) (l : List UInt8) (r' : Rd) : Prop := r'.bad = false → r.bad = false ∧ r.s = l ++ r'.s
theorem take_took (r : Rd) (n : Nat) : Took r (takeR r n).1 (takeR r n).2 := by
  unfold Took takeR
  intro h
  split at h
  · cases h
  · rename_i hn
    rw [if_neg hn]
    refine ⟨?_, (List.take_append_drop _ _).symm⟩
    cases hb : r.bad with
    | false => rfl
    | true => exact absurd (.inl hb) hn
end Go.Proofs.YtffejfpbeimngaaDoor.Wds
