/- Plain facts on bytes and numbers for the codec's proofs: no Go, no conditions beyond what each states. -/
import Derived.Laws.BitsAllLaws
import Derived.Laws.Bits64
import Derived.Lib.BitFns
import Derived.RowKit
namespace Go.Proofs.Ytlhgbnjflemiiaa
open Go.RowKit

/-- the kind that a first byte says -/
def kindC (c : Nat) : Int :=
  if c = 0 then 1 else if c = 1 then 2 else if c = 2 then 2 else if 16 < c ∧ c ≤ 24 then 3 else if 32 < c ∧ c ≤ 40 then 4 else if c = 48 then 5 else if c = 64 then 6 else 0
def kindL : List UInt8 → Int
  | [] => 0
  | c :: _ => kindC c.toNat

/-- the number that bytes write, the highest one first -/
def be (l : List UInt8) : Nat := l.foldl (fun w c => w * 256 + c.toNat) 0
/-- the number of the first j bytes behind the first one -/
def bep (l : List UInt8) (j : Nat) : Nat := be ((l.drop 1).take j)

theorem be_snoc (l : List UInt8) (c : UInt8) : be (l ++ [c]) = be l * 256 + c.toNat := by simp [be]

theorem foldl_lt : ∀ (l : List UInt8) (a k : Nat), a < 256 ^ k → l.foldl (fun w c => w * 256 + c.toNat) a < 256 ^ (k + l.length)
  | [], a, k, h => h
  | c :: l, a, k, h => by
    have hc := c.toNat_lt
    have := foldl_lt l (a * 256 + c.toNat) (k + 1) (by rw [Nat.pow_succ]; omega)
    rw [List.foldl_cons, List.length_cons]
    rwa [show k + (l.length + 1) = k + 1 + l.length by omega]
theorem be_lt (l : List UInt8) : be l < 256 ^ l.length := by
  have := foldl_lt l 0 0 (by omega)
  rwa [Nat.zero_add] at this

theorem bep_zero (l : List UInt8) : bep l 0 = 0 := by simp [bep, be]
theorem bep_succ (l : List UInt8) (j : Nat) (h : 1 + j < l.length) : bep l (j + 1) = bep l j * 256 + (l[1 + j]'h).toNat := by
  unfold bep
  have h' : j < (l.drop 1).length := by simp; omega
  rw [List.take_succ_eq_append_getElem h', be_snoc, List.getElem_drop]
theorem bep_lt (l : List UInt8) (j : Nat) : bep l j < 256 ^ j := by
  unfold bep
  refine Nat.lt_of_lt_of_le (be_lt _) (Nat.pow_le_pow_right (by omega) (List.length_take_le _ _))

theorem pow_le_8 {j : Nat} (h : j < 8) : 256 ^ j ≤ 72057594037927936 := by
  have : 256 ^ j ≤ 256 ^ 7 := Nat.pow_le_pow_right (by omega) (by omega)
  exact this

/-- a byte taken in -/
theorem or_byte (a c : Nat) (ha : a < 72057594037927936) (hc : c < 256) :
    bits .or .u64 (IntKind.u64.wrap ((a : Int) * 256)) (IntKind.u64.wrap (c : Int)) = ((a * 256 + c : Nat) : Int) := by
  rw [IntKind.wrap_u64, IntKind.wrap_u64]
  have e1 : (a : Int) * 256 % 18446744073709551616 = ((a * 256 : Nat) : Int) := by omega
  have e2 : (c : Int) % 18446744073709551616 = ((c : Nat) : Int) := by omega
  rw [e1, e2, u64_or_nat _ _ (by omega) (by omega), nat_join 8 _ _ (by omega) (by omega)]


/-! sizes of numbers -/
theorem lt_pow_bitLenAux : ∀ (f x : Nat), x < 2 ^ f → x < 2 ^ Lib.bitLenAux f x
  | 0, x, h => by simpa [Lib.bitLenAux] using h
  | f + 1, x, h => by
    unfold Lib.bitLenAux
    by_cases h0 : x = 0
    · subst h0; simp
    · rw [if_neg h0]
      have := lt_pow_bitLenAux f (x / 2) (by rw [Nat.pow_succ] at h; omega)
      rw [Nat.add_comm, Nat.pow_succ]
      omega
theorem bitLen_iff (x k : Nat) (hx : x < 18446744073709551616) : Lib.bitLen x ≤ k ↔ x < 2 ^ k := by
  constructor
  · intro h
    exact Nat.lt_of_lt_of_le (lt_pow_bitLenAux 64 x hx) (Nat.pow_le_pow_right (by omega) h)
  · intro h
    exact Lib.bitLenAux_le 64 x k h
theorem bitLen_64 (x : Nat) (hx : x < 18446744073709551616) : Lib.bitLen x ≤ 64 := (bitLen_iff x 64 hx).2 hx

/-- how many bytes an unsigned number needs -/
def usz (n : Nat) : Nat := max 1 ((Lib.bitLen n + 7) / 8)
theorem pow256 (k : Nat) : 2 ^ (8 * k) = 256 ^ k := by rw [Nat.pow_mul]
theorem usz_le (n k : Nat) (hn : n < 18446744073709551616) (hk : 1 ≤ k) : usz n ≤ k ↔ n < 256 ^ k := by
  rw [← pow256, ← bitLen_iff n (8 * k) hn]
  unfold usz
  omega
theorem usz_pos (n : Nat) : 1 ≤ usz n := by unfold usz; omega
theorem usz_8 (n : Nat) (hn : n < 18446744073709551616) : usz n ≤ 8 := (usz_le n 8 hn (by omega)).2 hn
theorem usz_int (n : Nat) (hn : n < 18446744073709551616) : max 1 (wrap64 ((wrap64 ((Lib.bitLen n : Nat) + 7 : Int)).tdiv 8)) = (usz n : Int) := by
  have := bitLen_64 n hn
  have e : (wrap64 ((Lib.bitLen n : Nat) + 7 : Int)) = ((Lib.bitLen n + 7 : Nat) : Int) := by unfold wrap64; omega
  rw [e, show (8 : Int) = ((8 : Nat) : Int) from rfl, ← Int.ofNat_tdiv]
  unfold usz wrap64
  omega

/-- how many bytes a number needs in two's complement -/
def ssz (n : Int) : Nat := Lib.bitLen (if n < 0 then -n - 1 else n).toNat / 8 + 1
theorem ssz_le (n : Int) (k : Nat) (h : -9223372036854775808 ≤ n) (h' : n ≤ 9223372036854775807) : ssz n ≤ k + 1 ↔ -(128 * 256 ^ k : Int) ≤ n ∧ n < 128 * 256 ^ k := by
  have hb : (if n < 0 then -n - 1 else n).toNat < 18446744073709551616 := by split <;> omega
  have hi := bitLen_iff (if n < 0 then -n - 1 else n).toNat (8 * k + 7) hb
  have hp : 2 ^ (8 * k + 7) = 128 * 256 ^ k := by rw [Nat.pow_add, pow256, Nat.mul_comm]
  have hc : ((256 ^ k : Nat) : Int) = (256 : Int) ^ k := by simp
  rw [← hc]
  rw [hp] at hi
  unfold ssz
  generalize 256 ^ k = P at *
  constructor
  · intro hs
    have := hi.1 (by omega)
    split at this <;> omega
  · intro hs
    have := hi.2 (by split <;> omega)
    omega
theorem ssz_pos (n : Int) : 1 ≤ ssz n := by unfold ssz; omega
theorem ssz_8 (n : Int) (h : -9223372036854775808 ≤ n) (h' : n ≤ 9223372036854775807) : ssz n ≤ 8 := (ssz_le n 7 h h').2 (by omega)
theorem ssz_int (n : Int) (h : -9223372036854775808 ≤ n) (h' : n ≤ 9223372036854775807) : wrap64 (wrap64 (((Lib.bitLen (if n < 0 then -n - 1 else n).toNat : Nat) : Int).tdiv 8) + 1) = (ssz n : Int) := by
  have := bitLen_64 (if n < 0 then -n - 1 else n).toNat (by split <;> omega)
  unfold ssz
  generalize Lib.bitLen (if n < 0 then -n - 1 else n).toNat = b at *
  rw [show (8 : Int) = ((8 : Nat) : Int) from rfl, ← Int.ofNat_tdiv]
  unfold wrap64
  omega
theorem not_i64 (n : Int) (h : -9223372036854775808 ≤ n) (h' : n < 0) : bits .xor .i64 (-1) n = -n - 1 := by
  show IntKind.i64.wrap ((BitVec.ofInt 64 (-1) ^^^ BitVec.ofInt 64 n).toNat : Int) = _
  have h1 : BitVec.ofInt 64 (-1) = BitVec.allOnes 64 := by decide
  have e : (BitVec.ofInt 64 n).toNat = (n + 18446744073709551616).toNat := by rw [BitVec.toNat_ofInt]; omega
  rw [h1, BitVec.allOnes_xor, BitVec.toNat_not, e]
  simp [IntKind.wrap, IntKind.bits, IntKind.signed]
  omega

/-- the number that n bytes write in two's complement -/
def sx (n W : Nat) : Int := if W < 128 * 256 ^ (n - 1) then W else W - 256 ^ n
theorem sx1 (W : Nat) (h : W < 256 ^ 1) : wrap64 ((W : Int) * 72057594037927936) / 72057594037927936 = sx 1 W := by unfold sx wrap64; simp at h ⊢; split <;> omega
theorem sx2 (W : Nat) (h : W < 256 ^ 2) : wrap64 ((W : Int) * 281474976710656) / 281474976710656 = sx 2 W := by unfold sx wrap64; simp at h ⊢; split <;> omega
theorem sx3 (W : Nat) (h : W < 256 ^ 3) : wrap64 ((W : Int) * 1099511627776) / 1099511627776 = sx 3 W := by unfold sx wrap64; simp at h ⊢; split <;> omega
theorem sx4 (W : Nat) (h : W < 256 ^ 4) : wrap64 ((W : Int) * 4294967296) / 4294967296 = sx 4 W := by unfold sx wrap64; simp at h ⊢; split <;> omega
theorem sx5 (W : Nat) (h : W < 256 ^ 5) : wrap64 ((W : Int) * 16777216) / 16777216 = sx 5 W := by unfold sx wrap64; simp at h ⊢; split <;> omega
theorem sx6 (W : Nat) (h : W < 256 ^ 6) : wrap64 ((W : Int) * 65536) / 65536 = sx 6 W := by unfold sx wrap64; simp at h ⊢; split <;> omega
theorem sx7 (W : Nat) (h : W < 256 ^ 7) : wrap64 ((W : Int) * 256) / 256 = sx 7 W := by unfold sx wrap64; simp at h ⊢; split <;> omega
theorem sx8 (W : Nat) (h : W < 256 ^ 8) : wrap64 (W : Int) = sx 8 W := by unfold sx wrap64; simp at h ⊢; split <;> omega
theorem sx_bounds (n W : Nat) (hn : 1 ≤ n) (h8 : n ≤ 8) (h : W < 256 ^ n) : -(128 * 256 ^ (n - 1) : Int) ≤ sx n W ∧ sx n W < 128 * 256 ^ (n - 1) := by
  obtain ⟨m, rfl⟩ : ∃ m, n = m + 1 := ⟨n - 1, by omega⟩
  have hc : ((256 ^ m : Nat) : Int) = (256 : Int) ^ m := by simp
  unfold sx
  rw [Nat.add_sub_cancel, Int.pow_succ, ← hc]
  rw [Nat.pow_succ] at h
  generalize 256 ^ m = P at *
  split <;> omega
theorem sx_i64 (n W : Nat) (hn : 1 ≤ n) (h8 : n ≤ 8) (h : W < 256 ^ n) : -9223372036854775808 ≤ sx n W ∧ sx n W ≤ 9223372036854775807 := by
  have := sx_bounds n W hn h8 h
  have hc : ((256 ^ (n - 1) : Nat) : Int) = (256 : Int) ^ (n - 1) := by simp
  have hp : 256 ^ (n - 1) ≤ 72057594037927936 := pow_le_8 (by omega)
  rw [← hc] at this
  omega

end Go.Proofs.Ytlhgbnjflemiiaa
