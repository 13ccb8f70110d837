/- Plain facts: what was written is read back. -/
import Derived.Test.YtlhgbnjflemiiaaM
import Derived.Test.YtlhgbnjflemiiaaP
import Derived.Test.YtlhgbnjflemiiaaQ
namespace Go.Proofs.Ytlhgbnjflemiiaa
open Go.RowKit

theorem eight {k : Nat} (h1 : 1 ≤ k) (h8 : k ≤ 8) : k = 1 ∨ k = 2 ∨ k = 3 ∨ k = 4 ∨ k = 5 ∨ k = 6 ∨ k = 7 ∨ k = 8 := by omega
theorem be_bytes8 (n k : Nat) (hn : n < 18446744073709551616) (h1 : 1 ≤ k) (h8 : k ≤ 8) : be ((bytes8 n).drop (8 - k)) = n % 256 ^ k := by
  rcases eight h1 h8 with rfl | rfl | rfl | rfl | rfl | rfl | rfl | rfl <;> simp [be, bytes8] <;> omega
theorem num_kind (m n z : Nat) (k : Int) (hkm : (k = 3 ∧ m = 16) ∨ (k = 4 ∧ m = 32)) (h1 : 1 ≤ z) (h8 : z ≤ 8) : kindL (num m n z) = k := by
  rcases hkm with ⟨rfl, rfl⟩ | ⟨rfl, rfl⟩ <;> rcases eight h1 h8 with rfl | rfl | rfl | rfl | rfl | rfl | rfl | rfl <;> rfl
theorem tkN_num (m n z : Nat) (k : Int) (hkm : (k = 3 ∧ m = 16) ∨ (k = 4 ∧ m = 32)) (hn : n < 18446744073709551616) (h1 : 1 ≤ z) (h8 : z ≤ 8) : tkN (num m n z) k m = (n % 256 ^ z, z) := by
  have hm : m + z < 256 := by rcases hkm with ⟨_, rfl⟩ | ⟨_, rfl⟩ <;> omega
  have hh : ((num m n z).headD 0).toNat = m + z := by
    unfold num
    rw [List.headD_cons, UInt8.toNat_ofNat', Nat.mod_eq_of_lt hm]
  have hl := num_length m n z h8
  unfold tkN
  rw [hh, num_kind m n z k hkm h1 h8, hl, Nat.add_sub_cancel_left, if_pos ⟨rfl, by omega⟩]
  have e : bep (num m n z) z = n % 256 ^ z := by
    unfold bep num
    rw [List.drop_succ_cons, List.drop_zero, List.take_of_length_le (by rw [bytes8_len n z h8]; exact Nat.le_refl _), be_bytes8 n z hn h1 h8]
  rw [e]
theorem tkU_num (n : Nat) (hn : n < 18446744073709551616) : tkU (num 16 n (usz n)) = (n, 1 + usz n) := by
  have h1 := usz_pos n
  have h8 := usz_8 n hn
  have hlt := (usz_le n (usz n) hn h1).1 (Nat.le_refl _)
  unfold tkU
  rw [tkN_num 16 n (usz n) 3 (.inl ⟨rfl, rfl⟩) hn h1 h8, Nat.mod_eq_of_lt hlt]
  rw [if_neg (by simp; omega)]
theorem sx_word (n : Int) (h1 : -9223372036854775808 ≤ n) (h2 : n ≤ 9223372036854775807) : sx (ssz n) (word n % 256 ^ ssz n) = n := by
  have hp := ssz_pos n
  have h8 := ssz_8 n h1 h2
  obtain ⟨m, hm⟩ : ∃ m, ssz n = m + 1 := ⟨ssz n - 1, by omega⟩
  have hr := (ssz_le n m h1 h2).1 (by omega)
  rw [hm]
  have hm8 : m = 0 ∨ m = 1 ∨ m = 2 ∨ m = 3 ∨ m = 4 ∨ m = 5 ∨ m = 6 ∨ m = 7 := by omega
  unfold sx word
  rcases hm8 with rfl | rfl | rfl | rfl | rfl | rfl | rfl | rfl <;> simp at hr ⊢ <;> split <;> omega
theorem tkS_num (n : Int) (h1 : -9223372036854775808 ≤ n) (h2 : n ≤ 9223372036854775807) : tkS (num 32 (word n) (ssz n)) = (n, 1 + ssz n) := by
  have hp := ssz_pos n
  have h8 := ssz_8 n h1 h2
  unfold tkS
  rw [tkN_num 32 (word n) (ssz n) 4 (.inr ⟨rfl, rfl⟩) (word_lt n) hp h8]
  simp only
  rw [sx_word n h1 h2, if_neg (by simp; omega)]
theorem tkH_num (c : UInt8) (k : Int) (hk : kindC c.toNat = k) (n : Nat) (hn : n ≤ 65535) (x : List UInt8) : tkH (c :: (num 16 n (usz n) ++ x)) k = (n, 2 + usz n) := by
  have hu := tkU_num n (by omega)
  have ha := tkU_app (num 16 n (usz n)) x (by rw [hu]; simp)
  unfold tkH
  rw [List.drop_succ_cons, List.drop_zero, ha, hu, if_pos ⟨hk, by simp, hn⟩]
  simp only [Prod.mk.injEq, true_and]
  omega
theorem tkTn_num (t x : List UInt8) (ht : t.length ≤ 65535) : tkTn (48 :: (num 16 t.length (usz t.length) ++ (t ++ x))) = 2 + usz t.length + t.length := by
  unfold tkTn
  rw [tkH_num 48 5 rfl t.length ht (t ++ x), if_neg]
  rw [List.length_cons, List.length_append, List.length_append, num_length _ _ _ (usz_8 _ (by omega))]
  simp only
  omega
end Go.Proofs.Ytlhgbnjflemiiaa
