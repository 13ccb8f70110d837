/- Plain facts on digests: two strings that differ in one byte have different digests. -/
import Derived.Test.YtlhgbnjflemiiaaI
namespace Go.Proofs.Ytlhgbnjflemiiaa
open Go.RowKit

theorem mul_inj (x y : Nat) (hx : x < 18446744073709551616) (hy : y < 18446744073709551616) (h : x * 1099511628211 % 18446744073709551616 = y * 1099511628211 % 18446744073709551616) : x = y := by
  have e : ∀ z : Nat, z < 18446744073709551616 → (z * 1099511628211 % 18446744073709551616) * 14886173955864302971 % 18446744073709551616 = z := by
    intro z hz
    rw [Nat.mod_mul_mod, Nat.mul_assoc, Nat.mul_mod, show 1099511628211 * 14886173955864302971 % 18446744073709551616 = 1 from by decide +kernel, Nat.mul_one, Nat.mod_mod]
    exact Nat.mod_eq_of_lt hz
  rw [← e x hx, h, e y hy]
theorem xor_lt (h : Nat) (c : UInt8) (hh : h < 18446744073709551616) : h ^^^ c.toNat < 18446744073709551616 := by
  have hc := c.toNat_lt
  exact Nat.xor_lt_two_pow (n := 64) hh (by omega)
theorem dstep_inj_h (h h' : Nat) (c : UInt8) (hh : h < 18446744073709551616) (hh' : h' < 18446744073709551616) (e : dstep h c = dstep h' c) : h = h' := by
  unfold dstep at e
  have := mul_inj _ _ (xor_lt h c hh) (xor_lt h' c hh') e
  have h2 := congrArg (· ^^^ c.toNat) this
  simpa [Nat.xor_assoc] using h2
theorem dstep_inj_c (h : Nat) (c c' : UInt8) (hh : h < 18446744073709551616) (e : dstep h c = dstep h c') : c = c' := by
  unfold dstep at e
  have := mul_inj _ _ (xor_lt h c hh) (xor_lt h c' hh) e
  have h2 := congrArg (h ^^^ ·) this
  simp only [← Nat.xor_assoc, Nat.xor_self, Nat.zero_xor] at h2
  exact UInt8.toNat_inj.1 h2
theorem fold_inj : ∀ (l : List UInt8) (a b : Nat), a < 18446744073709551616 → b < 18446744073709551616 → l.foldl dstep a = l.foldl dstep b → a = b
  | [], _, _, _, _, h => h
  | c :: l, a, b, ha, hb, h => dstep_inj_h a b c ha hb (fold_inj l _ _ (dstep_lt _ _) (dstep_lt _ _) h)
theorem dsum_split (a : List UInt8) (c : UInt8) (r : List UInt8) : dsum (a ++ c :: r) = r.foldl dstep (dstep (dsum a) c) := by
  unfold dsum
  rw [List.foldl_append, List.foldl_cons]
theorem dsum_set (l : List UInt8) (k : Nat) (c : UInt8) (hk : k < l.length) (hc : c ≠ l[k]) : dsum (l.set k c) ≠ dsum l := by
  intro h
  have e1 : l = l.take k ++ l[k] :: l.drop (k + 1) := by rw [← List.drop_eq_getElem_cons hk, List.take_append_drop]
  have e2 : l.set k c = l.take k ++ c :: l.drop (k + 1) := List.set_eq_take_append_cons_drop .. |>.trans (by rw [if_pos hk])
  rw [e2, dsum_split] at h
  have h' : dsum l = (l.drop (k + 1)).foldl dstep (dstep (dsum (l.take k)) l[k]) := by
    conv => lhs; rw [e1]
    exact dsum_split _ _ _
  rw [h'] at h
  exact hc (dstep_inj_c _ _ _ (dsum_lt _) (fold_inj _ _ _ (dstep_lt _ _) (dstep_lt _ _) h))

theorem hexc_inj : ∀ a b : Fin 16, hexc a.val = hexc b.val → a = b := by decide +kernel
theorem hexT_inj (h h' : Nat) : ∀ k, hexT h k = hexT h' k → h % 16 ^ k = h' % 16 ^ k
  | 0, _ => by simp [Nat.mod_one]
  | k + 1, e => by
    unfold hexT at e
    injection e with e1 e2
    have i1 := hexT_inj h h' k e2
    have i2 := hexc_inj ⟨h / 16 ^ k % 16, by omega⟩ ⟨h' / 16 ^ k % 16, by omega⟩ e1
    have i3 : h / 16 ^ k % 16 = h' / 16 ^ k % 16 := congrArg Fin.val i2
    rw [Nat.pow_succ, Nat.mod_mul, Nat.mod_mul, i1, i3]
theorem hexL_inj (h h' : Nat) (hh : h < 18446744073709551616) (hh' : h' < 18446744073709551616) (e : hexL h = hexL h') : h = h' := by
  rw [← hexT_16, ← hexT_16] at e
  have := hexT_inj h h' 16 e
  rwa [Nat.mod_eq_of_lt hh, Nat.mod_eq_of_lt hh'] at this
theorem hexS_ne (l : List UInt8) (k : Nat) (c : UInt8) (hk : k < l.length) (hc : c ≠ l[k]) : (⟨(hexL (dsum (l.set k c))).toArray⟩ : ByteArray) ≠ ⟨(hexL (dsum l)).toArray⟩ := by
  intro e
  have e1 : (hexL (dsum (l.set k c))).toArray = (hexL (dsum l)).toArray := congrArg ByteArray.data e
  exact dsum_set l k c hk hc (hexL_inj _ _ (dsum_lt _) (dsum_lt _) (List.toArray_inj e1))
end Go.Proofs.Ytlhgbnjflemiiaa
