/- Contracts of Digest, the program's and the specification's. -/
import Derived.Test.YtlhgbnjflemiiaaG
namespace Go.Proofs.Ytlhgbnjflemiiaa
open Go.RowKit

def dstep (h : Nat) (c : UInt8) : Nat := (h ^^^ c.toNat) * 1099511628211 % 18446744073709551616
def dini : Nat := 14695981039346656037
theorem dini_lt : dini < 18446744073709551616 := by unfold dini; decide
def dsum (l : List UInt8) : Nat := l.foldl dstep dini
theorem dstep_lt (h : Nat) (c : UInt8) : dstep h c < 18446744073709551616 := Nat.mod_lt _ (by omega)
attribute [local irreducible] dstep dini
theorem dsum_lt (l : List UInt8) : dsum l < 18446744073709551616 := by
  unfold dsum
  have : ∀ (l : List UInt8) (a : Nat), a < 18446744073709551616 → l.foldl dstep a < 18446744073709551616 := by
    intro l
    induction l with
    | nil => exact fun _ h => h
    | cons c r ih => exact fun a _ => ih _ (dstep_lt a c)
  exact this l _ dini_lt
theorem dsum_snoc (l : List UInt8) (c : UInt8) : dsum (l ++ [c]) = dstep (dsum l) c := by
  unfold dsum
  rw [List.foldl_append, List.foldl_cons, List.foldl_nil]
def dpre (l : List UInt8) (k : Nat) : Nat := dsum (l.take k)
theorem dpre_lt (l : List UInt8) (k : Nat) : dpre l k < 18446744073709551616 := dsum_lt _
theorem sb_get (s : ByteArray) (k : Nat) (h : k < s.size) : (sb s)[k]'(by rw [sb_length]; exact h) = s[k] := rfl
theorem dpre_zero (l : List UInt8) : dpre l 0 = dini := by
  unfold dpre dsum
  rw [List.take_zero, List.foldl_nil]
theorem dpre_succ' (l : List UInt8) (k : Nat) (h : k < l.length) : dpre l (k + 1) = dstep (dpre l k) l[k] := by
  unfold dpre
  rw [List.take_succ_eq_append_getElem h, dsum_snoc]
theorem dpre_succ (s : ByteArray) (k : Nat) (h : k < s.size) : dpre (sb s) (k + 1) = dstep (dpre (sb s) k) s[k] := by
  rw [dpre_succ' (sb s) k (by rw [sb_length]; exact h), sb_get s k h]
theorem dstep_int (h : Nat) (c : UInt8) (hh : h < 18446744073709551616) : IntKind.u64.wrap (bits .xor .u64 (h : Int) (IntKind.u64.wrap (c.toNat : Int)) * 1099511628211) = ((dstep h c : Nat) : Int) := by
  have hc := c.toNat_lt
  have e : IntKind.u64.wrap (c.toNat : Int) = ((c.toNat : Nat) : Int) := by rw [IntKind.wrap_u64]; omega
  rw [e, u64_xor_nat _ _ hh (by omega), IntKind.wrap_u64]
  unfold dstep
  omega

theorem and15 (h d : Nat) (hh : h < 18446744073709551616) : bits .and .u64 ((h : Int) / d) 15 = (h : Int) / d % 16 := by
  have e : (h : Int) / d = ((h / d : Nat) : Int) := by simp
  have hlt : h / d < 18446744073709551616 := Nat.lt_of_le_of_lt (Nat.div_le_self _ _) hh
  rw [e, show (15 : Int) = ((15 : Nat) : Int) from rfl, u64_and_nat _ _ hlt (by omega), nat_mask4]
  omega
theorem andfacts (h : Nat) (hh : h < 18446744073709551616) :
    bits .and .u64 ((h : Int) / 1152921504606846976) 15 = (h : Int) / 1152921504606846976 % 16 ∧
    bits .and .u64 ((h : Int) / 72057594037927936) 15 = (h : Int) / 72057594037927936 % 16 ∧
    bits .and .u64 ((h : Int) / 4503599627370496) 15 = (h : Int) / 4503599627370496 % 16 ∧
    bits .and .u64 ((h : Int) / 281474976710656) 15 = (h : Int) / 281474976710656 % 16 ∧
    bits .and .u64 ((h : Int) / 17592186044416) 15 = (h : Int) / 17592186044416 % 16 ∧
    bits .and .u64 ((h : Int) / 1099511627776) 15 = (h : Int) / 1099511627776 % 16 ∧
    bits .and .u64 ((h : Int) / 68719476736) 15 = (h : Int) / 68719476736 % 16 ∧
    bits .and .u64 ((h : Int) / 4294967296) 15 = (h : Int) / 4294967296 % 16 ∧
    bits .and .u64 ((h : Int) / 268435456) 15 = (h : Int) / 268435456 % 16 ∧
    bits .and .u64 ((h : Int) / 16777216) 15 = (h : Int) / 16777216 % 16 ∧
    bits .and .u64 ((h : Int) / 1048576) 15 = (h : Int) / 1048576 % 16 ∧
    bits .and .u64 ((h : Int) / 65536) 15 = (h : Int) / 65536 % 16 ∧
    bits .and .u64 ((h : Int) / 4096) 15 = (h : Int) / 4096 % 16 ∧
    bits .and .u64 ((h : Int) / 256) 15 = (h : Int) / 256 % 16 ∧
    bits .and .u64 ((h : Int) / 16) 15 = (h : Int) / 16 % 16 ∧
    bits .and .u64 ((h : Int)) 15 = (h : Int) % 16 := by
  refine ⟨and15 h 1152921504606846976 hh, and15 h 72057594037927936 hh, and15 h 4503599627370496 hh, and15 h 281474976710656 hh, and15 h 17592186044416 hh, and15 h 1099511627776 hh, and15 h 68719476736 hh, and15 h 4294967296 hh, and15 h 268435456 hh, and15 h 16777216 hh, and15 h 1048576 hh, and15 h 65536 hh, and15 h 4096 hh, and15 h 256 hh, and15 h 16 hh, ?_⟩
  have := and15 h 1 hh
  simpa using this

/-- hexadecimal digits -/
def hexK : List UInt8 := [48, 49, 50, 51, 52, 53, 54, 55, 56, 57, 97, 98, 99, 100, 101, 102]
def hexc (k : Nat) : UInt8 := hexK.getD k 0
theorem hexc_eq (k : Nat) (p : k < (⟨#[48, 49, 50, 51, 52, 53, 54, 55, 56, 57, 97, 98, 99, 100, 101, 102]⟩ : ByteArray).size) : (⟨#[48, 49, 50, 51, 52, 53, 54, 55, 56, 57, 97, 98, 99, 100, 101, 102]⟩ : ByteArray)[k]'p = hexc k := by
  have p' : k < hexK.length := p
  have e : (⟨#[48, 49, 50, 51, 52, 53, 54, 55, 56, 57, 97, 98, 99, 100, 101, 102]⟩ : ByteArray)[k]'p = hexK[k]'p' := rfl
  rw [e]
  unfold hexc
  rw [List.getD_eq_getElem?_getD, List.getElem?_eq_getElem p']
  rfl
def hexL (h : Nat) : List UInt8 := [hexc (h / 1152921504606846976 % 16), hexc (h / 72057594037927936 % 16), hexc (h / 4503599627370496 % 16), hexc (h / 281474976710656 % 16), hexc (h / 17592186044416 % 16), hexc (h / 1099511627776 % 16), hexc (h / 68719476736 % 16), hexc (h / 4294967296 % 16), hexc (h / 268435456 % 16), hexc (h / 16777216 % 16), hexc (h / 1048576 % 16), hexc (h / 65536 % 16), hexc (h / 4096 % 16), hexc (h / 256 % 16), hexc (h / 16 % 16), hexc (h % 16)]
theorem conv16 (w : World) (c : Array Value) (T : TypeId) (h : Nat) (hc : c.toList = u8s (hexL h)) :
    (convert 26 9 (.slice (some ⟨w.heap.size, 0, none⟩) 16 16)).run Try.prog (w.alloc (.cells c T)) = .ok (.string ⟨(hexL h).toArray⟩) (w.alloc (.cells c T)) := by
  refine run_convert_bytes_back _ 26 9 5 _ 16 (hexL h) Try.underlying26 Try.underlying5 Try.underlying9 (fun j hj => ?_)
  rw [Addr.add_lit, Nat.zero_add, World.cell?_alloc_new, ← Array.getElem?_toList, hc]
  unfold u8s
  rw [List.getElem?_map, List.getElem?_eq_getElem hj]
  rfl

set_option maxHeartbeats 1000000 in
theorem digest_any (s : ByteArray) (w : World) (hs : s.size ≤ 9223372036854775807) :
    Calls Try.prog 31 #[.string s] w fun e w' => e = .returned (.string ⟨(hexL (dsum (sb s))).toArray⟩) ∧ Below w.heap.size w w' := by
  have Hf : Hid (dsum (sb s) = dpre (sb s) s.size) := by
    show _ = dsum _
    rw [List.take_of_length_le (by rw [sb_length]; exact Nat.le_refl _)]
  rw [Hf.out]
  go_enter Try.func31, Try.ntmps31
  go_wp2
  go_loop [3, 9] (fun v i => ∃ k : Nat, k ≤ s.size ∧ i = .int .i64 k ∧ v = .int .u64 (dpre (sb s) k)) (fun _ i => s.size - (intOf i).toNat)
  case atStart => exact ⟨0, by omega, rfl, by rw [dpre_zero]; unfold dini; rfl⟩
  case round =>
    obtain ⟨k, hk, rfl, rfl⟩ := hrel
    have hl := dpre_lt (sb s) k
    by_cases hlt : k < s.size
    · go_wp2
      go_round
      case rel => exact ⟨k + 1, by omega, by go_num, by rw [dpre_succ s k hlt, dstep_int _ _ hl]⟩
      case measure => simp [intOf]; omega
    · obtain rfl : k = s.size := by omega
      generalize hh : dpre (sb s) s.size = h at hl ⊢
      have HH := Lib.hid hh
      clear hk hlt hs hh
      have HA := andfacts h hl
      obtain ⟨m0, m1, m2, m3, m4, m5, m6, m7, m8, m9, m10, m11, m12, m13, m14, m15⟩ := HA
      go_wp2
      refine wp_loop_rounds 17 ?_
      iterate 16 (rw [rounds_succ]; go_wp2)
      rw [rounds_succ]
      go_wp2
      rw [conv16 w _ _ h ?hc]
      case hc => simp only [hexc_eq]; rfl
      go_wp2
      go_ret
      exact ⟨by rw [HH.out]; rfl, (Below.refl _ _).alloc (Nat.le_refl _) _⟩
end Go.Proofs.Ytlhgbnjflemiiaa
