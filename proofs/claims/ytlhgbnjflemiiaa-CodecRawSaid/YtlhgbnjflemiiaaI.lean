/- Contract of the specification's Digest. -/
import Derived.Test.YtlhgbnjflemiiaaH
namespace Go.Proofs.Ytlhgbnjflemiiaa
open Go.RowKit

/-- the last k digits -/
def hexT (h : Nat) : Nat → List UInt8
  | 0 => []
  | k + 1 => hexc (h / 16 ^ k % 16) :: hexT h k
theorem hexT_16 (h : Nat) : hexT h 16 = hexL h := by simp [hexT, hexL]

theorem mk_append (a b : List UInt8) : (⟨a.toArray⟩ : ByteArray) ++ ⟨b.toArray⟩ = ⟨(a ++ b).toArray⟩ := by
  apply ByteArray.ext
  rw [ByteArray.data_append]
  simp
theorem conv1 (w : World) (c : UInt8) (v : Int) (hv : v = c.toNat) : (convert 26 9 (.slice (some ⟨w.heap.size, 0, none⟩) 1 1)).run Try.prog (w.alloc (.cells #[.int .u8 v] 5)) = .ok (.string ⟨#[c]⟩) (w.alloc (.cells #[.int .u8 v] 5)) := by
  subst hv
  refine run_convert_bytes_back _ 26 9 5 _ 1 [c] Try.underlying26 Try.underlying5 Try.underlying9 (fun j hj => ?_)
  rw [Addr.add_lit, Nat.zero_add, World.cell?_alloc_new]
  obtain rfl : j = 0 := by simpa using hj
  rfl

set_option maxHeartbeats 1000000 in
theorem refDigest_any (s : ByteArray) (w : World) (hs : s.size ≤ 9223372036854775807) :
    Calls Try.prog 32 #[.string s] w fun e w' => e = .returned (.string ⟨(hexL (dsum (sb s))).toArray⟩) ∧ Below w.heap.size w w' := by
  have Hf : Hid (dsum (sb s) = dpre (sb s) s.size) := by
    show _ = dsum _
    rw [List.take_of_length_le (by rw [sb_length]; exact Nat.le_refl _)]
  rw [Hf.out, ← hexT_16]
  go_enter Try.func32, Try.ntmps32
  go_wp2
  go_loop [3, 4] (fun v i => ∃ k : Nat, k ≤ s.size ∧ i = .int .i64 k ∧ v = .int .u64 (dpre (sb s) k)) (fun _ i => s.size - (intOf i).toNat)
  case atStart => exact ⟨0, by omega, rfl, by rw [dpre_zero]; unfold dini; rfl⟩
  case round =>
    obtain ⟨k, hk, rfl, rfl⟩ := hrel
    have hl := dpre_lt (sb s) k
    by_cases hlt : k < s.size
    · go_wp2
      go_round
      case rel => exact ⟨k + 1, by omega, by go_num, by rw [dpre_succ s k hlt, dstep_int _ _ hl]⟩
      case measure => simp [intOf]; omega
    · obtain rfl : k = s.size := by omega
      generalize hh : dpre (sb s) s.size = h at hl ⊢
      have HH := Lib.hid hh
      clear hk hlt hs hh
      go_wp2
      go_loopw [3, 5, 6] (fun v o i wr => ∃ (k g : Nat) (T : List UInt8), k ≤ 16 ∧ i = .int .i64 k ∧ v = .int .u64 g ∧ g = h / 16 ^ k ∧ o = .string ⟨T.toArray⟩ ∧ T = hexT h k ∧ T.length ≤ k ∧ Below w.heap.size w wr) (fun _ _ i _ => 16 - (intOf i).toNat)
      case atStart => exact ⟨0, h, [], by omega, rfl, rfl, by simp, rfl, rfl, by simp, Below.refl _ _⟩
      case round =>
        obtain ⟨k, g, T, hk, rfl, rfl, hg, rfl, hT, hTl, hb⟩ := hrel
        have hTs : (⟨T.toArray⟩ : ByteArray).size ≤ 16 := by show T.toArray.size ≤ 16; simp; omega
        have hT1 : (⟨#[hexc (g % 16)]⟩ : ByteArray).size ≤ 1 := Nat.le_refl _
        have hgl : g < 18446744073709551616 := by rw [hg]; exact Nat.lt_of_le_of_lt (Nat.div_le_self _ _) hl
        have HG := Lib.hid hg; have HT := Lib.hid hT; have HB := Lib.hid hb
        clear hg hT hb
        by_cases hlt : k < 16
        · go_wp2
          rw [conv1 wr (hexc (g % 16)) _ (by rw [hexc_eq])]
          go_wp2
          go_roundw
          case rel => exact ⟨k + 1, g / 16, hexc (g % 16) :: T, by omega, by go_num, by go_num, by rw [HG.out, Nat.div_div_eq_div_mul, Nat.pow_succ], congrArg Value.string (mk_append [hexc (g % 16)] T), by rw [HG.out, HT.out]; rfl, by simp; omega, HB.out.alloc HB.out.size _⟩
          case measure => simp [intOf]; omega
        · obtain rfl : k = 16 := by omega
          go_wp2
          go_ret
          exact ⟨by rw [HH.out, ← HT.out]; rfl, HB.out⟩
end Go.Proofs.Ytlhgbnjflemiiaa
