/- Contract of the specification's Digits. -/
import Derived.Test.YtaaaddmdcldclaaGreatDoorTd
namespace Go.Proofs.YtaaaddmdcldclaaGreatDoor
open Go.RowKit Go.Shelf
set_option linter.unusedVariables false
set_option linter.unusedSimpArgs false

/-- the last k digits of a number -/
def dgl (n : Nat) : Nat → List UInt8
  | 0 => []
  | k + 1 => UInt8.ofNat (48 + n / 10 ^ k % 10) :: dgl n k
theorem dgl_len (n : Nat) : ∀ k, (dgl n k).length = k
  | 0 => rfl
  | k + 1 => by show (dgl n k).length + 1 = _; rw [dgl_len n k]
theorem conv1 (wr : World) (x : Int) (d : Nat) (h : x = (d : Int)) : (Sem.run Tryz.prog (convert 75 9 (.slice (some ⟨wr.heap.size, 0, none⟩) 1 1)) (wr.alloc (Obj.cells #[.int .u8 x] 5))) = .ok (.string (Fx.bs [UInt8.ofNat d])) (wr.alloc (Obj.cells #[.int .u8 x] 5)) := by
  have hk2 := run_convert_bytes_arg (P := Tryz.prog) (wr.alloc (Obj.cells #[.int .u8 x] 5)) 75 5 Tryz.underlying75 Tryz.underlying5 wr.heap.size 0 1 1 [x] rfl
    (fun i hi => by
      obtain rfl : i = 0 := by omega
      simp) 9 Tryz.underlying9
  have e : strOfNums [x] = Fx.bs [UInt8.ofNat d] := by
    refine Fx.bytes_ext ?_
    show [UInt8.ofNat x.toNat] = [UInt8.ofNat d]
    rw [show x.toNat = d by omega]
  rw [e] at hk2
  exact hk2
theorem div_step (n k : Nat) : n / 10 ^ (k + 1) = n / 10 ^ k / 10 := by rw [Nat.pow_succ, Nat.div_div_eq_div_mul]
set_option maxHeartbeats 8000000 in
set_option maxRecDepth 100000 in
theorem digits_any (n least K : Nat) (hn : n ≤ 9223372036854775807) (hKb : K ≤ 100) (hK : n / 10 ^ K = 0 ∧ least ≤ K) (hmin : ∀ k, k < K → 0 < n / 10 ^ k ∨ k < least) (w : World) : Calls Tryz.prog 38 #[.int .i64 n, .int .i64 least] w fun e w' => e = .returned (.string (Fx.bs (dgl n K))) ∧ Below w.heap.size w w' := by
  have HKK := Lib.hid hK
  have HMN := Lib.hid hmin
  have HKB := Lib.hid hKb
  have HNB := Lib.hid hn
  clear hK hmin hKb hn
  go_enter Tryz.func38, Tryz.ntmps38
  go_wp2_with fail
  go_loopw [0, 5] (fun nv sv wr => ∃ k N : Nat, k ≤ K ∧ N = n / 10 ^ k ∧ nv = .int .i64 N ∧ sv = .string (Fx.bs (dgl n k)) ∧ Hid (Below w.heap.size w wr)) (fun _ sv _ => K - (match sv with | .string s => s.size | _ => 0))
  case atStart => exact ⟨0, n, Nat.zero_le _, by simp, rfl, rfl, Lib.hid (Below.refl _ _)⟩
  case round =>
    obtain ⟨k, N, hk, hNe, rfl, rfl, hH⟩ := hrel
    have HB := Lib.hid hH.out
    have HNE := Lib.hid hNe
    have hsz : (Fx.bs (dgl n k)).size = k := by rw [Fx.bs_size, dgl_len]
    clear hH hNe
    by_cases hlt : k < K
    · obtain ⟨D, hD⟩ : ∃ D, D = N % 10 := ⟨_, rfl⟩
      have hD10 : D < 10 := by omega
      have hNb : N ≤ 9223372036854775807 := by rw [HNE.out]; exact Nat.le_trans (Nat.div_le_self _ _) HNB.out
      have r1 : IntKind.i64.wrap (Int.tmod (N : Int) 10) = (D : Int) := by
        rw [Int.tmod_eq_emod_of_nonneg (by omega)]
        have h : (N : Int) % 10 = (D : Int) := by omega
        rw [h]; exact IntWalk.i64_in _ ⟨by omega, by omega⟩
      have r2 : IntKind.i64.wrap (48 + (D : Int)) = 48 + (D : Int) := IntWalk.i64_in _ ⟨by omega, by omega⟩
      have r3 : IntKind.u8.wrap (48 + (D : Int)) = 48 + (D : Int) := u8_in _ (by omega) (by omega)
      have r4 : IntKind.i64.wrap (Int.tdiv (N : Int) 10) = ((N / 10 : Nat) : Int) := by
        rw [Int.tdiv_eq_ediv_of_nonneg (by omega)]
        have h : (N : Int) / 10 = ((N / 10 : Nat) : Int) := by omega
        rw [h]; exact IntWalk.i64_in _ ⟨by omega, by omega⟩
      have r5 : IntKind.i64.wrap ((N : Int) / 10) = ((N / 10 : Nat) : Int) := by
        have h : (N : Int) / 10 = ((N / 10 : Nat) : Int) := by omega
        rw [h]; exact IntWalk.i64_in _ ⟨by omega, by omega⟩
      have HAP := Lib.hid (show Fx.bs [UInt8.ofNat (48 + D)] ++ Fx.bs (dgl n k) = Fx.bs (dgl n (k + 1)) by
        rw [Fx.bs_append]
        show Fx.bs (UInt8.ofNat (48 + D) :: dgl n k) = Fx.bs (UInt8.ofNat (48 + n / 10 ^ k % 10) :: dgl n k)
        rw [hD, HNE.out])
      obtain ⟨T, hT⟩ : ∃ T, T = Fx.bs (dgl n k) := ⟨_, rfl⟩
      obtain ⟨C1, hC1⟩ : ∃ T, T = Fx.bs [UInt8.ofNat (48 + D)] := ⟨_, rfl⟩
      have hs1 : C1.size = 1 := by rw [hC1]; exact Fx.bs_size _
      have HTT := Lib.hid hT.symm
      have HCC := Lib.hid hC1
      rw [← hT] at hsz HAP ⊢
      rw [← hC1] at HAP
      have HSZ2 := Lib.hid (show (C1 ++ T).size = k + 1 by rw [ByteArray.size_append, hs1, hsz]; omega)
      have g1 : ¬ 9223372036854775807 < C1.size + T.size := by have := HKB.out; omega
      have HMK := Lib.hid (HMN.out k hlt)
      have HDN := Lib.hid hD
      clear hT hC1 hD hNb hs1
      by_cases hN0 : 0 < N
      · have t0 : (0 : Int) < (N : Int) := by omega
        have hk2 := conv1 wr (48 + (N : Int) % 10) (48 + D) (by have := HDN.out; omega)
        rw [← HCC.out] at hk2
        clear hN0
        go_wp2_with fail
        go_roundw
        case rel => exact ⟨k + 1, N / 10, by omega, by rw [div_step, HNE.out], by go_num, by rw [HAP.out], Lib.hid (HB.out.alloc HB.out.size (Obj.cells #[.int .u8 (48 + (N : Int) % 10)] 5))⟩
        case measure =>
          have h1 := HSZ2.out
          rw [ByteArray.size_append] at h1
          simp
          omega
      · have t0 : ¬ (0 : Int) < (N : Int) := by omega
        have t1 : (T.size : Int) < (least : Int) := by
          have h := HMK.out
          rw [← HNE.out] at h
          omega
        have hz : N = 0 := by omega
        have hk2 := conv1 wr 48 (48 + D) (by have := HDN.out; omega)
        rw [← HCC.out] at hk2
        clear hN0
        subst hz
        go_wp2_with fail
        go_roundw
        case rel => exact ⟨k + 1, 0, by omega, by rw [div_step, ← HNE.out], by go_num, by rw [HAP.out], Lib.hid (HB.out.alloc HB.out.size (Obj.cells #[.int .u8 (48)] 5))⟩
        case measure =>
          have h1 := HSZ2.out
          rw [ByteArray.size_append] at h1
          simp
          omega
    · obtain rfl : k = K := by omega
      have t0 : ¬ (0 : Int) < (N : Int) := by have h1 := HKK.out.1; rw [← HNE.out] at h1; omega
      obtain ⟨T, hT⟩ : ∃ T, T = Fx.bs (dgl n k) := ⟨_, rfl⟩
      have HTT := Lib.hid hT.symm
      rw [← hT] at hsz ⊢
      have t1 : ¬ (T.size : Int) < (least : Int) := by have h1 := HKK.out.2; omega
      clear hT
      go_wp2_with fail
      go_ret
      exact ⟨by rw [HTT.out]; (first | done | rfl), HB.out⟩
end Go.Proofs.YtaaaddmdcldclaaGreatDoor
