/- Contract of the specification's Decimal. -/
import Derived.Test.YtaaaddmdcldclaaGreatDoorTg
import Derived.Test.YtaaaddmdcldclaaGreatDoorNw
namespace Go.Proofs.YtaaaddmdcldclaaGreatDoor
open Go.RowKit Go.Shelf
set_option linter.unusedVariables false
set_option linter.unusedSimpArgs false

theorem dgl_snoc (m : Nat) : ∀ k, dgl m (k + 1) = dgl (m / 10) k ++ [UInt8.ofNat (48 + m % 10)]
  | 0 => by show [UInt8.ofNat (48 + m / 10 ^ 0 % 10)] = _; simp [dgl]
  | k + 1 => by
    have h := dgl_snoc m k
    show UInt8.ofNat (48 + m / 10 ^ (k + 1) % 10) :: dgl m (k + 1) = (UInt8.ofNat (48 + m / 10 / 10 ^ k % 10) :: dgl (m / 10) k) ++ _
    rw [h, show m / 10 ^ (k + 1) = m / 10 / 10 ^ k by rw [Nat.pow_succ', Nat.div_div_eq_div_mul]]
    rfl
theorem dec_dgl : ∀ m : Nat, ∃ K, Lib.decDigits m = dgl m K ∧ m / 10 ^ K = 0 ∧ 1 ≤ K ∧ (∀ k, k < K → 0 < m / 10 ^ k ∨ k < 1) ∧ (∀ b, m < 10 ^ b → 1 ≤ b → K ≤ b) := by
  intro m
  induction m using Nat.strongRecOn with
  | _ m ih =>
    by_cases h : m < 10
    · refine ⟨1, ?_, by simp; omega, Nat.le_refl _, fun k hk => .inr hk, fun b _ hb => hb⟩
      rw [Lib.decDigits, dif_pos h]
      show _ = [UInt8.ofNat (48 + m / 10 ^ 0 % 10)]
      simp [Nat.mod_eq_of_lt h]
    · obtain ⟨K, e, h1, h2, h3, h4⟩ := ih (m / 10) (by omega) 
      refine ⟨K + 1, ?_, ?_, by omega, fun k hk => ?_, fun b hb hb1 => ?_⟩
      · rw [Lib.decDigits, dif_neg h, e, dgl_snoc]
      · rw [Nat.pow_succ', ← Nat.div_div_eq_div_mul]; exact h1
      · cases k with
        | zero => exact .inr (by omega)
        | succ k =>
          left
          rw [Nat.pow_succ', ← Nat.div_div_eq_div_mul]
          rcases h3 k (by omega) with h5 | h5
          · exact h5
          · have : k = 0 := by omega
            subst this
            simp; omega
      · cases b with
        | zero => omega
        | succ b =>
          have h5 : m / 10 < 10 ^ b := by
            rw [Nat.pow_succ] at hb
            exact Nat.div_lt_of_lt_mul (by rw [Nat.mul_comm]; exact hb)
          have h6 : 1 ≤ b := by
            cases b with
            | zero => simp at hb; omega
            | succ b => omega
          have := h4 b h5 h6
          omega
theorem frac_dgl (r : Nat) (hr : r < 1000) : (Lib.decDigits (1000 + r)).drop 1 = dgl r 3 := by
  rw [Fx.dec_frac r hr]
  show _ = [UInt8.ofNat (48 + r / 10 ^ 2 % 10), UInt8.ofNat (48 + r / 10 ^ 1 % 10), UInt8.ofNat (48 + r / 10 ^ 0 % 10)]
  rw [show r / 10 ^ 2 % 10 = r / 100 by omega, show r / 10 ^ 1 % 10 = r / 10 % 10 by omega, show r / 10 ^ 0 % 10 = r % 10 by omega]
/-- what is trimmed, a step -/
theorem trim_yes (l : List UInt8) : Lib.trimRightB (l ++ [48]) 48 = Lib.trimRightB l 48 := by
  unfold Lib.trimRightB
  rw [List.reverse_append]
  rfl
theorem trim_no (l : List UInt8) (c : UInt8) (h : c ≠ 48) : Lib.trimRightB (l ++ [c]) 48 = l ++ [c] := by
  unfold Lib.trimRightB
  rw [List.reverse_append]
  show (List.dropWhile _ (c :: l.reverse)).reverse = _
  rw [List.dropWhile_cons_of_neg (by simpa using h)]
  simp
theorem take_last (l : List UInt8) (h : 0 < l.length) : ∃ m c, l = m ++ [c] ∧ m.length + 1 = l.length := by
  have hne : l ≠ [] := List.length_pos_iff.1 h
  exact ⟨l.dropLast, l.getLast hne, (List.dropLast_concat_getLast hne).symm, by rw [List.length_dropLast]; omega⟩
theorem bs_take (m : List UInt8) (c : UInt8) : (Fx.bs (m ++ [c])).extract 0 m.length = Fx.bs m := by
  refine Fx.bytes_ext ?_
  rw [Lib.extract_from_zero, Fx.bs_data, Fx.bs_data]
  simp
theorem bs_last (m : List UInt8) (c : UInt8) : byteI (Fx.bs (m ++ [c])) m.length = (c.toNat : Int) := by
  have hk : m.length < (Fx.bs (m ++ [c])).size := by rw [Fx.bs_size]; simp
  exact (at_get hk c).1 (by rw [Fx.bs_data]; simp)
def decL (n : Nat) : List UInt8 := Lib.decDigits (n / 1000) ++ (if n % 1000 = 0 then [] else 46 :: Lib.trimRightB (dgl (n % 1000) 3) 48)
theorem trim_nil (r : Nat) (hr : r < 1000) : Lib.trimRightB (dgl r 3) 48 = [] ↔ r = 0 := by
  rw [← frac_dgl r hr, Fx.dec_frac r hr, Fx.trim3]
  have eq48 : ∀ k : Nat, k < 10 → (UInt8.ofNat (48 + k) = 48 ↔ k = 0) := by
    intro k hk
    constructor
    · intro h
      have := congrArg UInt8.toNat h
      rw [Fx.dig_nat k hk] at this
      change 48 + k = 48 at this
      omega
    · intro h; subst h; rfl
  have e1 := eq48 (r / 100) (by omega)
  have e2 := eq48 (r / 10 % 10) (by omega)
  have e3 := eq48 (r % 10) (by omega)
  constructor
  · intro h
    split at h
    · cases h
    · split at h
      · cases h
      · split at h
        · cases h
        · rename_i h1 h2 h3
          have a := e1.1 (by simpa using h3)
          have b := e2.1 (by simpa using h2)
          have c := e3.1 (by simpa using h1)
          omega
  · intro h
    subst h
    decide
set_option maxHeartbeats 8000000 in
set_option maxRecDepth 100000 in
theorem decimal_pos (n : Nat) (hn : n ≤ 1000000000000) (w : World) : Calls Tryz.prog 37 #[.int .i64 (n : Nat)] w fun e w' => e = .returned (.string (Fx.bs (decL n))) ∧ Below w.heap.size w w' := by
  obtain ⟨K, e, h1, h2, h3, h4⟩ := dec_dgl (n / 1000)
  have hK15 : K ≤ 15 := h4 15 (by omega) (by omega)
  have hd1 := fun w => digits_any (n / 1000) 1 K (by omega) (by omega) ⟨h1, h2⟩ h3 w
  have hr3 : n % 1000 / 10 ^ 3 = 0 := by omega
  have hd2 := fun w => digits_any (n % 1000) 3 3 (by omega) (by omega) ⟨hr3, Nat.le_refl 3⟩ (fun k hk => .inr hk) w
  rw [← e] at hd1
  obtain ⟨S, hS⟩ : ∃ S, S = Fx.bs (Lib.decDigits (n / 1000)) := ⟨_, rfl⟩
  have HSB := Lib.hid (show S.size ≤ 15 by rw [hS, Fx.bs_size, e, dgl_len]; exact hK15)
  rw [← hS] at hd1
  have HSS := Lib.hid hS
  have HD1 := Lib.hid (show ∀ w, Calls Tryz.prog 38 #[.int .i64 ((n / 1000 : Nat) : Int), .int .i64 1] w fun e w' => e = .returned (.string S) ∧ Below w.heap.size w w' from hd1)
  have HD2 := Lib.hid (show ∀ w, Calls Tryz.prog 38 #[.int .i64 ((n % 1000 : Nat) : Int), .int .i64 3] w fun e w' => e = .returned (.string (Fx.bs (dgl (n % 1000) 3))) ∧ Below w.heap.size w w' from hd2)
  have k0 : ¬ (n : Int) < 0 := by omega
  obtain ⟨A, hA⟩ : ∃ A, A = n / 1000 := ⟨_, rfl⟩
  obtain ⟨R, hR⟩ : ∃ A, A = n % 1000 := ⟨_, rfl⟩
  have r1 : IntKind.i64.wrap ((n : Int) / 1000) = (A : Int) := by
    have h : (n : Int) / 1000 = (A : Int) := by omega
    rw [h]; exact IntWalk.i64_in _ ⟨by omega, by omega⟩
  have r2 : IntKind.i64.wrap ((n : Int) % 1000) = (R : Int) := by
    have h : (n : Int) % 1000 = (R : Int) := by omega
    rw [h]; exact IntWalk.i64_in _ ⟨by omega, by omega⟩
  have r3 : (n : Int) / 1000 = (A : Int) := by omega
  have r4 : (n : Int) % 1000 = (R : Int) := by omega
  rw [← hA] at HD1
  rw [← hR] at HD2
  have HR := Lib.hid hR
  clear e h1 h2 h3 h4 hK15 hd1 hd2 hr3 hS hA hR
  go_enter Tryz.func37, Tryz.ntmps37
  go_wp2_with fail
  refine (HD1.out _).mono ?_
  rintro e w1 ⟨rfl, hb⟩
  have HB1 := Lib.hid hb
  clear hb
  go_wp2_with fail
  refine (HD2.out _).mono ?_
  rintro e w2 ⟨rfl, hb⟩
  have HB2 := Lib.hid (HB1.out.trans (hb.mono HB1.out.size))
  clear hb HB1 HD1 HD2
  go_wp2_with fail
  go_loopw [4] (fun fv wr => ∃ l : List UInt8, l.length ≤ 3 ∧ fv = .string (Fx.bs l) ∧ Lib.trimRightB l 48 = Lib.trimRightB (dgl (n % 1000) 3) 48 ∧ Hid (Below w.heap.size w wr)) (fun fv _ => (match fv with | .string s => s.size | _ => 0))
  case atStart => exact ⟨dgl R 3, Nat.le_of_eq (dgl_len _ _), rfl, by rw [HR.out], Lib.hid HB2.out⟩
  case round =>
    obtain ⟨l, hl3, rfl, htr, hH⟩ := hrel
    have HB := Lib.hid hH.out
    clear hH
    by_cases hl0 : l.length = 0
    · obtain rfl : l = [] := List.length_eq_zero_iff.1 hl0
      have hr0 : n % 1000 = 0 := (trim_nil _ (Nat.mod_lt _ (by omega))).1 (htr.symm.trans rfl)
      have HY := Lib.hid (show Fx.bs (decL n) = S by rw [HSS.out]; unfold decL; rw [if_pos hr0, List.append_nil])
      have he : Fx.bs ([] : List UInt8) = ⟨#[]⟩ := rfl
      rw [he]
      clear he hr0 htr hl0 hl3
      go_wp2_with fail
      go_ret
      exact ⟨by rw [HY.out]; (first | done | rfl), HB.out⟩
    obtain ⟨m, c, rfl, hml⟩ := take_last l (by omega)
    obtain ⟨q, hq⟩ : ∃ q, q = m.length := ⟨_, rfl⟩
    have hsz : (Fx.bs (m ++ [c])).size = q + 1 := by rw [Fx.bs_size, hq]; simp
    have hby : byteI (Fx.bs (m ++ [c])) q = (c.toNat : Int) := by rw [hq]; exact bs_last m c
    have htk : (Fx.bs (m ++ [c])).extract 0 q = Fx.bs m := by rw [hq]; exact bs_take m c
    obtain ⟨T, hT⟩ : ∃ T, T = Fx.bs (m ++ [c]) := ⟨_, rfl⟩
    have HTT := Lib.hid hT
    rw [← hT] at hsz hby htk ⊢
    have hqT : q < T.size := by omega
    obtain ⟨x, hx⟩ : ∃ x : Int, x = (T[q].toNat : Int) := ⟨_, rfl⟩
    have hx2 : (T[q].toNat : Int) = x := hx.symm
    have HXC := Lib.hid (show x = (c.toNat : Int) by rw [hx, ← byteI_at hqT]; exact hby)
    have k1 : (0 : Int) < (T.size : Int) := by omega
    have k2 : IntKind.i64.wrap ((T.size : Int) - 1) = (q : Int) := by
      have h : (T.size : Int) - 1 = (q : Int) := by omega
      rw [h]; exact IntWalk.i64_in _ ⟨by omega, by omega⟩
    have k3 : (0 : Int) ≤ (q : Int) := by omega
    have k4 : (q : Int) < (T.size : Int) := by omega
    have k5 : (q : Int) ≤ (T.size : Int) := by omega
    have HM3 := Lib.hid (show m.length ≤ 3 by simp at hl3; omega)
    have HQM := Lib.hid hq
    have HTR := Lib.hid htr
    have HZQ := Lib.hid hsz
    have hne := nil_no (s := T) (by omega)
    clear hT hx hby hl3 htr hml hl0 hq hsz
    by_cases h48 : x = 48
    · have t48 : (x == 48) = true := by simpa using h48
      have hc48 : c = 48 := UInt8.toNat_inj.1 (by have h := HXC.out; show c.toNat = 48; omega)
      subst hc48
      have HTM := Lib.hid (show Lib.trimRightB m 48 = Lib.trimRightB (dgl (n % 1000) 3) 48 by rw [← HTR.out, trim_yes])
      clear h48
      go_wp2_with fail
      go_roundw
      case rel => exact ⟨m, HM3.out, (by first | rfl | rw [htk]), HTM.out, Lib.hid HB.out⟩
      case measure =>
        have h1 := HZQ.out
        have h2 := HQM.out
        have h3 : (Fx.bs m).size = m.length := Fx.bs_size m
        simp
        omega
    · have t48 : (x == 48) = false := by simpa using h48
      have hc48 : c ≠ 48 := fun h => h48 (by rw [HXC.out, h]; rfl)
      have hr0 : n % 1000 ≠ 0 := fun h => by
        have h1 := (trim_nil (n % 1000) (Nat.mod_lt _ (by omega))).2 h
        rw [← HTR.out, trim_no m c hc48] at h1
        simp at h1
      have HY := Lib.hid (show Fx.bs (decL n) = S ++ ⟨#[46]⟩ ++ T by
        have h1 : Lib.trimRightB (dgl (n % 1000) 3) 48 = m ++ [c] := by rw [← HTR.out, trim_no m c hc48]
        rw [HSS.out, HTT.out, show (⟨#[46]⟩ : ByteArray) = Fx.bs [46] from rfl, Fx.bs_append, Fx.bs_append]
        unfold decL
        rw [if_neg hr0, h1]
        simp)
      have g1 : ¬ 9223372036854775807 < S.size + 1 := by have := HSB.out; omega
      have g2 : ¬ 9223372036854775807 < S.size + 1 + T.size := by have := HSB.out; have := HZQ.out; have := HM3.out; have := HQM.out; omega
      clear h48 hc48 hr0
      go_wp2_with fail
      go_ret
      exact ⟨by rw [HY.out]; (first | done | rfl), HB.out⟩
set_option maxHeartbeats 8000000 in
set_option maxRecDepth 100000 in
theorem decimal_any (n : Int) (hn : -1000000000000 ≤ n) (hn2 : n ≤ 1000000000000) (w : World) : Calls Tryz.prog 37 #[.int .i64 n] w fun e w' => e = .returned (.string (Fx.textB n)) ∧ Below w.heap.size w w' := by
  have hc := Fx.clampI_in n hn hn2
  obtain ⟨m, hm⟩ : ∃ m, m = n.natAbs := ⟨_, rfl⟩
  have htx : Fx.textB n = Fx.bs ((if n < 0 then [45] else []) ++ decL m) := by
    refine Fx.bytes_ext ?_
    rw [Fx.text_list, hc, ← hm, frac_dgl _ (Nat.mod_lt _ (by omega)), Fx.bs_data]
    unfold decL
    simp
  by_cases h0 : n < 0
  · have hd := fun w => decimal_pos m (by omega) w
    obtain ⟨D, hD⟩ : ∃ D, D = Fx.bs (decL m) := ⟨_, rfl⟩
    have hsz : D.size ≤ 100 := by
      have h1 := textB_size n
      rw [htx, Fx.bs_size, List.length_append] at h1
      rw [hD, Fx.bs_size]; omega
    have HY := Lib.hid (show Fx.textB n = ⟨#[45]⟩ ++ D by rw [htx, if_pos h0, hD, show (⟨#[45]⟩ : ByteArray) = Fx.bs [45] from rfl, Fx.bs_append])
    rw [← hD] at hd
    have HD := Lib.hid hd
    have r1 : IntKind.i64.wrap (-n) = (m : Int) := by
      have h : -n = (m : Int) := by omega
      rw [h]; exact IntWalk.i64_in _ ⟨by omega, by omega⟩
    have g1 : ¬ 9223372036854775807 < 1 + D.size := by omega
    clear hd hD htx hc hm hsz
    go_enter Tryz.func37, Tryz.ntmps37
    go_wp2_with fail
    refine (HD.out _).mono ?_
    rintro e w1 ⟨rfl, hb⟩
    have HB := Lib.hid hb
    clear hb
    go_wp2_with fail
    go_ret
    exact ⟨by rw [HY.out]; (first | done | rfl), HB.out⟩
  · have hd := decimal_pos m (by omega) w
    rw [show ((m : Nat) : Int) = n by omega] at hd
    rw [htx, if_neg h0]
    exact hd
end Go.Proofs.YtaaaddmdcldclaaGreatDoor
