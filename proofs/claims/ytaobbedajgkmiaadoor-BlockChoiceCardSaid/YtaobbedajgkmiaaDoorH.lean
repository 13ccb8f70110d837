/- The contract of bits.Div64: for a divisor greater than the high word it returns the quotient and the rest; the world is as it was but for draws. -/
import Derived.Test.YtaobbedajgkmiaaDoorF
import Derived.Test.YtaobbedajgkmiaaDoorD
import Derived.LoopTactic
import Derived.Deep.CutBlock
import Derived.Deep.DeepCutAuto
import Derived.Deep.QuietTactic
import Derived.BigQuiet
namespace Go.Proofs.YtaobbedajgkmiaaDoor
open Go.RowKit

theorem lz_any (y s : Nat) (w : World) (hy : y < 18446744073709551616) (hs : s = 64 - Lib.bitLen y) (hb : Lib.bitLen y ≤ 64) :
    Calls Tryd.prog 106 #[.int .u64 y] w fun e w' => e = .returned (.int .i64 s) ∧ w = w' := by
  refine (Tryd.bits_LeadingZeros64 y w (by omega) (by omega)).mono ?_
  rintro e w' ⟨rfl, rfl⟩
  refine ⟨ret_int ?_, rfl⟩
  rw [Int.toNat_natCast]
  omega

theorem mul_wrap0 (q v P : Nat) (hP : P = q * v) (hq : q < 4294967296) (hv : v < 4294967296) : IntKind.u64.wrap ((q : Int) * ↑v) = (P : Int) := by
  have h : q * v ≤ 4294967295 * 4294967295 := Nat.mul_le_mul (by omega) (by omega)
  rw [← Int.natCast_mul, hP, IntKind.wrap_u64]
  omega
theorem mul_wrap (q v P : Nat) (hP : P = (q + 1) * v) (hq : q + 1 < 4294967296) (hv : v < 4294967296) : IntKind.u64.wrap (((q : Int) + 1) * ↑v) = (P : Int) :=
  mul_wrap0 (q + 1) v P hP hq hv
theorem un_wrap (U c q Y R P : Nat) (hP : P = q * Y) (h : U * 4294967296 + c = P + R) (hR : R < 18446744073709551616) :
    IntKind.u64.wrap (IntKind.u64.wrap (IntKind.u64.wrap (↑U * 4294967296) + ↑c) - IntKind.u64.wrap (↑q * ↑Y)) = (R : Int) := by
  rw [← Int.natCast_mul, ← hP]
  simp only [IntKind.wrap_u64]
  omega
theorem rem_wrap (U a v r P : Nat) (hP : P = a * v) (h : U = P + r) (hr : r < 18446744073709551616) :
    IntKind.u64.wrap (↑U - IntKind.u64.wrap ((a : Int) * ↑v)) = (r : Int) := by
  rw [← Int.natCast_mul, ← hP]
  simp only [IntKind.wrap_u64]
  omega
theorem div_wrap (U v : Nat) (hU : U < 18446744073709551616) : IntKind.u64.wrap ((U : Int) / ↑v) = ((U / v : Nat) : Int) := by
  have : U / v ≤ U := Nat.div_le_self _ _
  rw [← Int.natCast_ediv, IntKind.wrap_u64]
  generalize U / v = q at *
  omega
theorem mod_wrap (U v : Nat) (hU : U < 18446744073709551616) : IntKind.u64.wrap (↑U - IntKind.u64.wrap (((U / v : Nat) : Int) * ↑v)) = ((U % v : Nat) : Int) :=
  rem_wrap U (U / v) v (U % v) _ rfl (Nat.div_add_mod' U v).symm (Nat.lt_of_le_of_lt (Nat.mod_le _ _) hU)
theorem shl_wrap (y s Y : Nat) (h : Y = y * 2 ^ s % 18446744073709551616) : IntKind.u64.wrap ((y : Int) * 2 ^ s) = (Y : Int) := by
  have e : ((y : Int) * 2 ^ s) = ((y * 2 ^ s : Nat) : Int) := by simp
  rw [e, IntKind.wrap_u64, h]
  omega
theorem mask32 (Y : Nat) (h : Y < 18446744073709551616) : bits .and .u64 (Y : Int) 4294967295 = ((Y % 4294967296 : Nat) : Int) := by
  have := u64_and_nat Y 4294967295 h (by omega)
  rw [nat_mask32] at this
  exact this
theorem or_parts (hi lo s : Nat) (hs : s ≤ 64) (hlo : lo < 18446744073709551616) (h : hi * 2 ^ s + lo / 2 ^ (64 - s) < 18446744073709551616) :
    bits .or .u64 (IntKind.u64.wrap (↑hi * 2 ^ s)) (↑lo / 2 ^ (64 - s)) = ((hi * 2 ^ s + lo / 2 ^ (64 - s) : Nat) : Int) := by
  obtain ⟨_, h2⟩ := shift_parts lo s hs hlo
  have e1 : IntKind.u64.wrap ((hi : Int) * 2 ^ s) = ((hi * 2 ^ s : Nat) : Int) := shl_wrap hi s _ (by rw [Nat.mod_eq_of_lt]; omega)
  have e2 : (lo : Int) / 2 ^ (64 - s) = ((lo / 2 ^ (64 - s) : Nat) : Int) := by simp
  rw [e1, e2, u64_or_nat _ _ (by omega) (by omega), nat_join s _ _ (Nat.mul_mod_left _ _) h2]

theorem bitLen_low (y : Nat) (h0 : 0 < y) (hy : y < 18446744073709551616) : 1 ≤ Lib.bitLen y ∧ 2 ^ (Lib.bitLen y - 1) ≤ y ∧ y < 2 ^ Lib.bitLen y ∧ Lib.bitLen y ≤ 64 := by
  have h64 := (bitLen_iff y 64 hy).2 (by omega)
  have hlt := (bitLen_iff y (Lib.bitLen y) hy).1 (Nat.le_refl _)
  have h1 : 1 ≤ Lib.bitLen y := by
    rcases Nat.eq_zero_or_pos (Lib.bitLen y) with h | h
    · rw [h] at hlt; omega
    · exact h
  refine ⟨h1, ?_, hlt, h64⟩
  rcases Nat.lt_or_ge y (2 ^ (Lib.bitLen y - 1)) with h | h
  · have := (bitLen_iff y (Lib.bitLen y - 1) hy).2 h; omega
  · exact h

set_option maxRecDepth 100000 in
set_option maxHeartbeats 4000000 in
theorem div64_pos (hi lo y s : Nat) (w : World) (hl : lo < 18446744073709551616) (hy : hi < y) (hy2 : y < 18446744073709551616) (hh : 0 < hi) (hs : s = 64 - Lib.bitLen y) :
    Calls Tryd.prog 102 #[.int .u64 hi, .int .u64 lo, .int .u64 y] w fun e w' => e = .returned (.tuple #[.int .u64 ((hi * 18446744073709551616 + lo) / y : Nat), .int .u64 ((hi * 18446744073709551616 + lo) % y : Nat)]) ∧ w = w' := by
  have b1 : ((y : Int) == 0) = false := by rw [beq_eq_false_iff_ne]; omega
  have b2 : decide (y ≤ hi) = false := by simp; omega
  have b3 : ((hi : Int) == 0) = false := by rw [beq_eq_false_iff_ne]; omega
  obtain ⟨k1, k2, k3, hbl⟩ := bitLen_low y (by omega) hy2
  have hn := norm_range y s hs hbl k2 k3 k1
  have hs63 : s ≤ 63 := by omega
  have hfl := first_lt hi lo y s (by omega) hl hy
  have hdv := dividend hi lo s (by omega) hl
  obtain ⟨Y, hY⟩ : ∃ Y : Nat, Y = y * 2 ^ s := ⟨_, rfl⟩
  obtain ⟨U, hU⟩ : ∃ U : Nat, U = hi * 2 ^ s + lo / 2 ^ (64 - s) := ⟨_, rfl⟩
  obtain ⟨W, hW⟩ : ∃ W : Nat, W = lo * 2 ^ s % 18446744073709551616 := ⟨_, rfl⟩
  have e1 : IntKind.u64.wrap (↑y * 2 ^ s) = (Y : Int) := shl_wrap y s Y (by rw [Nat.mod_eq_of_lt hn.2]; exact hY)
  have e4 : bits .or .u64 (IntKind.u64.wrap (↑hi * 2 ^ s)) (↑lo / 2 ^ (64 - s)) = (U : Int) := by rw [hU]; exact or_parts hi lo s (by omega) hl (by omega)
  have e5 : IntKind.u64.wrap (↑lo * 2 ^ s) = (W : Int) := shl_wrap lo s W hW
  rw [← hY] at hn hfl
  rw [← hU] at hfl hdv
  rw [← hW] at hdv
  have w64 : W < 18446744073709551616 := by omega
  obtain ⟨v1, hv1⟩ : ∃ v : Nat, v = Y / 4294967296 := ⟨_, rfl⟩
  have e2 : (Y : Int) / 4294967296 = (v1 : Int) := by omega
  obtain ⟨v0, hv0⟩ : ∃ v : Nat, v = Y % 4294967296 := ⟨_, rfl⟩
  have e3 : bits .and .u64 (Y : Int) 4294967295 = (v0 : Int) := by rw [hv0]; exact mask32 Y hn.2
  have hv1p : 2147483648 ≤ v1 := by omega
  have n1 : ¬ v1 = 0 := by omega
  obtain ⟨c1, hc1⟩ : ∃ v : Nat, v = W / 4294967296 := ⟨_, rfl⟩
  have e6 : (W : Int) / 4294967296 = (c1 : Int) := by omega
  obtain ⟨c0, hc0⟩ : ∃ v : Nat, v = W % 4294967296 := ⟨_, rfl⟩
  have e7 : bits .and .u64 (W : Int) 4294967295 = (c0 : Int) := by rw [hc0]; exact mask32 W w64
  have u64 : (U : Int) < 18446744073709551616 := by omega
  have v64 : (v1 : Int) < 4294967296 := by omega
  have v032 : (v0 : Int) < 4294967296 := by omega
  have c132 : (c1 : Int) < 4294967296 := by omega
  have c032 : (c0 : Int) < 4294967296 := by omega
  have HY2 : Hid (Y = v1 * 4294967296 + v0) := Lib.hid (by omega)
  have HULU : Hid (U < v1 * 4294967296 + v0) := Lib.hid (by have := HY2.out; omega)
  obtain ⟨a1, ha1⟩ : ∃ a, a = U / v1 := ⟨_, rfl⟩
  obtain ⟨a2, ha2⟩ : ∃ a, a = U % v1 := ⟨_, rfl⟩
  have e8 : IntKind.u64.wrap (↑U / ↑v1) = (a1 : Int) := by rw [ha1]; exact div_wrap U v1 (by omega)
  have e9 : IntKind.u64.wrap (↑U - IntKind.u64.wrap ((a1 : Int) * ↑v1)) = (a2 : Int) := by rw [ha1, ha2]; exact mod_wrap U v1 (by omega)
  have Uq : (a1 : Int) < 18446744073709551616 := by
    have h1 : U / v1 ≤ U := Nat.div_le_self _ _
    rw [← ha1] at h1
    omega
  have Um : (a2 : Int) < 4294967296 := by
    have h1 : U % v1 < v1 := Nat.mod_lt _ (by omega)
    rw [← ha2] at h1
    omega
  have DU : Hid (Dig U c1 v1 v0 a1 a2) := Lib.hid (by rw [ha1, ha2]; exact Dig.start U c1 v1 v0 (by omega) (by omega))
  have HS := Lib.hid hs
  have HN := Lib.hid hn
  have HD0 := Lib.hid hdv
  have HU := Lib.hid hU
  have HW := Lib.hid hW
  have HC1 := Lib.hid hc1
  have HC0 := Lib.hid hc0
  have HY := Lib.hid hY
  have HV1 := Lib.hid hv1
  have HV0 := Lib.hid hv0
  clear hU hW hc1 hc0 hY hv1 hv0 ha1 ha2 hs hn hdv hfl w64 k1 k2 k3 hv1p
  have hv1p : (2147483648 : Int) ≤ v1 := by have h1 := HV1.out; have h2 := HN.out; omega
  go_enter Tryd.func102, Tryd.ntmps102
  go_upto_block 0 with (go_at_call 106; refine (lz_any y s _ hy2 HS.out hbl).mono ?_; rintro e w' ⟨rfl, rfl⟩)
  go_cut [15, 16] from 67 to 85 (fun q _ wx => ∃ qn : Nat, q = .int .u64 qn ∧ Hid (qn = (U * 4294967296 + c1) / Y) ∧ w = wx)
  case first =>
    go_wp2_with fail
    go_loop [15, 16] (fun a b => ∃ q r : Nat, a = .int .u64 q ∧ b = .int .u64 r ∧ Hid (Dig U c1 v1 v0 q r) ∧ (r : Int) < 4294967296 ∧ (q : Int) < 18446744073709551616) (fun a _ => (intOf a).toNat)
    case atStart => exact ⟨a1, a2, rfl, rfl, DU, Um, Uq⟩
    case round =>
      obtain ⟨q, r, rfl, rfl, HD, hr, hq⟩ := hrel
      by_cases t : 4294967296 ≤ q ∨ 4294967296 * r + c1 < q * v0
      · obtain ⟨hq1, hd⟩ := HD.out.down (by omega) HULU.out (by omega) t
        have HD2 := Lib.hid hd
        clear hd
        obtain ⟨q, rfl⟩ : ∃ k, q = k + 1 := ⟨q - 1, by omega⟩
        rw [Nat.add_sub_cancel] at HD2
        have hq' : (q : Int) < 18446744073709551615 := by omega
        clear hq1 hq
        by_cases hb : (4294967296 : Int) ≤ ↑r + ↑v1
        · have HF := Lib.hid (HD2.out.fin Y HY2.out (by omega) (HD2.out.past (by omega) HULU.out (by omega)))
          have hb' : decide ((4294967296 : Int) ≤ ↑r + ↑v1) = true := decide_eq_true hb
          by_cases t1 : (4294967296 : Int) ≤ ↑q + 1
          · have t1' : decide ((4294967296 : Int) ≤ ↑q + 1) = true := decide_eq_true t1
            clear t t1
            go_wp2_with fail
            go_meet
            exact ⟨q, rfl, HF, rfl⟩
          · have t1' : decide ((4294967296 : Int) ≤ ↑q + 1) = false := decide_eq_false t1
            have t2 : 4294967296 * r + c1 < (q + 1) * v0 := t.resolve_left (by omega)
            clear t
            obtain ⟨P, hP⟩ : ∃ P : Nat, P = (q + 1) * v0 := ⟨_, rfl⟩
            have e10 : IntKind.u64.wrap (((q : Int) + 1) * ↑v0) = (P : Int) := mul_wrap q v0 P hP (by omega) (by omega)
            rw [← hP] at t2
            have t3 : decide ((4294967296 : Int) * ↑r + ↑c1 < ↑P) = true := by rw [decide_eq_true_eq]; omega
            clear t2 hP t1
            go_wp2_with fail
            go_meet
            exact ⟨q, rfl, HF, rfl⟩
        · have hb' : decide ((4294967296 : Int) ≤ ↑r + ↑v1) = false := decide_eq_false hb
          by_cases t1 : (4294967296 : Int) ≤ ↑q + 1
          · have t1' : decide ((4294967296 : Int) ≤ ↑q + 1) = true := decide_eq_true t1
            clear t t1
            go_wp2_with fail
            go_round
            case rel => exact ⟨q, r + v1, rfl, by go_num, HD2, by omega, by omega⟩
            case measure => simp [intOf]
          · have t1' : decide ((4294967296 : Int) ≤ ↑q + 1) = false := decide_eq_false t1
            have t2 : 4294967296 * r + c1 < (q + 1) * v0 := t.resolve_left (by omega)
            clear t
            obtain ⟨P, hP⟩ : ∃ P : Nat, P = (q + 1) * v0 := ⟨_, rfl⟩
            have e10 : IntKind.u64.wrap (((q : Int) + 1) * ↑v0) = (P : Int) := mul_wrap q v0 P hP (by omega) (by omega)
            rw [← hP] at t2
            have t3 : decide ((4294967296 : Int) * ↑r + ↑c1 < ↑P) = true := by rw [decide_eq_true_eq]; omega
            clear t2 hP t1
            go_wp2_with fail
            go_round
            case rel => exact ⟨q, r + v1, rfl, by go_num, HD2, by omega, by omega⟩
            case measure => simp [intOf]
      · have t1 : ¬ (4294967296 : Int) ≤ ↑q := fun h => t (.inl (by omega))
        have t1' : decide ((4294967296 : Int) ≤ ↑q) = false := decide_eq_false t1
        have t2 : q * v0 ≤ 4294967296 * r + c1 := by
          have h := fun h => t (.inr h)
          omega
        clear t
        have HF := Lib.hid (HD.out.fin Y HY2.out (by omega) t2)
        obtain ⟨P, hP⟩ : ∃ P : Nat, P = q * v0 := ⟨_, rfl⟩
        have e10 : IntKind.u64.wrap ((q : Int) * ↑v0) = (P : Int) := mul_wrap0 q v0 P hP (by omega) (by omega)
        rw [← hP] at t2
        have t3 : decide ((4294967296 : Int) * ↑r + ↑c1 < ↑P) = false := by rw [decide_eq_false_iff_not]; omega
        clear t2 hP t1
        go_wp2_with fail
        go_meet
        exact ⟨q, rfl, HF, rfl⟩

  case rest =>
    obtain ⟨q1, rfl, H1, rfl⟩ := hcut
    clear e8 e9 Uq Um DU
    obtain ⟨R, hR⟩ : ∃ R : Nat, R = (U * 4294967296 + c1) % Y := ⟨_, rfl⟩
    have q1b : (q1 : Int) < 4294967296 := by
      have h := dig_lt U c1 v1 v0 (by omega) HULU.out (by omega)
      rw [← HY2.out, ← H1.out] at h
      omega
    have hY0 : 0 < Y := by have := HN.out; omega
    have rlt : R < Y := by rw [hR]; exact Nat.mod_lt _ hY0
    have hdm : U * 4294967296 + c1 = q1 * Y + R := by rw [hR, H1.out]; exact (Nat.div_add_mod' _ _).symm
    have r64 : (R : Int) < 18446744073709551616 := by have := HN.out; omega
    have e10 : IntKind.u64.wrap (IntKind.u64.wrap (IntKind.u64.wrap (↑U * 4294967296) + ↑c1) - IntKind.u64.wrap (↑q1 * ↑Y)) = (R : Int) := un_wrap U c1 q1 Y R _ rfl hdm (by omega)
    have HULR : Hid (R < v1 * 4294967296 + v0) := Lib.hid (by have := HY2.out; omega)
    obtain ⟨d1, hd1⟩ : ∃ a, a = R / v1 := ⟨_, rfl⟩
    obtain ⟨d2, hd2⟩ : ∃ a, a = R % v1 := ⟨_, rfl⟩
    have e11 : IntKind.u64.wrap (↑R / ↑v1) = (d1 : Int) := by rw [hd1]; exact div_wrap R v1 (by omega)
    have e12 : IntKind.u64.wrap (↑R - IntKind.u64.wrap ((d1 : Int) * ↑v1)) = (d2 : Int) := by rw [hd1, hd2]; exact mod_wrap R v1 (by omega)
    have Rq : (d1 : Int) < 18446744073709551616 := by
      have h1 : R / v1 ≤ R := Nat.div_le_self _ _
      rw [← hd1] at h1
      omega
    have Rm : (d2 : Int) < 4294967296 := by
      have h1 : R % v1 < v1 := Nat.mod_lt _ (by omega)
      rw [← hd2] at h1
      omega
    have DR : Hid (Dig R c0 v1 v0 d1 d2) := Lib.hid (by rw [hd1, hd2]; exact Dig.start R c0 v1 v0 (by omega) (by omega))
    have HR := Lib.hid hR
    clear hR hd1 hd2 hdm rlt hY0
    go_upto_block 2 with fail
    go_cut [18] from 102 to 120 (fun q wx => ∃ qn : Nat, q = .int .u64 qn ∧ Hid (qn = (R * 4294967296 + c0) / Y) ∧ w = wx)
    case first =>
      go_wp2_with fail
      go_loop [16, 18] (fun b a => ∃ q r : Nat, a = .int .u64 q ∧ b = .int .u64 r ∧ Hid (Dig R c0 v1 v0 q r) ∧ (r : Int) < 4294967296 ∧ (q : Int) < 18446744073709551616) (fun _ a => (intOf a).toNat)
      case atStart => exact ⟨d1, d2, rfl, rfl, DR, Rm, Rq⟩
      case round =>
        obtain ⟨q, r, rfl, rfl, HD, hr, hq⟩ := hrel
        by_cases t : 4294967296 ≤ q ∨ 4294967296 * r + c0 < q * v0
        · obtain ⟨hq1, hd⟩ := HD.out.down (by omega) HULR.out (by omega) t
          have HD2 := Lib.hid hd
          clear hd
          obtain ⟨q, rfl⟩ : ∃ k, q = k + 1 := ⟨q - 1, by omega⟩
          rw [Nat.add_sub_cancel] at HD2
          have hq' : (q : Int) < 18446744073709551615 := by omega
          clear hq1 hq
          by_cases hb : (4294967296 : Int) ≤ ↑r + ↑v1
          · have HF := Lib.hid (HD2.out.fin Y HY2.out (by omega) (HD2.out.past (by omega) HULR.out (by omega)))
            have hb' : decide ((4294967296 : Int) ≤ ↑r + ↑v1) = true := decide_eq_true hb
            by_cases t1 : (4294967296 : Int) ≤ ↑q + 1
            · have t1' : decide ((4294967296 : Int) ≤ ↑q + 1) = true := decide_eq_true t1
              clear t t1
              go_wp2_with fail
              go_meet
              exact ⟨q, rfl, HF, rfl⟩
            · have t1' : decide ((4294967296 : Int) ≤ ↑q + 1) = false := decide_eq_false t1
              have t2 : 4294967296 * r + c0 < (q + 1) * v0 := t.resolve_left (by omega)
              clear t
              obtain ⟨P, hP⟩ : ∃ P : Nat, P = (q + 1) * v0 := ⟨_, rfl⟩
              have e10 : IntKind.u64.wrap (((q : Int) + 1) * ↑v0) = (P : Int) := mul_wrap q v0 P hP (by omega) (by omega)
              rw [← hP] at t2
              have t3 : decide ((4294967296 : Int) * ↑r + ↑c0 < ↑P) = true := by rw [decide_eq_true_eq]; omega
              clear t2 hP t1
              go_wp2_with fail
              go_meet
              exact ⟨q, rfl, HF, rfl⟩
          · have hb' : decide ((4294967296 : Int) ≤ ↑r + ↑v1) = false := decide_eq_false hb
            by_cases t1 : (4294967296 : Int) ≤ ↑q + 1
            · have t1' : decide ((4294967296 : Int) ≤ ↑q + 1) = true := decide_eq_true t1
              clear t t1
              go_wp2_with fail
              go_round
              case rel => exact ⟨q, r + v1, rfl, by go_num, HD2, by omega, by omega⟩
              case measure => simp [intOf]
            · have t1' : decide ((4294967296 : Int) ≤ ↑q + 1) = false := decide_eq_false t1
              have t2 : 4294967296 * r + c0 < (q + 1) * v0 := t.resolve_left (by omega)
              clear t
              obtain ⟨P, hP⟩ : ∃ P : Nat, P = (q + 1) * v0 := ⟨_, rfl⟩
              have e10 : IntKind.u64.wrap (((q : Int) + 1) * ↑v0) = (P : Int) := mul_wrap q v0 P hP (by omega) (by omega)
              rw [← hP] at t2
              have t3 : decide ((4294967296 : Int) * ↑r + ↑c0 < ↑P) = true := by rw [decide_eq_true_eq]; omega
              clear t2 hP t1
              go_wp2_with fail
              go_round
              case rel => exact ⟨q, r + v1, rfl, by go_num, HD2, by omega, by omega⟩
              case measure => simp [intOf]
        · have t1 : ¬ (4294967296 : Int) ≤ ↑q := fun h => t (.inl (by omega))
          have t1' : decide ((4294967296 : Int) ≤ ↑q) = false := decide_eq_false t1
          have t2 : q * v0 ≤ 4294967296 * r + c0 := by
            have h := fun h => t (.inr h)
            omega
          clear t
          have HF := Lib.hid (HD.out.fin Y HY2.out (by omega) t2)
          obtain ⟨P, hP⟩ : ∃ P : Nat, P = q * v0 := ⟨_, rfl⟩
          have e10 : IntKind.u64.wrap ((q : Int) * ↑v0) = (P : Int) := mul_wrap0 q v0 P hP (by omega) (by omega)
          rw [← hP] at t2
          have t3 : decide ((4294967296 : Int) * ↑r + ↑c0 < ↑P) = false := by rw [decide_eq_false_iff_not]; omega
          clear t2 hP t1
          go_wp2_with fail
          go_meet
          exact ⟨q, rfl, HF, rfl⟩

    case rest =>
      obtain ⟨q0, rfl, H0, rfl⟩ := hcut
      clear e10 e11 e12 Rq Rm DR
      have q0b : (q0 : Int) < 4294967296 := by
        have h := dig_lt R c0 v1 v0 (by omega) HULR.out (by omega)
        rw [← HY2.out, ← H0.out] at h
        omega
      have hY0 : 0 < Y := by have := HN.out; omega
      obtain ⟨S, hS⟩ : ∃ S : Nat, S = (R * 4294967296 + c0) % Y := ⟨_, rfl⟩
      have slt : S < Y := by rw [hS]; exact Nat.mod_lt _ hY0
      have hdm : R * 4294967296 + c0 = q0 * Y + S := by rw [hS, H0.out]; exact (Nat.div_add_mod' _ _).symm
      have s64 : (S : Int) < 18446744073709551616 := by have := HN.out; omega
      have e13 : IntKind.u64.wrap (IntKind.u64.wrap (IntKind.u64.wrap (↑R * 4294967296) + ↑c0) - IntKind.u64.wrap (↑q0 * ↑Y)) = (S : Int) := un_wrap R c0 q0 Y S _ rfl hdm (by omega)
      obtain ⟨f1, f2⟩ := div_whole y s Y U W (hi * 18446744073709551616 + lo) (by omega) HY.out HD0.out
      rw [← HC1.out, ← HC0.out, ← HR.out, ← H1.out, ← H0.out] at f1
      rw [← HC1.out, ← HC0.out, ← HR.out, ← hS] at f2
      have F1 := Lib.hid f1
      have F2 := Lib.hid f2
      clear f1 f2 hS hdm slt hY0
      go_wp2_with fail
      go_ret2
      rw [← F1.out, ← F2.out]
      exact ⟨by simp, rfl⟩

theorem below_drewN (B : Nat) (w : World) (n : Nat) : Below B w (w.drewN n) := ⟨rfl, rfl, rfl, Nat.le_refl _, fun _ _ => rfl⟩

set_option maxHeartbeats 400000 in
theorem div64_zero (lo y : Int) (w : World) (h0 : 0 ≤ lo) (hl : lo < 18446744073709551616) (hy : 0 < y) (hy2 : y < 18446744073709551616) :
    Calls Tryd.prog 102 #[.int .u64 0, .int .u64 lo, .int .u64 y] w fun e w' => e = .returned (.tuple #[.int .u64 (lo / y), .int .u64 (lo % y)]) ∧ Below w.heap.size w w' := by
  have b1 : (y == 0) = false := by rw [beq_eq_false_iff_ne]; omega
  have b2 : decide (y ≤ 0) = false := by simp; omega
  go_enter Tryd.func102, Tryd.ntmps102
  go_wp2
  go_quiet (fail)
  go_wp2
  go_ret2
  exact ⟨rfl, below_drewN _ _ _⟩

theorem div64_any (hi lo y : Int) (w : World) (h0 : 0 ≤ hi) (h1 : hi < y) (hl0 : 0 ≤ lo) (hl : lo < 18446744073709551616) (hy2 : y < 18446744073709551616) :
    Calls Tryd.prog 102 #[.int .u64 hi, .int .u64 lo, .int .u64 y] w fun e w' => e = .returned (.tuple #[.int .u64 ((hi * 18446744073709551616 + lo) / y), .int .u64 ((hi * 18446744073709551616 + lo) % y)]) ∧ Below w.heap.size w w' := by
  by_cases hh : hi = 0
  · subst hh
    rw [Int.zero_mul, Int.zero_add]
    exact div64_zero lo y w hl0 hl h1 hy2
  · obtain ⟨a, rfl⟩ := Int.eq_ofNat_of_zero_le h0
    obtain ⟨b, rfl⟩ := Int.eq_ofNat_of_zero_le hl0
    obtain ⟨c, rfl⟩ := Int.eq_ofNat_of_zero_le (show 0 ≤ y by omega)
    refine (div64_pos a b c _ w (by omega) (by omega) (by omega) (by omega) rfl).mono ?_
    rintro e w' ⟨rfl, rfl⟩
    exact ⟨by simp, Below.refl _ _⟩
end Go.Proofs.YtaobbedajgkmiaaDoor
