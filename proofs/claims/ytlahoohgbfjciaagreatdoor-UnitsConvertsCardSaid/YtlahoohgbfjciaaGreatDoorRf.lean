/- The specification's numbers of 128 bits: plus, product128, minus, less. -/
import Derived.Test.YtlahoohgbfjciaaGreatDoorRa
import Derived.Test.YtlahoohgbfjciaaGreatDoorUi
import Derived.Shelf.Spec.BitsCarry
namespace Go.Proofs.YtlahoohgbfjciaaGreatDoor
open Go.RowKit Go.Shelf

set_option maxHeartbeats 400000 in
theorem rplus_any (V U : Int) (w : World) :
    Calls Tryz.prog 31 #[pairV V, pairV U] w fun e w' => e = .returned (pairV (V + U)) ∧ Below w.heap.size w w' := by
  have r1 := hiW_range V
  have r2 := loW_range V
  have r3 := hiW_range U
  have r4 := loW_range U
  have hp := plus_words V U
  obtain ⟨c, hc⟩ : ∃ c, c = (loW V + loW U) / 18446744073709551616 := ⟨_, rfl⟩
  rw [← hc] at hp
  have c0 : 0 ≤ c := by omega
  have c1 : c ≤ 1 := by omega
  have a1 := fun w => add64_int (loW V) (loW U) 0 r2.1 r4.1 (by omega) (by omega) w
  have a2 := fun w => add64_int (hiW V) (hiW U) c r1.1 r3.1 c0 c1 w
  rw [Int.add_zero, ← hc, hp.1] at a1
  rw [hp.2] at a2
  generalize (hiW V + hiW U + c) / 18446744073709551616 = d at a2
  obtain ⟨h, hh⟩ : ∃ h, h = hiW (V + U) := ⟨_, rfl⟩
  obtain ⟨l, hl⟩ : ∃ l, l = loW (V + U) := ⟨_, rfl⟩
  rw [← hl] at a1
  rw [← hh] at a2
  have HH := Lib.hid hh
  have HL := Lib.hid hl
  clear hp hc hh hl
  simp only [pairV, wordsV]
  generalize hiW V = v1, loW V = v0, hiW U = u1, loW U = u0 at *
  go_enter Tryz.func31, Tryz.ntmps31
  go_wp2
  exact bodyPost_ret (v := wordsV h l) (by simp [results, Tryz.results31, go_sem, wordsV]) rfl ⟨by rw [HH.out, HL.out]; rfl, (((Below.refl _ _).alloc (Nat.le_refl _) _).alloc (by simp) _).alloc (by simp; omega) _⟩

theorem words_mul (a b : Int) (ha : 0 ≤ a) (ha2 : a < 18446744073709551616) (hb : 0 ≤ b) (hb2 : b < 18446744073709551616) : hiW (a * b) = a * b / 18446744073709551616 ∧ loW (a * b) = a * b % 18446744073709551616 := by
  have h0 : 0 ≤ a * b := Int.mul_nonneg ha hb
  have h1 : a * b ≤ 18446744073709551615 * 18446744073709551615 := Int.mul_le_mul (by omega) (by omega) hb (by omega)
  unfold hiW loW
  exact ⟨by omega, by omega⟩
set_option maxHeartbeats 400000 in
theorem rproduct_any (a b : Int) (w : World) (ha : 0 ≤ a) (ha2 : a < 18446744073709551616) (hb : 0 ≤ b) (hb2 : b < 18446744073709551616) :
    Calls Tryz.prog 19 #[.int .u64 a, .int .u64 b] w fun e w' => e = .returned (pairV (a * b)) ∧ Below w.heap.size w w' := by
  have hw := words_mul a b ha ha2 hb hb2
  have hm := fun w => mul64_int a b ha ha2 hb hb2 w
  simp only [pairV, wordsV]
  rw [hw.1, hw.2]
  obtain ⟨H, hH⟩ : ∃ x, x = a * b / 18446744073709551616 := ⟨_, rfl⟩
  obtain ⟨L, hL⟩ : ∃ x, x = a * b % 18446744073709551616 := ⟨_, rfl⟩
  rw [← hH, ← hL] at hm
  rw [← hH, ← hL]
  have HM := Lib.hid hm
  clear hm hw hH hL ha ha2 hb hb2
  go_enter Tryz.func19, Tryz.ntmps19
  go_wp2_with fail
  refine (HM.out _).mono ?_
  rintro e w' ⟨rfl, rfl⟩
  go_wp2_with fail
  exact bodyPost_ret (v := .agg #[.int .u64 H, .int .u64 L]) (by simp [results, Tryz.results19, go_sem]) rfl ⟨rfl, by first | exact (Below.refl _ _).alloc (Nat.le_refl _) _ | exact ((Below.refl _ _).alloc (Nat.le_refl _) _).drew⟩
theorem sub64_int (x y b : Int) (hx : 0 ≤ x) (hy : 0 ≤ y) (hy2 : y < 18446744073709551616) (hb : 0 ≤ b) (hb2 : b ≤ 1) (w : World) :
    (callFunc 44 #[.int .u64 x, .int .u64 y, .int .u64 b]).run Tryz.prog w =
      .ok (.value (.tuple #[.int .u64 ((x - y - b) % 18446744073709551616), .int .u64 (if x < y + b then 1 else 0)])) w := by
  obtain ⟨a, rfl⟩ := Int.eq_ofNat_of_zero_le hx
  obtain ⟨c, rfl⟩ := Int.eq_ofNat_of_zero_le hy
  obtain ⟨d, rfl⟩ := Int.eq_ofNat_of_zero_le hb
  rw [run_callFunc_extern Tryz.func44 (by kernel_rfl) (by kernel_rfl) (by kernel_rfl) (e := sub64Entry) (by kernel_rfl), run_sub64 a c d (by omega)]
  simp only [Result.andThen_ok]
  congr 6
  · omega
  · by_cases h : a < c + d
    · rw [if_pos h, if_pos (by omega)]; rfl
    · rw [if_neg h, if_neg (by omega)]; rfl
theorem minus_words (V U : Int) : (loW V - loW U - 0) % 18446744073709551616 = loW (V - U) ∧ (hiW V - hiW U - (if loW V < loW U + 0 then 1 else 0)) % 18446744073709551616 = hiW (V - U) := by
  unfold hiW loW
  refine ⟨by omega, ?_⟩
  split <;> omega
set_option maxHeartbeats 400000 in
theorem rminus_any (V U : Int) (w : World) :
    Calls Tryz.prog 33 #[pairV V, pairV U] w fun e w' => e = .returned (pairV (V - U)) ∧ Below w.heap.size w w' := by
  have r1 := hiW_range V
  have r2 := loW_range V
  have r3 := hiW_range U
  have r4 := loW_range U
  have hp := minus_words V U
  obtain ⟨c, hc⟩ : ∃ c : Int, c = (if loW V < loW U + 0 then 1 else 0) := ⟨_, rfl⟩
  have c01 : 0 ≤ c ∧ c ≤ 1 := by rw [hc]; split <;> omega
  have a1 := fun w => sub64_int (loW V) (loW U) 0 r2.1 r4.1 r4.2 (by omega) (by omega) w
  have a2 := fun w => sub64_int (hiW V) (hiW U) c r1.1 r3.1 r3.2 c01.1 c01.2 w
  rw [← hc] at hp
  rw [← hc, hp.1] at a1
  rw [hp.2] at a2
  generalize (if hiW V < hiW U + c then (1 : Int) else 0) = d at a2
  obtain ⟨h, hh⟩ : ∃ h, h = hiW (V - U) := ⟨_, rfl⟩
  obtain ⟨l, hl⟩ : ∃ l, l = loW (V - U) := ⟨_, rfl⟩
  rw [← hl] at a1
  rw [← hh] at a2
  have HH := Lib.hid hh
  have HL := Lib.hid hl
  clear hp hc hh hl c01
  simp only [pairV, wordsV]
  generalize hiW V = v1, loW V = v0, hiW U = u1, loW U = u0 at *
  go_enter Tryz.func33, Tryz.ntmps33
  go_wp2
  exact bodyPost_ret (v := wordsV h l) (by simp [results, Tryz.results33, go_sem, wordsV]) rfl ⟨by rw [HH.out, HL.out]; rfl, by first | exact (((Below.refl _ _).alloc (Nat.le_refl _) _).alloc (by simp) _).alloc (by simp; omega) _ | exact ((((Below.refl _ _).alloc (Nat.le_refl _) _).alloc (by simp) _).alloc (by simp; omega) _).drew⟩
theorem less_words (V U : Int) (hV : 0 ≤ V) (hV2 : V < 340282366920938463463374607431768211456) (hU : 0 ≤ U) (hU2 : U < 340282366920938463463374607431768211456) : V < U ↔ hiW V < hiW U ∨ (hiW V = hiW U ∧ loW V < loW U) := by
  unfold hiW loW
  omega
set_option maxHeartbeats 800000 in
theorem rless_any (V U : Int) (w : World) (hV : 0 ≤ V) (hV2 : V < 340282366920938463463374607431768211456) (hU : 0 ≤ U) (hU2 : U < 340282366920938463463374607431768211456) :
    Calls Tryz.prog 32 #[pairV V, pairV U] w fun e w' => e = .returned (.bool (decide (V < U))) ∧ Below w.heap.size w w' := by
  have hw := less_words V U hV hV2 hU hU2
  obtain ⟨Z, hZ⟩ : ∃ Z, Z = decide (V < U) := ⟨_, rfl⟩
  have hz : Z = true ↔ hiW V < hiW U ∨ (hiW V = hiW U ∧ loW V < loW U) := by rw [hZ, decide_eq_true_eq]; exact hw
  rw [← hZ]
  clear hw hZ hV hV2 hU hU2
  simp only [pairV, wordsV]
  generalize hiW V = v1, loW V = v0, hiW U = u1, loW U = u0 at *
  by_cases h1 : v1 < u1
  · obtain rfl : Z = true := hz.2 (.inl h1)
    clear hz
    go_enter Tryz.func32, Tryz.ntmps32
    go_wp2
    go_ret
    exact ⟨rfl, ((Below.refl _ _).alloc (Nat.le_refl _) _).alloc (by simp) _⟩
  · by_cases h2 : v1 = u1
    · subst h2
      by_cases h3 : v0 < u0
      · obtain rfl : Z = true := hz.2 (.inr ⟨rfl, h3⟩)
        clear hz
        go_enter Tryz.func32, Tryz.ntmps32
        go_wp2
        go_ret
        exact ⟨rfl, ((Below.refl _ _).alloc (Nat.le_refl _) _).alloc (by simp) _⟩
      · obtain rfl : Z = false := by rw [Bool.eq_false_iff]; intro h; have := hz.1 h; omega
        clear hz
        go_enter Tryz.func32, Tryz.ntmps32
        go_wp2
        go_ret
        exact ⟨rfl, ((Below.refl _ _).alloc (Nat.le_refl _) _).alloc (by simp) _⟩
    · obtain rfl : Z = false := by rw [Bool.eq_false_iff]; intro h; have := hz.1 h; omega
      have t1 : (v1 == u1) = false := by rw [beq_eq_false_iff_ne]; exact h2
      clear hz h2
      go_enter Tryz.func32, Tryz.ntmps32
      go_wp2
      go_ret
      exact ⟨rfl, ((Below.refl _ _).alloc (Nat.le_refl _) _).alloc (by simp) _⟩
end Go.Proofs.YtlahoohgbfjciaaGreatDoor
