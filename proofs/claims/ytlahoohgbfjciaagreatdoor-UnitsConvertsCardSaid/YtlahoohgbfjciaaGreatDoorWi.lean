/- Contracts of package wide: numbers of 128 bits, as in fixed (hiW, loW). -/
import Derived.Test.YtlahoohgbfjciaaGreatDoorV
namespace Go.Proofs.YtlahoohgbfjciaaGreatDoor
open Go.RowKit Go.Shelf

set_option maxHeartbeats 400000 in
theorem wplus_any (V U : Int) (w : World) :
    Calls Tryz.prog 11 #[pairV V, pairV U] w fun e w' => e = .returned (pairV (V + U)) ∧ Below w.heap.size w w' := by
  have r1 := hiW_range V
  have r2 := loW_range V
  have r3 := hiW_range U
  have r4 := loW_range U
  have hp := plus_words V U
  obtain ⟨c, hc⟩ : ∃ c, c = (loW V + loW U) / 18446744073709551616 := ⟨_, rfl⟩
  rw [← hc] at hp
  have c0 : 0 ≤ c := by omega
  have c1 : c ≤ 1 := by omega
  have a1 := fun w => add64_int (loW V) (loW U) 0 r2.1 r4.1 (by omega) (by omega) w
  have a2 := fun w => add64_int (hiW V) (hiW U) c r1.1 r3.1 c0 c1 w
  rw [Int.add_zero, ← hc, hp.1] at a1
  rw [hp.2] at a2
  generalize (hiW V + hiW U + c) / 18446744073709551616 = d at a2
  obtain ⟨h, hh⟩ : ∃ h, h = hiW (V + U) := ⟨_, rfl⟩
  obtain ⟨l, hl⟩ : ∃ l, l = loW (V + U) := ⟨_, rfl⟩
  rw [← hl] at a1
  rw [← hh] at a2
  have HH := Lib.hid hh
  have HL := Lib.hid hl
  clear hp hc hh hl
  simp only [pairV, wordsV]
  generalize hiW V = v1, loW V = v0, hiW U = u1, loW U = u0 at *
  go_enter Tryz.func11, Tryz.ntmps11
  go_wp2
  exact bodyPost_ret (v := wordsV h l) (by simp [results, Tryz.results11, go_sem, wordsV]) rfl ⟨by rw [HH.out, HL.out]; rfl, (((Below.refl _ _).alloc (Nat.le_refl _) _).alloc (by simp) _).alloc (by simp; omega) _⟩

set_option maxHeartbeats 400000 in
theorem wnegative_any (V : Int) (w : World) (h1 : -170141183460469231731687303715884105728 ≤ V) (h2 : V < 170141183460469231731687303715884105728) :
    Calls Tryz.prog 27 #[pairV V] w fun e w' => e = .returned (.bool (decide (V < 0))) ∧ Below w.heap.size w w' := by
  have r1 := hiW_range V
  have hn := hiW_neg V h1 h2
  simp only [pairV, wordsV]
  go_enter Tryz.func27, Tryz.ntmps27
  go_wp2
  go_ret
  have e : (hiW V / 9223372036854775808 == 1) = decide (V < 0) := by rw [Bool.eq_iff_iff, beq_iff_eq, decide_eq_true_eq]; exact hn
  rw [e]
  exact ⟨rfl, (Below.refl _ _).alloc (Nat.le_refl _) _⟩


set_option maxHeartbeats 400000 in
theorem wof_any (n : Int) (w : World) (h1 : -9223372036854775808 ≤ n) (h2 : n < 9223372036854775808) :
    Calls Tryz.prog 9 #[.int .i64 n] w fun e w' => e = .returned (pairV n) ∧ Below w.heap.size w w' := by
  obtain ⟨h, hh⟩ : ∃ h, h = hiW n := ⟨_, rfl⟩
  obtain ⟨l, hl⟩ : ∃ l, l = loW n := ⟨_, rfl⟩
  simp only [pairV, wordsV]
  rw [← hh, ← hl]
  have e1 : IntKind.u64.wrap (n / 9223372036854775808) = h := by rw [wrapU, hh]; unfold uns hiW; omega
  have e2 : IntKind.u64.wrap n = l := by rw [wrapU, hl]; rfl
  have HH := Lib.hid hh
  have HL := Lib.hid hl
  clear hh hl
  go_enter Tryz.func9, Tryz.ntmps9
  go_wp2
  exact bodyPost_ret (v := wordsV h l) (by simp [results, Tryz.results9, go_sem, wordsV]) rfl ⟨rfl, (Below.refl _ _).alloc (Nat.le_refl _) _⟩

theorem times_words (V b : Int) (hb : -9223372036854775808 ≤ b) (hb2 : b < 9223372036854775808) :
    loW V * uns b % 18446744073709551616 = loW (V * b) ∧ (b < 0 → uns (uns (loW V * uns b / 18446744073709551616 + uns (hiW V * uns b)) - loW V) = hiW (V * b)) ∧ (0 ≤ b → uns (loW V * uns b / 18446744073709551616 + uns (hiW V * uns b)) = hiW (V * b)) := by
  obtain ⟨k, hk⟩ : ∃ k, k = V / 340282366920938463463374607431768211456 := ⟨_, rfl⟩
  have hV : V = k * 340282366920938463463374607431768211456 + hiW V * 18446744073709551616 + loW V := by unfold hiW loW; omega
  have r1 := hiW_range V
  have r2 := loW_range V
  have e : V * b = (k * b) * 340282366920938463463374607431768211456 + (hiW V * b) * 18446744073709551616 + loW V * b := by
    conv => lhs; rw [hV]
    rw [Int.add_mul, Int.add_mul, Int.mul_right_comm, Int.mul_right_comm (hiW V)]
  rw [e]
  obtain ⟨h, hh⟩ : ∃ h, h = hiW V := ⟨_, rfl⟩
  obtain ⟨l, hl⟩ : ∃ l, l = loW V := ⟨_, rfl⟩
  rw [← hh] at r1
  rw [← hl] at r2
  rw [← hh, ← hl]
  clear e hV hh hl hk
  by_cases hs : b < 0
  · have eu : uns b = b + 18446744073709551616 := by unfold uns; omega
    rw [eu, Int.mul_add, Int.mul_add]
    refine ⟨?_, fun _ => ?_, fun h0 => absurd hs (by omega)⟩
    · unfold loW
      generalize k * b = K
      generalize h * b = H
      generalize l * b = L
      omega
    · unfold hiW uns
      generalize k * b = K
      generalize h * b = H
      generalize l * b = L
      omega
  · have eu : uns b = b := by unfold uns; omega
    rw [eu]
    refine ⟨?_, fun h0 => absurd h0 hs, fun _ => ?_⟩
    · unfold loW
      generalize k * b = K
      generalize h * b = H
      generalize l * b = L
      omega
    · unfold hiW uns
      generalize k * b = K
      generalize h * b = H
      generalize l * b = L
      omega

set_option maxHeartbeats 1000000 in
theorem wtimes_any (V b : Int) (w : World) (hb : -9223372036854775808 ≤ b) (hb2 : b < 9223372036854775808) :
    Calls Tryz.prog 10 #[pairV V, .int .i64 b] w fun e w' => e = .returned (pairV (V * b)) ∧ Below w.heap.size w w' := by
  have rb := uns_range b
  have r1 := hiW_range V
  have r2 := loW_range V
  obtain ⟨t1, t2, t3⟩ := times_words V b hb hb2
  obtain ⟨h, hh⟩ : ∃ h, h = hiW (V * b) := ⟨_, rfl⟩
  obtain ⟨l, hl⟩ : ∃ l, l = loW (V * b) := ⟨_, rfl⟩
  simp only [pairV, wordsV]
  rw [← hh, ← hl]
  rw [← hl] at t1
  rw [← hh] at t2 t3
  by_cases hs : b < 0
  · have t4 := t2 hs
    have HP := Lib.hid (And.intro t1 t4)
    have d0 : decide (b < 0) = true := decide_eq_true hs
    clear t1 t2 t3 t4 hh hl
    generalize hiW V = v1, loW V = v0 at *
    go_enter Tryz.func10, Tryz.ntmps10
    go_wp2_with (go_at_call 25; (try simp only [wrapU]); refine (mul64_int _ _ (by omega) (by omega) (by omega) (by omega) _).mono ?_; rintro e w' ⟨rfl, rfl⟩)
    (try simp only [wrapU])
    rw [HP.out.1, HP.out.2]
    exact bodyPost_ret (v := wordsV h l) (by simp [results, Tryz.results10, go_sem, wordsV]) rfl ⟨rfl, ((Below.refl _ _).alloc (Nat.le_refl _) _).alloc (by rw [World.size_alloc]; omega) _⟩
  · have t4 := t3 (by omega)
    rw [uns_id b (by omega) hb2] at t1 t4
    have HP := Lib.hid (And.intro t1 t4)
    have d0 : decide (b < 0) = false := decide_eq_false hs
    clear t1 t2 t3 t4 hh hl
    generalize hiW V = v1, loW V = v0 at *
    go_enter Tryz.func10, Tryz.ntmps10
    go_wp2_with (go_at_call 25; (try simp only [wrapU]); refine (mul64_int _ _ (by omega) (by omega) (by omega) (by omega) _).mono ?_; rintro e w' ⟨rfl, rfl⟩)
    (try simp only [wrapU])
    rw [HP.out.1, HP.out.2]
    exact bodyPost_ret (v := wordsV h l) (by simp [results, Tryz.results10, go_sem, wordsV]) rfl ⟨rfl, ((Below.refl _ _).alloc (Nat.le_refl _) _).alloc (by rw [World.size_alloc]; omega) _⟩
end Go.Proofs.YtlahoohgbfjciaaGreatDoor
