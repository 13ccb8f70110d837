/- Contracts of the functions of numbers of two words, the second part. -/
import Derived.Test.YtaobbedajgkmiaaDoorH
import Derived.Laws.Externs
namespace Go.Proofs.YtaobbedajgkmiaaDoor
open Go.RowKit

theorem bcell {W w1 : World} (hb : Below W.heap.size W w1) : (∀ b o, b < W.heap.size → w1.cell? ⟨b, o, none⟩ = W.cell? ⟨b, o, none⟩) ∧ (∀ b o, b < W.heap.size → w1.frozen? ⟨b, o, none⟩ = W.frozen? ⟨b, o, none⟩) :=
  ⟨fun b o h => hb.cell (p := ⟨b, o, none⟩) h, fun b o h => hb.frozen (p := ⟨b, o, none⟩) h⟩

theorem add64_int (x y c : Int) (hx : 0 ≤ x) (hy : 0 ≤ y) (hc : 0 ≤ c) (hc2 : c ≤ 1) (w : World) :
    (callFunc 91 #[.int .u64 x, .int .u64 y, .int .u64 c]).run Tryd.prog w =
      .ok (.value (.tuple #[.int .u64 ((x + y + c) % 18446744073709551616), .int .u64 ((x + y + c) / 18446744073709551616)])) w := by
  rw [run_callFunc_extern Tryd.func91 (by kernel_rfl) (by kernel_rfl) (by kernel_rfl) (e := add64Entry) (by kernel_rfl)]
  rw [run_add64 x y c hx hy hc hc2]
  rfl

set_option maxHeartbeats 400000 in
theorem plus_any (V U : Int) (w : World) :
    Calls Tryd.prog 84 #[pairV V, pairV U] w fun e w' => e = .returned (pairV (V + U)) ∧ Below w.heap.size w w' := by
  have r1 := hiW_range V
  have r2 := loW_range V
  have r3 := hiW_range U
  have r4 := loW_range U
  have hp := plus_words V U
  obtain ⟨c, hc⟩ : ∃ c, c = (loW V + loW U) / 18446744073709551616 := ⟨_, rfl⟩
  rw [← hc] at hp
  have c0 : 0 ≤ c := by omega
  have c1 : c ≤ 1 := by omega
  have a1 := fun w => add64_int (loW V) (loW U) 0 r2.1 r4.1 (by omega) (by omega) w
  have a2 := fun w => add64_int (hiW V) (hiW U) c r1.1 r3.1 c0 c1 w
  rw [Int.add_zero, ← hc, hp.1] at a1
  rw [hp.2] at a2
  generalize (hiW V + hiW U + c) / 18446744073709551616 = d at a2
  obtain ⟨h, hh⟩ : ∃ h, h = hiW (V + U) := ⟨_, rfl⟩
  obtain ⟨l, hl⟩ : ∃ l, l = loW (V + U) := ⟨_, rfl⟩
  rw [← hl] at a1
  rw [← hh] at a2
  have HH := Lib.hid hh
  have HL := Lib.hid hl
  clear hp hc hh hl
  simp only [pairV, wordsV]
  generalize hiW V = v1, loW V = v0, hiW U = u1, loW U = u0 at *
  go_enter Tryd.func84, Tryd.ntmps84
  go_wp2
  exact bodyPost_ret (v := wordsV h l) (by simp [results, Tryd.results84, go_sem, wordsV]) rfl ⟨by rw [HH.out, HL.out]; rfl, (((Below.refl _ _).alloc (Nat.le_refl _) _).alloc (by simp) _).alloc (by simp; omega) _⟩

set_option maxHeartbeats 400000 in
theorem negative_any (V : Int) (w : World) (h1 : -170141183460469231731687303715884105728 ≤ V) (h2 : V < 170141183460469231731687303715884105728) :
    Calls Tryd.prog 94 #[pairV V] w fun e w' => e = .returned (.bool (decide (V < 0))) ∧ Below w.heap.size w w' := by
  have r1 := hiW_range V
  have hn := hiW_neg V h1 h2
  simp only [pairV, wordsV]
  go_enter Tryd.func94, Tryd.ntmps94
  go_wp2
  go_ret
  have e : (hiW V / 9223372036854775808 == 1) = decide (V < 0) := by rw [Bool.eq_iff_iff, beq_iff_eq, decide_eq_true_eq]; exact hn
  rw [e]
  exact ⟨rfl, (Below.refl _ _).alloc (Nat.le_refl _) _⟩

theorem xor_max (x : Nat) (hx : x < 18446744073709551616) : 18446744073709551615 ^^^ x = 18446744073709551615 - x := by
  refine Nat.eq_of_testBit_eq fun i => ?_
  have h1 := Nat.testBit_two_pow_sub_succ (n := 64) (x := x) hx i
  have h2 := Nat.testBit_two_pow_sub_one 64 i
  rw [show 2 ^ 64 - (x + 1) = 18446744073709551615 - x by omega] at h1
  rw [show 2 ^ 64 - 1 = 18446744073709551615 by rfl] at h2
  rw [Nat.testBit_xor, h1, h2]
  by_cases hi : i < 64
  · simp [hi]
  · have h3 : x.testBit i = false := Nat.testBit_lt_two_pow (Nat.lt_of_lt_of_le hx (Nat.pow_le_pow_right (n := 2) (by omega) (by omega : 64 ≤ i)))
    simp [hi, h3]
theorem compl_word (x : Int) (h0 : 0 ≤ x) (h1 : x < 18446744073709551616) : bits .xor .u64 IntKind.u64.max x = 18446744073709551615 - x := by
  have e : IntKind.u64.max = 18446744073709551615 := by decide
  rw [e, u64_xor _ _ (by omega) (by omega) h0 h1]
  obtain ⟨n, rfl⟩ := Int.eq_ofNat_of_zero_le h0
  rw [Int.toNat_natCast, show (18446744073709551615 : Int).toNat = 18446744073709551615 by rfl, xor_max n (by omega)]
  omega

set_option maxHeartbeats 400000 in
theorem size_any (V : Int) (w : World) (h1 : -170141183460469231731687303715884105728 ≤ V) (h2 : V < 170141183460469231731687303715884105728) :
    Calls Tryd.prog 92 #[pairV V] w fun e w' => e = .returned (pairV (V.natAbs : Int)) ∧ Below w.heap.size w w' := by
  by_cases hs : V < 0
  · have hd : decide (V < 0) = true := decide_eq_true hs
    have hne := negative_any V (h1 := h1) (h2 := h2)
    rw [hd] at hne
    have Hne := Lib.hid hne; clear hne
    have ra := hiW_range V
    have rb := loW_range V
    have hcw := compl_words V
    have x1 := compl_word (hiW V) ra.1 ra.2
    have x2 := compl_word (loW V) rb.1 rb.2
    rw [hcw.1] at x1
    rw [hcw.2] at x2
    have hsg : IntKind.u64.signed = false := rfl
    have Hpl := Lib.hid (plus_any (-1 - V) 1)
    have hab : -1 - V + 1 = ((V.natAbs : Nat) : Int) := by omega
    rw [hab] at Hpl
    have Hab := Lib.hid hab
    clear hcw hab
    simp only [pairV, wordsV]
    go_enter Tryd.func92, Tryd.ntmps92
    go_wp2_with (go_at_call 94; refine (Hne.out _).mono ?_; rintro e w1 ⟨rfl, hb⟩; obtain ⟨hc, hf⟩ := bcell hb; have hz : w.heap.size + 1 < w1.heap.size := by (have hsz := hb.size; simp at hsz; omega))
    refine (Hpl.out _).mono ?_
    rintro e w2 ⟨rfl, hb2⟩
    obtain ⟨hc2, hf2⟩ := bcell hb2
    simp only [pairV, wordsV]
    go_wp2
    have hz2 : w.heap.size + 1 < w2.heap.size := by (have hsz := hb2.size; omega)
    refine bodyPost_ret (v := .agg #[.int .u64 (hiW (V.natAbs : Int)), .int .u64 (loW (V.natAbs : Int))]) (by simp [results, Tryd.results92, go_sem, hc2, hc, hz]) rfl ⟨rfl, ?_⟩
    exact ((((((Below.refl _ _).alloc (Nat.le_refl _) _).alloc (by simp) _).trans (hb.mono (by simp; omega))).trans (hb2.mono (by omega))).setCell (by simp) _).setCell (by simp) _
  · have hd : decide (V < 0) = false := decide_eq_false hs
    have hne := negative_any V (h1 := h1) (h2 := h2)
    rw [hd] at hne
    have Hne := Lib.hid hne; clear hne
    simp only [pairV, wordsV]
    go_enter Tryd.func92, Tryd.ntmps92
    go_wp2_with (go_at_call 94; refine (Hne.out _).mono ?_; rintro e w1 ⟨rfl, hb⟩; obtain ⟨hc, hf⟩ := bcell hb; have hz : w.heap.size + 1 < w1.heap.size := by (have hsz := hb.size; simp at hsz; omega))
    have hab : ((V.natAbs : Nat) : Int) = V := by omega
    rw [hab]
    refine bodyPost_ret (v := .agg #[.int .u64 (hiW V), .int .u64 (loW V)]) (by simp [results, Tryd.results92, go_sem, hc]) rfl ⟨rfl, ?_⟩
    exact ((((Below.refl _ _).alloc (Nat.le_refl _) _).alloc (by simp) _).trans (hb.mono (by simp; omega))).setCell (by simp) _ |>.setCell (by simp) _

theorem hiW_nat (n : Nat) (h : n < 340282366920938463463374607431768211456) : hiW (n : Int) = ((n / 18446744073709551616 : Nat) : Int) := by unfold hiW; omega
theorem loW_nat (n : Nat) : loW (n : Int) = ((n % 18446744073709551616 : Nat) : Int) := by unfold loW; omega

set_option maxRecDepth 100000 in
set_option maxHeartbeats 1000000 in
theorem divided_any (n d : Nat) (w : World) (hn : n < 340282366920938463463374607431768211456) (hd : d < 18446744073709551616) :
    Calls Tryd.prog 93 #[pairV (n : Int), .int .u64 d] w fun e w' => e = .returned (.int .i64 (divU n d)) ∧ Below w.heap.size w w' := by
  obtain ⟨h, hh⟩ : ∃ h, h = n / 18446744073709551616 := ⟨_, rfl⟩
  obtain ⟨l, hl⟩ : ∃ l, l = n % 18446744073709551616 := ⟨_, rfl⟩
  obtain ⟨D, hD⟩ : ∃ D, D = divU n d := ⟨_, rfl⟩
  rw [pairV, hiW_nat n hn, loW_nat, ← hh, ← hl, ← hD]
  simp only [wordsV]
  have hd0 := Lib.hid hd
  have h64 : (h : Int) < 18446744073709551616 := by omega
  have l64 : (l : Int) < 18446744073709551616 := by omega
  have d64 : (d : Int) < 18446744073709551616 := by omega
  have HD := Lib.hid hD
  by_cases c1 : h ≥ d
  · have t1 : decide (d ≤ h) = true := by rw [decide_eq_true_eq]; omega
    have hD1 : D = 1000000000000 := by rw [hD]; unfold divU; rw [if_pos (by omega)]
    subst hD1
    clear c1 hD hl hh hn hd
    go_enter Tryd.func93, Tryd.ntmps93
    go_wp2_with fail
    exact bodyPost_ret (v := .int .i64 1000000000000) (by simp [results, Tryd.results93, go_sem]) rfl ⟨rfl, (Below.refl _ _).alloc (Nat.le_refl _) _⟩
  · have t1 : decide (d ≤ h) = false := by rw [decide_eq_false_iff_not]; omega
    have hnn : h * 18446744073709551616 + l = n := by omega
    have hdv := fun w => div64_any h l d w (by omega) (by omega) (by omega) l64 d64
    obtain ⟨q, hq⟩ : ∃ q, q = n / d := ⟨_, rfl⟩
    obtain ⟨r, hr⟩ : ∃ r, r = n % d := ⟨_, rfl⟩
    have e1 : ((h : Int) * 18446744073709551616 + l) / d = (q : Int) := by rw [hq, ← hnn]; simp
    have e2 : ((h : Int) * 18446744073709551616 + l) % d = (r : Int) := by rw [hr, ← hnn]; simp
    rw [e1, e2] at hdv
    have Hdv := Lib.hid hdv
    have hrd : r < d := by rw [hr]; exact Nat.mod_lt _ (by omega)
    have hrd' : (r : Int) < d := by omega
    have q64 : (q : Int) < 18446744073709551616 := by
      have : n / d < 18446744073709551616 := by
        rw [Nat.div_lt_iff_lt_mul (by omega)]
        have h1 : (h + 1) * 18446744073709551616 ≤ d * 18446744073709551616 := Nat.mul_le_mul_right _ (by omega)
        rw [Nat.mul_comm 18446744073709551616 d]
        omega
      rw [← hq] at this
      omega
    have hD2 : D = if q ≥ 1000000000000 then 1000000000000 else if r ≥ d - r then (q : Int) + 1 else (q : Int) := by
      rw [hD]; unfold divU; rw [if_neg (by omega), ← hq, ← hr]
    have hv : decide ((1000000000000 : Int) ≤ q) = decide (q ≥ 1000000000000) := by rw [decide_eq_decide]; omega
    clear hdv e1 e2 hD hl hh hn hnn hq hr HD c1 hd hrd
    by_cases c2 : q ≥ 1000000000000
    · have t2 : decide ((1000000000000 : Int) ≤ q) = true := by rw [hv, decide_eq_true_eq]; exact c2
      rw [if_pos c2] at hD2
      subst hD2
      clear c2 hv
      go_enter Tryd.func93, Tryd.ntmps93
      go_wp2_with (go_at_call 102; refine (Hdv.out _).mono ?_; rintro e w1 ⟨rfl, hb⟩)
      go_ret
      exact ⟨rfl, ((Below.refl _ _).alloc (Nat.le_refl _) _).trans (hb.mono (by simp))⟩
    · have t2 : decide ((1000000000000 : Int) ≤ q) = false := by rw [hv, decide_eq_false_iff_not]; exact c2
      have hq2 : (q : Int) < 1000000000000 := by omega
      rw [if_neg c2] at hD2
      clear c2 hv q64
      by_cases c3 : r ≥ d - r
      · have t3 : decide ((d : Int) - r ≤ r) = true := by rw [decide_eq_true_eq]; omega
        rw [if_pos c3] at hD2
        subst hD2
        clear c3
        go_enter Tryd.func93, Tryd.ntmps93
        go_wp2_with (go_at_call 102; refine (Hdv.out _).mono ?_; rintro e w1 ⟨rfl, hb⟩)
        go_ret
        exact ⟨rfl, ((Below.refl _ _).alloc (Nat.le_refl _) _).trans (hb.mono (by simp))⟩
      · have t3 : decide ((d : Int) - r ≤ r) = false := by rw [decide_eq_false_iff_not]; omega
        rw [if_neg c3] at hD2
        subst hD2
        clear c3
        go_enter Tryd.func93, Tryd.ntmps93
        go_wp2_with (go_at_call 102; refine (Hdv.out _).mono ?_; rintro e w1 ⟨rfl, hb⟩)
        go_ret
        exact ⟨rfl, ((Below.refl _ _).alloc (Nat.le_refl _) _).trans (hb.mono (by simp))⟩
end Go.Proofs.YtaobbedajgkmiaaDoor
