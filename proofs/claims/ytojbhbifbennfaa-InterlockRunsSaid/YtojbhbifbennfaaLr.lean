/- The law InterlockRuns. -/
import Derived.Test.YtojbhbifbennfaaRn
namespace Go.Proofs.Ytojbhbifbennfaa
open Go.RowKit Go.Shelf


set_option maxHeartbeats 8000000 in
set_option maxRecDepth 100000 in
theorem runs_law (nm : Value) (pa : Option Addr) (P pc : Nat) (dd : Int) (now : Int) (a : Option Addr) (cap : Nat) (xs : List SlD) (rs : List (List Int)) (w : World) (hin : InS w a xs.length 1 (flat slL xs)) (hrw : RowsIn w xs rs) : Calls Try.prog 7 #[.agg #[nm, .slice pa P pc, .int .i64 dd], .int .i64 now, .slice a xs.length cap] w fun e w' => e = .returned (.bool true) ∧ Below w.heap.size w w' := by
  have HFI := Lib.hid (fun (W' : World) (hb : Below w.heap.size w W') => fits_any nm pa P pc dd now a cap xs rs W' (hin.keep hb) (hrw.keep hb))
  have HRN := Lib.hid (fun (W' : World) (hb : Below w.heap.size w W') => run_any nm pa P pc dd now a cap xs rs W' (hin.keep hb) (hrw.keep hb))
  have HAW := Lib.hid awake_yes
  obtain ⟨N, hN⟩ : ∃ N, N = xs.length := ⟨_, rfl⟩
  rw [← hN] at HFI HRN ⊢
  have HN := Lib.hid hN
  have HI := Lib.hid hin
  have HRW := Lib.hid hrw
  clear hN hin hrw
  obtain ⟨W, g, hW, hg, R1, B, sz⟩ := box1 w #[nm, .slice pa P pc, .int .i64 dd] 33
  have HG := Lib.hid R1
  have HB := Lib.hid B
  clear R1 B sz
  go_enter Try.func7, Try.ntmps7
  go_wp2_with fail
  rw [← hW]
  try rw [← hg]
  clear hW hg
  refine (HAW.out _).mono ?_
  rintro e w1 ⟨rfl, hb⟩
  have HG1 := Lib.hid (HG.out.keep hb)
  have HB1 := Lib.hid (HB.out.trans (hb.mono HB.out.size))
  clear hb HG HB HAW
  have g_0 := HG1.out.c 0 _ rfl
  have g_1 := HG1.out.c 1 _ rfl
  have g_2 := HG1.out.c 2 _ rfl
  go_wp2_with fail
  refine (HFI.out _ HB1.out).mono ?_
  rintro e w2 ⟨hf, hb⟩
  have HG2 := Lib.hid (HG1.out.keep hb)
  have HB2 := Lib.hid (HB1.out.trans (hb.mono HB1.out.size))
  clear hb HG1 HB1 HFI g_0 g_1 g_2
  rcases hf with ⟨rfl, hF, hP20⟩ | rfl
  rotate_left
  · go_wp2_with fail
    go_ret
    exact ⟨rfl, HB2.out⟩
  have HF := Lib.hid hF
  clear hF
  have g_0 := HG2.out.c 0 _ rfl
  have g_1 := HG2.out.c 1 _ rfl
  have g_2 := HG2.out.c 2 _ rfl
  go_wp2_with fail
  refine (HRN.out _ HB2.out HF hP20).mono ?_
  rintro e w3 ⟨v3, rfl, ho, hb⟩
  have HG3 := Lib.hid (HG2.out.keep hb)
  have HB3 := Lib.hid (HB2.out.trans (hb.mono HB2.out.size))
  obtain ⟨b3, c3, rfl, hi⟩ := ins_own ho
  obtain ⟨L, hL⟩ : ∃ L, L = runL dd now rs N := ⟨_, rfl⟩
  have hLl : L.length = N := by rw [hL]; exact runL_len _ _ _ _
  rw [← hL] at hi
  have HI3 := Lib.hid (show InS w3 b3 N 2 (flat sL L) from hi)
  have HNR : Hid (rs.length = N) := Lib.hid (by rw [HRW.out.1, HN.out])
  have hbr : breaksI P dd (L.map Prod.fst) 0 (-1) (-1) = -1 := by
    have h := run_breaks HF.out N 0 (-1) (by rw [HNR.out]; omega) (.inl rfl)
    rw [List.drop_zero, HNR.out, ← hL] at h
    exact h
  have HBRK := Lib.hid (fun (W' : World) (h : InS W' b3 N 2 (flat sL L)) => (show Calls Try.prog 29 #[.agg #[nm, .slice pa P pc, .int .i64 dd], .slice b3 N c3] W' fun e w' => e = .returned (.int .i64 (-1)) ∧ Below W'.heap.size W' w' by have k := breaks_any nm pa P pc dd b3 c3 L W' (by rw [hLl]; exact h); rw [hLl, hbr] at k; exact k))
  have HLAT := Lib.hid (show ∀ k, k < N → L[k]? = some (stN dd now rs (k + 1)) from fun k hk => by rw [hL]; exact runL_at dd now rs hk)
  have HLL := Lib.hid hLl
  clear hb hi ho hL hLl hbr HG2 HB2 HRN g_0 g_1 g_2
  have g_0 := HG3.out.c 0 _ rfl
  have g_1 := HG3.out.c 1 _ rfl
  have g_2 := HG3.out.c 2 _ rfl
  go_wp2_with fail
  refine (HBRK.out _ HI3.out).mono ?_
  rintro e w4 ⟨rfl, hb⟩
  have HG4 := Lib.hid (HG3.out.keep hb)
  have HI4 := Lib.hid (HI3.out.keep hb)
  have HB4 := Lib.hid (HB3.out.trans (hb.mono HB3.out.size))
  clear hb HG3 HI3 HB3 HBRK g_0 g_1 g_2
  have hmx : N ≤ 40 := by have := HF.out.len; have := HNR.out; omega
  go_wp2_with fail
  go_loopw [9, 10] (fun la i wr => ∃ j : Nat, j ≤ N ∧ i = .int .i64 j ∧ la = .int .i64 (stN dd now rs j).2 ∧ Hid (Below w4.heap.size w4 wr)) (fun _ i _ => N - (intOf i).toNat)
  case atStart => exact ⟨0, by omega, rfl, rfl, Lib.hid (Below.refl _ _)⟩
  case round =>
    obtain ⟨j, hj, rfl, rfl, hH⟩ := hrel
    have HBR := Lib.hid hH.out
    have HB5 := Lib.hid (HB4.out.trans (HBR.out.mono HB4.out.size))
    clear hH
    by_cases hlt : j < N
    · have hjr : j < rs.length := by rw [HNR.out]; exact hlt
      have hsf := stN_step HF.out hjr
      obtain ⟨x, hx⟩ : ∃ x, xs[j]? = some x := ⟨_, List.getElem?_eq_getElem (by rw [← HN.out]; exact hlt)⟩
      obtain ⟨a', ha⟩ : ∃ a, rs[j]? = some a := ⟨_, List.getElem?_eq_getElem hjr⟩
      have hra : rowA rs j = a' := by unfold rowA; rw [ha]; rfl
      rw [hra] at hsf
      obtain ⟨xa, xn, xc⟩ := x
      have HRA := Lib.hid (show a'.length = xn ∧ InS w xa xn 1 (flat iL a') from HRW.out.2 j _ a' hx ha)
      obtain ⟨b, of, rfl, hbl, hcell⟩ := HI.out.at slL_len (by have := HN.out; omega)
      have d0 := hcell j _ hx 0 _ rfl
      rw [Nat.add_zero, Nat.mul_one] at d0
      have c0 : wr.cell? ⟨b, of + j, none⟩ = some (.slice xa xn xc) := (HB5.out.cell (p := ⟨b, of + j, none⟩) hbl).trans d0
      obtain ⟨bl, ol, rfl, hbl2, hcell2⟩ := InS.at (f := sL) (xs := L) sL_len (by rw [HLL.out]; exact HI4.out.keep HBR.out) (by rw [HLL.out]; omega)
      obtain ⟨⟨o1, l1⟩, hst1⟩ : ∃ x, x = stN dd now rs (j + 1) := ⟨_, rfl⟩
      obtain ⟨⟨o0, l0⟩, hst0⟩ : ∃ x, x = stN dd now rs j := ⟨_, rfl⟩
      have hlj := HLAT.out j hlt
      rw [← hst1] at hlj
      have d1 : wr.cell? ⟨bl, ol + j * 2 + 0, none⟩ = some (.int .i64 o1) := hcell2 j _ hlj 0 _ rfl
      have d2 : wr.cell? ⟨bl, ol + j * 2 + 1, none⟩ = some (.int .i64 l1) := hcell2 j _ hlj 1 _ rfl
      rw [Nat.add_zero] at d1
      rw [← hst1, ← hst0] at hsf
      rw [← hst0]
      have hin0' := stN_in HF.out j (by omega)
      rw [← hst0] at hin0'
      have hin0 : (o0 = -1 ∨ (0 ≤ o0 ∧ o0 < P)) ∧ 0 ≤ l0 ∧ l0 ≤ now + j := hin0'
      clear hin0'
      have HST1 := Lib.hid hst1
      have HPREV := Lib.hid (show ∀ q, q + 1 = j → wr.cell? ⟨bl, ol + q * 2, none⟩ = some (.int .i64 o0) from fun q hq => by
        have h := HLAT.out q (by omega)
        rw [hq, ← hst0] at h
        have h2 := hcell2 q _ h 0 _ rfl
        rw [Nat.add_zero] at h2
        exact h2)
      have HZERO := Lib.hid (show j = 0 → o0 = -1 from fun h => by
        have h2 := hst0
        rw [h] at h2
        exact congrArg Prod.fst h2)
      have HIN0 := Lib.hid hin0
      have HROWA := Lib.hid (show ∀ p : Nat, o1 = p → ∃ (b2 o2 : Nat) (y : Int), xa = some ⟨b2, o2, none⟩ ∧ p < xn ∧ wr.cell? ⟨b2, o2 + p, none⟩ = some (.int .i64 y) ∧ y ≠ 0 from fun p hp => by
        obtain ⟨y, hy, hy0⟩ := hsf.asks p hp
        have hpl : p < xn := by rw [← HRA.out.1]; exact (List.getElem?_eq_some_iff.1 hy).1
        obtain ⟨b2, o2, e1, hb2, hc2⟩ := InS.at (f := iL) (xs := a') iL_len (by rw [HRA.out.1]; exact HRA.out.2.keep HB5.out) (by rw [HRA.out.1]; omega)
        have h3 := hc2 p _ hy 0 _ rfl
        rw [Nat.add_zero, Nat.mul_one] at h3
        exact ⟨b2, o2, y, e1, hpl, h3, hy0⟩)
      have hxm : (xn : Int) ≤ 9223372036854775807 := by have h : xn ≤ 9223372036854775807 := HRA.out.2.2.1; omega
      have s1 : o1 = -1 ∨ (0 ≤ o1 ∧ o1 < P) := hsf.mem
      have s4 : o0 ≠ -1 → o1 ≠ o0 → o1 = -1 ∧ l1 = now + j := hsf.off
      have s5 : (o0 = -1 ∨ o1 = o0) → l1 = l0 := hsf.same
      have s6 : o0 = -1 → o1 ≠ -1 → dd ≤ now + j - l0 := hsf.dead
      have hn0 := HF.out.n0
      have hn1 := HF.out.n1
      have m1 : ¬ (P : Int) ≤ o1 := by omega
      have m2 : ¬ o1 < -1 := by omega
      have k1 : (0 : Int) ≤ (j : Int) := by omega
      have k2 : (j : Int) < (N : Int) := by omega
      have w1' : IntKind.i64.wrap (now + (j : Int)) = now + (j : Int) := IntWalk.i64_in _ ⟨by omega, by omega⟩
      have w2' : IntKind.i64.wrap (now + (j : Int) - l0) = now + (j : Int) - l0 := IntWalk.i64_in _ (by have := hin0.2; exact ⟨by omega, by omega⟩)
      have HG5 := Lib.hid (HG4.out.keep HBR.out)
      have HO0 := Lib.hid hin0.1
      clear hst1 hst0 hlj hin0 hsf hx ha hra hcell hbl d0 hcell2 hbl2 hjr hn0 hn1
      have HS1 := Lib.hid s1
      have HS4 := Lib.hid s4
      have HS5 := Lib.hid s5
      have HS6 := Lib.hid s6
      clear s1 s4 s5 s6
      by_cases hj0 : 0 < (j : Int)
      · obtain ⟨q, hq⟩ : ∃ q, q + 1 = j := ⟨j - 1, by omega⟩
        have d3 := HPREV.out q hq
        have w3' : IntKind.i64.wrap ((j : Int) - 1) = (q : Int) := by rw [← hq, IntWalk.i64_in _ ⟨by omega, by omega⟩]; omega
        have k3 : (0 : Int) ≤ (q : Int) := by omega
        have k4 : (q : Int) < (N : Int) := by omega
        clear hq
        by_cases ho0 : o0 = -1
        · have e1 := HS5.out (.inl ho0)
          by_cases ho1 : o1 = -1
          · subst ho1
            subst ho0
            have t2 : (l1 != l0) = false := by simp [e1]
            have g_0 := HG5.out.c 0 _ rfl
            have g_1 := HG5.out.c 1 _ rfl
            have g_2 := HG5.out.c 2 _ rfl
            go_wp2_with fail
            go_roundw
            case rel => exact ⟨j + 1, by omega, by go_num, by rw [← HST1.out]; exact congrArg (Value.int .i64) (e1.symm), Lib.hid HBR.out⟩
            case measure => (simp [intOf]) <;> omega
          · have hdd := HS6.out ho0 ho1
            have hm1 := HS1.out
            obtain ⟨p, rfl⟩ : ∃ p : Nat, o1 = (p : Int) := ⟨o1.toNat, by omega⟩
            obtain ⟨b2, o2, y, rfl, q1, c2, q2⟩ := HROWA.out p rfl
            have t1 : (y == 0) = false := by rw [beq_eq_false_iff_ne]; exact q2
            have q3 : (p : Int) < (xn : Int) := by omega
            have q4 : (0 : Int) ≤ (p : Int) := by omega
            clear q1 q2
            have m3 : ¬ now + (j : Int) - l0 < dd := by omega
            have t2 : (l1 != l0) = false := by simp [e1]
            subst ho0
            clear hdd ho1 hm1
            have g_0 := HG5.out.c 0 _ rfl
            have g_1 := HG5.out.c 1 _ rfl
            have g_2 := HG5.out.c 2 _ rfl
            go_wp2_with fail
            go_roundw
            case rel => exact ⟨j + 1, by omega, by go_num, by rw [← HST1.out]; exact congrArg (Value.int .i64) (e1.symm), Lib.hid HBR.out⟩
            case measure => (simp [intOf]) <;> omega
        · have hge : (0 : Int) ≤ o0 := by have := HO0.out; omega
          by_cases ho1 : o1 = o0
          · have e1 := HS5.out (.inr ho1)
            have t2 : (l1 != l0) = false := by simp [e1]
            subst ho1
            have hm1 := HS1.out
            obtain ⟨p, rfl⟩ : ∃ p : Nat, o1 = (p : Int) := ⟨o1.toNat, by omega⟩
            obtain ⟨b2, o2, y, rfl, q1, c2, q2⟩ := HROWA.out p rfl
            have t1 : (y == 0) = false := by rw [beq_eq_false_iff_ne]; exact q2
            have q3 : (p : Int) < (xn : Int) := by omega
            have q4 : (0 : Int) ≤ (p : Int) := by omega
            clear q1 q2
            have m4 : ¬ (p : Int) < 0 := by omega
            clear ho0 hge hm1
            have g_0 := HG5.out.c 0 _ rfl
            have g_1 := HG5.out.c 1 _ rfl
            have g_2 := HG5.out.c 2 _ rfl
            go_wp2_with fail
            go_roundw
            case rel => exact ⟨j + 1, by omega, by go_num, by rw [← HST1.out]; exact congrArg (Value.int .i64) (e1.symm), Lib.hid HBR.out⟩
            case measure => (simp [intOf]) <;> omega
          · obtain ⟨e2, e3⟩ := HS4.out ho0 ho1
            subst e2
            have m4 : ¬ o0 < 0 := by omega
            have t3 : ((-1 : Int) != o0) = true := by (simp) <;> omega
            have t2 : (l1 != now + (j : Int)) = false := by simp [e3]
            clear ho0 ho1
            have g_0 := HG5.out.c 0 _ rfl
            have g_1 := HG5.out.c 1 _ rfl
            have g_2 := HG5.out.c 2 _ rfl
            go_wp2_with fail
            go_roundw
            case rel => exact ⟨j + 1, by omega, by go_num, by rw [← HST1.out]; exact congrArg (Value.int .i64) (e3.symm), Lib.hid HBR.out⟩
            case measure => (simp [intOf]) <;> omega
      · have ho0 := HZERO.out (by omega)
        have e1 := HS5.out (.inl ho0)
        have t2 : (l1 != l0) = false := by simp [e1]
        by_cases ho1 : o1 = -1
        · subst ho1
          subst ho0
          have g_0 := HG5.out.c 0 _ rfl
          have g_1 := HG5.out.c 1 _ rfl
          have g_2 := HG5.out.c 2 _ rfl
          go_wp2_with fail
          go_roundw
          case rel => exact ⟨j + 1, by omega, by go_num, by rw [← HST1.out]; exact congrArg (Value.int .i64) (e1.symm), Lib.hid HBR.out⟩
          case measure => (simp [intOf]) <;> omega
        · have hdd := HS6.out ho0 ho1
          have hm1 := HS1.out
          obtain ⟨p, rfl⟩ : ∃ p : Nat, o1 = (p : Int) := ⟨o1.toNat, by omega⟩
          obtain ⟨b2, o2, y, rfl, q1, c2, q2⟩ := HROWA.out p rfl
          have t1 : (y == 0) = false := by rw [beq_eq_false_iff_ne]; exact q2
          have q3 : (p : Int) < (xn : Int) := by omega
          have q4 : (0 : Int) ≤ (p : Int) := by omega
          clear q1 q2
          have m3 : ¬ now + (j : Int) - l0 < dd := by omega
          subst ho0
          clear hdd ho1 hm1
          have g_0 := HG5.out.c 0 _ rfl
          have g_1 := HG5.out.c 1 _ rfl
          have g_2 := HG5.out.c 2 _ rfl
          go_wp2_with fail
          go_roundw
          case rel => exact ⟨j + 1, by omega, by go_num, by rw [← HST1.out]; exact congrArg (Value.int .i64) (e1.symm), Lib.hid HBR.out⟩
          case measure => (simp [intOf]) <;> omega
    · go_wp2_with fail
      go_ret
      exact ⟨rfl, HB5.out⟩
end Go.Proofs.Ytojbhbifbennfaa
