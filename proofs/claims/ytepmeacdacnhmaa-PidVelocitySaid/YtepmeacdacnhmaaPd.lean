/- Contract of scan, with an integral part. -/
import Derived.Test.YtepmeacdacnhmaaPc
import Derived.Test.YtepmeacdacnhmaaPq
namespace Go.Proofs.Ytepmeacdacnhmaa
open Go.RowKit

abbrev scanV (ti lo hi sm rs p n : Int) : Value := .tuple #[.agg #[.bool true, .int .i64 (newS ti lo hi sm rs p n), .int .i64 (newR ti lo hi sm rs p n)], .int .i64 (p + newS ti lo hi sm rs p n)]
set_option maxHeartbeats 2000000 in
theorem scan_any (kp ti lo hi : Int) (rv rd : Bool) (sm rs p n : Int) (w : World) (s : Scan ti lo hi (begS rd lo p sm) (begR rd rs) p n) :
    Calls Try.prog 22 #[.agg #[.int .i64 kp, .int .i64 ti, .int .i64 lo, .int .i64 hi, .bool rv], .agg #[.bool rd, .int .i64 sm, .int .i64 rs], .int .i64 p, .int .i64 n] w fun e w' => e = .returned (scanV ti lo hi (begS rd lo p sm) (begR rd rs) p n) ∧ Below w.heap.size w w' := by
  obtain ⟨M0, hM0⟩ : ∃ m, m = begS rd lo p sm := ⟨_, rfl⟩
  obtain ⟨R0, hR0⟩ : ∃ m, m = begR rd rs := ⟨_, rfl⟩
  rw [← hM0, ← hR0] at s ⊢
  have k := s.walk
  have kn := s.next
  obtain ⟨N, hN⟩ : ∃ m, m = newS ti lo hi M0 R0 p n := ⟨_, rfl⟩
  obtain ⟨E, hE⟩ : ∃ m, m = newR ti lo hi M0 R0 p n := ⟨_, rfl⟩
  obtain ⟨Q, hQ⟩ : ∃ m, m = (totI R0 p n).tdiv ti := ⟨_, rfl⟩
  obtain ⟨D, hD⟩ : ∃ m, m = (totI R0 p n).tmod ti := ⟨_, rfl⟩
  have hn : N = limI (M0 + Q) (lo - p) (hi - p) := by rw [hN, hQ]; rfl
  have he : E = if N = M0 + Q then D else 0 := by rw [hE, hN, hD, hQ]; rfl
  rw [← hQ, ← hD] at k
  rw [← hN, ← hE] at kn
  unfold scanV
  rw [← hN, ← hE]
  obtain ⟨⟨a0, a1⟩, ⟨b0, b1⟩, ⟨c0, c1⟩, d0, d1⟩ := k
  obtain ⟨⟨e0, e1⟩, f0, f1⟩ := kn
  obtain ⟨t0, t1, l0, lh, h1, s0, s1, r0, r1, p0, p1, n0, n1⟩ := s
  have w1 : IntKind.i64.wrap (p * n) = p * n := IntWalk.i64_in _ (by omega)
  have HN := Lib.hid hn
  have HE := Lib.hid he
  have HL := Lib.hid (fun w => show Calls Try.prog 23 #[.int .i64 (M0 + Q), .int .i64 (lo - p), .int .i64 (hi - p)] w fun e w' => e = .returned (.int .i64 N) ∧ w = w' by rw [hn]; exact limited_any (M0 + Q) (lo - p) (hi - p) w)
  unfold totI at hQ hD b0 b1
  clear hn he hN hE
  cases rd
  · obtain rfl : M0 = lo - p := hM0
    obtain rfl : R0 = 0 := hR0
    obtain ⟨W, g, h, r, hW, hg, hh, hr, RG, RH, RR, B, sz⟩ := box3 w #[.int .i64 kp, .int .i64 ti, .int .i64 lo, .int .i64 hi, .bool rv] 26 #[.bool false, .int .i64 (lo - p), .int .i64 0] 28 #[.bool false, .int .i64 0, .int .i64 0] 28
    go_enter Try.func22, Try.ntmps22
    go_upto_region 6 with fail
    rw [← hW]
    try rw [← hr]
    try rw [← hh]
    try rw [← hg]
    have hwr : w.heap.size ≤ r := by omega
    have HR := Lib.hid RR
    have HB := Lib.hid B
    have HWR := Lib.hid hwr
    clear hW hg hh hr sz RR B hwr
    have w3 : IntKind.i64.wrap ((lo - p) + Q) = lo - p + Q := IntWalk.i64_in _ (by omega)
    have hq : (p * n).tdiv ti = Q := by rw [hQ]; (first | done | rfl | rw [Int.add_zero])
    have hd : (p * n).tmod ti = D := by rw [hD]; (first | done | rfl | rw [Int.add_zero])
    have HD := Lib.hid hd
    clear hQ hD hd
    have hti : ¬ ti = 0 := by omega
    have g_0 := RG.c 0 _ rfl
    have g_1 := RG.c 1 _ rfl
    have g_2 := RG.c 2 _ rfl
    have g_3 := RG.c 3 _ rfl
    have g_4 := RG.c 4 _ rfl
    have h_0 := RH.c 0 _ rfl
    have h_1 := RH.c 1 _ rfl
    have h_2 := RH.c 2 _ rfl
    go_region_held3 (fun w' => w'.cell? ⟨g, 1, none⟩ = some (.int .i64 ti) ∧ w'.cell? ⟨h, 1, none⟩ = some (.int .i64 (lo - p))) (first | go_keep) ((fail))
    all_goals
      rename_i hHeld
      clear hHeld
      clear g_0 g_1 g_2 g_3 g_4 h_0 h_1 h_2
      obtain ⟨W1, hW1⟩ : ∃ x, x = W.drew := ⟨_, rfl⟩
      have HR1 := Lib.hid (show RowAt W1 r [.bool false, .int .i64 0, .int .i64 0] by rw [hW1]; exact HR.out.drew)
      have HB1 := Lib.hid (show Below w.heap.size w W1 by rw [hW1]; exact HB.out.drew)
      have RG1 : RowAt W1 g [.int .i64 kp, .int .i64 ti, .int .i64 lo, .int .i64 hi, .bool rv] := by rw [hW1]; exact RG.drew
      rw [← hW1]
      clear hW1 RG RH HR HB
      have g_0 := RG1.c 0 _ rfl
      have g_1 := RG1.c 1 _ rfl
      have g_2 := RG1.c 2 _ rfl
      have g_3 := RG1.c 3 _ rfl
      have g_4 := RG1.c 4 _ rfl
      have w4 : IntKind.i64.wrap (p + N) = p + N := IntWalk.i64_in _ (by omega)
      by_cases hN : N = lo - p + Q
      · have HEE := Lib.hid (show E = D from HE.out.trans (if_pos hN))
        have tN : (N == lo - p + Q) = true := by rw [beq_iff_eq]; exact hN
        have HNN := Lib.hid hN
        have gA := (RG1.keep ((Below.refl _ _).alloc (Nat.le_refl _) (Obj.cells #[.bool true, .int .i64 N, .int .i64 0] 28))).c 1 _ rfl
        have hgl := RG1.lt
        have hgl2 : g ≠ W1.heap.size := Nat.ne_of_lt hgl
        clear hN
        have hd := HD.out
        go_wp2_with fail
        refine (HL.out _).mono ?_
        rintro e w' ⟨rfl, rfl⟩
        go_upto_region 10 with fail
        obtain ⟨W2, m, hW2, hm, RM, B2, sz2⟩ := box1 W1 #[.bool true, .int .i64 N, .int .i64 D] 28
        have HR2 := Lib.hid (HR1.out.keep B2)
        have HB2 := Lib.hid (HB1.out.trans (B2.mono HB1.out.size))
        have hrm : r ≠ m := by have := HR1.out.lt; omega
        have hmr : m ≠ r := by omega
        rw [← hW2]
        try rw [← hm]
        clear hW2 hm B2 sz2 g_0 g_1 g_2 g_3 g_4 RG1 gA hgl hgl2
        have m_0 := RM.c 0 _ rfl
        have m_1 := RM.c 1 _ rfl
        have m_2 := RM.c 2 _ rfl
        have r_0 := HR2.out.c 0 _ rfl
        have r_1 := HR2.out.c 1 _ rfl
        have r_2 := HR2.out.c 2 _ rfl
        have r_z := HR2.out.fz
        go_region_held3 (fun w' => w'.cell? ⟨m, 0, none⟩ = some (.bool true) ∧ w'.cell? ⟨m, 1, none⟩ = some (.int .i64 N) ∧ w'.cell? ⟨m, 2, none⟩ = some (.int .i64 D)) (first | go_keep) ((fail))
        all_goals
          rename_i hHeld2
          clear hHeld2
          rw [← HEE.out]
          have hs := HR2.out.setRow [.bool true, .int .i64 N, .int .i64 E] rfl
          have hB := (set_below HB2.out HWR.out [.bool true, .int .i64 N, .int .i64 E]).drew
          have y0 : (((W2.setCell ⟨r, 0, none⟩ (.bool true)).setCell ⟨r, 1, none⟩ (.int .i64 N)).setCell ⟨r, 2, none⟩ (.int .i64 E)).cell? ⟨r, 0, none⟩ = some (.bool true) := hs.c 0 _ rfl
          have y1 : (((W2.setCell ⟨r, 0, none⟩ (.bool true)).setCell ⟨r, 1, none⟩ (.int .i64 N)).setCell ⟨r, 2, none⟩ (.int .i64 E)).cell? ⟨r, 1, none⟩ = some (.int .i64 N) := hs.c 1 _ rfl
          have y2 : (((W2.setCell ⟨r, 0, none⟩ (.bool true)).setCell ⟨r, 1, none⟩ (.int .i64 N)).setCell ⟨r, 2, none⟩ (.int .i64 E)).cell? ⟨r, 2, none⟩ = some (.int .i64 E) := hs.c 2 _ rfl
          go_wp2_with fail
          (try simp only [Exit.inBlock, Exit.then])
          refine bodyPost_ret (by simp [results, Try.results22, go_sem, y0, y1, y2]; try rfl) rfl ?_
          exact ⟨rfl, hB⟩
      · have HEE := Lib.hid (show E = 0 from HE.out.trans (if_neg hN))
        have tN : (N == lo - p + Q) = false := by rw [beq_eq_false_iff_ne]; exact hN
        have HNN := Lib.hid hN
        have gA := (RG1.keep ((Below.refl _ _).alloc (Nat.le_refl _) (Obj.cells #[.bool true, .int .i64 N, .int .i64 0] 28))).c 1 _ rfl
        have hgl := RG1.lt
        have hgl2 : g ≠ W1.heap.size := Nat.ne_of_lt hgl
        clear hN
        skip
        go_wp2_with fail
        refine (HL.out _).mono ?_
        rintro e w' ⟨rfl, rfl⟩
        go_upto_region 10 with fail
        obtain ⟨W2, m, hW2, hm, RM, B2, sz2⟩ := box1 W1 #[.bool true, .int .i64 N, .int .i64 0] 28
        have HR2 := Lib.hid (HR1.out.keep B2)
        have HB2 := Lib.hid (HB1.out.trans (B2.mono HB1.out.size))
        have hrm : r ≠ m := by have := HR1.out.lt; omega
        have hmr : m ≠ r := by omega
        rw [← hW2]
        try rw [← hm]
        clear hW2 hm B2 sz2 g_0 g_1 g_2 g_3 g_4 RG1 gA hgl hgl2
        have m_0 := RM.c 0 _ rfl
        have m_1 := RM.c 1 _ rfl
        have m_2 := RM.c 2 _ rfl
        have r_0 := HR2.out.c 0 _ rfl
        have r_1 := HR2.out.c 1 _ rfl
        have r_2 := HR2.out.c 2 _ rfl
        have r_z := HR2.out.fz
        go_region_held3 (fun w' => w'.cell? ⟨m, 0, none⟩ = some (.bool true) ∧ w'.cell? ⟨m, 1, none⟩ = some (.int .i64 N) ∧ w'.cell? ⟨m, 2, none⟩ = some (.int .i64 0)) (first | go_keep) ((fail))
        all_goals
          rename_i hHeld2
          clear hHeld2
          rw [← HEE.out]
          have hs := HR2.out.setRow [.bool true, .int .i64 N, .int .i64 E] rfl
          have hB := (set_below HB2.out HWR.out [.bool true, .int .i64 N, .int .i64 E]).drew
          have y0 : (((W2.setCell ⟨r, 0, none⟩ (.bool true)).setCell ⟨r, 1, none⟩ (.int .i64 N)).setCell ⟨r, 2, none⟩ (.int .i64 E)).cell? ⟨r, 0, none⟩ = some (.bool true) := hs.c 0 _ rfl
          have y1 : (((W2.setCell ⟨r, 0, none⟩ (.bool true)).setCell ⟨r, 1, none⟩ (.int .i64 N)).setCell ⟨r, 2, none⟩ (.int .i64 E)).cell? ⟨r, 1, none⟩ = some (.int .i64 N) := hs.c 1 _ rfl
          have y2 : (((W2.setCell ⟨r, 0, none⟩ (.bool true)).setCell ⟨r, 1, none⟩ (.int .i64 N)).setCell ⟨r, 2, none⟩ (.int .i64 E)).cell? ⟨r, 2, none⟩ = some (.int .i64 E) := hs.c 2 _ rfl
          go_wp2_with fail
          (try simp only [Exit.inBlock, Exit.then])
          refine bodyPost_ret (by simp [results, Try.results22, go_sem, y0, y1, y2]; try rfl) rfl ?_
          exact ⟨rfl, hB⟩
  · obtain rfl : sm = M0 := hM0.symm
    obtain rfl : rs = R0 := hR0.symm
    clear hM0 hR0
    obtain ⟨W, g, h, r, hW, hg, hh, hr, RG, RH, RR, B, sz⟩ := box3 w #[.int .i64 kp, .int .i64 ti, .int .i64 lo, .int .i64 hi, .bool rv] 26 #[.bool true, .int .i64 (sm), .int .i64 rs] 28 #[.bool false, .int .i64 0, .int .i64 0] 28
    go_enter Try.func22, Try.ntmps22
    go_upto_region 6 with fail
    rw [← hW]
    try rw [← hr]
    try rw [← hh]
    try rw [← hg]
    have hwr : w.heap.size ≤ r := by omega
    have HR := Lib.hid RR
    have HB := Lib.hid B
    have HWR := Lib.hid hwr
    clear hW hg hh hr sz RR B hwr
    have w3 : IntKind.i64.wrap ((sm) + Q) = sm + Q := IntWalk.i64_in _ (by omega)
    have hq : (p * n + rs).tdiv ti = Q := by rw [hQ]; (first | done | rfl | rw [Int.add_zero])
    have hd : (p * n + rs).tmod ti = D := by rw [hD]; (first | done | rfl | rw [Int.add_zero])
    have HD := Lib.hid hd
    clear hQ hD hd
    have hti : ¬ ti = 0 := by omega
    have g_0 := RG.c 0 _ rfl
    have g_1 := RG.c 1 _ rfl
    have g_2 := RG.c 2 _ rfl
    have g_3 := RG.c 3 _ rfl
    have g_4 := RG.c 4 _ rfl
    have h_0 := RH.c 0 _ rfl
    have h_1 := RH.c 1 _ rfl
    have h_2 := RH.c 2 _ rfl
    go_region_held3 (fun w' => w'.cell? ⟨g, 1, none⟩ = some (.int .i64 ti) ∧ w'.cell? ⟨h, 1, none⟩ = some (.int .i64 (sm))) (first | go_keep) ((fail))
    all_goals
      rename_i hHeld
      clear hHeld
      clear g_0 g_1 g_2 g_3 g_4 h_0 h_1 h_2
      obtain ⟨W1, hW1⟩ : ∃ x, x = W.drew := ⟨_, rfl⟩
      have HR1 := Lib.hid (show RowAt W1 r [.bool false, .int .i64 0, .int .i64 0] by rw [hW1]; exact HR.out.drew)
      have HB1 := Lib.hid (show Below w.heap.size w W1 by rw [hW1]; exact HB.out.drew)
      have RG1 : RowAt W1 g [.int .i64 kp, .int .i64 ti, .int .i64 lo, .int .i64 hi, .bool rv] := by rw [hW1]; exact RG.drew
      rw [← hW1]
      clear hW1 RG RH HR HB
      have g_0 := RG1.c 0 _ rfl
      have g_1 := RG1.c 1 _ rfl
      have g_2 := RG1.c 2 _ rfl
      have g_3 := RG1.c 3 _ rfl
      have g_4 := RG1.c 4 _ rfl
      have w4 : IntKind.i64.wrap (p + N) = p + N := IntWalk.i64_in _ (by omega)
      by_cases hN : N = sm + Q
      · have HEE := Lib.hid (show E = D from HE.out.trans (if_pos hN))
        have tN : (N == sm + Q) = true := by rw [beq_iff_eq]; exact hN
        have HNN := Lib.hid hN
        have gA := (RG1.keep ((Below.refl _ _).alloc (Nat.le_refl _) (Obj.cells #[.bool true, .int .i64 N, .int .i64 0] 28))).c 1 _ rfl
        have hgl := RG1.lt
        have hgl2 : g ≠ W1.heap.size := Nat.ne_of_lt hgl
        clear hN
        have hd := HD.out
        go_wp2_with fail
        refine (HL.out _).mono ?_
        rintro e w' ⟨rfl, rfl⟩
        go_upto_region 10 with fail
        obtain ⟨W2, m, hW2, hm, RM, B2, sz2⟩ := box1 W1 #[.bool true, .int .i64 N, .int .i64 D] 28
        have HR2 := Lib.hid (HR1.out.keep B2)
        have HB2 := Lib.hid (HB1.out.trans (B2.mono HB1.out.size))
        have hrm : r ≠ m := by have := HR1.out.lt; omega
        have hmr : m ≠ r := by omega
        rw [← hW2]
        try rw [← hm]
        clear hW2 hm B2 sz2 g_0 g_1 g_2 g_3 g_4 RG1 gA hgl hgl2
        have m_0 := RM.c 0 _ rfl
        have m_1 := RM.c 1 _ rfl
        have m_2 := RM.c 2 _ rfl
        have r_0 := HR2.out.c 0 _ rfl
        have r_1 := HR2.out.c 1 _ rfl
        have r_2 := HR2.out.c 2 _ rfl
        have r_z := HR2.out.fz
        go_region_held3 (fun w' => w'.cell? ⟨m, 0, none⟩ = some (.bool true) ∧ w'.cell? ⟨m, 1, none⟩ = some (.int .i64 N) ∧ w'.cell? ⟨m, 2, none⟩ = some (.int .i64 D)) (first | go_keep) ((fail))
        all_goals
          rename_i hHeld2
          clear hHeld2
          rw [← HEE.out]
          have hs := HR2.out.setRow [.bool true, .int .i64 N, .int .i64 E] rfl
          have hB := (set_below HB2.out HWR.out [.bool true, .int .i64 N, .int .i64 E]).drew
          have y0 : (((W2.setCell ⟨r, 0, none⟩ (.bool true)).setCell ⟨r, 1, none⟩ (.int .i64 N)).setCell ⟨r, 2, none⟩ (.int .i64 E)).cell? ⟨r, 0, none⟩ = some (.bool true) := hs.c 0 _ rfl
          have y1 : (((W2.setCell ⟨r, 0, none⟩ (.bool true)).setCell ⟨r, 1, none⟩ (.int .i64 N)).setCell ⟨r, 2, none⟩ (.int .i64 E)).cell? ⟨r, 1, none⟩ = some (.int .i64 N) := hs.c 1 _ rfl
          have y2 : (((W2.setCell ⟨r, 0, none⟩ (.bool true)).setCell ⟨r, 1, none⟩ (.int .i64 N)).setCell ⟨r, 2, none⟩ (.int .i64 E)).cell? ⟨r, 2, none⟩ = some (.int .i64 E) := hs.c 2 _ rfl
          go_wp2_with fail
          (try simp only [Exit.inBlock, Exit.then])
          refine bodyPost_ret (by simp [results, Try.results22, go_sem, y0, y1, y2]; try rfl) rfl ?_
          exact ⟨rfl, hB⟩
      · have HEE := Lib.hid (show E = 0 from HE.out.trans (if_neg hN))
        have tN : (N == sm + Q) = false := by rw [beq_eq_false_iff_ne]; exact hN
        have HNN := Lib.hid hN
        have gA := (RG1.keep ((Below.refl _ _).alloc (Nat.le_refl _) (Obj.cells #[.bool true, .int .i64 N, .int .i64 0] 28))).c 1 _ rfl
        have hgl := RG1.lt
        have hgl2 : g ≠ W1.heap.size := Nat.ne_of_lt hgl
        clear hN
        skip
        go_wp2_with fail
        refine (HL.out _).mono ?_
        rintro e w' ⟨rfl, rfl⟩
        go_upto_region 10 with fail
        obtain ⟨W2, m, hW2, hm, RM, B2, sz2⟩ := box1 W1 #[.bool true, .int .i64 N, .int .i64 0] 28
        have HR2 := Lib.hid (HR1.out.keep B2)
        have HB2 := Lib.hid (HB1.out.trans (B2.mono HB1.out.size))
        have hrm : r ≠ m := by have := HR1.out.lt; omega
        have hmr : m ≠ r := by omega
        rw [← hW2]
        try rw [← hm]
        clear hW2 hm B2 sz2 g_0 g_1 g_2 g_3 g_4 RG1 gA hgl hgl2
        have m_0 := RM.c 0 _ rfl
        have m_1 := RM.c 1 _ rfl
        have m_2 := RM.c 2 _ rfl
        have r_0 := HR2.out.c 0 _ rfl
        have r_1 := HR2.out.c 1 _ rfl
        have r_2 := HR2.out.c 2 _ rfl
        have r_z := HR2.out.fz
        go_region_held3 (fun w' => w'.cell? ⟨m, 0, none⟩ = some (.bool true) ∧ w'.cell? ⟨m, 1, none⟩ = some (.int .i64 N) ∧ w'.cell? ⟨m, 2, none⟩ = some (.int .i64 0)) (first | go_keep) ((fail))
        all_goals
          rename_i hHeld2
          clear hHeld2
          rw [← HEE.out]
          have hs := HR2.out.setRow [.bool true, .int .i64 N, .int .i64 E] rfl
          have hB := (set_below HB2.out HWR.out [.bool true, .int .i64 N, .int .i64 E]).drew
          have y0 : (((W2.setCell ⟨r, 0, none⟩ (.bool true)).setCell ⟨r, 1, none⟩ (.int .i64 N)).setCell ⟨r, 2, none⟩ (.int .i64 E)).cell? ⟨r, 0, none⟩ = some (.bool true) := hs.c 0 _ rfl
          have y1 : (((W2.setCell ⟨r, 0, none⟩ (.bool true)).setCell ⟨r, 1, none⟩ (.int .i64 N)).setCell ⟨r, 2, none⟩ (.int .i64 E)).cell? ⟨r, 1, none⟩ = some (.int .i64 N) := hs.c 1 _ rfl
          have y2 : (((W2.setCell ⟨r, 0, none⟩ (.bool true)).setCell ⟨r, 1, none⟩ (.int .i64 N)).setCell ⟨r, 2, none⟩ (.int .i64 E)).cell? ⟨r, 2, none⟩ = some (.int .i64 E) := hs.c 2 _ rfl
          go_wp2_with fail
          (try simp only [Exit.inBlock, Exit.then])
          refine bodyPost_ret (by simp [results, Try.results22, go_sem, y0, y1, y2]; try rfl) rfl ?_
          exact ⟨rfl, hB⟩
end Go.Proofs.Ytepmeacdacnhmaa
