/- The law CivilTexts returns true for every input. Asked: the tables read as laid. -/
import Derived.Test.YtnlkalnpmnnadaaDoorM
namespace Go.Proofs.YtnlkalnpmnnadaaDoor
open Go.RowKit

theorem parse_both (s : ByteArray) (hs : s.size ≤ 100) : ∃ y m d e : Int,
    (∀ w, BefT w → Calls Tryd.prog 32 #[.string s] w fun r w' => r = .returned (.tuple #[dateV y m d, .int .i64 e]) ∧ Below w.heap.size w w') ∧
    (∀ w, Calls Tryd.prog 33 #[.string s] w fun r w' => r = .returned (.tuple #[dateV y m d, .int .i64 e]) ∧ Below w.heap.size w w') := by
  cases h : formL s.data.toList dateF
  · exact ⟨0, 0, 0, 2, fun w _ => parse_syn s w hs h, fun w => rparse_syn s w hs h⟩
  · by_cases hk : checkI (dY s.data.toList) (dM s.data.toList) (dD s.data.toList) = 0
    · exact ⟨_, _, _, 0, fun w hT => parse_ok s w hs hT h hk, fun w => rparse_ok s w hs h hk⟩
    · exact ⟨0, 0, 0, _, fun w hT => parse_bad s w hs hT h hk, fun w => rparse_bad s w hs h hk⟩
theorem parseClock_any (s : ByteArray) (w : World) (hs : s.size ≤ 100) :
    Calls Tryd.prog 34 #[.string s] w fun e w' => e = .returned (.tuple #[.int .i64 (clockR s.data.toList).1, .int .i64 (clockR s.data.toList).2]) ∧ Below w.heap.size w w' := by
  cases h : formL s.data.toList clockF
  · have e : clockR s.data.toList = (0, 2) := by unfold clockR; rw [h]; rfl
    rw [e]; exact parseClock_no s w hs h
  · exact parseClock_yes s w hs h
theorem clock_back (n : Int) (h0 : 0 ≤ n) (h1 : n < 1440) : clockR (clockL n) = (n, 0) := by
  have h : ∀ k : Fin 1440, clockR (clockL ((k.val : Nat) : Int)) = (((k.val : Nat) : Int), 0) := by decide +kernel
  have h2 := h ⟨n.toNat, by omega⟩
  have e : ((n.toNat : Nat) : Int) = n := by omega
  rw [e] at h2
  exact h2

set_option maxRecDepth 100000 in
set_option maxHeartbeats 4000000 in
theorem texts_long (s : ByteArray) (n : Int) (w : World) (hg : Gl w) (hs : 100 < s.size) :
    Calls Tryd.prog 7 #[.string s, .int .i64 n] w fun e w' => e = .returned (.bool true) ∧ Below w.heap.size w w' := by
  have HW := Lib.hid (awake_any w hg)
  have t1 : (100 : Int) < (s.size : Int) := by omega
  clear hg
  go_enter Tryd.func7, Tryd.ntmps7
  go_wp2_with fail
  refine HW.out.mono ?_
  rintro e w1 ⟨rfl, hb⟩
  have B1 := Lib.hid hb
  clear hb
  go_wp2_with fail
  go_ret
  exact ⟨rfl, B1.out⟩

set_option maxRecDepth 100000 in
set_option maxHeartbeats 4000000 in
theorem texts_short (s : ByteArray) (n : Int) (w : World) (hg : Gl w) (hs : s.size ≤ 100) :
    Calls Tryd.prog 7 #[.string s, .int .i64 n] w fun e w' => e = .returned (.bool true) ∧ Below w.heap.size w w' := by
  have HW := Lib.hid (awake_any w hg)
  have HG := Lib.hid hg
  obtain ⟨y, m, d, x, hP, hPr⟩ := parse_both s hs
  have HP := Lib.hid hP
  have HPr := Lib.hid hPr
  have hC := fun w => parseClock_any s w hs
  have hCr := fun w => rparseClock_any s w hs
  obtain ⟨u, hu⟩ : ∃ u, u = (clockR s.data.toList).1 := ⟨_, rfl⟩
  obtain ⟨v, hv⟩ : ∃ u, u = (clockR s.data.toList).2 := ⟨_, rfl⟩
  rw [← hu, ← hv] at hC hCr
  have HC := Lib.hid hC
  have HCr := Lib.hid hCr
  have s1 : ¬ (100 : Int) < (s.size : Int) := by omega
  have t1 : (y != y) = false := bne_self_eq_false _
  have t2 : (m != m) = false := bne_self_eq_false _
  have t3 : (d != d) = false := bne_self_eq_false _
  have t4 : (x != x) = false := bne_self_eq_false _
  have t5 : (u != u) = false := bne_self_eq_false _
  have t6 : (v != v) = false := bne_self_eq_false _
  have t7 : (y == y) = true := beq_self_eq_true _
  have t8 : (m == m) = true := beq_self_eq_true _
  have t9 : (d == d) = true := beq_self_eq_true _
  clear hP hPr hC hCr hu hv hg
  by_cases hn : 0 ≤ n ∧ n < 1440
  · have HK := Lib.hid fun w (h : Gl w) => clock_yes n w hn.1 hn.2 h.tab
    have HKr := Lib.hid fun w => rclock_any n w hn.1 hn.2
    have hB := fun w => parseClock_any (bs (clockL n)) w (by show 5 ≤ 100; omega)
    rw [bs_data, clock_back n hn.1 hn.2] at hB
    obtain ⟨S, hS⟩ : ∃ S, S = bs (clockL n) := ⟨_, rfl⟩
    rw [← hS] at HK HKr hB
    have HB := Lib.hid hB
    have z1 : (S.toList == S.toList) = true := beq_self_eq_true _
    have z2 : (n == n) = true := beq_self_eq_true _
    obtain ⟨n1, n2⟩ := hn
    clear hB hS
    go_enter Tryd.func7, Tryd.ntmps7
    go_wp2_with fail
    refine HW.out.mono ?_
    rintro e w1 ⟨rfl, hb⟩
    have B1 := Lib.hid hb
    clear hb
    go_wp2_with fail
    refine (HP.out _ (HG.out.below B1.out).bef).mono ?_
    rintro e w2 ⟨rfl, hb⟩
    have B2 := Lib.hid (B1.out.trans (hb.mono B1.out.size))
    clear hb B1
    go_wp2_with fail
    obtain ⟨x2, hx2⟩ : ∃ x, x = w2.alloc (Obj.cells #[.int .i64 y, .int .i64 m, .int .i64 d] 23) := ⟨_, rfl⟩
    rw [← hx2]
    have O2 := Lib.hid (show DateAt x2 w2.heap.size y m d by rw [hx2]; exact date_fresh w2 y m d)
    have B2' := Lib.hid (show Below w.heap.size w x2 by rw [hx2]; exact B2.out.alloc B2.out.size _)
    clear hx2 B2
    refine (HPr.out _).mono ?_
    rintro e w3 ⟨rfl, hb⟩
    have O3 := Lib.hid (O2.out.keep hb)
    have B3 := Lib.hid (B2'.out.trans (hb.mono B2'.out.size))
    clear hb O2 B2'
    go_wp2_with fail
    obtain ⟨x3, hx3⟩ : ∃ x, x = w3.alloc (Obj.cells #[.int .i64 y, .int .i64 m, .int .i64 d] 23) := ⟨_, rfl⟩
    rw [← hx3]
    have O3' := Lib.hid (show DateAt x3 w2.heap.size y m d by rw [hx3]; exact O3.out.keep ((Below.refl _ _).alloc (Nat.le_refl _) _))
    have P3 := Lib.hid (show DateAt x3 w3.heap.size y m d by rw [hx3]; exact date_fresh w3 y m d)
    have B3' := Lib.hid (show Below w.heap.size w x3 by rw [hx3]; exact B3.out.alloc B3.out.size _)
    clear hx3 B3 O3
    refine (HC.out _).mono ?_
    rintro e w4 ⟨rfl, hb⟩
    have O4 := Lib.hid (O3'.out.keep hb)
    have P4 := Lib.hid (P3.out.keep hb)
    have B4 := Lib.hid (B3'.out.trans (hb.mono B3'.out.size))
    clear hb O3' P3 B3'
    go_wp2_with fail
    refine (HCr.out _).mono ?_
    rintro e w5 ⟨rfl, hb⟩
    have O5 := Lib.hid (O4.out.keep hb)
    have P5 := Lib.hid (P4.out.keep hb)
    have B5 := Lib.hid (B4.out.trans (hb.mono B4.out.size))
    clear hb O4 P4 B4
    go_wp2_with fail
    refine (HK.out _ (HG.out.below B5.out)).mono ?_
    rintro e w6 ⟨rfl, hb⟩
    have O6 := O5.out.keep hb
    have P6 := P5.out.keep hb
    have B6 := Lib.hid (B5.out.trans (hb.mono B5.out.size))
    have c0 := O6.c0
    have c1 := O6.c1
    have c2 := O6.c2
    have q0 := P6.c0
    have q1 := P6.c1
    have q2 := P6.c2
    clear hb O5 P5 B5 O6 P6
    go_wp2_with fail
    refine (HB.out _).mono ?_
    rintro e w7 ⟨rfl, hb⟩
    have B7 := Lib.hid (B6.out.trans (hb.mono B6.out.size))
    clear hb B6 c0 c1 c2 q0 q1 q2
    go_wp2_with fail
    refine (HKr.out _).mono ?_
    rintro e w8 ⟨rfl, hb⟩
    have B8 := Lib.hid (B7.out.trans (hb.mono B7.out.size))
    clear hb B7
    go_wp2_with fail
    go_ret
    exact ⟨rfl, B8.out⟩
  · have HK := Lib.hid fun w => clock_no n w hn
    rcases (by omega : n < 0 ∨ (¬ n < 0 ∧ 1440 ≤ n)) with h | ⟨h1, h2⟩
    all_goals
      clear hn
      go_enter Tryd.func7, Tryd.ntmps7
      go_wp2_with fail
      refine HW.out.mono ?_
      rintro e w1 ⟨rfl, hb⟩
      have B1 := Lib.hid hb
      clear hb
      go_wp2_with fail
      refine (HP.out _ (HG.out.below B1.out).bef).mono ?_
      rintro e w2 ⟨rfl, hb⟩
      have B2 := Lib.hid (B1.out.trans (hb.mono B1.out.size))
      clear hb B1
      go_wp2_with fail
      obtain ⟨x2, hx2⟩ : ∃ x, x = w2.alloc (Obj.cells #[.int .i64 y, .int .i64 m, .int .i64 d] 23) := ⟨_, rfl⟩
      rw [← hx2]
      have O2 := Lib.hid (show DateAt x2 w2.heap.size y m d by rw [hx2]; exact date_fresh w2 y m d)
      have B2' := Lib.hid (show Below w.heap.size w x2 by rw [hx2]; exact B2.out.alloc B2.out.size _)
      clear hx2 B2
      refine (HPr.out _).mono ?_
      rintro e w3 ⟨rfl, hb⟩
      have O3 := Lib.hid (O2.out.keep hb)
      have B3 := Lib.hid (B2'.out.trans (hb.mono B2'.out.size))
      clear hb O2 B2'
      go_wp2_with fail
      obtain ⟨x3, hx3⟩ : ∃ x, x = w3.alloc (Obj.cells #[.int .i64 y, .int .i64 m, .int .i64 d] 23) := ⟨_, rfl⟩
      rw [← hx3]
      have O3' := Lib.hid (show DateAt x3 w2.heap.size y m d by rw [hx3]; exact O3.out.keep ((Below.refl _ _).alloc (Nat.le_refl _) _))
      have P3 := Lib.hid (show DateAt x3 w3.heap.size y m d by rw [hx3]; exact date_fresh w3 y m d)
      have B3' := Lib.hid (show Below w.heap.size w x3 by rw [hx3]; exact B3.out.alloc B3.out.size _)
      clear hx3 B3 O3
      refine (HC.out _).mono ?_
      rintro e w4 ⟨rfl, hb⟩
      have O4 := Lib.hid (O3'.out.keep hb)
      have P4 := Lib.hid (P3.out.keep hb)
      have B4 := Lib.hid (B3'.out.trans (hb.mono B3'.out.size))
      clear hb O3' P3 B3'
      go_wp2_with fail
      refine (HCr.out _).mono ?_
      rintro e w5 ⟨rfl, hb⟩
      have O5 := O4.out.keep hb
      have P5 := P4.out.keep hb
      have B5 := Lib.hid (B4.out.trans (hb.mono B4.out.size))
      have c0 := O5.c0
      have c1 := O5.c1
      have c2 := O5.c2
      have q0 := P5.c0
      have q1 := P5.c1
      have q2 := P5.c2
      clear hb O4 P4 B4 O5 P5
      go_wp2_with fail
      refine (HK.out _).mono ?_
      rintro e w' ⟨rfl, rfl⟩
      go_wp2_with fail
      go_ret
      exact ⟨rfl, B5.out⟩
theorem texts_law (s : ByteArray) (n : Int) (w : World) (hg : Gl w) :
    Calls Tryd.prog 7 #[.string s, .int .i64 n] w fun e w' => e = .returned (.bool true) ∧ Below w.heap.size w w' := by
  by_cases h : s.size ≤ 100
  · exact texts_short s n w hg h
  · exact texts_long s n w hg (by omega)
end Go.Proofs.YtnlkalnpmnnadaaDoor
