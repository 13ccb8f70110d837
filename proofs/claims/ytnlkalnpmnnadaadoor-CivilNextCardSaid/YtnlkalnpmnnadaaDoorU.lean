/- The law CivilNext returns true for every input. Asked: the tables read as laid. -/
import Derived.Test.YtnlkalnpmnnadaaDoorO
import Derived.Test.YtnlkalnpmnnadaaDoorS
namespace Go.Proofs.YtnlkalnpmnnadaaDoor
open Go.RowKit

/-! the next date -/
theorem next_day (y m k : Int) (h : IsD y m k) (hk : k < dim y m) : IsD y m (k + 1) ∧ numD y m (k + 1) = numD y m k + 1 :=
  ⟨⟨h.y1, h.y2, h.m1, h.m2, by have := h.d1; omega, by omega⟩, by unfold numD; omega⟩
theorem next_month (y m k : Int) (h : IsD y m k) (hk : k = dim y m) (hm : m < 12) : IsD y (m + 1) 1 ∧ numD y (m + 1) 1 = numD y m k + 1 := by
  have h1 := h.m1
  have hd := dim_range y (m + 1) (by omega) (by omega)
  refine ⟨⟨h.y1, h.y2, by omega, by omega, by omega, by omega⟩, ?_⟩
  unfold numD
  rw [bef_succ y m h1 h.m2, hk]; omega
theorem next_year (y k : Int) (h : IsD y 12 k) (hk : k = dim y 12) (hn : numD y 12 k < 73048) : IsD (y + 1) 1 1 ∧ numD (y + 1) 1 1 = numD y 12 k + 1 := by
  have e12 : bef y 12 = 334 + lp y := rfl
  have d12 : dim y 12 = 31 := rfl
  have hs := nY_succ y
  have e : numD y 12 k + 1 = nY (y + 1) := by unfold numD; rw [hs, e12, hk, d12]; omega
  have hy : y + 1 ≤ 2199 := by
    rcases Int.lt_or_le 2199 (y + 1) with h2 | h2
    · have := nY_mono (show 2200 ≤ y + 1 by omega); rw [nY_2200] at this; omega
    · exact h2
  refine ⟨⟨by have := h.y1; omega, hy, by omega, by omega, by omega, by have := dim_range (y + 1) 1 (by omega) (by omega); omega⟩, ?_⟩
  rw [e]; unfold numD; rw [bef_one]; omega

/-! the text of a date, read -/
theorem dgt_num (n : Nat) : (dgt n).toNat = 48 + n % 10 := by
  unfold dgt; rw [UInt8.toNat_ofNat']; omega
theorem two_digs (n : Int) : digs (two n) = true := by
  unfold digs two
  simp [dgt_num]; omega
theorem two_num (a : Nat) (n : Int) (h0 : 0 ≤ n) : numF a (two n) = 100 * a + (n % 100).toNat := by
  unfold numF two
  simp [dgt_num]; omega
theorem digs_append (l r : List UInt8) (h1 : digs l = true) (h2 : digs r = true) : digs (l ++ r) = true := by
  unfold digs at *; rw [List.all_append, h1, h2]; rfl
theorem date_read (y m k : Int) (h : IsD y m k) : formL (dateL y m k) dateF = true ∧ dY (dateL y m k) = y ∧ dM (dateL y m k) = m ∧ dD (dateL y m k) = k := by
  have hr := dim_range y m h.m1 h.m2
  have h1 := h.y1
  have h2 := h.y2
  have h3 := h.m1
  have h4 := h.m2
  have h5 := h.d1
  have h6 := h.d2
  refine ⟨?_, ?_, ?_, ?_⟩
  · exact (date_form _ _ _ _ _ _ _ _ _ _).2 ⟨digs_append (two (y / 100)) (two y) (two_digs _) (two_digs _), rfl, two_digs m, rfl, two_digs k⟩
  · show ((numF 0 (two (y / 100) ++ two y) : Nat) : Int) = y
    unfold numF; rw [List.foldl_append]
    show ((numF (numF 0 (two (y / 100))) (two y) : Nat) : Int) = y
    rw [two_num _ _ (by omega), two_num _ _ (by omega)]; omega
  · show ((numF 0 (two m) : Nat) : Int) = m
    rw [two_num _ _ (by omega)]; omega
  · show ((numF 0 (two k) : Nat) : Int) = k
    rw [two_num _ _ (by omega)]; omega

/-! the order of texts -/
theorem less_same (p x z : List UInt8) (h : Op.bytesLess x z = true) : Op.bytesLess (p ++ x) (p ++ z) = true := by
  induction p with
  | nil => exact h
  | cons a p ih => simp [Op.bytesLess, ih]
theorem less_more : ∀ (u v x z : List UInt8), u.length = v.length → Op.bytesLess u v = true → Op.bytesLess (u ++ x) (v ++ z) = true
  | [], [], _, _, _, h => by simp [Op.bytesLess] at h
  | a :: u, b :: v, x, z, hl, h => by
    have ih := less_more u v x z (by simpa using hl)
    simp only [Op.bytesLess, List.cons_append, Bool.or_eq_true, Bool.and_eq_true, decide_eq_true_eq, beq_iff_eq] at h ⊢
    rcases h with h | ⟨h1, h2⟩
    · exact .inl h
    · exact .inr ⟨h1, ih h2⟩
theorem less_two (a b : Int) (x z : List UInt8) (ha : 0 ≤ a) (hb : b < 100) (h : a < b) : Op.bytesLess (two a ++ x) (two b ++ z) = true := by
  have h2 : ∀ i j : Fin 100, i < j → Op.bytesLess (two ((i.val : Nat) : Int)) (two ((j.val : Nat) : Int)) = true := by decide +kernel
  have h3 := h2 ⟨a.toNat, by omega⟩ ⟨b.toNat, by omega⟩ (by show a.toNat < b.toNat; omega)
  have e1 : ((a.toNat : Nat) : Int) = a := by omega
  have e2 : ((b.toNat : Nat) : Int) = b := by omega
  rw [e1, e2] at h3
  exact less_more _ _ _ _ rfl h3
theorem two_mod (y : Int) (h : 0 ≤ y) : two y = two (y % 100) := by
  have e1 : (y % 100).toNat / 10 % 10 = y.toNat / 10 % 10 := by omega
  have e2 : (y % 100).toNat % 10 = y.toNat % 10 := by omega
  unfold two dgt
  rw [e1, e2]
theorem less_day (y m k : Int) (h0 : 0 ≤ k) (h1 : k + 1 < 100) : Op.bytesLess (dateL y m k) (dateL y m (k + 1)) = true := by
  have h := less_two k (k + 1) [] [] h0 h1 (by omega)
  rw [List.append_nil, List.append_nil] at h
  exact less_same (two (y / 100) ++ two y ++ [45] ++ two m ++ [45]) _ _ h
theorem less_month (y m k : Int) (h0 : 0 ≤ m) (h1 : m + 1 < 100) : Op.bytesLess (dateL y m k) (dateL y (m + 1) 1) = true := by
  have h := less_two m (m + 1) ([45] ++ two k) ([45] ++ two 1) h0 h1 (by omega)
  have h2 := less_same (two (y / 100) ++ two y ++ [45]) _ _ h
  simpa [dateL] using h2
theorem less_year (y m k : Int) (h0 : 2000 ≤ y) (h1 : y ≤ 2199) : Op.bytesLess (dateL y m k) (dateL (y + 1) 1 1) = true := by
  by_cases hc : (y + 1) / 100 = y / 100
  · have h := less_two (y % 100) ((y + 1) % 100) ([45] ++ two m ++ [45] ++ two k) ([45] ++ two 1 ++ [45] ++ two 1) (by omega) (by omega) (by omega)
    rw [← two_mod y (by omega), ← two_mod (y + 1) (by omega)] at h
    have h2 := less_same (two (y / 100)) _ _ h
    have e : dateL (y + 1) 1 1 = two (y / 100) ++ two (y + 1) ++ [45] ++ two 1 ++ [45] ++ two 1 := by unfold dateL; rw [hc]
    rw [e]
    simpa [dateL] using h2
  · have h := less_two (y / 100) ((y + 1) / 100) (two y ++ [45] ++ two m ++ [45] ++ two k) (two (y + 1) ++ [45] ++ two 1 ++ [45] ++ two 1) (by omega) (by omega) (by omega)
    simpa [dateL] using h

set_option maxRecDepth 100000 in
set_option maxHeartbeats 4000000 in
theorem next_out (d : Int) (w : World) (hg : Gl w) (h : d < 0 ∨ (¬ d < 0 ∧ 73048 ≤ d)) :
    Calls Tryd.prog 8 #[.int .i64 d] w fun e w' => e = .returned (.bool true) ∧ Below w.heap.size w w' := by
  have HW := Lib.hid (awake_any w hg)
  clear hg
  rcases h with h | ⟨h1, h2⟩
  all_goals
    go_enter Tryd.func8, Tryd.ntmps8
    go_wp2_with fail
    refine HW.out.mono ?_
    rintro e w1 ⟨rfl, hb⟩
    have B1 := Lib.hid hb
    clear hb
    go_wp2_with fail
    go_ret
    exact ⟨rfl, B1.out⟩

set_option maxRecDepth 100000 in
set_option maxHeartbeats 16000000 in
theorem next_in (d y m k y' m' k' : Int) (w : World) (hg : Gl w) (h1 : 0 ≤ d) (h2 : d < 73048) (hd : IsD y m k) (hn : numD y m k = d) (hd' : IsD y' m' k') (hn' : numD y' m' k' = d + 1) (hl : Op.bytesLess (dateL y m k) (dateL y' m' k') = true)
    (key : (decide (k < dim y m) = true ∧ y = y' ∧ m = m' ∧ k' = k + 1) ∨ (decide (k < dim y m) = false ∧ decide (m < 12) = true ∧ y = y' ∧ m' = m + 1 ∧ k' = 1) ∨ (decide (k < dim y m) = false ∧ decide (m < 12) = false ∧ y' = y + 1 ∧ m' = 1 ∧ k' = 1)) :
    Calls Tryd.prog 8 #[.int .i64 d] w fun e w' => e = .returned (.bool true) ∧ Below w.heap.size w w' := by
  have HW := Lib.hid (awake_any w hg)
  have HG := Lib.hid hg
  have HO := Lib.hid fun w (h : BefT w) => of_at d y m k w h hd hn
  have HO' := Lib.hid fun w (h : BefT w) => of_at (d + 1) y' m' k' w h hd' hn'
  have hD := fun w (h : BefT w) => day_yes y m k w h hd
  rw [hn] at hD
  have HD := Lib.hid hD
  have HT := Lib.hid fun w (h : Gl w) => text_yes y m k w h.bef h.tab hd
  have HT' := Lib.hid fun w (h : Gl w) => text_yes y' m' k' w h.bef h.tab hd'
  obtain ⟨r0, r1, r2, r3⟩ := date_read y m k hd
  have hP := fun w (h : BefT w) => parse_ok (bs (dateL y m k)) w (by show 10 ≤ 100; omega) h r0 (by rw [bs_data, r1, r2, r3]; exact (checkI_ok y m k).2 hd)
  rw [bs_data, r1, r2, r3] at hP
  have hC := fun w (h : BefT w) => check_any y m k w h
  rw [(checkI_ok y m k).2 hd] at hC
  have HC := Lib.hid hC
  have HI := Lib.hid fun w (h : BefT w) => daysIn_any y m w h
  have b1 : 2000 ≤ y ∧ y ≤ 2199 ∧ 1 ≤ m ∧ m ≤ 12 ∧ 1 ≤ k ∧ k ≤ 31 := ⟨hd.y1, hd.y2, hd.m1, hd.m2, hd.d1, by have := hd.d2; have := dim_range y m hd.m1 hd.m2; omega⟩
  obtain ⟨S, hS⟩ : ∃ S, S = bs (dateL y m k) := ⟨_, rfl⟩
  obtain ⟨T, hT⟩ : ∃ S, S = bs (dateL y' m' k') := ⟨_, rfl⟩
  have hl' : Op.bytesLess S.toList T.toList = true := by rw [hS, hT, toList_eq, toList_eq]; exact hl
  rw [← hS] at HT hP
  rw [← hT] at HT'
  have HP := Lib.hid hP
  obtain ⟨D, hDD⟩ : ∃ D, D = dim y m := ⟨_, rfl⟩
  rw [← hDD] at HI key
  have t1 : (d != d) = false := bne_self_eq_false _
  have t2 : (y != y) = false := bne_self_eq_false _
  have t3 : (m != m) = false := bne_self_eq_false _
  have t4 : (k != k) = false := bne_self_eq_false _
  have t5 : (y == y) = true := beq_self_eq_true _
  have t6 : (m == m) = true := beq_self_eq_true _
  have t7 : (k == k) = true := beq_self_eq_true _
  obtain ⟨b2, b3, b4, b5, b6, b7⟩ := b1
  clear hD hP hC hS hT hl hDD r0 r1 r2 r3 hd hn hd' hn' hg
  rcases key with ⟨k1, rfl, rfl, rfl⟩ | ⟨k1, k2, rfl, rfl, rfl⟩ | ⟨k1, k2, rfl, rfl, rfl⟩
  · go_enter Tryd.func8, Tryd.ntmps8
    go_wp2_with fail
    refine HW.out.mono ?_
    rintro e w1 ⟨rfl, hb⟩
    have B1 := Lib.hid hb
    clear hb
    go_wp2_with fail
    refine (HO.out _ (HG.out.below B1.out).bef).mono ?_
    rintro e w2 ⟨rfl, hb⟩
    have B2 := Lib.hid (B1.out.trans (hb.mono B1.out.size))
    clear hb B1
    go_wp2_with fail
    refine (HO'.out _ (HG.out.below (B2.out.alloc B2.out.size _)).bef).mono ?_
    rintro e w3 ⟨rfl, hb⟩
    have A3 := Lib.hid ((date_fresh w2 _ _ _).keep hb)
    have B3 := Lib.hid ((B2.out.alloc B2.out.size _).trans (hb.mono (B2.out.alloc B2.out.size _).size))
    clear hb B2
    have c0 := A3.out.c0
    have c1 := A3.out.c1
    have c2 := A3.out.c2
    have hne : w2.heap.size < w3.heap.size := World.block_lt_of_cell? _ _ c0
    go_wp2_with fail
    clear c0 c1 c2 hne
    have C3 := Lib.hid (A3.out.keep ((Below.refl _ _).alloc (Nat.le_refl _) _ : Below w3.heap.size w3 (w3.alloc (Obj.cells #[.int .i64 y, .int .i64 m, .int .i64 (k + 1)] 23))))
    have Q3 := Lib.hid (date_fresh w3 y m (k + 1))
    have B3' := Lib.hid (B3.out.alloc B3.out.size (Obj.cells #[.int .i64 y, .int .i64 m, .int .i64 (k + 1)] 23))
    clear A3 B3
    refine (HD.out _ (HG.out.below B3'.out).bef).mono ?_
    rintro e w4 ⟨rfl, hb⟩
    have A4 := Lib.hid (C3.out.keep hb)
    have Q4 := Lib.hid (Q3.out.keep hb)
    have B4 := Lib.hid (B3'.out.trans (hb.mono B3'.out.size))
    have c0 := A4.out.c0
    have c1 := A4.out.c1
    have c2 := A4.out.c2
    clear hb C3 Q3 B3'
    go_wp2_with fail
    clear c0 c1 c2
    refine (HT.out _ (HG.out.below B4.out)).mono ?_
    rintro e w5 ⟨rfl, hb⟩
    have A5 := Lib.hid (A4.out.keep hb)
    have Q5 := Lib.hid (Q4.out.keep hb)
    have B5 := Lib.hid (B4.out.trans (hb.mono B4.out.size))
    have c0 := Q5.out.c0
    have c1 := Q5.out.c1
    have c2 := Q5.out.c2
    clear hb A4 Q4 B4
    go_wp2_with fail
    clear c0 c1 c2
    refine (HT'.out _ (HG.out.below B5.out)).mono ?_
    rintro e w6 ⟨rfl, hb⟩
    have A6 := Lib.hid (A5.out.keep hb)
    have Q6 := Lib.hid (Q5.out.keep hb)
    have B6 := Lib.hid (B5.out.trans (hb.mono B5.out.size))
    clear hb A5 Q5 B5
    go_wp2_with fail
    refine (HP.out _ (HG.out.below B6.out).bef).mono ?_
    rintro e w7 ⟨rfl, hb⟩
    have A7 := A6.out.keep hb
    have Q7 := Q6.out.keep hb
    have B7 := Lib.hid (B6.out.trans (hb.mono B6.out.size))
    clear hb A6 Q6 B6
    obtain ⟨x7, hx7⟩ : ∃ x, x = w7.alloc (Obj.cells #[.int .i64 y, .int .i64 m, .int .i64 k] 23) := ⟨_, rfl⟩
    have A8 := Lib.hid (show DateAt x7 w2.heap.size y m k by rw [hx7]; exact A7.keep ((Below.refl _ _).alloc (Nat.le_refl _) _))
    have Q8 := Lib.hid (show DateAt x7 w3.heap.size y m (k + 1) by rw [hx7]; exact Q7.keep ((Below.refl _ _).alloc (Nat.le_refl _) _))
    have B8 := Lib.hid (show Below w.heap.size w x7 by rw [hx7]; exact B7.out.alloc B7.out.size _)
    have HX := Lib.hid hx7
    clear hx7
    have c0 := A7.c0
    have c1 := A7.c1
    have c2 := A7.c2
    have hne : w2.heap.size < w7.heap.size := World.block_lt_of_cell? _ _ c0
    clear A7 Q7
    go_wp2_with fail
    clear c0 c1 c2 hne
    rw [← HX.out]
    refine (HC.out _ (HG.out.below B8.out).bef).mono ?_
    rintro e w9 ⟨rfl, hb⟩
    have A9 := A8.out.keep hb
    have Q9 := Q8.out.keep hb
    have B9 := Lib.hid (B8.out.trans (hb.mono B8.out.size))
    have c0 := A9.c0
    have c1 := A9.c1
    have c2 := A9.c2
    have q0 := Q9.c0
    have q1 := Q9.c1
    have q2 := Q9.c2
    clear hb A8 Q8 B8 A9 Q9
    go_wp2_with fail
    go_quiet ((go_at_call 14; exact Calls.quiet_of_same ((HI.out _ (HG.out.below (bdraw B9.out _)).bef).mono fun e w' h => ⟨h.1, h.2.symm⟩)))
    go_wp2_with fail
    go_ret
    exact ⟨rfl, bdraw B9.out _⟩
  · go_enter Tryd.func8, Tryd.ntmps8
    go_wp2_with fail
    refine HW.out.mono ?_
    rintro e w1 ⟨rfl, hb⟩
    have B1 := Lib.hid hb
    clear hb
    go_wp2_with fail
    refine (HO.out _ (HG.out.below B1.out).bef).mono ?_
    rintro e w2 ⟨rfl, hb⟩
    have B2 := Lib.hid (B1.out.trans (hb.mono B1.out.size))
    clear hb B1
    go_wp2_with fail
    refine (HO'.out _ (HG.out.below (B2.out.alloc B2.out.size _)).bef).mono ?_
    rintro e w3 ⟨rfl, hb⟩
    have A3 := Lib.hid ((date_fresh w2 _ _ _).keep hb)
    have B3 := Lib.hid ((B2.out.alloc B2.out.size _).trans (hb.mono (B2.out.alloc B2.out.size _).size))
    clear hb B2
    have c0 := A3.out.c0
    have c1 := A3.out.c1
    have c2 := A3.out.c2
    have hne : w2.heap.size < w3.heap.size := World.block_lt_of_cell? _ _ c0
    go_wp2_with fail
    clear c0 c1 c2 hne
    have C3 := Lib.hid (A3.out.keep ((Below.refl _ _).alloc (Nat.le_refl _) _ : Below w3.heap.size w3 (w3.alloc (Obj.cells #[.int .i64 y, .int .i64 (m + 1), .int .i64 1] 23))))
    have Q3 := Lib.hid (date_fresh w3 y (m + 1) 1)
    have B3' := Lib.hid (B3.out.alloc B3.out.size (Obj.cells #[.int .i64 y, .int .i64 (m + 1), .int .i64 1] 23))
    clear A3 B3
    refine (HD.out _ (HG.out.below B3'.out).bef).mono ?_
    rintro e w4 ⟨rfl, hb⟩
    have A4 := Lib.hid (C3.out.keep hb)
    have Q4 := Lib.hid (Q3.out.keep hb)
    have B4 := Lib.hid (B3'.out.trans (hb.mono B3'.out.size))
    have c0 := A4.out.c0
    have c1 := A4.out.c1
    have c2 := A4.out.c2
    clear hb C3 Q3 B3'
    go_wp2_with fail
    clear c0 c1 c2
    refine (HT.out _ (HG.out.below B4.out)).mono ?_
    rintro e w5 ⟨rfl, hb⟩
    have A5 := Lib.hid (A4.out.keep hb)
    have Q5 := Lib.hid (Q4.out.keep hb)
    have B5 := Lib.hid (B4.out.trans (hb.mono B4.out.size))
    have c0 := Q5.out.c0
    have c1 := Q5.out.c1
    have c2 := Q5.out.c2
    clear hb A4 Q4 B4
    go_wp2_with fail
    clear c0 c1 c2
    refine (HT'.out _ (HG.out.below B5.out)).mono ?_
    rintro e w6 ⟨rfl, hb⟩
    have A6 := Lib.hid (A5.out.keep hb)
    have Q6 := Lib.hid (Q5.out.keep hb)
    have B6 := Lib.hid (B5.out.trans (hb.mono B5.out.size))
    clear hb A5 Q5 B5
    go_wp2_with fail
    refine (HP.out _ (HG.out.below B6.out).bef).mono ?_
    rintro e w7 ⟨rfl, hb⟩
    have A7 := A6.out.keep hb
    have Q7 := Q6.out.keep hb
    have B7 := Lib.hid (B6.out.trans (hb.mono B6.out.size))
    clear hb A6 Q6 B6
    obtain ⟨x7, hx7⟩ : ∃ x, x = w7.alloc (Obj.cells #[.int .i64 y, .int .i64 m, .int .i64 k] 23) := ⟨_, rfl⟩
    have A8 := Lib.hid (show DateAt x7 w2.heap.size y m k by rw [hx7]; exact A7.keep ((Below.refl _ _).alloc (Nat.le_refl _) _))
    have Q8 := Lib.hid (show DateAt x7 w3.heap.size y (m + 1) 1 by rw [hx7]; exact Q7.keep ((Below.refl _ _).alloc (Nat.le_refl _) _))
    have B8 := Lib.hid (show Below w.heap.size w x7 by rw [hx7]; exact B7.out.alloc B7.out.size _)
    have HX := Lib.hid hx7
    clear hx7
    have c0 := A7.c0
    have c1 := A7.c1
    have c2 := A7.c2
    have hne : w2.heap.size < w7.heap.size := World.block_lt_of_cell? _ _ c0
    clear A7 Q7
    go_wp2_with fail
    clear c0 c1 c2 hne
    rw [← HX.out]
    refine (HC.out _ (HG.out.below B8.out).bef).mono ?_
    rintro e w9 ⟨rfl, hb⟩
    have A9 := A8.out.keep hb
    have Q9 := Q8.out.keep hb
    have B9 := Lib.hid (B8.out.trans (hb.mono B8.out.size))
    have c0 := A9.c0
    have c1 := A9.c1
    have c2 := A9.c2
    have q0 := Q9.c0
    have q1 := Q9.c1
    have q2 := Q9.c2
    clear hb A8 Q8 B8 A9 Q9
    go_wp2_with fail
    go_quiet ((go_at_call 14; exact Calls.quiet_of_same ((HI.out _ (HG.out.below (bdraw B9.out _)).bef).mono fun e w' h => ⟨h.1, h.2.symm⟩)))
    go_wp2_with fail
    go_ret
    exact ⟨rfl, bdraw B9.out _⟩
  · go_enter Tryd.func8, Tryd.ntmps8
    go_wp2_with fail
    refine HW.out.mono ?_
    rintro e w1 ⟨rfl, hb⟩
    have B1 := Lib.hid hb
    clear hb
    go_wp2_with fail
    refine (HO.out _ (HG.out.below B1.out).bef).mono ?_
    rintro e w2 ⟨rfl, hb⟩
    have B2 := Lib.hid (B1.out.trans (hb.mono B1.out.size))
    clear hb B1
    go_wp2_with fail
    refine (HO'.out _ (HG.out.below (B2.out.alloc B2.out.size _)).bef).mono ?_
    rintro e w3 ⟨rfl, hb⟩
    have A3 := Lib.hid ((date_fresh w2 _ _ _).keep hb)
    have B3 := Lib.hid ((B2.out.alloc B2.out.size _).trans (hb.mono (B2.out.alloc B2.out.size _).size))
    clear hb B2
    have c0 := A3.out.c0
    have c1 := A3.out.c1
    have c2 := A3.out.c2
    have hne : w2.heap.size < w3.heap.size := World.block_lt_of_cell? _ _ c0
    go_wp2_with fail
    clear c0 c1 c2 hne
    have C3 := Lib.hid (A3.out.keep ((Below.refl _ _).alloc (Nat.le_refl _) _ : Below w3.heap.size w3 (w3.alloc (Obj.cells #[.int .i64 (y + 1), .int .i64 1, .int .i64 1] 23))))
    have Q3 := Lib.hid (date_fresh w3 (y + 1) 1 1)
    have B3' := Lib.hid (B3.out.alloc B3.out.size (Obj.cells #[.int .i64 (y + 1), .int .i64 1, .int .i64 1] 23))
    clear A3 B3
    refine (HD.out _ (HG.out.below B3'.out).bef).mono ?_
    rintro e w4 ⟨rfl, hb⟩
    have A4 := Lib.hid (C3.out.keep hb)
    have Q4 := Lib.hid (Q3.out.keep hb)
    have B4 := Lib.hid (B3'.out.trans (hb.mono B3'.out.size))
    have c0 := A4.out.c0
    have c1 := A4.out.c1
    have c2 := A4.out.c2
    clear hb C3 Q3 B3'
    go_wp2_with fail
    clear c0 c1 c2
    refine (HT.out _ (HG.out.below B4.out)).mono ?_
    rintro e w5 ⟨rfl, hb⟩
    have A5 := Lib.hid (A4.out.keep hb)
    have Q5 := Lib.hid (Q4.out.keep hb)
    have B5 := Lib.hid (B4.out.trans (hb.mono B4.out.size))
    have c0 := Q5.out.c0
    have c1 := Q5.out.c1
    have c2 := Q5.out.c2
    clear hb A4 Q4 B4
    go_wp2_with fail
    clear c0 c1 c2
    refine (HT'.out _ (HG.out.below B5.out)).mono ?_
    rintro e w6 ⟨rfl, hb⟩
    have A6 := Lib.hid (A5.out.keep hb)
    have Q6 := Lib.hid (Q5.out.keep hb)
    have B6 := Lib.hid (B5.out.trans (hb.mono B5.out.size))
    clear hb A5 Q5 B5
    go_wp2_with fail
    refine (HP.out _ (HG.out.below B6.out).bef).mono ?_
    rintro e w7 ⟨rfl, hb⟩
    have A7 := A6.out.keep hb
    have Q7 := Q6.out.keep hb
    have B7 := Lib.hid (B6.out.trans (hb.mono B6.out.size))
    clear hb A6 Q6 B6
    obtain ⟨x7, hx7⟩ : ∃ x, x = w7.alloc (Obj.cells #[.int .i64 y, .int .i64 m, .int .i64 k] 23) := ⟨_, rfl⟩
    have A8 := Lib.hid (show DateAt x7 w2.heap.size y m k by rw [hx7]; exact A7.keep ((Below.refl _ _).alloc (Nat.le_refl _) _))
    have Q8 := Lib.hid (show DateAt x7 w3.heap.size (y + 1) 1 1 by rw [hx7]; exact Q7.keep ((Below.refl _ _).alloc (Nat.le_refl _) _))
    have B8 := Lib.hid (show Below w.heap.size w x7 by rw [hx7]; exact B7.out.alloc B7.out.size _)
    have HX := Lib.hid hx7
    clear hx7
    have c0 := A7.c0
    have c1 := A7.c1
    have c2 := A7.c2
    have hne : w2.heap.size < w7.heap.size := World.block_lt_of_cell? _ _ c0
    clear A7 Q7
    go_wp2_with fail
    clear c0 c1 c2 hne
    rw [← HX.out]
    refine (HC.out _ (HG.out.below B8.out).bef).mono ?_
    rintro e w9 ⟨rfl, hb⟩
    have A9 := A8.out.keep hb
    have Q9 := Q8.out.keep hb
    have B9 := Lib.hid (B8.out.trans (hb.mono B8.out.size))
    have c0 := A9.c0
    have c1 := A9.c1
    have c2 := A9.c2
    have q0 := Q9.c0
    have q1 := Q9.c1
    have q2 := Q9.c2
    clear hb A8 Q8 B8 A9 Q9
    go_wp2_with fail
    go_quiet ((go_at_call 14; exact Calls.quiet_of_same ((HI.out _ (HG.out.below (bdraw B9.out _)).bef).mono fun e w' h => ⟨h.1, h.2.symm⟩)))
    go_wp2_with fail
    go_ret
    exact ⟨rfl, bdraw B9.out _⟩
theorem next_law (d : Int) (w : World) (hg : Gl w) :
    Calls Tryd.prog 8 #[.int .i64 d] w fun e w' => e = .returned (.bool true) ∧ Below w.heap.size w w' := by
  by_cases h : 0 ≤ d ∧ d < 73048
  · obtain ⟨y, m, k, hd, hn⟩ := day_date d h.1 (by omega)
    have hr := dim_range y m hd.m1 hd.m2
    have hk1 := hd.d1
    have hk2 := hd.d2
    by_cases hk : k < dim y m
    · obtain ⟨a, b⟩ := next_day y m k hd hk
      exact next_in d y m k _ _ _ w hg h.1 h.2 hd hn a (by rw [b, hn]) (less_day y m k (by omega) (by omega)) (.inl ⟨decide_eq_true hk, rfl, rfl, rfl⟩)
    · by_cases hm : m < 12
      · obtain ⟨a, b⟩ := next_month y m k hd (by omega) hm
        exact next_in d y m k _ _ _ w hg h.1 h.2 hd hn a (by rw [b, hn]) (less_month y m k (by have := hd.m1; omega) (by omega)) (.inr (.inl ⟨decide_eq_false hk, decide_eq_true hm, rfl, rfl, rfl⟩))
      · obtain rfl : m = 12 := by have := hd.m2; omega
        obtain ⟨a, b⟩ := next_year y k hd (by omega) (by omega)
        exact next_in d y 12 k _ _ _ w hg h.1 h.2 hd hn a (by rw [b, hn]) (less_year y 12 k hd.y1 hd.y2) (.inr (.inr ⟨decide_eq_false hk, decide_eq_false hm, rfl, rfl, rfl⟩))
  · exact next_out d w hg (by omega)
end Go.Proofs.YtnlkalnpmnnadaaDoor
