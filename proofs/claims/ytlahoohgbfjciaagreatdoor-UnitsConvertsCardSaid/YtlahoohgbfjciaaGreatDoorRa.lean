/- The specification's divisor and Valid. -/
import Derived.Test.YtlahoohgbfjciaaGreatDoorUc
namespace Go.Proofs.YtlahoohgbfjciaaGreatDoor
open Go.RowKit Go.Shelf

theorem unit_freshT (w : World) (t : TypeId) (e0 e1 e2 e3 n d o : Int) : UnitAt (w.alloc (Obj.cells #[.int .i64 e0, .int .i64 e1, .int .i64 e2, .int .i64 e3, .int .i64 n, .int .i64 d, .int .i64 o] t)) w.heap.size e0 e1 e2 e3 n d o :=
  ⟨World.cell?_alloc_new _ _ _ _, World.cell?_alloc_new _ _ _ _, World.cell?_alloc_new _ _ _ _, World.cell?_alloc_new _ _ _ _, World.cell?_alloc_new _ _ _ _, World.cell?_alloc_new _ _ _ _, World.cell?_alloc_new _ _ _ _, fun o => by simp⟩
set_option maxHeartbeats 1000000 in
theorem rdivisor_any (a b : Nat) (w : World) (ha : a ≤ 4611686018427387904) (hb : b ≤ 4611686018427387904) :
    Calls Tryz.prog 30 #[.int .i64 a, .int .i64 b] w fun e w' => e = .returned (.int .i64 (Nat.gcd a b)) ∧ Below w.heap.size w w' := by
  obtain ⟨G, hG⟩ : ∃ G, G = Nat.gcd a b := ⟨_, rfl⟩
  have HG := Lib.hid hG
  have HB := Lib.hid (And.intro ha hb)
  rw [← hG]
  clear hG ha hb
  go_enter Tryz.func30, Tryz.ntmps30
  go_wp2_with fail
  go_loopw [0, 1] (fun x y wr => ∃ p q : Nat, x = .int .i64 p ∧ y = .int .i64 q ∧ p ≤ 4611686018427387904 ∧ q ≤ 4611686018427387904 ∧ Hid (Nat.gcd p q = G) ∧ Below w.heap.size w wr) (fun _ y _ => (intOf y).toNat)
  case atStart => exact ⟨a, b, rfl, rfl, HB.out.1, HB.out.2, HG.out.symm, Below.refl _ _⟩
  case round =>
    obtain ⟨p, q, rfl, rfl, hp, hq, hg, hbel⟩ := hrel
    have BR := Lib.hid hbel
    clear hbel
    by_cases h0 : q = 0
    · subst h0
      have hgp : p = G := by have := hg.out; rwa [Nat.gcd_zero_right] at this
      subst hgp
      clear hg
      go_wp2_with fail
      go_ret
      exact ⟨rfl, BR.out⟩
    · have t0 : ((q : Int) != 0) = true := by rw [bne_iff_ne]; omega
      have t1 : ((q : Int) == 0) = false := by rw [beq_eq_false_iff_ne]; omega
      have t2 : (q == 0) = false := by rw [beq_eq_false_iff_ne]; omega
      have t3 : (q != 0) = true := by rw [bne_iff_ne]; omega
      have t4 : ¬ q = 0 := h0
      obtain ⟨r, hr⟩ : ∃ r, r = p % q := ⟨_, rfl⟩
      have f1 : (p : Int).tmod (q : Int) = (r : Int) := by
        rw [hr, Int.tmod_eq_emod_of_nonneg (by omega)]
        omega
      have f2 : p % q = r := hr.symm
      have hlt : r < q := by rw [hr]; exact Nat.mod_lt _ (by omega)
      have HN := Lib.hid (show Nat.gcd q r = G by rw [hr, gcd_step]; exact hg.out)
      have HL := Lib.hid hlt
      have HQ := Lib.hid hq
      clear hr hlt h0 hg hp hq
      go_wp2_with fail
      go_quiet (fail)
      go_wp2_with fail
      go_roundw
      case rel => exact ⟨q, r, rfl, rfl, HQ.out, by have := HL.out; have := HQ.out; omega, HN, BR.out.trans ⟨rfl, rfl, rfl, Nat.le_refl _, fun _ _ => rfl⟩⟩
      case measure => have := HL.out; simp [intOf]; omega
theorem rdivisor_int (n d : Int) (w : World) (h1 : inScaleB n = true) (h2 : inScaleB d = true) :
    Calls Tryz.prog 30 #[.int .i64 n, .int .i64 d] w fun e w' => e = .returned (.int .i64 (Nat.gcd n.toNat d.toNat)) ∧ Below w.heap.size w w' := by
  rw [inScale_iff] at h1 h2
  have := rdivisor_any n.toNat d.toNat w (by omega) (by omega)
  rwa [Int.toNat_of_nonneg (by omega), Int.toNat_of_nonneg (by omega)] at this
set_option maxHeartbeats 4000000 in
set_option maxRecDepth 100000 in
theorem rvalid_any (e0 e1 e2 e3 n d o : Int) (w : World) :
    Calls Tryz.prog 14 #[.agg #[.int .i64 e0, .int .i64 e1, .int .i64 e2, .int .i64 e3, .int .i64 n, .int .i64 d, .int .i64 o]] w fun e w' => e = .returned (.bool (validB ⟨e0, e1, e2, e3, n, d, o⟩)) ∧ Below w.heap.size w w' := by
  have hZ : validB ⟨e0, e1, e2, e3, n, d, o⟩ = (expB e0 && expB e1 && expB e2 && expB e3 && (inScaleB n && inScaleB d && (Nat.gcd n.toNat d.toNat == 1)) && (decide (-1000000 ≤ o) && decide (o ≤ 1000000)) && (decide (o = 0) || decide (e0 = 0 ∧ e1 = 0 ∧ e2 = 0 ∧ e3 = 1))) := rfl
  obtain ⟨Z, hZZ⟩ : ∃ Z, Z = validB ⟨e0, e1, e2, e3, n, d, o⟩ := ⟨_, rfl⟩
  rw [← hZZ] at hZ ⊢
  have HZ := Lib.hid hZ
  clear hZ hZZ
  go_enter Tryz.func14, Tryz.ntmps14
  go_wp2_with fail
  have BW := Lib.hid ((Below.refl w.heap.size w).alloc (Nat.le_refl _) (Obj.cells #[.int .i64 e0, .int .i64 e1, .int .i64 e2, .int .i64 e3, .int .i64 n, .int .i64 d, .int .i64 o] 24))
  have u := unit_freshT w 24 e0 e1 e2 e3 n d o
  obtain ⟨g, hg⟩ : ∃ g, g = w.heap.size := ⟨_, rfl⟩
  obtain ⟨W, hW⟩ : ∃ x, x = w.alloc (Obj.cells #[.int .i64 e0, .int .i64 e1, .int .i64 e2, .int .i64 e3, .int .i64 n, .int .i64 d, .int .i64 o] 24) := ⟨_, rfl⟩
  rw [← hW, ← hg] at u
  rw [← hW]
  rw [← hW] at BW
  try rw [← hg]
  have HU := Lib.hid u
  obtain ⟨c0, c1, c2, c3, c4, c5, c6, cz⟩ := u
  clear hg hW
  go_loop [3] (fun i => i = .int .i64 0 ∨ (i = .int .i64 1 ∧ Hid (expB e0 = true)) ∨ (i = .int .i64 2 ∧ Hid (expB e0 = true ∧ expB e1 = true)) ∨ (i = .int .i64 3 ∧ Hid (expB e0 = true ∧ expB e1 = true ∧ expB e2 = true)) ∨ (i = .int .i64 4 ∧ Hid (expB e0 = true ∧ expB e1 = true ∧ expB e2 = true ∧ expB e3 = true))) (fun i => 4 - (intOf i).toNat)
  case atStart => exact .inl rfl
  case round =>
    rcases hrel with rfl | ⟨rfl, hk⟩ | ⟨rfl, hk⟩ | ⟨rfl, hk⟩ | ⟨rfl, hk⟩
    · by_cases h1 : e0 < -9
      · have t1 : decide (e0 < -9) = true := decide_eq_true h1
        have HF := Lib.hid (show Z = false by rw [HZ.out, exp_bad (.inl h1)]; simp)
        clear h1
        go_wp2_with fail
        go_ret
        exact ⟨by rw [HF.out]; rfl, BW.out⟩
      · have t1 : decide (e0 < -9) = false := decide_eq_false h1
        by_cases h2 : 9 < e0
        · have t2 : decide (9 < e0) = true := decide_eq_true h2
          have HF := Lib.hid (show Z = false by rw [HZ.out, exp_bad (.inr h2)]; simp)
          clear h1 h2
          go_wp2_with fail
          go_ret
          exact ⟨by rw [HF.out]; rfl, BW.out⟩
        · have t2 : decide (9 < e0) = false := decide_eq_false h2
          go_wp2_with fail
          go_round
          case rel => exact .inr (.inl ⟨rfl, Lib.hid (exp_good h1 h2 : expB e0 = true)⟩)
          case measure => simp [intOf]
    · by_cases h1 : e1 < -9
      · have t1 : decide (e1 < -9) = true := decide_eq_true h1
        have HF := Lib.hid (show Z = false by rw [HZ.out, exp_bad (.inl h1)]; simp)
        clear h1
        go_wp2_with fail
        go_ret
        exact ⟨by rw [HF.out]; rfl, BW.out⟩
      · have t1 : decide (e1 < -9) = false := decide_eq_false h1
        by_cases h2 : 9 < e1
        · have t2 : decide (9 < e1) = true := decide_eq_true h2
          have HF := Lib.hid (show Z = false by rw [HZ.out, exp_bad (.inr h2)]; simp)
          clear h1 h2
          go_wp2_with fail
          go_ret
          exact ⟨by rw [HF.out]; rfl, BW.out⟩
        · have t2 : decide (9 < e1) = false := decide_eq_false h2
          go_wp2_with fail
          go_round
          case rel => exact .inr (.inr (.inl ⟨rfl, Lib.hid (⟨hk.out, exp_good h1 h2⟩ : expB e0 = true ∧ expB e1 = true)⟩))
          case measure => simp [intOf]
    · by_cases h1 : e2 < -9
      · have t1 : decide (e2 < -9) = true := decide_eq_true h1
        have HF := Lib.hid (show Z = false by rw [HZ.out, exp_bad (.inl h1)]; simp)
        clear h1
        go_wp2_with fail
        go_ret
        exact ⟨by rw [HF.out]; rfl, BW.out⟩
      · have t1 : decide (e2 < -9) = false := decide_eq_false h1
        by_cases h2 : 9 < e2
        · have t2 : decide (9 < e2) = true := decide_eq_true h2
          have HF := Lib.hid (show Z = false by rw [HZ.out, exp_bad (.inr h2)]; simp)
          clear h1 h2
          go_wp2_with fail
          go_ret
          exact ⟨by rw [HF.out]; rfl, BW.out⟩
        · have t2 : decide (9 < e2) = false := decide_eq_false h2
          go_wp2_with fail
          go_round
          case rel => exact .inr (.inr (.inr (.inl ⟨rfl, Lib.hid (⟨hk.out.1, hk.out.2, exp_good h1 h2⟩ : expB e0 = true ∧ expB e1 = true ∧ expB e2 = true)⟩)))
          case measure => simp [intOf]
    · by_cases h1 : e3 < -9
      · have t1 : decide (e3 < -9) = true := decide_eq_true h1
        have HF := Lib.hid (show Z = false by rw [HZ.out, exp_bad (.inl h1)]; simp)
        clear h1
        go_wp2_with fail
        go_ret
        exact ⟨by rw [HF.out]; rfl, BW.out⟩
      · have t1 : decide (e3 < -9) = false := decide_eq_false h1
        by_cases h2 : 9 < e3
        · have t2 : decide (9 < e3) = true := decide_eq_true h2
          have HF := Lib.hid (show Z = false by rw [HZ.out, exp_bad (.inr h2)]; simp)
          clear h1 h2
          go_wp2_with fail
          go_ret
          exact ⟨by rw [HF.out]; rfl, BW.out⟩
        · have t2 : decide (9 < e3) = false := decide_eq_false h2
          go_wp2_with fail
          go_round
          case rel => exact .inr (.inr (.inr (.inr (⟨rfl, Lib.hid (⟨hk.out.1, hk.out.2.1, hk.out.2.2, exp_good h1 h2⟩ : expB e0 = true ∧ expB e1 = true ∧ expB e2 = true ∧ expB e3 = true)⟩))))
          case measure => simp [intOf]
    · have HZ2 := Lib.hid (show Z = ((inScaleB n && inScaleB d && (Nat.gcd n.toNat d.toNat == 1)) && (decide (-1000000 ≤ o) && decide (o ≤ 1000000)) && (decide (o = 0) || decide (e0 = 0 ∧ e1 = 0 ∧ e2 = 0 ∧ e3 = 1))) by rw [HZ.out, hk.out.1, hk.out.2.1, hk.out.2.2.1, hk.out.2.2.2]; simp)
      clear HZ hk
      by_cases hc : n < 1
      · have HF := Lib.hid (show Z = false by rw [HZ2.out, show inScaleB n = false from by rw [Bool.eq_false_iff]; intro h; rw [inScale_iff] at h; omega]; simp)
        go_wp2_with fail
        go_ret
        exact ⟨by rw [HF.out]; rfl, BW.out⟩
      · by_cases hc : 100000000000 < n
        · have HF := Lib.hid (show Z = false by rw [HZ2.out, show inScaleB n = false from by rw [Bool.eq_false_iff]; intro h; rw [inScale_iff] at h; omega]; simp)
          go_wp2_with fail
          go_ret
          exact ⟨by rw [HF.out]; rfl, BW.out⟩
        · by_cases hc : d < 1
          · have HF := Lib.hid (show Z = false by rw [HZ2.out, show inScaleB d = false from by rw [Bool.eq_false_iff]; intro h; rw [inScale_iff] at h; omega]; simp)
            go_wp2_with fail
            go_ret
            exact ⟨by rw [HF.out]; rfl, BW.out⟩
          · by_cases hc : 100000000000 < d
            · have HF := Lib.hid (show Z = false by rw [HZ2.out, show inScaleB d = false from by rw [Bool.eq_false_iff]; intro h; rw [inScale_iff] at h; omega]; simp)
              go_wp2_with fail
              go_ret
              exact ⟨by rw [HF.out]; rfl, BW.out⟩
            · have s1 : inScaleB n = true := (inScale_iff n).2 ⟨by omega, by omega⟩
              have s2 : inScaleB d = true := (inScale_iff d).2 ⟨by omega, by omega⟩
              have H3 := fun w' => rdivisor_int n d w' s1 s2
              have hz3 : Z = ((Nat.gcd n.toNat d.toNat == 1) && (decide (-1000000 ≤ o) && decide (o ≤ 1000000)) && (decide (o = 0) || decide (e0 = 0 ∧ e1 = 0 ∧ e2 = 0 ∧ e3 = 1))) := by rw [HZ2.out, s1, s2]; simp
              obtain ⟨G, hG⟩ : ∃ G : Nat, G = Nat.gcd n.toNat d.toNat := ⟨_, rfl⟩
              rw [← hG] at H3 hz3
              have HZ3 := Lib.hid hz3
              have HD3 := Lib.hid H3
              clear H3 hz3 s1 s2 hG HZ2
              go_wp2_with fail
              refine (HD3.out _).mono ?_
              rintro e w1 ⟨rfl, hb⟩
              have HU1 := Lib.hid (HU.out.keep hb)
              have B1 := Lib.hid (BW.out.trans (hb.mono BW.out.size))
              clear hb c0 c1 c2 c3 c4 c5 c6 cz BW
              obtain ⟨c0, c1, c2, c3, c4, c5, c6, cz⟩ := HU1.out
              by_cases hg1 : G = 1
              · subst hg1
                by_cases o1 : o < -1000000
                · have HF := Lib.hid (show Z = false by rw [HZ3.out, decide_eq_false (show ¬ -1000000 ≤ o by omega)]; simp)
                  go_wp2_with fail
                  go_ret
                  exact ⟨by rw [HF.out]; rfl, B1.out⟩
                · by_cases o2 : 1000000 < o
                  · have HF := Lib.hid (show Z = false by rw [HZ3.out, decide_eq_false (show ¬ o ≤ 1000000 by omega)]; simp)
                    go_wp2_with fail
                    go_ret
                    exact ⟨by rw [HF.out]; rfl, B1.out⟩
                  · have hz4 : Z = (decide (o = 0) || decide (e0 = 0 ∧ e1 = 0 ∧ e2 = 0 ∧ e3 = 1)) := by rw [HZ3.out, decide_eq_true (show -1000000 ≤ o by omega), decide_eq_true (show o ≤ 1000000 by omega)]; simp
                    have HZ4 := Lib.hid hz4
                    clear hz4 HZ3
                    by_cases o3 : o = 0
                    · subst o3
                      have HF := Lib.hid (show Z = true by rw [HZ4.out]; simp)
                      go_wp2_with fail
                      go_ret
                      exact ⟨by rw [HF.out]; rfl, B1.out⟩
                    · have t3 : (o == 0) = false := by rw [beq_eq_false_iff_ne]; exact o3
                      by_cases hx : e0 = 0 ∧ e1 = 0 ∧ e2 = 0 ∧ e3 = 1
                      · have HF := Lib.hid (show Z = true by rw [HZ4.out, decide_eq_true hx]; simp)
                        have ef := fun w => (eq_four e0 e1 e2 e3 0 0 0 1 w).trans (show _ = Result.ok true w by obtain ⟨rfl, rfl, rfl, rfl⟩ := hx; rfl)
                        clear hx o3
                        go_wp2_with fail
                        go_ret
                        exact ⟨by rw [HF.out]; rfl, B1.out⟩
                      · have HF := Lib.hid (show Z = false by rw [HZ4.out, decide_eq_false hx, decide_eq_false o3]; rfl)
                        have ef := fun w => (eq_four e0 e1 e2 e3 0 0 0 1 w).trans (show _ = Result.ok false w by
                          rw [show (e0 == 0 && e1 == 0 && e2 == 0 && e3 == 1) = false by
                            rw [Bool.eq_false_iff]
                            intro h
                            simp only [Bool.and_eq_true, beq_iff_eq] at h
                            exact hx ⟨h.1.1.1, h.1.1.2, h.1.2, h.2⟩])
                        clear hx o3
                        go_wp2_with fail
                        go_ret
                        exact ⟨by rw [HF.out]; rfl, B1.out⟩
              · have HF := Lib.hid (show Z = false by rw [HZ3.out, show (G == 1) = false from by rw [beq_eq_false_iff_ne]; exact hg1]; simp)
                have t2 : ((G : Int) != 1) = true := by rw [bne_iff_ne]; omega
                have t3 : (G != 1) = true := by rw [bne_iff_ne]; exact hg1
                clear hg1
                go_wp2_with fail
                go_ret
                exact ⟨by rw [HF.out]; rfl, B1.out⟩

end Go.Proofs.YtlahoohgbfjciaaGreatDoor
