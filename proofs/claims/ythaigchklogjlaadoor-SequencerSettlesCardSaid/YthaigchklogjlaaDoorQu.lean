/- Contract of plenumref21.Settle at possible arguments. -/
import Derived.Test.YthaigchklogjlaaDoorQp
import Derived.Test.YthaigchklogjlaaDoorQk
import Derived.Test.YthaigchklogjlaaDoorLe
import Derived.Deep.QuietTactic
import Derived.BigQuiet
namespace Go.Proofs.YthaigchklogjlaaDoor
open Go.RowKit Go.Shelf

set_option linter.unusedVariables false
set_option linter.unusedSimpArgs false
/-- the evaluations that lack -/
def lackE (L up d dt P T : Int) : Int := if up < d then (L - P) * (86400 / dt + 1) - min (max T 0 / dt) (86400 / dt) else P * (86400 / dt + 1) - min (max (-T) 0 / dt) (86400 / dt)
theorem div_next (x dt : Int) (h : 1 ≤ dt) : (x + dt) / dt = x / dt + 1 := by
  have := Int.add_mul_ediv_right x 1 (show dt ≠ 0 by omega)
  rwa [Int.one_mul] at this
theorem lackE_aux (A x dt q u : Int) (h : 1 ≤ dt) (hq : q = 86400 / dt) (hu : u ≤ 86400) (hx : 0 ≤ x) (hs : x + dt < u) : A - min ((x + dt) / dt) q ≤ A - min (x / dt) q - 1 := by
  have h1 : (x + dt) / dt ≤ q := by rw [hq]; exact Int.ediv_le_ediv (by omega) (by omega)
  rw [div_next x dt h] at h1 ⊢
  omega
theorem q_pos (dt : Int) (h : 1 ≤ dt) : 0 ≤ 86400 / dt := Int.ediv_nonneg (by omega) (by omega)
theorem lackE_step (L up dn ud dd d dt P T : Int) (hP : 0 ≤ P ∧ P ≤ L) (hu : 0 ≤ ud ∧ ud ≤ 86400) (hd : 0 ≤ dd ∧ dd ≤ 86400) (hdt : 1 ≤ dt) (hne : P ≠ tgS L up dn d P) (hc : ¬ (up < d ∧ d < dn)) : lackE L up d dt (stageS L up dn ud dd d dt P T).1 (stageS L up dn ud dd d dt P T).2 ≤ lackE L up d dt P T - 1 := by
  unfold tgS at hne
  unfold lackE stageS
  obtain ⟨q, hq⟩ : ∃ q, q = 86400 / dt := ⟨_, rfl⟩
  have hq0 : 0 ≤ q := by rw [hq]; exact q_pos dt hdt
  rw [← hq]
  by_cases h1 : up < d
  · rw [if_pos h1] at hne
    rw [if_pos h1, if_pos h1, if_pos ⟨h1, by omega⟩]
    split
    · dsimp only
      rw [show max (0 : Int) 0 / dt = 0 from by rw [show max (0 : Int) 0 = 0 from rfl]; exact Int.zero_ediv dt]
      have e : (L - (P + 1)) * (q + 1) = (L - P) * (q + 1) - (q + 1) := by rw [show L - (P + 1) = (L - P) - 1 by omega, Int.sub_mul, Int.one_mul]
      omega
    · rename_i h3
      dsimp only
      rw [show max (max T 0 + dt) 0 = max T 0 + dt by omega]
      exact lackE_aux _ (max T 0) dt q ud hdt hq hu.2 (by omega) (by omega)
  · rw [if_neg h1] at hne
    rw [if_neg h1, if_neg h1, if_neg (fun h => h1 h.1)]
    split at hne
    · rename_i h2
      rw [if_pos ⟨h2, by omega⟩]
      split
      · dsimp only
        rw [show max (-(0 : Int)) 0 / dt = 0 from by rw [show max (-(0 : Int)) 0 = 0 from rfl]; exact Int.zero_ediv dt]
        have e : (P - 1) * (q + 1) = P * (q + 1) - (q + 1) := by rw [Int.sub_mul, Int.one_mul]
        omega
      · rename_i h3
        dsimp only
        rw [show max (-(min T 0 - dt)) 0 = max (-T) 0 + dt by omega]
        exact lackE_aux _ (max (-T) 0) dt q dd hdt hq hd.2 (by omega) (by omega)
    · omega
theorem lackE_con (L up dn ud dd d dt P T : Int) (hP : 0 ≤ P ∧ P ≤ L) (hT : -6311433599 ≤ T ∧ T ≤ 6311433599) (hu : 0 ≤ ud ∧ ud ≤ 86400) (hd : 0 ≤ dd ∧ dd ≤ 86400) (hdt : 1 ≤ dt ∧ dt ≤ 86400) (hc : ¬ (up < d ∧ d < dn)) : ∀ n, (∀ k, k < n → (conS L up dn ud dd d dt P T k).1 ≠ tgS L up dn d P) → lackE L up d dt (conS L up dn ud dd d dt P T n).1 (conS L up dn ud dd d dt P T n).2 ≤ lackE L up d dt P T - n
  | 0, _ => by show lackE L up d dt P T ≤ _; omega
  | n + 1, h => by
    have hk := conS_keep L up dn ud dd d dt P T hP hT hu hd hdt n
    have h1 := lackE_con L up dn ud dd d dt P T hP hT hu hd hdt hc n (fun k hk => h k (by omega))
    have h2 := lackE_step L up dn ud dd d dt (conS L up dn ud dd d dt P T n).1 (conS L up dn ud dd d dt P T n).2 ⟨hk.1, hk.2.1⟩ hu hd hdt.1 (by rw [tg_con L up dn ud dd d dt P T hP hT hu hd hdt hc n]; exact h n (by omega)) hc
    show lackE L up d dt (stageS L up dn ud dd d dt _ _).1 (stageS L up dn ud dd d dt _ _).2 ≤ _
    omega
theorem con_bound (L up dn ud dd d dt P T : Int) (hL : L ≤ 15) (hP : 0 ≤ P ∧ P ≤ L) (hT : -6311433599 ≤ T ∧ T ≤ 6311433599) (hu : 0 ≤ ud ∧ ud ≤ 86400) (hd : 0 ≤ dd ∧ dd ≤ 86400) (hdt : 1 ≤ dt ∧ dt ≤ 86400) (hc : ¬ (up < d ∧ d < dn)) (N : Nat) (hne : ∀ k, k < N → (conS L up dn ud dd d dt P T k).1 ≠ tgS L up dn d P) : (N : Int) ≤ 16 * (86400 / dt + 2) := by
  have h1 := lackE_con L up dn ud dd d dt P T hP hT hu hd hdt hc N hne
  have hk := conS_keep L up dn ud dd d dt P T hP hT hu hd hdt N
  have hq0 := q_pos dt hdt.1
  have hx : ∀ x : Int, 0 ≤ x → 0 ≤ x / dt := fun x hx => Int.ediv_nonneg hx (by omega)
  unfold lackE at h1
  obtain ⟨q, hq⟩ : ∃ q, q = 86400 / dt := ⟨_, rfl⟩
  rw [← hq] at h1 hq0 ⊢
  have a1 := hx (max T 0) (by omega)
  have a2 := hx (max (-T) 0) (by omega)
  have hm : ∀ x : Int, 0 ≤ x → x ≤ 15 → 0 ≤ x * (q + 1) ∧ x * (q + 1) ≤ 15 * (q + 1) := fun x h0 h5 => ⟨Int.mul_nonneg h0 (by omega), Int.mul_le_mul_of_nonneg_right h5 (by omega)⟩
  have b1 := hm (L - P) (by omega) (by omega)
  have b2 := hm P (by omega) (by omega)
  have b3 := hm (L - (conS L up dn ud dd d dt P T N).1) (by omega) (by omega)
  have b4 := hm (conS L up dn ud dd d dt P T N).1 (by omega) (by omega)
  split at h1 <;> omega
/-- where nothing moves any more -/
theorem con_fix (L up dn ud dd d dt P T : Int) (k : Nat) (h : conS L up dn ud dd d dt P T (k + 1) = conS L up dn ud dd d dt P T k) : ∀ j, k ≤ j → conS L up dn ud dd d dt P T j = conS L up dn ud dd d dt P T k
  | 0, hj => by obtain rfl : k = 0 := by omega
                rfl
  | j + 1, hj => by
    by_cases hk : k = j + 1
    · rw [hk]
    · have h1 := con_fix L up dn ud dd d dt P T k h j (by omega)
      show stageS L up dn ud dd d dt (conS L up dn ud dd d dt P T j).1 (conS L up dn ud dd d dt P T j).2 = _
      rw [h1]
      exact h
set_option maxHeartbeats 8000000 in
set_option maxRecDepth 100000 in
theorem rsettle_any (L up dn ud dd d dt P0 T0 : Int) (N pb po pc sb so sc : Nat) (w : World) (hp : 1 ≤ L ∧ L ≤ 15 ∧ -1000000000000 ≤ up ∧ up ≤ 1000000000000 ∧ -1000000000000 ≤ dn ∧ dn ≤ 1000000000000 ∧ 0 ≤ ud ∧ ud ≤ 86400 ∧ 0 ≤ dd ∧ dd ≤ 86400) (hP : 0 ≤ P0 ∧ P0 ≤ L) (hT : -6311433599 ≤ T0 ∧ T0 ≤ 6311433599) (hdt : 1 ≤ dt ∧ dt ≤ 86400) (hc : ¬ (up < d ∧ d < dn)) (hN : (conS L up dn ud dd d dt P0 T0 N).1 = tgS L up dn d P0) (hne : ∀ k, k < N → (conS L up dn ud dd d dt P0 T0 k).1 ≠ tgS L up dn d P0) (p0 : w.cell? ⟨pb, po, none⟩ = some (.int .i64 L)) (p1 : w.cell? ⟨pb, po + 1, none⟩ = some (.int .i64 up)) (p2 : w.cell? ⟨pb, po + 2, none⟩ = some (.int .i64 dn)) (p3 : w.cell? ⟨pb, po + 3, none⟩ = some (.int .i64 ud)) (p4 : w.cell? ⟨pb, po + 4, none⟩ = some (.int .i64 dd)) (s0 : w.cell? ⟨sb, so, none⟩ = some (.int .i64 P0)) (s1 : w.cell? ⟨sb, so + 1, none⟩ = some (.int .i64 T0)) :
    Calls Tryd.prog 19 #[.slice (some ⟨pb, po, none⟩) 5 pc, .slice (some ⟨sb, so, none⟩) 2 sc, .int .i64 d, .int .i64 dt] w fun e w' => e = .returned (.tuple #[.int .i64 (tgS L up dn d P0), .int .i64 N]) ∧ Below w.heap.size w w' := by
  obtain ⟨tg, htg⟩ : ∃ x, x = tgS L up dn d P0 := ⟨_, rfl⟩
  obtain ⟨q, hq⟩ : ∃ q, q = 86400 / dt := ⟨_, rfl⟩
  have HBD := Lib.hid (show (N : Int) ≤ 16 * (q + 2) by rw [hq]; exact con_bound L up dn ud dd d dt P0 T0 (by omega) hP hT (by omega) (by omega) hdt hc N hne)
  have HST := Lib.hid (show ∀ k, N ≤ k → (conS L up dn ud dd d dt P0 T0 k).1 = tg by rw [htg]; exact con_stay L up dn ud dd d dt P0 T0 hP hT (by omega) (by omega) hdt hc N hN)
  have HNB := Lib.hid (show ∀ k, k < N → (conS L up dn ud dd d dt P0 T0 k).1 ≠ tg by rw [htg]; exact hne)
  have HK := Lib.hid (conS_keep L up dn ud dd d dt P0 T0 hP hT (by omega) (by omega) hdt)
  have HPP := Lib.hid hp
  have HDT := Lib.hid hdt
  have HUU := Lib.hid (show (0 ≤ ud ∧ ud ≤ 86400) ∧ (0 ≤ dd ∧ dd ≤ 86400) by omega)
  have HPC := Lib.hid (And.intro p0 (And.intro p1 (And.intro p2 (And.intro p3 p4))))
  have HSC := Lib.hid s0
  have hq0 : 0 ≤ q ∧ q ≤ 86400 := by rw [hq]; exact ⟨q_pos dt hdt.1, Int.le_trans (Int.ediv_le_self _ (by omega)) (by omega)⟩
  have eq1 : (86400 : Int).tdiv dt = q := by rw [hq]; exact Int.tdiv_eq_ediv_of_nonneg (by omega)
  have eq2 : IntKind.i64.wrap q = q := IntWalk.i64_in _ (by omega)
  have eq3 : IntKind.i64.wrap (q + 2) = q + 2 := IntWalk.i64_in _ (by omega)
  have eq4 : IntKind.i64.wrap (16 * (q + 2)) = 16 * (q + 2) := IntWalk.i64_in _ (by omega)
  have hdn : ¬ dt = 0 := by omega
  obtain ⟨M, hMq⟩ : ∃ M : Nat, (M : Int) = 16 * (q + 2) := ⟨(16 * (q + 2)).toNat, by omega⟩
  rw [← htg]
  have HS00 := Lib.hid (And.intro s0 s1)
  clear hq htg hN hne hp p0 p1 p2 p3 p4 s0 s1 hc
  go_enter Tryd.func19, Tryd.ntmps19
  go_wp2_with fail
  go_loopw [10, 11, 12, 13] (fun s l' m' i wr => ∃ (k : Nat) (P T : Int) (sb2 so2 sc2 : Nat) (l m : Int), 1 ≤ k ∧ k ≤ M + 1 ∧ s = .slice (some ⟨sb2, so2, none⟩) 2 sc2 ∧ l' = .int .i64 l ∧ m' = .int .i64 m ∧ i = .int .i64 k ∧ Hid ((P, T) = conS L up dn ud dd d dt P0 T0 (k - 1) ∧ wr.cell? ⟨sb2, so2, none⟩ = some (.int .i64 P) ∧ wr.cell? ⟨sb2, so2 + 1, none⟩ = some (.int .i64 T) ∧ ((N ≤ k - 1 → l = N) ∧ (k - 1 < N → 0 ≤ l ∧ l ≤ (k - 1 : Nat))) ∧ (k = 1 → m = 0) ∧ (1 < k → m = (conS L up dn ud dd d dt P0 T0 (k - 1)).1) ∧ Below w.heap.size w wr)) (fun _ _ _ i _ => M + 1 - (intOf i).toNat)
  case atStart => exact ⟨1, P0, T0, sb, so, sc, 0, 0, by omega, by omega, rfl, rfl, rfl, rfl, Lib.hid ⟨rfl, HS00.out.1, HS00.out.2, ⟨fun h => by omega, fun h => by omega⟩, fun _ => rfl, fun h => by omega, Below.refl _ _⟩⟩
  case round =>
    obtain ⟨k, P, T, sb2, so2, sc2, l, m, hk1, hk, rfl, rfl, rfl, rfl, hH⟩ := hrel
    have HPT := Lib.hid hH.out.1
    have HS0 := Lib.hid hH.out.2.1
    have HS1 := Lib.hid hH.out.2.2.1
    have HLL := Lib.hid hH.out.2.2.2.1
    have HM1 := Lib.hid hH.out.2.2.2.2.1
    have HMM := Lib.hid hH.out.2.2.2.2.2.1
    have HBR := Lib.hid hH.out.2.2.2.2.2.2
    clear hH
    by_cases hlt : k ≤ M
    · have hle : (k : Int) ≤ 16 * (q + 2) := by omega
      have hbn := HK.out (k - 1)
      rw [← HPT.out] at hbn
      simp only at hbn
      have ks := rstage_any L up dn ud dd d dt P T pb po pc sb2 so2 sc2 wr HUU.out.1 HUU.out.2 HDT.out (by have := HPP.out; omega) ⟨hbn.2.2.1, hbn.2.2.2⟩ (cell_below HPC.out.1 HBR.out) (cell_below HPC.out.2.1 HBR.out) (cell_below HPC.out.2.2.1 HBR.out) (cell_below HPC.out.2.2.2.1 HBR.out) (cell_below HPC.out.2.2.2.2 HBR.out) HS0.out HS1.out
      obtain ⟨⟨P2, T2⟩, hS⟩ : ∃ x, x = stageS L up dn ud dd d dt P T := ⟨_, rfl⟩
      rw [← hS] at ks
      have HRN := Lib.hid (show (P2, T2) = conS L up dn ud dd d dt P0 T0 k from by
        obtain ⟨j, rfl⟩ : ∃ j, k = j + 1 := ⟨k - 1, by omega⟩
        rw [hS]
        show _ = stageS L up dn ud dd d dt (conS L up dn ud dd d dt P0 T0 j).1 (conS L up dn ud dd d dt P0 T0 j).2
        have h := HPT.out
        rw [Nat.add_sub_cancel] at h
        rw [← h])
      have KS := Lib.hid ks
      clear ks hS hbn
      have k1 : IntKind.i64.wrap ((k : Int) + 1) = (k : Int) + 1 := IntWalk.i64_in _ (by omega)
      go_wp2_with fail
      refine KS.out.mono ?_
      rintro e w3 ⟨g2, rfl, hg2, hr2, hb2⟩
      have HR2 := Lib.hid hr2
      have HB3 := Lib.hid (HBR.out.trans (hb2.mono HBR.out.size))
      have HS03 := Lib.hid (cell_below HS0.out hb2)
      have HS13 := Lib.hid (cell_below HS1.out hb2)
      clear hr2 hb2 KS
      have q0 := HR2.out.c 0 _ rfl
      have q1 := HS03.out
      try simp only at q0
      have hPk : P2 = (conS L up dn ud dd d dt P0 T0 k).1 := by rw [← HRN.out]
      have hPk1 : P = (conS L up dn ud dd d dt P0 T0 (k - 1)).1 := by rw [← HPT.out]
      by_cases hmv : P2 = P
      · have bmv : (P2 == P) = true := by rw [beq_iff_eq]; exact hmv
        have HMV := Lib.hid hmv
        clear hmv
        have HL2 := Lib.hid (show (N ≤ k → l = N) ∧ (k < N → 0 ≤ l ∧ l ≤ k) from ⟨fun h => by
          by_cases hNk : N ≤ k - 1
          · exact HLL.out.1 hNk
          · obtain rfl : k = N := by omega
            exact absurd (show (conS L up dn ud dd d dt P0 T0 (k - 1)).1 = tg by rw [← hPk1, ← HMV.out, hPk]; exact HST.out k (Nat.le_refl _)) (HNB.out (k - 1) (by omega)), fun h => by have := HLL.out.2 (by omega); omega⟩)
        clear hPk hPk1
        go_wp2_with fail
        go_quiet (fail)
        obtain ⟨w4, hw1⟩ : ∃ x, x = w3.drewN nq := ⟨_, rfl⟩
        have hb1 : Below w3.heap.size w3 w4 := by rw [hw1]; exact below_drewN _ _ _
        have HB4 := Lib.hid (HB3.out.trans (hb1.mono HB3.out.size))
        have HR4 := Lib.hid (HR2.out.keep hb1)
        have HS04 := Lib.hid (cell_below HS03.out hb1)
        have HS14 := Lib.hid (cell_below HS13.out hb1)
        rw [← hw1]
        clear hw1 hb1 q0 q1
        have q0 := HR4.out.c 0 _ rfl
        have q1 := HS04.out
        have q2 := HR4.out.c 1 _ rfl
        have q3 := HS14.out
        try simp only at q0 q2
        by_cases hte : T2 = T
        · have bte : (T2 == T) = true := by rw [beq_iff_eq]; exact hte
          have HTE := Lib.hid hte
          clear hte
          by_cases hz : T2 = 0
          · have bz : (T2 == 0) = true := by rw [beq_iff_eq]; exact hz
            clear hz
            have HFX := Lib.hid (show N ≤ k - 1 from by
              have h1 : conS L up dn ud dd d dt P0 T0 (k - 1 + 1) = conS L up dn ud dd d dt P0 T0 (k - 1) := by
                rw [show k - 1 + 1 = k by omega, ← HRN.out, ← HPT.out, HMV.out, HTE.out]
              rcases Nat.lt_or_ge (k - 1) N with hlt | hge
              · have h2 := con_fix L up dn ud dd d dt P0 T0 (k - 1) h1 N (by omega)
                have h3 := HST.out N (Nat.le_refl _)
                rw [h2] at h3
                exact absurd h3 (HNB.out (k - 1) hlt)
              · exact hge)
            have hlN := HLL.out.1 HFX.out
            go_wp2_with fail
            go_quiet (fail)
            obtain ⟨w5, hw1⟩ : ∃ x, x = w4.drewN nq := ⟨_, rfl⟩
            have hb1 : Below w4.heap.size w4 w5 := by rw [hw1]; exact below_drewN _ _ _
            rw [← hw1]
            have HB5 := Lib.hid (HB4.out.trans (hb1.mono HB4.out.size))
            clear hw1 hb1 q0 q1 q2 q3
            by_cases hN0 : N = 0
            · have hl0 : l = 0 := by rw [hlN, hN0]; rfl
              have HP0T := Lib.hid (show P0 = tg by have h := HST.out 0 (by omega); exact h)
              have HNZ := Lib.hid hN0
              have s0 := cell_below HSC.out HB5.out
              clear hlN hN0
              subst hl0
              go_wp2_with fail
              go_ret2
              exact ⟨by rw [HNZ.out, HP0T.out]; rfl, HB5.out⟩
            · have hl0 : (l == 0) = false := by rw [beq_eq_false_iff_ne, hlN]; omega
              have HNT := Lib.hid (show m = tg by rw [HMM.out (by have := HFX.out; omega)]; exact HST.out _ HFX.out)
              have HLN := Lib.hid hlN
              clear hlN hN0
              go_wp2_with fail
              go_ret2
              exact ⟨by rw [HLN.out, HNT.out]; rfl, HB5.out⟩
          · have bz : (T2 == 0) = false := by rw [beq_eq_false_iff_ne]; exact hz
            clear hz
            go_wp2_with fail
            go_quiet (fail)
            obtain ⟨w5, hw1⟩ : ∃ x, x = w4.drewN nq := ⟨_, rfl⟩
            have hb1 : Below w4.heap.size w4 w5 := by rw [hw1]; exact below_drewN _ _ _
            have HB5 := Lib.hid (HB4.out.trans (hb1.mono HB4.out.size))
            have HR5 := Lib.hid (HR4.out.keep hb1)
            rw [← hw1]
            clear hw1 hb1 q0 q1 q2 q3
            have q0 := HR5.out.c 0 _ rfl
            try simp only at q0
            go_wp2_with fail
            go_roundw
            case rel => exact ⟨k + 1, P2, T2, g2, 0, 2, l, P2, by omega, by omega, rfl, rfl, rfl, by go_num, Lib.hid ⟨HRN.out, q0, HR5.out.c 1 _ rfl, HL2.out, fun h => by omega, fun h => by rw [Nat.add_sub_cancel, ← HRN.out], HB5.out⟩⟩
            case measure => (simp [intOf]) <;> omega
        · have bte : (T2 == T) = false := by rw [beq_eq_false_iff_ne]; exact hte
          clear hte
          go_wp2_with fail
          go_quiet (fail)
          obtain ⟨w5, hw1⟩ : ∃ x, x = w4.drewN nq := ⟨_, rfl⟩
          have hb1 : Below w4.heap.size w4 w5 := by rw [hw1]; exact below_drewN _ _ _
          have HB5 := Lib.hid (HB4.out.trans (hb1.mono HB4.out.size))
          have HR5 := Lib.hid (HR4.out.keep hb1)
          rw [← hw1]
          clear hw1 hb1 q0 q1 q2 q3
          have q0 := HR5.out.c 0 _ rfl
          try simp only at q0
          go_wp2_with fail
          go_roundw
          case rel => exact ⟨k + 1, P2, T2, g2, 0, 2, l, P2, by omega, by omega, rfl, rfl, rfl, by go_num, Lib.hid ⟨HRN.out, q0, HR5.out.c 1 _ rfl, HL2.out, fun h => by omega, fun h => by rw [Nat.add_sub_cancel, ← HRN.out], HB5.out⟩⟩
          case measure => (simp [intOf]) <;> omega
      · have bmv : (P2 == P) = false := by rw [beq_eq_false_iff_ne]; exact hmv
        have HMV := Lib.hid hmv
        clear hmv
        have HL2 := Lib.hid (show (N ≤ k → (k : Int) = N) ∧ (k < N → 0 ≤ (k : Int) ∧ (k : Int) ≤ k) from ⟨fun h => by
          by_cases hNk : N ≤ k - 1
          · exact absurd (by rw [hPk, hPk1, HST.out k h, HST.out (k - 1) hNk]) HMV.out
          · omega, fun h => by omega⟩)
        clear hPk hPk1
        go_wp2_with fail
        go_quiet (fail)
        obtain ⟨w4, hw1⟩ : ∃ x, x = w3.drewN nq := ⟨_, rfl⟩
        have hb1 : Below w3.heap.size w3 w4 := by rw [hw1]; exact below_drewN _ _ _
        have HB4 := Lib.hid (HB3.out.trans (hb1.mono HB3.out.size))
        have HR4 := Lib.hid (HR2.out.keep hb1)
        have HS04 := Lib.hid (cell_below HS03.out hb1)
        have HS14 := Lib.hid (cell_below HS13.out hb1)
        rw [← hw1]
        clear hw1 hb1 q0 q1
        have q0 := HR4.out.c 0 _ rfl
        have q1 := HS04.out
        have q2 := HR4.out.c 1 _ rfl
        have q3 := HS14.out
        try simp only at q0 q2
        go_wp2_with fail
        go_quiet (fail)
        obtain ⟨w5, hw1⟩ : ∃ x, x = w4.drewN nq := ⟨_, rfl⟩
        have hb1 : Below w4.heap.size w4 w5 := by rw [hw1]; exact below_drewN _ _ _
        have HB5 := Lib.hid (HB4.out.trans (hb1.mono HB4.out.size))
        have HR5 := Lib.hid (HR4.out.keep hb1)
        rw [← hw1]
        clear hw1 hb1 q0 q1 q2 q3
        have q0 := HR5.out.c 0 _ rfl
        try simp only at q0
        go_wp2_with fail
        go_roundw
        case rel => exact ⟨k + 1, P2, T2, g2, 0, 2, (k : Int), P2, by omega, by omega, rfl, rfl, rfl, by go_num, Lib.hid ⟨HRN.out, q0, HR5.out.c 1 _ rfl, HL2.out, fun h => by omega, fun h => by rw [Nat.add_sub_cancel, ← HRN.out], HB5.out⟩⟩
        case measure => (simp [intOf]) <;> omega
    · have hle : ¬ (k : Int) ≤ 16 * (q + 2) := by omega
      have HFX := Lib.hid (show N ≤ k - 1 by have := HBD.out; omega)
      have hlN := HLL.out.1 HFX.out
      by_cases hN0 : N = 0
      · have hl0 : l = 0 := by rw [hlN, hN0]; rfl
        have HP0T := Lib.hid (show P0 = tg by have h := HST.out 0 (by omega); exact h)
        have HNZ := Lib.hid hN0
        have s0 := cell_below HSC.out HBR.out
        clear hlN hN0
        subst hl0
        go_wp2_with fail
        go_ret2
        exact ⟨by rw [HNZ.out, HP0T.out]; rfl, HBR.out⟩
      · have hl0 : (l == 0) = false := by rw [beq_eq_false_iff_ne, hlN]; omega
        have HNT := Lib.hid (show m = tg by rw [HMM.out (by have := HFX.out; omega)]; exact HST.out _ HFX.out)
        have HLN := Lib.hid hlN
        clear hlN hN0
        go_wp2_with fail
        go_ret2
        exact ⟨by rw [HLN.out, HNT.out]; rfl, HBR.out⟩
end Go.Proofs.YthaigchklogjlaaDoor
