/- Contract of winner. -/
import Derived.Test.YtojbhbifbennfaaC
namespace Go.Proofs.Ytojbhbifbennfaa
open Go.RowKit Go.Shelf

def isAt (qs : List RqD) (on : Int) : Bool := if on = -1 then false else match qs[on.toNat]? with | some x => onB x.k x.n | none => false
def winI (qs : List RqD) (on : Int) : Int := if searchI qs on 1 1 ≠ -1 then searchI qs on 1 1 else if searchI qs on 2 2 ≠ -1 then searchI qs on 2 2 else if searchI qs on 3 17 ≠ -1 then searchI qs on 3 17 else if isAt qs on = true then on else -1
theorem eg_search : ∀ args w, (callFunc 82 args).run Try.prog w = .ok (.enter 82 args) w := enters_of Try.func82 (by kernel_rfl) rfl
theorem isAt_at {qs : List RqD} {p : Nat} {x : RqD} (h : qs[p]? = some x) : isAt qs (p : Int) = onB x.k x.n := by
  unfold isAt
  rw [if_neg (by omega), show ((p : Int)).toNat = p by omega, h]

set_option maxHeartbeats 4000000 in
set_option maxRecDepth 100000 in
theorem winner_any (on left : Int) (a : Option Addr) (cap : Nat) (qs : List RqD) (ho : on = -1 ∨ (0 ≤ on ∧ on < qs.length)) (w : World) (hin : InS w a qs.length 3 (flat rqL qs)) : Calls Try.prog 51 #[.agg #[.int .i64 on, .int .i64 left], .slice a qs.length cap] w fun e w' => e = .returned (.int .i64 (winI qs on)) ∧ Below w.heap.size w w' := by
  obtain ⟨W, g1, g2, hW, hg1, hg2, R1, R2, B, sz⟩ := box2 w #[.int .i64 on, .int .i64 left] 37 #[.slice a qs.length cap] 34
  have HB0 := Lib.hid B
  have HR1 := Lib.hid R1
  have HR2 := Lib.hid R2
  have HI := Lib.hid hin
  have hse := fun lo hi (W' : World) (hb : Below W.heap.size W W') => search_any lo hi g1 g2 a cap qs on ho W' ((hb.cell (p := ⟨g1, 0, none⟩) HR1.out.lt).trans (HR1.out.c 0 _ rfl)) ((hb.cell (p := ⟨g2, 0, none⟩) HR2.out.lt).trans (HR2.out.c 0 _ rfl)) (hin.keep (HB0.out.trans (hb.mono HB0.out.size)))
  have HSE := Lib.hid hse
  have HO := Lib.hid ho
  obtain ⟨N, hN⟩ : ∃ N, N = qs.length := ⟨_, rfl⟩
  have HN := Lib.hid hN
  rw [← hN] at HR2
  rw [← hN] at hW
  rw [← hN]
  clear hse hin ho R1 R2 B sz hN
  go_enter Try.func51, Try.ntmps51
  go_upto_region 2 with fail
  rw [← hW]
  try rw [← hg2]
  try rw [← hg1]
  clear hW hg1 hg2
  go_wp2_with fail
  go_loopw [6, 7] (fun i _ wr => ∃ r : Nat, r ≤ 2 ∧ i = .int .i64 ((r : Int) + 1) ∧ Hid ((1 ≤ r → searchI qs on 1 1 = -1) ∧ (2 ≤ r → searchI qs on 2 2 = -1) ∧ Below W.heap.size W wr)) (fun i _ _ => 3 - (intOf i).toNat)
  case atStart => exact ⟨0, by omega, rfl, Lib.hid ⟨fun h => by omega, fun h => by omega, Below.refl _ _⟩⟩
  case round =>
    obtain ⟨r, hr, rfl, hH⟩ := hrel
    by_cases hlt : r < 2
    · obtain ⟨J, hJ⟩ : ∃ J, J = (r : Int) + 1 := ⟨_, rfl⟩
      have hc := HSE.out J J wr hH.out.2.2
      obtain ⟨I, hI⟩ : ∃ I, I = searchI qs on J J := ⟨_, rfl⟩
      rw [← hI] at hc
      have HC := Lib.hid hc
      have HIE := Lib.hid hI
      have HJ := Lib.hid hJ
      have hJ2 : J ≤ 2 := by omega
      have w1' : IntKind.i64.wrap (J + 1) = J + 1 := IntWalk.i64_in _ ⟨by omega, by omega⟩
      have HBW := Lib.hid hH.out.2.2
      have HP1 := Lib.hid hH.out.1
      rw [← hJ]
      clear hc hI hJ hH
      go_wp2_with fail
      refine HC.out.mono ?_
      rintro e w1 ⟨rfl, hb⟩
      have HB2 := Lib.hid (HBW.out.trans (hb.mono HBW.out.size))
      clear hb
      by_cases hm : I = -1
      · have hJJ := HJ.out
        have HP := Lib.hid (show (1 ≤ r + 1 → searchI qs on 1 1 = -1) ∧ (2 ≤ r + 1 → searchI qs on 2 2 = -1) from by
          have hI := HIE.out
          rw [hm] at hI
          by_cases h0 : r = 0
          · have : J = 1 := by omega
            rw [this] at hI
            exact ⟨fun _ => hI.symm, fun h => by omega⟩
          · have : J = 2 := by omega
            rw [this] at hI
            exact ⟨fun _ => HP1.out (by omega), fun _ => hI.symm⟩)
        subst hm
        clear hJJ
        go_wp2_with fail
        go_roundw
        case rel => exact ⟨r + 1, by omega, by have h := HJ.out; subst h; go_num, Lib.hid ⟨HP.out.1, HP.out.2, HB2.out⟩⟩
        case measure => have h := HJ.out; subst h; simp [intOf]; omega
      · have HY := Lib.hid (show winI qs on = I from by
          have hI := HIE.out
          have hJJ := HJ.out
          unfold winI
          by_cases h0 : r = 0
          · have : J = 1 := by omega
            rw [this] at hI
            rw [if_pos (by rw [← hI]; exact hm), hI]
          · have : J = 2 := by omega
            rw [this] at hI
            rw [if_neg (fun h => h (HP1.out (by omega))), if_pos (by rw [← hI]; exact hm), hI])
        have t1 : (I != -1) = true := by simpa using hm
        have HBE := Lib.hid (HB0.out.trans (HB2.out.mono HB0.out.size))
        clear hm
        go_wp2_with fail
        go_ret
        exact ⟨by rw [HY.out]; (first | done | rfl), HBE.out⟩
    · obtain rfl : r = 2 := by omega
      have HP1 := Lib.hid (hH.out.1 (by omega))
      have HP2 := Lib.hid (hH.out.2.1 (by omega))
      have hc := HSE.out 3 17 wr hH.out.2.2
      obtain ⟨I, hI⟩ : ∃ I, I = searchI qs on 3 17 := ⟨_, rfl⟩
      rw [← hI] at hc
      have HC := Lib.hid hc
      have HIE := Lib.hid hI
      have HBW := Lib.hid hH.out.2.2
      clear hc hI hH
      go_wp2_with fail
      refine HC.out.mono ?_
      rintro e w1 ⟨rfl, hb⟩
      have HB2 := Lib.hid (HBW.out.trans (hb.mono HBW.out.size))
      clear hb
      have HQ1 := Lib.hid (HR1.out.keep HB2.out)
      have HQ2 := Lib.hid (HR2.out.keep HB2.out)
      have HBE := Lib.hid (HB0.out.trans (HB2.out.mono HB0.out.size))
      by_cases hm : I = -1
      · have HY := Lib.hid (show winI qs on = if isAt qs on = true then on else -1 from by
          unfold winI
          rw [if_neg (fun h => h HP1.out), if_neg (fun h => h HP2.out), if_neg (fun h => h (by rw [← HIE.out]; exact hm))])
        subst hm
        have s_0 := HQ1.out.c 0 _ rfl
        have s_1 := HQ1.out.c 1 _ rfl
        have a_0 := HQ2.out.c 0 _ rfl
        rcases HO.out with ho | ⟨ho1, ho2⟩
        · subst ho
          have HZ := Lib.hid (show winI qs (-1) = -1 from HY.out.trans (if_neg (by unfold isAt; simp)))
          go_wp2_with fail
          go_ret
          exact ⟨by rw [HZ.out]; (first | done | rfl), HBE.out⟩
        · obtain ⟨p, rfl⟩ : ∃ p : Nat, on = (p : Int) := ⟨on.toNat, by omega⟩
          have hp : p < qs.length := by omega
          obtain ⟨⟨l, k, n⟩, hx⟩ : ∃ x, qs[p]? = some x := ⟨_, List.getElem?_eq_getElem hp⟩
          obtain ⟨b, o, hbo, hbl, hcell⟩ := (HI.out.keep HBE.out).at rqL_len (by omega)
          have c0 := hcell p _ hx 0 _ rfl
          have c1 := hcell p _ hx 1 _ rfl
          have c2 := hcell p _ hx 2 _ rfl
          rw [Nat.add_zero] at c0
          obtain ⟨F, hF⟩ : ∃ F, F = onB k n := ⟨_, rfl⟩
          have HAT := Lib.hid (isAt_at hx)
          have hon := fun w => isOn_any k n w
          rw [← hF] at hon HAT
          have HON := Lib.hid hon
          have k1 : (0 : Int) ≤ (p : Int) := by omega
          have k2 : (p : Int) < (N : Int) := by rw [HN.out]; omega
          have k3 : N ≤ 9223372036854775807 := by have := HI.out.2.1; have := HN.out; omega
          have k4 : ((p : Int) != -1) = true := by (simp) <;> omega
          subst hbo
          clear hx hcell hbl hp hF hon ho1 ho2
          go_wp2_with fail
          refine (HON.out _).mono ?_
          rintro e w2 ⟨rfl, hb⟩
          have HBF := Lib.hid (HBE.out.trans (hb.mono HBE.out.size))
          have HQ3 := Lib.hid (HQ1.out.keep hb)
          clear hb c0 c1 c2 s_0 s_1 a_0
          cases F
          · have HZ := Lib.hid (show winI qs (p : Int) = -1 from HY.out.trans (if_neg (by rw [HAT.out]; simp)))
            go_wp2_with fail
            go_ret
            exact ⟨by rw [HZ.out]; (first | done | rfl), HBF.out⟩
          · have HZ := Lib.hid (show winI qs (p : Int) = (p : Int) from HY.out.trans (if_pos HAT.out))
            have s_0 := HQ3.out.c 0 _ rfl
            have s_1 := HQ3.out.c 1 _ rfl
            go_wp2_with fail
            go_ret
            exact ⟨by rw [HZ.out]; (first | done | rfl), HBF.out⟩
      · have HY := Lib.hid (show winI qs on = I from by
          unfold winI
          rw [if_neg (fun h => h HP1.out), if_neg (fun h => h HP2.out), if_pos (by rw [← HIE.out]; exact hm), HIE.out])
        have t1 : (I != -1) = true := by simpa using hm
        clear hm
        go_wp2_with fail
        go_ret
        exact ⟨by rw [HY.out]; (first | done | rfl), HBE.out⟩
end Go.Proofs.Ytojbhbifbennfaa
