/- block.fit where all fits; block.inputs, Inputs. -/
import Derived.Test.YtaobbedajgkmiaaDoorFa
import Derived.Test.YtaobbedajgkmiaaDoorEa
import Derived.OwnWalk
namespace Go.Proofs.YtaobbedajgkmiaaDoor
open Go.RowKit Go.Shelf

set_option linter.unusedVariables false
set_option linter.unusedSimpArgs false
def valL (x : Int × Int) : List Value := [.int .i64 x.1, .int .i64 x.2]
theorem valL_len (x : Int × Int) : (valL x).length = 2 := rfl
def tyT : ByteArray := ⟨#[84]⟩
/-- a value fits a port, where values for inputs of every kind have the kind κ -/
def PortOk (κ : Int) (p : PortD) (v : Int × Int) : Prop := PossP v.1 v.2 ∧ (p.ty = ⟨#[84]⟩ → v.1 = κ) ∧ (¬ p.ty = ⟨#[84]⟩ → v.1 = kindI p.ty)
set_option maxHeartbeats 4000000 in
set_option maxRecDepth 100000 in
theorem fit_yes (κ : Int) (hκ : ¬ κ = 0) (il : List PortD) (vs : List (Int × Int)) (hlen : vs.length = il.length) (h : ∀ (i : Nat) (p : PortD) (v : Int × Int), il[i]? = some p → vs[i]? = some v → PortOk κ p v) (pa : Option Addr) (pc : Nat) (ia : Option Addr) (ic : Nat) (w : World) (hp : InS w pa il.length 2 (flat portL il)) (hv : InS w ia vs.length 2 (flat valL vs)) :
    Calls Tryd.prog 38 #[.slice pa il.length pc, .slice ia vs.length ic] w fun e w' => e = .returned (.bool true) ∧ Below w.heap.size w w' := by
  have HP := Lib.hid hp
  have HV := Lib.hid hv
  have HF := Lib.hid h
  have HK := Lib.hid hκ
  have HL := Lib.hid (show il.length ≤ 9223372036854775807 from hp.2.1)
  obtain ⟨N, hN⟩ : ∃ N, N = il.length := ⟨_, rfl⟩
  obtain ⟨M, hM⟩ : ∃ N, N = vs.length := ⟨_, rfl⟩
  have HN := Lib.hid hN
  have HM := Lib.hid (show M = vs.length from hM)
  have HMN := Lib.hid (show M = N by omega)
  rw [← hN, ← hM]
  clear hp hv h hκ hlen hN hM
  go_enter Tryd.func38, Tryd.ntmps38
  go_wp2_with fail
  go_loopw [5, 11] (fun c i wr => ∃ k : Nat, ∃ cm : Int, k ≤ N ∧ (cm = 0 ∨ cm = κ) ∧ i = .int .i64 k ∧ c = .int .i64 cm ∧ Hid (Below w.heap.size w wr)) (fun _ i _ => N - (intOf i).toNat)
  case atStart => exact ⟨0, 0, Nat.zero_le _, .inl rfl, rfl, rfl, Lib.hid (Below.refl _ _)⟩
  case round =>
    obtain ⟨k, cm, hk, hcm, rfl, rfl, HB⟩ := hrel
    have HCM := Lib.hid hcm
    clear hcm
    by_cases hlt : k < N
    · have n0 : N ≤ 9223372036854775807 := by have := HL.out; have := HN.out; omega
      obtain ⟨lb, lo, rfl, hll, hlc⟩ := (HP.out.keep HB.out).at portL_len (by have := HN.out; omega)
      obtain ⟨jb, jo, rfl, hjl, hjc⟩ := (HV.out.keep HB.out).at valL_len (by have := HM.out; have := HMN.out; omega)
      obtain ⟨p, hp⟩ : ∃ x, il[k]? = some x := ⟨_, List.getElem?_eq_getElem (by have := HN.out; omega)⟩
      obtain ⟨v, hv⟩ : ∃ x, vs[k]? = some x := ⟨_, List.getElem?_eq_getElem (by have := HM.out; have := HMN.out; omega)⟩
      have l0 := hlc k _ hp 0 _ rfl
      have l1 := hlc k _ hp 1 _ rfl
      have j0 := hjc k _ hv 0 _ rfl
      have j1 := hjc k _ hv 1 _ rfl
      rw [Nat.add_zero] at l0 j0
      have hf := HF.out k p v hp hv
      obtain ⟨pn, pt⟩ := p
      obtain ⟨vk, vn⟩ := v
      obtain ⟨f1, f2, f3⟩ := hf
      have HPO := Lib.hid f1
      clear f1 hp hv hlc hjc
      have km : decide (k < M) = true := decide_eq_true (by have := HMN.out; omega)
      have kn : decide (k < N) = true := decide_eq_true hlt
      have m0 : M ≤ 9223372036854775807 := by have := HMN.out; omega
      have kmi : (k : Int) < (M : Int) := by have := HMN.out; omega
      obtain ⟨W4, t, hW4, ht, RT, B4, sz4⟩ := box1 wr #[.string pn, .string pt] 65
      have HT := Lib.hid RT
      have HB4 := Lib.hid (HB.out.trans (B4.mono HB.out.size))
      have HJ0 := Lib.hid ((B4.cell (p := ⟨jb, jo + k * 2, none⟩) hjl).trans j0)
      have HJ1 := Lib.hid ((B4.cell (p := ⟨jb, jo + k * 2 + 1, none⟩) hjl).trans j1)
      have HJL := Lib.hid (Nat.lt_of_lt_of_le hjl B4.size)
      clear RT B4 sz4 hll
      go_upto_region 5 with fail
      rw [← hW4]
      try rw [← ht]
      clear hW4 ht j0 j1 l0 l1 hjl
      have t0 := HT.out.c 0 _ rfl
      have t1 := HT.out.c 1 _ rfl
      have j0 := HJ0.out
      have j1 := HJ1.out
      by_cases hT : pt = ⟨#[84]⟩
      · subst hT
        obtain rfl : vk = κ := f2 rfl
        clear f2 f3
        go_wp2_with fail
        refine (bkind_any _ _).mono ?_
        rintro e w' ⟨rfl, rfl⟩
        obtain ⟨W5, q, hW5, hq, RQ, B5, sz5⟩ := box1 W4 #[.int .i64 cm, .int .i64 vk] 3
        have HQ := Lib.hid RQ
        have HBX := Lib.hid (HB4.out.trans (B5.mono HB4.out.size))
        have HJ0 := Lib.hid ((B5.cell (p := ⟨jb, jo + k * 2, none⟩) HJL.out).trans j0)
        have HJ1 := Lib.hid ((B5.cell (p := ⟨jb, jo + k * 2 + 1, none⟩) HJL.out).trans j1)
        clear RQ B5 sz5
        go_wp2_with fail
        rw [← hW5]
        try rw [← hq]
        clear hW5 hq t0 t1 j0 j1
        refine (or_kap cm vk q 0 2 _ HK.out HCM.out (HQ.out.c 0 _ rfl) (HQ.out.c 1 _ rfl)).mono ?_
        rintro e w' ⟨rfl, rfl⟩
        have j0 := HJ0.out
        have j1 := HJ1.out
        have e1 : (vk != vk) = false := by simp
        go_wp2_with fail
        refine (poss_yes _ _ HPO.out _).mono ?_
        rintro e w8 ⟨rfl, hb⟩
        have HB8 := Lib.hid (HBX.out.trans (hb.mono HBX.out.size))
        clear hb
        go_wp2_with fail
        go_roundw
        case rel => exact ⟨k + 1, _, by omega, .inr rfl, by go_num, rfl, Lib.hid HB8.out⟩
        case measure => (simp [intOf]) <;> omega
      · obtain rfl : vk = kindI pt := f3 hT
        have e0 := (bytes_no (l := [84]) hT).1
        have HKI := Lib.hid (fun w => bkind_any pt w)
        obtain ⟨K, hK⟩ : ∃ K, K = kindI pt := ⟨_, rfl⟩
        have HBX := HB4
        rw [← hK] at HKI HPO j0 j1
        clear f2 f3 hT hK HJ0 HJ1
        have e1 : (K != K) = false := by simp
        go_wp2_with fail
        refine (HKI.out _).mono ?_
        rintro e w' ⟨rfl, rfl⟩
        go_wp2_with fail
        refine (poss_yes _ _ HPO.out _).mono ?_
        rintro e w8 ⟨rfl, hb⟩
        have HB8 := Lib.hid (HBX.out.trans (hb.mono HBX.out.size))
        clear hb
        go_wp2_with fail
        go_roundw
        case rel => exact ⟨k + 1, _, by omega, HCM.out, by go_num, rfl, Lib.hid HB8.out⟩
        case measure => (simp [intOf]) <;> omega
    · obtain rfl : k = N := by omega
      go_wp2_with fail
      go_ret
      exact ⟨rfl, HB.out⟩
end Go.Proofs.YtaobbedajgkmiaaDoor
