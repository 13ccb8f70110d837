/- The contract of Put. -/
import Derived.Test.YtlmilalibgehpaaJ
namespace Go.Proofs.Ytlmilalibgehpaa
open Go.RowKit

theorem check_seq {x : WrD} (h : checkW x = 0) : 1 ≤ x.q ∧ x.q ≤ 1000000000 := by
  unfold checkW at h
  split at h
  · cases h
  · split at h
    · cases h
    · split at h
      · cases h
      · omega
theorem slots_seq (xs : List WrD) : ∀ S : Nat → WrD, (∀ p, 0 ≤ (S p).q ∧ (S p).q ≤ 1000000000) → ∀ p, 0 ≤ (slotsF S xs p).q ∧ (slotsF S xs p).q ≤ 1000000000 := by
  induction xs with
  | nil => intro S h p; exact h p
  | cons x r ih =>
    intro S h p
    refine ih (addS S x) (fun p => ?_) p
    unfold addS
    split
    · rename_i hc
      unfold setS
      split
      · have := check_seq hc.1; omega
      · exact h p
    · exact h p
theorem best_seq (xs : List WrD) (p : Nat) : 0 ≤ (bestS xs p).q ∧ (bestS xs p).q ≤ 1000000000 := slots_seq xs (fun _ => zW) (fun _ => ⟨by decide, by decide⟩) p
def putX (S : Nat → WrD) (l k n : Int) : WrD := ⟨l, (S (l - 1).toNat).q + 1, k, n⟩
def putE (S : Nat → WrD) (l k n : Int) : Int := if lvB l = false then 1 else if valB k n = false then 11 else if (S (l - 1).toNat).q = 1000000000 then 7 else 0
def putL (S : Nat → WrD) (l k n : Int) : List WrD := if putE S l k n = 0 then writesL (setS S (l - 1).toNat (putX S l k n)) else []
theorem put_bad {S : Nat → WrD} {l k n : Int} {E : Int} (h : putE S l k n = E) (hE : E ≠ 0) : putL S l k n = [] := if_neg (by rw [h]; exact hE)

set_option maxHeartbeats 4000000 in
set_option maxRecDepth 100000 in
theorem put_any (a : Option Addr) (cap : Nat) (xs : List WrD) (l k n : Int) (w : World) (hmax : xs.length ≤ 200) (hin : InS w a xs.length 4 (flat wrL xs)) : Calls Try.prog 27 #[.slice a xs.length cap, .int .i64 l, .agg #[.int .i64 k, .int .i64 n]] w fun e w' => ∃ v, e = .returned (.tuple #[v, .int .i64 (putE (bestS xs) l k n)]) ∧ w'.ownsRow w.heap.size 25 4 v (putL (bestS xs) l k n).length (flat wrL (putL (bestS xs) l k n)) ∧ Below w.heap.size w w' := by
  have HS := Lib.hid (fun w1 hb => slotsOf_any a cap xs w1 hmax (hin.keep hb))
  obtain ⟨N, hN⟩ : ∃ N, N = xs.length := ⟨_, rfl⟩
  rw [← hN] at HS ⊢
  obtain ⟨Y, hY⟩ : ∃ Z, Z = lvB l := ⟨_, rfl⟩
  obtain ⟨Z, hZ⟩ : ∃ Z, Z = valB k n := ⟨_, rfl⟩
  have hl := fun w => level_any l w
  have hv := fun w => value_any k n w
  rw [← hY] at hl
  rw [← hZ] at hv
  have HLV := Lib.hid hl
  have HVA := Lib.hid hv
  have HY := Lib.hid hY
  have HZ := Lib.hid hZ
  obtain ⟨W, h, hW, hh, RO, B, sz⟩ := box1 w #[.int .i64 k, .int .i64 n] 23
  have HO0 := Lib.hid RO
  have HB0 := Lib.hid B
  clear hmax hin hN hY hZ hl hv RO B sz
  go_enter Try.func27, Try.ntmps27
  go_wp2_with fail
  rw [← hW]
  try rw [← hh]
  clear hW hh
  refine (HLV.out _).mono ?_
  rintro e w1 ⟨rfl, hb⟩
  have HO1 := Lib.hid (HO0.out.keep hb)
  have HB1 := Lib.hid (HB0.out.trans (hb.mono HB0.out.size))
  clear hb HO0 HB0 HLV
  have o0 := HO1.out.c 0 _ rfl
  have o1 := HO1.out.c 1 _ rfl
  cases Y
  · have hE : putE (bestS xs) l k n = 1 := if_pos HY.out.symm
    have HE := Lib.hid hE
    have HL := Lib.hid (put_bad hE (by decide))
    clear hE
    go_wp2_with fail
    go_ret2
    exact ⟨.slice none 0 0, congrArg (fun x => Ending.returned (.tuple #[.slice none 0 0, .int .i64 x])) HE.out.symm, by rw [HL.out]; exact World.ownsRow_nil _ _ _ _, HB1.out⟩
  · go_wp2_with fail
    refine (HVA.out _).mono ?_
    rintro e w2 ⟨rfl, hb⟩
    clear o0 o1
    have HO2 := Lib.hid (HO1.out.keep hb)
    have HB2 := Lib.hid (HB1.out.trans (hb.mono HB1.out.size))
    clear hb HO1 HB1 HVA
    have HYN := Lib.hid (show ¬ lvB l = false by rw [← HY.out]; simp)
    cases Z
    · have hE : putE (bestS xs) l k n = 11 := (if_neg HYN.out).trans (if_pos HZ.out.symm)
      have HE := Lib.hid hE
      have HL := Lib.hid (put_bad hE (by decide))
      clear hE
      go_wp2_with fail
      go_ret2
      exact ⟨.slice none 0 0, congrArg (fun x => Ending.returned (.tuple #[.slice none 0 0, .int .i64 x])) HE.out.symm, by rw [HL.out]; exact World.ownsRow_nil _ _ _ _, HB2.out⟩
    · have HZN := Lib.hid (show ¬ valB k n = false by rw [← HZ.out]; simp)
      go_wp2_with fail
      refine (HS.out _ HB2.out).mono ?_
      rintro e w3 ⟨rfl, hb⟩
      have HO3 := Lib.hid (HO2.out.keep hb)
      have HB3 := Lib.hid (HB2.out.trans (hb.mono HB2.out.size))
      clear hb HO2 HB2 HS
      rw [best_slots]
      have hl2 : 1 ≤ l ∧ l ≤ 16 := by
        have h := HY.out.symm
        unfold lvB at h
        simpa using h
      obtain ⟨p, hp⟩ : ∃ p : Nat, (l - 1).toNat = p := ⟨_, rfl⟩
      have hp16 : p < 16 := by omega
      have hpl : (p : Int) = l - 1 := by omega
      obtain ⟨S, hS⟩ : ∃ S, S = bestS xs := ⟨_, rfl⟩
      have hq := best_seq xs p
      rw [← hS] at hq ⊢
      obtain ⟨⟨yl, yq, yk, yn⟩, hy⟩ : ∃ y, S p = y := ⟨_, rfl⟩
      rw [hy] at hq
      have hq1 : 0 ≤ yq := hq.1
      have hq2 : yq ≤ 1000000000 := hq.2
      obtain ⟨n1, n2, n3⟩ := new_slots w3 S
      have HT := Lib.hid n1
      have HR := Lib.hid n2
      have HO4 := Lib.hid (HO3.out.keep n3)
      have HB4 := Lib.hid (HB3.out.trans (n3.mono HB3.out.size))
      have HSS := Lib.hid hS
      have HPP := Lib.hid hp
      have HYY := Lib.hid hy
      have HNUM := Lib.hid (And.intro hl2 (And.intro hpl (And.intro hp16 (And.intro hq1 hq2))))
      clear n1 n2 n3 hS hp hy hl2 hpl hp16 hq hq1 hq2
      go_upto_region 6 with ((with_reducible refine wpList_store_mid rfl 55 _ _ rfl w3.heap.size 0 (slotC S).toArray rfl rfl HT.out (info_slotsA S) (slotC_oneA S) ?_))
      obtain ⟨W4, hW4⟩ : ∃ x, x = (w3.alloc (Obj.cells #[.int .i64 0, .int .i64 0, .int .i64 0, .int .i64 0, .int .i64 0, .int .i64 0, .int .i64 0, .int .i64 0, .int .i64 0, .int .i64 0, .int .i64 0, .int .i64 0, .int .i64 0, .int .i64 0, .int .i64 0, .int .i64 0, .int .i64 0, .int .i64 0, .int .i64 0, .int .i64 0, .int .i64 0, .int .i64 0, .int .i64 0, .int .i64 0, .int .i64 0, .int .i64 0, .int .i64 0, .int .i64 0, .int .i64 0, .int .i64 0, .int .i64 0, .int .i64 0, .int .i64 0, .int .i64 0, .int .i64 0, .int .i64 0, .int .i64 0, .int .i64 0, .int .i64 0, .int .i64 0, .int .i64 0, .int .i64 0, .int .i64 0, .int .i64 0, .int .i64 0, .int .i64 0, .int .i64 0, .int .i64 0, .int .i64 0, .int .i64 0, .int .i64 0, .int .i64 0, .int .i64 0, .int .i64 0, .int .i64 0, .int .i64 0, .int .i64 0, .int .i64 0, .int .i64 0, .int .i64 0, .int .i64 0, .int .i64 0, .int .i64 0, .int .i64 0] 55)).setCells w3.heap.size 0 (slotC S).toArray.toList := ⟨_, rfl⟩
      obtain ⟨b, hb⟩ : ∃ x, x = w3.heap.size := ⟨_, rfl⟩
      have HWB := Lib.hid (show w.heap.size ≤ b by rw [hb]; exact HB3.out.size)
      have hne : b ≠ h := by rw [hb]; exact Nat.ne_of_gt HO3.out.lt
      rw [← hW4] at HR HO4 HB4 ⊢
      rw [← hb] at HR ⊢
      clear hW4 hb HT
      obtain ⟨hl2, hpl, hp16, hq1, hq2⟩ := HNUM.out
      have hat := fun i v hv => HR.out.c (p * 4 + i) v ((slotC_at S p i hp16 (by
        have := (List.getElem?_eq_some_iff.1 hv).1; exact this)).trans hv)
      rw [HYY.out] at hat
      have z0 := hat 0 _ rfl
      have z1 := hat 1 _ rfl
      have z2 := hat 2 _ rfl
      have z3 := hat 3 _ rfl
      rw [Nat.add_zero] at z0
      have zz := HR.out.fz
      have o0 := HO4.out.c 0 _ rfl
      have o1 := HO4.out.c 1 _ rfl
      have k1 : (0 : Int) ≤ (p : Int) := by omega
      have k2 : (p : Int) < 16 := by omega
      have w1' : IntKind.i64.wrap (l - 1) = (p : Int) := by rw [IntWalk.i64_in _ ⟨by omega, by omega⟩]; omega
      have w2' : IntKind.i64.wrap (yq + 1) = yq + 1 := IntWalk.i64_in _ ⟨by omega, by omega⟩
      have HP16 := Lib.hid hp16
      clear hat hl2 hpl hp16 HO3 hq1 hq2
      by_cases h7 : yq = 1000000000
      · clear w2'
        subst h7
        have HE := Lib.hid (show putE (bestS xs) l k n = 7 from (if_neg HYN.out).trans ((if_neg HZN.out).trans (if_pos (by rw [HPP.out, ← HSS.out, HYY.out]))))
        have HL := Lib.hid (put_bad HE.out (by decide))
        go_wp2_with fail
        go_ret2
        exact ⟨.slice none 0 0, congrArg (fun x => Ending.returned (.tuple #[.slice none 0 0, .int .i64 x])) HE.out.symm, by rw [HL.out]; exact World.ownsRow_nil _ _ _ _, HB4.out⟩
      · have HE := Lib.hid (show putE (bestS xs) l k n = 0 from (if_neg HYN.out).trans ((if_neg HZN.out).trans (if_neg (by rw [HPP.out, ← HSS.out, HYY.out]; exact h7))))
        have HL := Lib.hid (show putL (bestS xs) l k n = writesL (setS S p ⟨l, yq + 1, k, n⟩) from (if_pos HE.out).trans (by unfold putX; rw [HPP.out, ← HSS.out, HYY.out]))
        have t7 : (yq == 1000000000) = false := by rw [beq_eq_false_iff_ne]; exact h7
        obtain ⟨Q, hQ⟩ : ∃ Q, Q = yq + 1 := ⟨_, rfl⟩
        rw [← hQ] at w2' HL
        have w3' : yq + 1 = Q := hQ.symm
        clear h7 hQ
        have HN := Lib.hid (slot_set HR.out p HP16.out ⟨l, Q, k, n⟩)
        have HBN := Lib.hid (HB4.out.trans (Lib.below_setCells_w HWB.out (wrL ⟨l, Q, k, n⟩) (p * 4) _))
        obtain ⟨T, hT⟩ : ∃ T, T = setS S p ⟨l, Q, k, n⟩ := ⟨_, rfl⟩
        rw [← hT] at HN HL
        clear hT
        go_upto_region 10 with fail
        obtain ⟨W5, hW5⟩ : ∃ x, x = ((((W4.setCell ⟨b, p * 4, none⟩ (.int .i64 l)).setCell ⟨b, p * 4 + 1, none⟩ (.int .i64 Q)).setCell ⟨b, p * 4 + 2, none⟩ (.int .i64 k)).setCell ⟨b, p * 4 + 3, none⟩ (.int .i64 n)) := ⟨_, rfl⟩
        have HRG := Lib.hid (show W5.rangeAt b 0 (slotC T) by rw [hW5]; exact row_range HN.out)
        have HB5 := Lib.hid (show Below w.heap.size w W5 by rw [hW5]; exact HBN.out)
        rw [← hW5]
        clear hW5 HN HBN z0 z1 z2 z3 zz o0 o1
        go_wp2_with ((with_reducible refine wpList_load_mid rfl 55 _ rfl b 0 rfl (slotC T) _ HRG.out Try.underlying55 rfl (info_slots T) ?_))
        refine (writes_any T W5).mono ?_
        rintro e w6 ⟨v, rfl, ho, hb⟩
        have HO := Lib.hid (own_base ho HB5.out.size)
        have HB6 := Lib.hid (HB5.out.trans (hb.mono HB5.out.size))
        clear ho hb
        go_wp2_with fail
        go_ret2
        exact ⟨_, congrArg (fun x => Ending.returned (.tuple #[_, .int .i64 x])) HE.out.symm, by rw [HL.out]; exact HO.out, HB6.out⟩
end Go.Proofs.Ytlmilalibgehpaa
