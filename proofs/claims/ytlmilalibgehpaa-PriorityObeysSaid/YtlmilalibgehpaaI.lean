/- Contracts of Of, Join and Slot. -/
import Derived.Test.YtlmilalibgehpaaG
import Derived.Test.YtlmilalibgehpaaH
namespace Go.Proofs.Ytlmilalibgehpaa
open Go.RowKit

def bestS (xs : List WrD) : Nat → WrD := slotsF (fun _ => zW) xs
theorem best_append (xs ys : List WrD) : slotsF (bestS xs) ys = bestS (xs ++ ys) := by unfold bestS slotsF; rw [List.foldl_append]
theorem best_slots (xs : List WrD) : slotsF (fun _ => zW) xs = bestS xs := rfl
/-- a block newly made of the slots' type, stored whole -/
theorem new_slots (w : World) (S : Nat → WrD) : (w.alloc (Obj.cells #[.int .i64 0, .int .i64 0, .int .i64 0, .int .i64 0, .int .i64 0, .int .i64 0, .int .i64 0, .int .i64 0, .int .i64 0, .int .i64 0, .int .i64 0, .int .i64 0, .int .i64 0, .int .i64 0, .int .i64 0, .int .i64 0, .int .i64 0, .int .i64 0, .int .i64 0, .int .i64 0, .int .i64 0, .int .i64 0, .int .i64 0, .int .i64 0, .int .i64 0, .int .i64 0, .int .i64 0, .int .i64 0, .int .i64 0, .int .i64 0, .int .i64 0, .int .i64 0, .int .i64 0, .int .i64 0, .int .i64 0, .int .i64 0, .int .i64 0, .int .i64 0, .int .i64 0, .int .i64 0, .int .i64 0, .int .i64 0, .int .i64 0, .int .i64 0, .int .i64 0, .int .i64 0, .int .i64 0, .int .i64 0, .int .i64 0, .int .i64 0, .int .i64 0, .int .i64 0, .int .i64 0, .int .i64 0, .int .i64 0, .int .i64 0, .int .i64 0, .int .i64 0, .int .i64 0, .int .i64 0, .int .i64 0, .int .i64 0, .int .i64 0, .int .i64 0] 55)).there w.heap.size 0 (slotC S).toArray.size ∧ RowAt ((w.alloc (Obj.cells #[.int .i64 0, .int .i64 0, .int .i64 0, .int .i64 0, .int .i64 0, .int .i64 0, .int .i64 0, .int .i64 0, .int .i64 0, .int .i64 0, .int .i64 0, .int .i64 0, .int .i64 0, .int .i64 0, .int .i64 0, .int .i64 0, .int .i64 0, .int .i64 0, .int .i64 0, .int .i64 0, .int .i64 0, .int .i64 0, .int .i64 0, .int .i64 0, .int .i64 0, .int .i64 0, .int .i64 0, .int .i64 0, .int .i64 0, .int .i64 0, .int .i64 0, .int .i64 0, .int .i64 0, .int .i64 0, .int .i64 0, .int .i64 0, .int .i64 0, .int .i64 0, .int .i64 0, .int .i64 0, .int .i64 0, .int .i64 0, .int .i64 0, .int .i64 0, .int .i64 0, .int .i64 0, .int .i64 0, .int .i64 0, .int .i64 0, .int .i64 0, .int .i64 0, .int .i64 0, .int .i64 0, .int .i64 0, .int .i64 0, .int .i64 0, .int .i64 0, .int .i64 0, .int .i64 0, .int .i64 0, .int .i64 0, .int .i64 0, .int .i64 0, .int .i64 0] 55)).setCells w.heap.size 0 (slotC S).toArray.toList) w.heap.size (slotC S) ∧ Below w.heap.size w ((w.alloc (Obj.cells #[.int .i64 0, .int .i64 0, .int .i64 0, .int .i64 0, .int .i64 0, .int .i64 0, .int .i64 0, .int .i64 0, .int .i64 0, .int .i64 0, .int .i64 0, .int .i64 0, .int .i64 0, .int .i64 0, .int .i64 0, .int .i64 0, .int .i64 0, .int .i64 0, .int .i64 0, .int .i64 0, .int .i64 0, .int .i64 0, .int .i64 0, .int .i64 0, .int .i64 0, .int .i64 0, .int .i64 0, .int .i64 0, .int .i64 0, .int .i64 0, .int .i64 0, .int .i64 0, .int .i64 0, .int .i64 0, .int .i64 0, .int .i64 0, .int .i64 0, .int .i64 0, .int .i64 0, .int .i64 0, .int .i64 0, .int .i64 0, .int .i64 0, .int .i64 0, .int .i64 0, .int .i64 0, .int .i64 0, .int .i64 0, .int .i64 0, .int .i64 0, .int .i64 0, .int .i64 0, .int .i64 0, .int .i64 0, .int .i64 0, .int .i64 0, .int .i64 0, .int .i64 0, .int .i64 0, .int .i64 0, .int .i64 0, .int .i64 0, .int .i64 0, .int .i64 0] 55)).setCells w.heap.size 0 (slotC S).toArray.toList) := by
  have hfr := row_fresh w #[.int .i64 0, .int .i64 0, .int .i64 0, .int .i64 0, .int .i64 0, .int .i64 0, .int .i64 0, .int .i64 0, .int .i64 0, .int .i64 0, .int .i64 0, .int .i64 0, .int .i64 0, .int .i64 0, .int .i64 0, .int .i64 0, .int .i64 0, .int .i64 0, .int .i64 0, .int .i64 0, .int .i64 0, .int .i64 0, .int .i64 0, .int .i64 0, .int .i64 0, .int .i64 0, .int .i64 0, .int .i64 0, .int .i64 0, .int .i64 0, .int .i64 0, .int .i64 0, .int .i64 0, .int .i64 0, .int .i64 0, .int .i64 0, .int .i64 0, .int .i64 0, .int .i64 0, .int .i64 0, .int .i64 0, .int .i64 0, .int .i64 0, .int .i64 0, .int .i64 0, .int .i64 0, .int .i64 0, .int .i64 0, .int .i64 0, .int .i64 0, .int .i64 0, .int .i64 0, .int .i64 0, .int .i64 0, .int .i64 0, .int .i64 0, .int .i64 0, .int .i64 0, .int .i64 0, .int .i64 0, .int .i64 0, .int .i64 0, .int .i64 0, .int .i64 0] 55
  refine ⟨?_, ?_, set_below ((Below.refl w.heap.size w).alloc (Nat.le_refl _) _) (Nat.le_refl _) _⟩
  · rw [show (slotC S).toArray.size = 64 by rw [List.size_toArray, slotC_len]]
    exact row_there hfr
  · exact hfr.setRow (slotC S) (by rw [slotC_len]; rfl)

set_option maxRecDepth 100000 in
theorem of_any (a : Option Addr) (cap : Nat) (xs : List WrD) (w : World) (hmax : xs.length ≤ 200) (hin : InS w a xs.length 4 (flat wrL xs)) : Calls Try.prog 15 #[.slice a xs.length cap] w fun e w' => ∃ v, e = .returned v ∧ w'.ownsRow w.heap.size 25 4 v (writesL (bestS xs)).length (flat wrL (writesL (bestS xs))) ∧ Below w.heap.size w w' := by
  have HS := Lib.hid (fun w hin => slotsOf_any a cap xs w hmax hin)
  have HI := Lib.hid hin
  obtain ⟨N, hN⟩ : ∃ N, N = xs.length := ⟨_, rfl⟩
  have HN := Lib.hid hN
  rw [← hN] at HS ⊢
  rw [← hN] at HI
  clear hmax hin hN
  go_enter Try.func15, Try.ntmps15
  go_wp2_with fail
  refine (HS.out _ HI.out).mono ?_
  rintro e w1 ⟨rfl, hb⟩
  have HB := Lib.hid hb
  clear hb
  rw [best_slots]
  go_wp2_with fail
  refine (writes_any (bestS xs) w1).mono ?_
  rintro e w2 ⟨v, rfl, ho, hb⟩
  have HO := Lib.hid (own_base ho HB.out.size)
  have HB2 := Lib.hid (HB.out.trans (hb.mono HB.out.size))
  clear ho hb
  go_wp2_with fail
  go_ret
  exact ⟨_, rfl, HO.out, HB2.out⟩

set_option maxHeartbeats 4000000 in
set_option maxRecDepth 100000 in
theorem join_any (a b : Option Addr) (ca cb : Nat) (xs ys : List WrD) (w : World) (hx : xs.length ≤ 200) (hy : ys.length ≤ 200) (hin : InS w a xs.length 4 (flat wrL xs)) (hin2 : InS w b ys.length 4 (flat wrL ys)) : Calls Try.prog 17 #[.slice a xs.length ca, .slice b ys.length cb] w fun e w' => ∃ v, e = .returned v ∧ w'.ownsRow w.heap.size 25 4 v (writesL (bestS (xs ++ ys))).length (flat wrL (writesL (bestS (xs ++ ys)))) ∧ Below w.heap.size w w' := by
  have HS := Lib.hid (slotsOf_any a ca xs w hx hin)
  have HA := Lib.hid (fun r w1 hS hK hb => add_any r (bestS xs) b cb ys w w1 hy hS hin2 hK hb)
  obtain ⟨N, hN⟩ : ∃ N, N = xs.length := ⟨_, rfl⟩
  obtain ⟨K, hK⟩ : ∃ N, N = ys.length := ⟨_, rfl⟩
  rw [← hN] at HS ⊢
  rw [← hK] at HA ⊢
  clear hx hy hin hin2 hN hK
  go_enter Try.func17, Try.ntmps17
  go_wp2_with fail
  refine HS.out.mono ?_
  rintro e w1 ⟨rfl, hb⟩
  have HB := Lib.hid hb
  clear hb
  rw [best_slots]
  obtain ⟨n1, n2, n3⟩ := new_slots w1 (bestS xs)
  have HT := Lib.hid n1
  have HR := Lib.hid n2
  have HB2 := Lib.hid (HB.out.trans (n3.mono HB.out.size))
  clear n1 n2 n3
  obtain ⟨S, hS⟩ : ∃ S, S = bestS xs := ⟨_, rfl⟩
  rw [← hS] at HT HR HB2 HA ⊢
  have HSS := Lib.hid hS
  clear hS
  go_wp2_with ((with_reducible refine wpList_store_mid rfl 55 _ _ rfl w1.heap.size 0 (slotC S).toArray rfl rfl HT.out (info_slotsA S) (slotC_oneA S) ?_))
  refine (HA.out w1.heap.size _ HR.out HB2.out HB.out.size).mono ?_
  rintro e w3 ⟨rfl, hRow, hKB⟩
  have HB3 := Lib.hid (HB2.out.trans (hKB.to_below HB.out.size HB2.out.size))
  rw [HSS.out, best_append] at hRow
  have HRG := Lib.hid (row_range hRow)
  clear hRow hKB HA HT HR HB2 HSS
  obtain ⟨T, hT⟩ : ∃ S, S = bestS (xs ++ ys) := ⟨_, rfl⟩
  rw [← hT] at HRG
  have HTT := Lib.hid hT
  clear hT
  go_wp2_with ((with_reducible refine wpList_load_mid rfl 55 _ rfl w1.heap.size 0 rfl (slotC T) _ HRG.out Try.underlying55 rfl (info_slots T) ?_))
  refine (writes_any T w3).mono ?_
  rintro e w4 ⟨v, rfl, ho, hb⟩
  have HO := Lib.hid (own_base ho HB3.out.size)
  have HB4 := Lib.hid (HB3.out.trans (hb.mono HB3.out.size))
  clear ho hb
  go_wp2_with fail
  go_ret
  exact ⟨_, rfl, by rw [← HTT.out]; exact HO.out, HB4.out⟩

theorem fld_two (l q k n : Int) (w : World) : (Instr.field 25 (.agg #[.int .i64 l, .int .i64 q, .int .i64 k, .int .i64 n]) 2).run Try.prog w = .ok (.agg #[.int .i64 k, .int .i64 n]) w := by kernel_rfl
def slotV (S : Nat → WrD) (l : Int) : Value := if lvB l = true then .tuple #[.agg #[.int .i64 (S (l - 1).toNat).k, .int .i64 (S (l - 1).toNat).n], .int .i64 0] else .tuple #[.agg #[.int .i64 0, .int .i64 0], .int .i64 1]
set_option maxHeartbeats 4000000 in
set_option maxRecDepth 100000 in
theorem slot_any (a : Option Addr) (cap : Nat) (xs : List WrD) (l : Int) (w : World) (hmax : xs.length ≤ 200) (hin : InS w a xs.length 4 (flat wrL xs)) : Calls Try.prog 23 #[.slice a xs.length cap, .int .i64 l] w fun e w' => e = .returned (slotV (bestS xs) l) ∧ Below w.heap.size w w' := by
  have HS := Lib.hid (fun w1 hb => slotsOf_any a cap xs w1 hmax (hin.keep hb))
  obtain ⟨N, hN⟩ : ∃ N, N = xs.length := ⟨_, rfl⟩
  rw [← hN] at HS ⊢
  obtain ⟨Z, hZ⟩ : ∃ Z, Z = lvB l := ⟨_, rfl⟩
  have hl := fun w => level_any l w
  rw [← hZ] at hl
  have HL := Lib.hid hl
  have HZ := Lib.hid hZ
  obtain ⟨W, r, hW, hr, RR, B, sz⟩ := box1 w #[.int .i64 0, .int .i64 0] 23
  have HR0 := Lib.hid RR
  have HB0 := Lib.hid B
  have HWR := Lib.hid (show w.heap.size ≤ r by omega)
  clear hmax hin hN hl hZ RR B sz
  go_enter Try.func23, Try.ntmps23
  go_wp2_with fail
  rw [← hW]
  try rw [← hr]
  clear hW hr
  refine (HL.out _).mono ?_
  rintro e w1 ⟨rfl, hb⟩
  have HR1 := Lib.hid (HR0.out.keep hb)
  have HB1 := Lib.hid (HB0.out.trans (hb.mono HB0.out.size))
  clear hb HR0 HB0
  cases Z
  · have HV := Lib.hid (show slotV (bestS xs) l = .tuple #[.agg #[.int .i64 0, .int .i64 0], .int .i64 1] from if_neg (by rw [← HZ.out]; simp))
    have s0 := HR1.out.c 0 _ rfl
    have s1 := HR1.out.c 1 _ rfl
    have sz := HR1.out.fz
    go_wp2_with fail
    have hs := (HR1.out).setRow [.int .i64 0, .int .i64 0] rfl
    have y0 : ((w1.setCell ⟨r, 0, none⟩ (.int .i64 0)).setCell ⟨r, 1, none⟩ (.int .i64 0)).cell? ⟨r, 0, none⟩ = some (.int .i64 0) := hs.c 0 _ rfl
    have y1 : ((w1.setCell ⟨r, 0, none⟩ (.int .i64 0)).setCell ⟨r, 1, none⟩ (.int .i64 0)).cell? ⟨r, 1, none⟩ = some (.int .i64 0) := hs.c 1 _ rfl
    (try simp only [Exit.inBlock, Exit.then])
    refine bodyPost_ret (by simp [results, Try.results23, go_sem, y0, y1]; try rfl) rfl ?_
    exact ⟨congrArg Ending.returned HV.out.symm, set_below HB1.out HWR.out [.int .i64 0, .int .i64 0]⟩
  · obtain ⟨p, hp⟩ : ∃ p : Nat, (l - 1).toNat = p := ⟨_, rfl⟩
    have hl2 : 1 ≤ l ∧ l ≤ 16 := by
      have h := HZ.out.symm
      unfold lvB at h
      simpa using h
    have hp16 : p < 16 := by omega
    have hpl : (p : Int) = l - 1 := by omega
    obtain ⟨⟨yl, yq, yk, yn⟩, hy⟩ : ∃ y, bestS xs p = y := ⟨_, rfl⟩
    have HV := Lib.hid (show slotV (bestS xs) l = .tuple #[.agg #[.int .i64 yk, .int .i64 yn], .int .i64 0] from (if_pos HZ.out.symm).trans (by rw [hp, hy]))
    have hex := slot_extract (bestS xs) p hp16
    rw [hy] at hex
    have hidx := idx_run (slotC (bestS xs)).toArray #[.int .i64 yl, .int .i64 yq, .int .i64 yk, .int .i64 yn] p hp16 hex
    obtain ⟨C, hC⟩ : ∃ C, C = (slotC (bestS xs)).toArray := ⟨_, rfl⟩
    have HSC := Lib.hid (show ∀ w1, Below w.heap.size w w1 → Calls Try.prog 33 #[.slice a N cap] w1 fun e w' => e = .returned (.agg C) ∧ Below w1.heap.size w1 w' by rw [hC]; exact HS.out)
    rw [← hC] at hidx
    have w1' : IntKind.i64.wrap (l - 1) = (p : Int) := by rw [IntWalk.i64_in _ ⟨by omega, by omega⟩]; omega
    have hfld := fld_two yl yq yk yn
    clear hp hl2 hpl hy hex hC HS HL HZ
    go_wp2_with fail
    refine (HSC.out _ HB1.out).mono ?_
    rintro e w2 ⟨rfl, hb⟩
    have HR2 := Lib.hid (HR1.out.keep hb)
    have HB2 := Lib.hid (HB1.out.trans (hb.mono HB1.out.size))
    clear hb HR1 HB1 HSC
    have s0 := HR2.out.c 0 _ rfl
    have s1 := HR2.out.c 1 _ rfl
    have sz := HR2.out.fz
    go_wp2_with fail
    have hs := (HR2.out).setRow [.int .i64 yk, .int .i64 yn] rfl
    have y0 : ((w2.setCell ⟨r, 0, none⟩ (.int .i64 yk)).setCell ⟨r, 1, none⟩ (.int .i64 yn)).cell? ⟨r, 0, none⟩ = some (.int .i64 yk) := hs.c 0 _ rfl
    have y1 : ((w2.setCell ⟨r, 0, none⟩ (.int .i64 yk)).setCell ⟨r, 1, none⟩ (.int .i64 yn)).cell? ⟨r, 1, none⟩ = some (.int .i64 yn) := hs.c 1 _ rfl
    (try simp only [Exit.inBlock, Exit.then])
    refine bodyPost_ret (by simp [results, Try.results23, go_sem, y0, y1]; try rfl) rfl ?_
    exact ⟨congrArg Ending.returned HV.out.symm, set_below HB2.out HWR.out [.int .i64 yk, .int .i64 yn]⟩
end Go.Proofs.Ytlmilalibgehpaa
