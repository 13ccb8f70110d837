/- The contract of strings.Cut at a sign of one byte: no bound, no variable. -/
import Derived.Test.YtlahoohgbfjciaaGreatDoorUn
import Derived.Lib.CutLaws
import Derived.Lib.SplitLaws
namespace Go.Proofs.YtlahoohgbfjciaaGreatDoor
open Go.RowKit Go.Shelf

set_option maxHeartbeats 2000000 in
set_option maxRecDepth 100000 in
theorem slcut_one (s : ByteArray) (d : UInt8) (w : World) (hs : s.size ≤ 1000) :
    Calls Tryz.prog 57 #[.string s, .string ⟨#[d]⟩] w fun e w' => e = .returned (.tuple #[.string ⟨(Lib.cut s.data.toList [d]).1.toArray⟩, .string ⟨(Lib.cut s.data.toList [d]).2.1.toArray⟩, .bool (Lib.cut s.data.toList [d]).2.2]) ∧ Below w.heap.size w w' := by
  have hI := Tryz.stringslite_Index_one s d w
  rw [← Lib.index_one] at hI
  have hI : Calls Tryz.prog 70 #[.string s, .string ⟨#[d]⟩] w fun e w' => e = .returned (.int .i64 (Lib.indexB s ⟨#[d]⟩)) ∧ w' = w := hI
  have hsz : (⟨#[d]⟩ : ByteArray).size = 1 := rfl
  rcases Lib.indexB_cases s ⟨#[d]⟩ with hix | ⟨i, hix, hroom⟩
  · obtain ⟨e1, e2, e3⟩ := Lib.cutB_miss s ⟨#[d]⟩ hix
    have e1 : (⟨(Lib.cut s.data.toList [d]).1.toArray⟩ : ByteArray) = _ := e1
    have e2 : (⟨(Lib.cut s.data.toList [d]).2.1.toArray⟩ : ByteArray) = _ := e2
    have e3 : (Lib.cut s.data.toList [d]).2.2 = _ := e3
    rw [e1, e2, e3]
    rw [hix] at hI
    have HI := Lib.hid hI
    clear e1 e2 e3 hI hix hsz
    go_enter Tryz.func57, Tryz.ntmps57
    go_wp2_with fail
    refine HI.out.mono ?_
    rintro e w' ⟨rfl, rfl⟩
    go_wp2_with fail
    go_ret3
    exact ⟨rfl, Below.refl _ _⟩
  · obtain ⟨e1, e2, e3⟩ := Lib.cutB_hit s ⟨#[d]⟩ i hix
    have e1 : (⟨(Lib.cut s.data.toList [d]).1.toArray⟩ : ByteArray) = _ := e1
    have e2 : (⟨(Lib.cut s.data.toList [d]).2.1.toArray⟩ : ByteArray) = _ := e2
    have e3 : (Lib.cut s.data.toList [d]).2.2 = _ := e3
    rw [e1, e2, e3]
    rw [hix] at hI
    rw [hsz] at hroom
    have HI := Lib.hid hI
    have c1 : (0 : Int) ≤ ↑i := by omega
    have c2 : (↑i : Int) ≤ ↑s.size := by omega
    have c3 : (0 : Int) ≤ ↑i + 1 := by omega
    have c4 : (↑i + 1 : Int) ≤ ↑s.size := by omega
    have c5 : IntKind.i64.wrap ((i : Int) + 1) = ↑i + 1 := IntWalk.i64_in _ ⟨by omega, by omega⟩
    have c6 : ((i : Int) + 1).toNat = i + 1 := by omega
    clear e1 e2 e3 hI hix
    go_enter Tryz.func57, Tryz.ntmps57
    go_wp2_with fail
    refine HI.out.mono ?_
    rintro e w' ⟨rfl, rfl⟩
    go_wp2_with fail
    go_region
    go_wp2_with fail
    go_ret3
    exact ⟨rfl, below_drewN _ _ 1⟩
theorem cut_one (s : ByteArray) (d : UInt8) (w : World) (hs : s.size ≤ 1000) :
    Calls Tryz.prog 46 #[.string s, .string ⟨#[d]⟩] w fun e w' => e = .returned (.tuple #[.string ⟨(Lib.cut s.data.toList [d]).1.toArray⟩, .string ⟨(Lib.cut s.data.toList [d]).2.1.toArray⟩, .bool (Lib.cut s.data.toList [d]).2.2]) ∧ Below w.heap.size w w' := by
  have hC := slcut_one s d w hs
  obtain ⟨A, hA⟩ : ∃ x, x = (⟨(Lib.cut s.data.toList [d]).1.toArray⟩ : ByteArray) := ⟨_, rfl⟩
  obtain ⟨B, hB⟩ : ∃ x, x = (⟨(Lib.cut s.data.toList [d]).2.1.toArray⟩ : ByteArray) := ⟨_, rfl⟩
  obtain ⟨b, hb⟩ : ∃ x, x = (Lib.cut s.data.toList [d]).2.2 := ⟨_, rfl⟩
  rw [← hA, ← hB, ← hb] at hC ⊢
  have HC := Lib.hid hC
  clear hC hA hB hb
  go_enter Tryz.func46, Tryz.ntmps46
  go_wp2_with fail
  refine HC.out.mono ?_
  rintro e w' ⟨rfl, hb⟩
  have B1 := Lib.hid hb
  clear hb
  go_wp2_with fail
  go_ret3
  exact ⟨rfl, B1.out⟩
end Go.Proofs.YtlahoohgbfjciaaGreatDoor
