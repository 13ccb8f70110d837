/- The contract of strings.Split at a sign of one byte. -/
import Derived.Test.YtlahoohgbfjciaaGreatDoorVc
import Derived.OwnWalk
import Derived.Lib.SplitLaws
namespace Go.Proofs.YtlahoohgbfjciaaGreatDoor
open Go.RowKit Go.Shelf

set_option maxHeartbeats 1000000 in
theorem split_one (s : ByteArray) (d : UInt8) (w : World) (hs : s.size ≤ 100) :
    Calls Tryz.prog 58 #[.string s, .string ⟨#[d]⟩] w fun e w' =>
      e = .returned (.slice (some ⟨w.heap.size, 0, none⟩) (Lib.countB s ⟨#[d]⟩ + 1) (Lib.countB s ⟨#[d]⟩ + 1)) ∧ w' = w.alloc (.cells ((Lib.splitB ⟨#[d]⟩ 0 (Lib.countB s ⟨#[d]⟩) s).map Value.string).toArray 9) := by
  have h1 : 1 ≤ (⟨#[d]⟩ : ByteArray).size := Nat.le_refl 1
  have hle := Lib.countB_le ⟨#[d]⟩ h1 s.size s (Nat.le_refl _)
  have hlen := Lib.splitB_all ⟨#[d]⟩ h1 0 _ s rfl
  have hI : ∀ (x : ByteArray) (w : World), Calls Tryz.prog 87 #[.string x, .string ⟨#[d]⟩] w fun e w' => e = .returned (.int .i64 (Lib.indexB x ⟨#[d]⟩)) ∧ w' = w := fun x w => by
    have h := Tryz.strings_Index_one x d w
    rw [← Lib.index_one] at h
    exact h
  have hC : Calls Tryz.prog 86 #[.string s, .string ⟨#[d]⟩] w fun e w' => e = .returned (.int .i64 (Lib.countB s ⟨#[d]⟩)) ∧ w' = w := by
    refine (Tryz.strings_Count_one s d w).mono fun e w' ⟨he, hw⟩ => ⟨?_, hw⟩
    rw [he]
    show _ = Ending.returned (Value.int .i64 ((Lib.count s.data.toList [d] : Nat) : Int))
    rw [Lib.count_one]
    rfl
  have c := Any.strings_genSplit_core Tryz.lays221 (by kernel_rfl) s ⟨#[d]⟩ 0 (-1) (Lib.countB s ⟨#[d]⟩ + 1) w (by omega) h1 (Nat.zero_le _) (fun x d _ => hI x _) hC (by decide) (by decide) (by rw [if_pos (by decide)]; omega)
  rw [Nat.add_sub_cancel, hlen] at c
  have e2 : Lib.cellsOf (Lib.splitB ⟨#[d]⟩ 0 (Lib.countB s ⟨#[d]⟩) s) (Lib.countB s ⟨#[d]⟩ + 1) = ((Lib.splitB ⟨#[d]⟩ 0 (Lib.countB s ⟨#[d]⟩) s).map Value.string).toArray := by rw [← hlen]; exact Lib.cellsOf_full _
  rw [e2] at c
  have c : Calls Tryz.prog 71 #[.string s, .string ⟨#[d]⟩, .int .i64 0, .int .i64 (-1)] w _ := c
  have HC := Lib.hid c
  clear c hlen hle hI hC e2 h1
  go_enter Tryz.func58, Tryz.ntmps58
  go_wp2_with fail
  refine HC.out.mono ?_
  rintro e w' ⟨rfl, rfl⟩
  go_wp2_with fail
  go_ret
  exact ⟨rfl, rfl⟩

def partsB (s : ByteArray) (c : UInt8) : List ByteArray := Lib.splitB ⟨#[c]⟩ 0 (Lib.countB s ⟨#[c]⟩) s
end Go.Proofs.YtlahoohgbfjciaaGreatDoor
