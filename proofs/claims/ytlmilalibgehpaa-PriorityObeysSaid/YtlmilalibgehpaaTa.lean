/- awake's two writes evaluated; a slice newly built; the contracts at these lists. -/
import Derived.Test.YtlmilalibgehpaaR
import Derived.Test.YtlmilalibgehpaaK
namespace Go.Proofs.Ytlmilalibgehpaa
open Go.RowKit

def l0 : List WrD := [⟨16, 1, 1, 19000⟩, ⟨8, 1, 1, 21000⟩]
def p0 : List WrD := [⟨8, 2, 0, 0⟩, ⟨16, 1, 1, 19000⟩]
theorem aw1 : undV (bestS l0) 0 1 20000 = .tuple #[.int .i64 8, .agg #[.int .i64 1, .int .i64 21000]] := by kernel_rfl
theorem aw2 : undW (bestS l0) 8 1 20000 = .tuple #[.int .i64 16, .agg #[.int .i64 1, .int .i64 19000], .int .i64 0] := by kernel_rfl
theorem aw3 : putE (bestS l0) 8 0 0 = 0 := by kernel_rfl
theorem aw4 : putL (bestS l0) 8 0 0 = p0 := by kernel_rfl
theorem aw5 : slotV (bestS p0) 16 = .tuple #[.agg #[.int .i64 1, .int .i64 19000], .int .i64 0] := by kernel_rfl
theorem aw6 : writesL (bestS (p0 ++ l0)) = p0 := by kernel_rfl
theorem aw7 : undV (bestS p0) 0 1 20000 = .tuple #[.int .i64 16, .agg #[.int .i64 1, .int .i64 19000]] := by kernel_rfl
theorem aw8 : checkW ⟨16, 1, 1, 19000⟩ = 0 := by kernel_rfl
theorem aw9 : checkW ⟨0, 0, 0, 0⟩ = 1 := by kernel_rfl
theorem aw10 : (writesL (bestS l0)).length = 2 := by kernel_rfl
theorem aw11 : (writesL (keepF (bestS l0) [16])).length = 1 := by kernel_rfl
/-- a block newly made, as a slice -/
theorem ins_freshN (w : World) (A : Array Value) (T n sz : Nat) (h : A.size = n * sz) (hn : n ≤ 1000) : InS (w.alloc (Obj.cells A T)) (some ⟨w.heap.size, 0, none⟩) n sz A.toList :=
  ⟨by rw [Array.length_toList, h], by omega, .inr ⟨_, _, rfl, by rw [World.size_alloc]; omega, fun j v hv => by rw [Nat.zero_add, World.cell?_alloc_new]; simpa using hv⟩⟩
abbrev L0c : Array Value := #[.int .i64 16, .int .i64 1, .int .i64 1, .int .i64 19000, .int .i64 8, .int .i64 1, .int .i64 1, .int .i64 21000]
theorem l0_ins (w : World) (T : Nat) : InS (w.alloc (Obj.cells L0c T)) (some ⟨w.heap.size, 0, none⟩) 2 4 (flat wrL l0) := ins_freshN w L0c T 2 4 rfl (by omega)
theorem aw_active (a : Option Addr) (cap : Nat) (w : World) (hin : InS w a 2 4 (flat wrL l0)) : Calls Try.prog 21 #[.slice a 2 cap, .agg #[.int .i64 1, .int .i64 20000]] w fun e w' => e = .returned (.tuple #[.int .i64 8, .agg #[.int .i64 1, .int .i64 21000]]) ∧ Below w.heap.size w w' := by
  have h := active_any a cap l0 1 20000 w (by decide) hin
  rw [aw1] at h
  exact h
theorem aw_under (a : Option Addr) (cap : Nat) (w : World) (hin : InS w a 2 4 (flat wrL l0)) : Calls Try.prog 25 #[.slice a 2 cap, .int .i64 8, .agg #[.int .i64 1, .int .i64 20000]] w fun e w' => e = .returned (.tuple #[.int .i64 16, .agg #[.int .i64 1, .int .i64 19000], .int .i64 0]) ∧ Below w.heap.size w w' := by
  have h := punder_any a cap l0 8 1 20000 w (by decide) hin
  rw [aw2] at h
  exact h
theorem aw_put (a : Option Addr) (cap : Nat) (w : World) (hin : InS w a 2 4 (flat wrL l0)) : Calls Try.prog 27 #[.slice a 2 cap, .int .i64 8, .agg #[.int .i64 0, .int .i64 0]] w fun e w' => ∃ b c, e = .returned (.tuple #[.slice b 2 c, .int .i64 0]) ∧ InS w' b 2 4 (flat wrL p0) ∧ Below w.heap.size w w' := by
  have h := put_any a cap l0 8 0 0 w (by decide) hin
  rw [aw3, aw4] at h
  refine h.mono ?_
  rintro e w1 ⟨v, rfl, ho, hb⟩
  obtain ⟨b, c, rfl, hi⟩ := ins_own ho
  exact ⟨b, c, rfl, hi, hb⟩
theorem aw_slot (a : Option Addr) (cap : Nat) (w : World) (hin : InS w a 2 4 (flat wrL p0)) : Calls Try.prog 23 #[.slice a 2 cap, .int .i64 16] w fun e w' => e = .returned (.tuple #[.agg #[.int .i64 1, .int .i64 19000], .int .i64 0]) ∧ Below w.heap.size w w' := by
  have h := slot_any a cap p0 16 w (by decide) hin
  rw [aw5] at h
  exact h
theorem aw_join (a b : Option Addr) (cap cb : Nat) (w : World) (hin : InS w a 2 4 (flat wrL p0)) (hin2 : InS w b 2 4 (flat wrL l0)) : Calls Try.prog 17 #[.slice a 2 cap, .slice b 2 cb] w fun e w' => ∃ b c, e = .returned (.slice b 2 c) ∧ InS w' b 2 4 (flat wrL p0) ∧ Below w.heap.size w w' := by
  have h := join_any a b cap cb p0 l0 w (by decide) (by decide) hin hin2
  rw [aw6] at h
  refine h.mono ?_
  rintro e w1 ⟨v, rfl, ho, hb⟩
  obtain ⟨b, c, rfl, hi⟩ := ins_own ho
  exact ⟨b, c, rfl, hi, hb⟩
theorem aw_active2 (a : Option Addr) (cap : Nat) (w : World) (hin : InS w a 2 4 (flat wrL p0)) : Calls Try.prog 21 #[.slice a 2 cap, .agg #[.int .i64 1, .int .i64 20000]] w fun e w' => e = .returned (.tuple #[.int .i64 16, .agg #[.int .i64 1, .int .i64 19000]]) ∧ Below w.heap.size w w' := by
  have h := active_any a cap p0 1 20000 w (by decide) hin
  rw [aw7] at h
  exact h
theorem aw_check1 (w : World) : Calls Try.prog 12 #[.agg #[.int .i64 16, .int .i64 1, .int .i64 1, .int .i64 19000]] w fun e w' => e = .returned (.int .i64 0) ∧ Below w.heap.size w w' := by
  have h := check_any 16 1 1 19000 w
  rw [aw8] at h
  exact h
theorem aw_check2 (w : World) : Calls Try.prog 12 #[.agg #[.int .i64 0, .int .i64 0, .int .i64 0, .int .i64 0]] w fun e w' => e = .returned (.int .i64 1) ∧ Below w.heap.size w w' := by
  have h := check_any 0 0 0 0 w
  rw [aw9] at h
  exact h
theorem aw_of (a : Option Addr) (cap : Nat) (w : World) (hin : InS w a 2 4 (flat wrL l0)) : Calls Try.prog 15 #[.slice a 2 cap] w fun e w' => ∃ b c, e = .returned (.slice b 2 c) ∧ Below w.heap.size w w' := by
  have h := of_any a cap l0 w (by decide) hin
  refine h.mono ?_
  rintro e w1 ⟨v, rfl, ho, hb⟩
  obtain ⟨b, c, rfl, hi⟩ := ins_own ho
  rw [aw10]
  exact ⟨b, c, rfl, hb⟩
theorem aw_keep (a b : Option Addr) (cap cb : Nat) (w : World) (hin : InS w a 2 4 (flat wrL l0)) (hin2 : InS w b 1 1 [.int .i64 16]) : Calls Try.prog 19 #[.slice a 2 cap, .slice b 1 cb] w fun e w' => ∃ b c, e = .returned (.slice b 1 c) ∧ Below w.heap.size w w' := by
  have h := keep_any a b cap cb l0 [16] w (by decide) hin hin2
  refine h.mono ?_
  rintro e w1 ⟨v, rfl, ho, hb⟩
  obtain ⟨b, c, rfl, hi⟩ := ins_own ho
  rw [aw11]
  exact ⟨b, c, rfl, hb⟩
end Go.Proofs.Ytlmilalibgehpaa
