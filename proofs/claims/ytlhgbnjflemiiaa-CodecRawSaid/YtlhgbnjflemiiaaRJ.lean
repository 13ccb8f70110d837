/- Contracts of the specification's reader of signed numbers and of its Kind. -/
import Derived.Test.YtlhgbnjflemiiaaRI
namespace Go.Proofs.Ytlhgbnjflemiiaa
open Go.RowKit

theorem readS_any (s : ByteArray) (at_ : Nat) (w : World) (hs : s.size ≤ 9223372036854775807) (ha : at_ ≤ 9223372036854775807) :
    Calls Try.prog 54 #[.string s, .int .i64 at_] w fun e w' => e = .returned (if (tkS (restL s at_)).2 = 0 then .tuple #[.int .i64 0, .int .i64 0, .bool false] else .tuple #[.int .i64 (tkS (restL s at_)).1, .int .i64 ((at_ + (tkS (restL s at_)).2 : Nat) : Int), .bool true]) ∧ Below w.heap.size w w' := by
  by_cases h0 : (tkN (restL s at_) 4 32).2 = 0
  · have e : tkS (restL s at_) = (0, 0) := by unfold tkS; rw [if_pos (.inl h0)]
    rw [e, if_pos rfl]
    refine (readS_none s at_ w hs ha h0).mono ?_
    rintro e w' ⟨rfl, rfl⟩
    exact ⟨rfl, Below.refl _ _⟩
  · have hb := tkN_lt (restL s at_) 4 32 (.inr ⟨rfl, rfl⟩)
    obtain ⟨hlt, HN⟩ := number_ref_yes s at_ 4 32 _ w (.inr ⟨rfl, rfl⟩) hs rfl h0
    have hv : (tkN (restL s at_) 4 32).1 = bep (restL s at_) (tkN (restL s at_) 4 32).2 := by
      unfold tkN at h0 ⊢
      split
      · rfl
      · rename_i h; rw [if_neg h] at h0; exact absurd rfl h0
    have hU : tkS (restL s at_) = if (tkN (restL s at_) 4 32).2 = 0 ∨ (tkN (restL s at_) 4 32).2 ≠ ssz (sx (tkN (restL s at_) 4 32).2 (tkN (restL s at_) 4 32).1) then (0, 0) else (sx (tkN (restL s at_) 4 32).2 (tkN (restL s at_) 4 32).1, 1 + (tkN (restL s at_) 4 32).2) := rfl
    rw [hU, hv, bep_ext]
    generalize (tkN (restL s at_) 4 32).2 = n at *
    have hsz : (s.extract (at_ + 1) (at_ + 1 + n)).size = n := ext_size s (at_ + 1) n (by omega)
    refine (readS_some s at_ _ n w hs (by omega) hsz (by omega) hb.1 (Lib.hid HN)).mono ?_
    rintro e w' ⟨rfl, hbl⟩
    refine ⟨?_, hbl⟩
    by_cases hz : n = ssz (sx n (be (s.extract (at_ + 1) (at_ + 1 + n)).data.toList))
    · rw [if_pos hz, if_neg (show ¬ (n = 0 ∨ n ≠ _) by omega), if_neg (by simp)]
    · rw [if_neg hz, if_pos (show (n = 0 ∨ n ≠ _) by omega), if_pos rfl]

set_option maxHeartbeats 1000000 in
theorem kindR_some (s : ByteArray) (at_ : Nat) (w : World) (h : at_ < s.size) (_hb0 : s.size ≤ 9223372036854775807) :
    Calls Try.prog 19 #[.string s, .int .i64 at_] w fun e w' => e = .returned (.int .i64 (kindC s[at_].toNat)) ∧ w = w' := by
  have hb : s[at_].toNat < 256 := s[at_].toNat_lt
  have hd0 : decide ((at_ : Int) < 0) = false := by simp
  have hd : decide ((s.size : Int) ≤ (at_ : Int)) = false := by simp; omega
  go_enter Try.func19, Try.ntmps19
  go_wp2
  all_goals
    go_ret
    refine ⟨ret_int ?_, rfl⟩
    simp only [beq_iff_eq, beq_eq_false_iff_ne, ne_eq, decide_eq_false_iff_not] at *
    unfold kindC
    generalize s[at_].toNat = c at *
    repeat (first | (rw [if_pos (by omega)]; done) | rw [if_neg (by omega)])
set_option maxHeartbeats 1000000 in
theorem kindR_none (s : ByteArray) (at_ : Nat) (w : World) (h : s.size ≤ at_) :
    Calls Try.prog 19 #[.string s, .int .i64 at_] w fun e w' => e = .returned (.int .i64 0) ∧ w = w' := by
  have hd0 : decide ((at_ : Int) < 0) = false := by simp
  have hd : decide ((s.size : Int) ≤ (at_ : Int)) = true := by simp; omega
  go_enter Try.func19, Try.ntmps19
  go_wp2
  go_ret
  exact ⟨rfl, rfl⟩
theorem kindR_any (s : ByteArray) (at_ : Nat) (w : World) (hs : s.size ≤ 9223372036854775807) :
    Calls Try.prog 19 #[.string s, .int .i64 at_] w fun e w' => e = .returned (.int .i64 (kindL (restL s at_))) ∧ w = w' := by
  by_cases h : at_ < s.size
  · rw [kindL_rest s at_ h]; exact kindR_some s at_ w h hs
  · rw [restL_nil s at_ (by omega)]; exact kindR_none s at_ w (by omega)
end Go.Proofs.Ytlhgbnjflemiiaa
